/- The program's calls on points: spread, gather, Weave, Apart; the document's Weave and Apart. -/
import Derived.Test.YtdhcilnkimmblaaMorBits
import Derived.Test.YtdhcilnkimmblaaBlk
import Derived.Test.YtdhcilnkimmblaaRows
import Derived.Below
import Derived.Lib.Hide
import Derived.Deep.QuietTactic
import Derived.BigQuiet
import Derived.Deep.Cut
import Derived.Test.YtdhcilnkimmblaaQRow
namespace Go.Proofs.Ytdhcilnkimmblaa
open Go.RowKit Go.Sort

/-- a bit at its place, behind what is there -/
theorem or_bit (m z b : Nat) (hz : z < 2 ^ m) (hb : b < 2) (hm : m < 64) : bits .or .u64 (z : Int) (IntKind.u64.wrap ((b : Int) * 2 ^ m)) = ((z + 2 ^ m * b : Nat) : Int) := by
  have hp : 2 ^ m ≤ 2 ^ 63 := Nat.pow_le_pow_right (by omega) (by omega)
  have hv : b * 2 ^ m < 18446744073709551616 := by
    have : b * 2 ^ m ≤ 1 * 2 ^ m := Nat.mul_le_mul_right _ (by omega)
    omega
  have e : IntKind.u64.wrap ((b : Int) * 2 ^ m) = ((b * 2 ^ m : Nat) : Int) := by
    rw [show (b : Int) * 2 ^ m = ((b * 2 ^ m : Nat) : Int) by rw [Int.natCast_mul, Int.natCast_pow]; rfl, IntKind.wrap_u64]; omega
  rw [e, u64_or_nat z _ (by omega) hv, Nat.or_comm, nat_join m _ _ (Nat.mul_mod_left _ _) hz, Nat.add_comm, Nat.mul_comm]
theorem u32_bit (n k : Nat) (hn : n < 4294967296) : IntKind.u64.wrap (bits .and .u32 ((n : Int) / 2 ^ k) 1) = ((n / 2 ^ k % 2 : Nat) : Int) := by
  have hle := Nat.div_le_self n (2 ^ k)
  rw [show (n : Int) / 2 ^ k = ((n / 2 ^ k : Nat) : Int) by rw [Int.natCast_ediv, Int.natCast_pow]; rfl, show (1 : Int) = ((1 : Nat) : Int) from rfl, u32_and_nat _ 1 (by omega) (by omega), Nat.and_one_is_mod]
  rw [IntKind.wrap_u64]; omega
theorem u64_bit (n k : Nat) (hn : n < 18446744073709551616) : bits .and .u64 ((n : Int) / 2 ^ k) 1 % 4294967296 = ((n / 2 ^ k % 2 : Nat) : Int) := by
  have hle := Nat.div_le_self n (2 ^ k)
  rw [show (n : Int) / 2 ^ k = ((n / 2 ^ k : Nat) : Int) by rw [Int.natCast_ediv, Int.natCast_pow]; rfl, show (1 : Int) = ((1 : Nat) : Int) from rfl, u64_and_nat _ 1 (by omega) (by omega), Nat.and_one_is_mod]
  omega
theorem or_bit32 (m z b : Nat) (hz : z < 2 ^ m) (hb : b < 2) (hm : m < 32) : bits .or .u32 (z : Int) ((b : Int) * 2 ^ m % 4294967296) = ((z + 2 ^ m * b : Nat) : Int) := by
  have hp : 2 ^ m ≤ 2 ^ 31 := Nat.pow_le_pow_right (by omega) (by omega)
  have hv : b * 2 ^ m < 4294967296 := by
    have : b * 2 ^ m ≤ 1 * 2 ^ m := Nat.mul_le_mul_right _ (by omega)
    omega
  have e : (b : Int) * 2 ^ m % 4294967296 = ((b * 2 ^ m : Nat) : Int) := by
    rw [show (b : Int) * 2 ^ m = ((b * 2 ^ m : Nat) : Int) by rw [Int.natCast_mul, Int.natCast_pow]; rfl]; omega
  rw [e, u32_or_nat z _ (by omega) hv, Nat.or_comm, nat_join m _ _ (Nat.mul_mod_left _ _) hz, Nat.add_comm, Nat.mul_comm]
theorem ret_u32 {a b : Int} (h : a = b) : Ending.returned (.int .u32 a) = .returned (.int .u32 b) := by rw [h]
theorem ret_u64' {a b : Int} (h : a = b) : Ending.returned (.int .u64 a) = .returned (.int .u64 b) := by rw [h]

theorem spread_any (n : Nat) (w : World) (hn : n < 4294967296) : Calls Try.prog 34 #[.int .u32 (n : Int)] w fun e w' => e = .returned (.int .u64 ((wv 32 n 0 : Nat) : Int)) ∧ w = w' := by
  go_enter Try.func34, Try.ntmps34
  go_wp2
  go_loop [3, 5] (fun z i => ∃ k : Nat, k ≤ 32 ∧ i = .int .i64 k ∧ z = .int .u64 ((wv k n 0 : Nat) : Int)) (fun _ i => 32 - (intOf i).toNat)
  case atStart => exact ⟨0, by omega, rfl, rfl⟩
  case round =>
    obtain ⟨k, hk, rfl, rfl⟩ := hrel
    by_cases hlt : k < 32
    · have hz : wv k n 0 < 2 ^ (2 * k) := by rw [Nat.pow_mul]; exact wv_lt k n 0
      have hs : Hid (wv (k + 1) n 0 = wv k n 0 + 2 ^ (2 * k) * (n / 2 ^ k % 2)) := by unfold Hid; rw [wv_snoc, Nat.pow_mul]; simp
      have hb := Lib.hid (u32_bit n k hn)
      have ho := Lib.hid (or_bit (2 * k) (wv k n 0) (n / 2 ^ k % 2) hz (Nat.mod_lt _ (by omega)) (by omega))
      generalize wv k n 0 = z at *
      go_wp2
      refine ⟨⟨k + 1, by omega, by go_num, congrArg (Value.int .u64) ?_⟩, by simp [intOf]; omega⟩
      rw [hb.out, ho.out, hs.out]
    · obtain rfl : k = 32 := by omega
      go_wp2
      go_ret
      exact ⟨rfl, rfl⟩
theorem gather_any (n : Nat) (w : World) (hn : n < 18446744073709551616) : Calls Try.prog 29 #[.int .u64 (n : Int)] w fun e w' => e = .returned (.int .u32 ((evX n : Nat) : Int)) ∧ w = w' := by
  unfold evX
  go_enter Try.func29, Try.ntmps29
  go_wp2
  go_loop [3, 5] (fun z i => ∃ k : Nat, k ≤ 32 ∧ i = .int .i64 k ∧ z = .int .u32 ((ev k n : Nat) : Int)) (fun _ i => 32 - (intOf i).toNat)
  case atStart => exact ⟨0, by omega, rfl, rfl⟩
  case round =>
    obtain ⟨k, hk, rfl, rfl⟩ := hrel
    by_cases hlt : k < 32
    · have hz : ev k n < 2 ^ k := ev_lt k n
      have hs : Hid (ev (k + 1) n = ev k n + 2 ^ k * (n / 2 ^ (2 * k) % 2)) := by unfold Hid; rw [ev_snoc, Nat.pow_mul]
      have hb := Lib.hid (u64_bit n (2 * k) hn)
      have ho := Lib.hid (or_bit32 k (ev k n) (n / 2 ^ (2 * k) % 2) hz (Nat.mod_lt _ (by omega)) (by omega))
      generalize ev k n = z at *
      go_wp2
      refine ⟨⟨k + 1, by omega, by go_num, congrArg (Value.int .u32) ?_⟩, by simp [intOf]; omega⟩
      rw [hb.out, ho.out, hs.out]
    · obtain rfl : k = 32 := by omega
      go_wp2
      go_ret
      exact ⟨rfl, rfl⟩
theorem weave_num (a b v : Nat) (ha : a < 18446744073709551616) (hb : b * 2 < 18446744073709551616) (h : a ||| b * 2 = v) : bits .or .u64 (a : Int) (IntKind.u64.wrap ((b : Int) * 2)) = (v : Int) := by
  have e : IntKind.u64.wrap ((b : Int) * 2) = ((b * 2 : Nat) : Int) := by rw [IntKind.wrap_u64]; omega
  rw [e, u64_or_nat _ _ ha hb, h]
theorem weave_core (x y : Int) (a b v : Nat) (w : World) (H1 : ∀ w, Calls Try.prog 34 #[.int .u32 x] w fun e w' => e = .returned (.int .u64 (a : Int)) ∧ w = w')
    (H2 : ∀ w, Calls Try.prog 34 #[.int .u32 y] w fun e w' => e = .returned (.int .u64 (b : Int)) ∧ w = w') (hv : Hid (bits .or .u64 (a : Int) (IntKind.u64.wrap ((b : Int) * 2)) = (v : Int))) :
    Calls Try.prog 14 #[.int .u32 x, .int .u32 y] w fun e w' => e = .returned (.int .u64 (v : Int)) ∧ w = w' := by
  go_enter Try.func14, Try.ntmps14
  go_wp2_with (first | (go_at_call 34; (with_reducible refine (H1 _).mono ?_); rintro e w' ⟨rfl, rfl⟩) | (go_at_call 34; (with_reducible refine (H2 _).mono ?_); rintro e w' ⟨rfl, rfl⟩))
  go_ret
  exact ⟨ret_u64' hv.out, rfl⟩
theorem wv_half (y : Nat) : wv 32 y 0 * 2 < 18446744073709551616 := by
  have h := wvZ_lt 0 y
  have e := wv_or 32 0 y
  have e0 : wv 32 0 0 = 0 := by decide
  rw [e0, Nat.zero_or] at e
  unfold wvZ at h
  rwa [← e] at h
theorem weave_any (x y : Nat) (w : World) (hx : x < 4294967296) (hy : y < 4294967296) : Calls Try.prog 14 #[.int .u32 (x : Int), .int .u32 (y : Int)] w fun e w' => e = .returned (.int .u64 ((wvZ x y : Nat) : Int)) ∧ w = w' :=
  weave_core x y (wv 32 x 0) (wv 32 y 0) (wvZ x y) w (fun w => spread_any x w hx) (fun w => spread_any y w hy) (Lib.hid (weave_num _ _ _ (wvZ_lt x 0) (wv_half y) (wv_or 32 x y)))
theorem apart_any (z : Nat) (w : World) (hz : z < 18446744073709551616) : Calls Try.prog 9 #[.int .u64 (z : Int)] w fun e w' => e = .returned (.tuple #[.int .u32 ((evX z : Nat) : Int), .int .u32 ((odY z : Nat) : Int)]) ∧ w = w' := by
  have H1 := fun w => gather_any z w hz
  have H2 := fun w => gather_any (z / 2) w (by omega)
  rw [show evX (z / 2) = odY z from (od_ev 32 z).symm, show ((z / 2 : Nat) : Int) = (z : Int) / 2 from rfl] at H2
  generalize evX z = a at *
  generalize odY z = b at *
  clear hz
  go_enter Try.func9, Try.ntmps9
  go_wp2_with (first | (go_at_call 29; (with_reducible refine (H1 _).mono ?_); rintro e w' ⟨rfl, rfl⟩) | (go_at_call 29; (with_reducible refine (H2 _).mono ?_); rintro e w' ⟨rfl, rfl⟩))
  go_ret2
  exact ⟨rfl, rfl⟩
end Go.Proofs.Ytdhcilnkimmblaa
