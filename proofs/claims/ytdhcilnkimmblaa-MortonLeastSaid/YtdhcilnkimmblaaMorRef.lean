/- The document's calls on points: Weave, Apart. -/
import Derived.Test.YtdhcilnkimmblaaMorOps
import Derived.RegionTactic
namespace Go.Proofs.Ytdhcilnkimmblaa
open Go.RowKit Go.Sort

theorem half_step (x j k : Nat) (h : j + k = 31) : x / 2 ^ k / 2 = x / 2 ^ (32 - j) := by
  rw [Nat.div_div_eq_div_mul, ← Nat.pow_succ]
  congr 2
  omega
theorem weave_round (z a b v : Nat) (hz : z < 4611686018427387904) (ha : a < 2) (hb : b < 2) (h : a + 2 * b + 4 * z = v) : IntKind.u64.wrap (IntKind.u64.wrap (IntKind.u64.wrap (4 * (z : Int)) + IntKind.u64.wrap ((b : Int) * 2)) + (a : Int)) = (v : Int) := by
  simp only [IntKind.wrap_u64]; omega
theorem refWeave_any (x y : Nat) (w : World) (hx : x < 4294967296) (hy : y < 4294967296) : Calls Try.prog 15 #[.int .u32 (x : Int), .int .u32 (y : Int)] w fun e w' => e = .returned (.int .u64 ((wvZ x y : Nat) : Int)) ∧ ∃ n, w.drewN n = w' := by
  unfold wvZ
  go_enter Try.func15, Try.ntmps15
  go_wp2
  go_loopw [5, 6] (fun z i wr => ∃ (j : Nat) (q : Int), j ≤ 32 ∧ q + j = 31 ∧ i = .int .i64 q ∧ z = .int .u64 ((wv j (x / 2 ^ (32 - j)) (y / 2 ^ (32 - j)) : Nat) : Int) ∧ ∃ n, w.drewN n = wr) (fun _ i _ => (intOf i + 1).toNat)
  case atStart => exact ⟨0, 31, by omega, by omega, rfl, rfl, 0, rfl⟩
  case round =>
    obtain ⟨j, q, hj, hq, rfl, rfl, n, rfl⟩ := hrel
    by_cases hlt : j < 32
    · obtain ⟨k, rfl⟩ : ∃ k : Nat, q = k := ⟨q.toNat, by omega⟩
      have hs : Hid (x / 2 ^ k % 2 + 2 * (y / 2 ^ k % 2) + 4 * wv j (x / 2 ^ (32 - j)) (y / 2 ^ (32 - j)) = wv (j + 1) (x / 2 ^ (32 - (j + 1))) (y / 2 ^ (32 - (j + 1)))) := by
        unfold Hid
        rw [show 32 - (j + 1) = k by omega, wv, half_step x j k (by omega), half_step y j k (by omega)]
      have hz : wv j (x / 2 ^ (32 - j)) (y / 2 ^ (32 - j)) < 4611686018427387904 := Nat.lt_of_lt_of_le (wv_lt _ _ _) (Nat.le_trans (Nat.pow_le_pow_right (by omega) (show j ≤ 31 by omega)) (by decide))
      have hbx := Lib.hid (u32_bit x k hx)
      have hby := Lib.hid (u32_bit y k hy)
      have hv := Lib.hid (weave_round _ _ _ _ hz (Nat.mod_lt _ (by omega)) (Nat.mod_lt _ (by omega)) hs.out)
      clear hs hz
      generalize wv j (x / 2 ^ (32 - j)) (y / 2 ^ (32 - j)) = z at *
      generalize hZ : wv (j + 1) (x / 2 ^ (32 - (j + 1))) (y / 2 ^ (32 - (j + 1))) = z' at *
      have HZ := Lib.hid hZ
      clear hZ
      go_wp2
      go_region
      rw [hbx.out, hby.out, hv.out]
      go_wp2
      exact ⟨⟨j + 1, (k : Int) - 1, by omega, by omega, rfl, by rw [HZ.out], n + 1, rfl⟩, by simp [intOf]⟩
    · obtain rfl : j = 32 := by omega
      obtain rfl : q = -1 := by omega
      go_wp2
      go_ret
      exact ⟨by simp, n, rfl⟩

theorem low_round (a v z' : Nat) (hv : 2 * v + a < 4294967296) (h : a + 2 * v = z') : ((2 * (v : Int)) % 4294967296 + (a : Int)) % 4294967296 = (z' : Int) := by omega
theorem refApart_any (z : Nat) (w : World) (hz : z < 18446744073709551616) : Calls Try.prog 10 #[.int .u64 (z : Int)] w fun e w' => e = .returned (.tuple #[.int .u32 ((evX z : Nat) : Int), .int .u32 ((odY z : Nat) : Int)]) ∧ w = w' := by
  unfold evX odY
  go_enter Try.func10, Try.ntmps10
  go_wp2
  go_loop [4, 5, 6] (fun x y i => ∃ (j : Nat) (q : Int), j ≤ 32 ∧ q + j = 31 ∧ i = .int .i64 q ∧ x = .int .u32 ((ev j (z / 4 ^ (32 - j)) : Nat) : Int) ∧ y = .int .u32 ((od j (z / 4 ^ (32 - j)) : Nat) : Int)) (fun _ _ i => (intOf i + 1).toNat)
  case atStart => exact ⟨0, 31, by omega, by omega, rfl, rfl, rfl⟩
  case round =>
    obtain ⟨j, q, hj, hq, rfl, rfl, rfl⟩ := hrel
    by_cases hlt : j < 32
    · obtain ⟨k, rfl⟩ : ∃ k : Nat, q = k := ⟨q.toNat, by omega⟩
      have h4 : z / 4 ^ (32 - (j + 1)) / 4 = z / 4 ^ (32 - j) := by
        rw [Nat.div_div_eq_div_mul, ← Nat.pow_succ]
        congr 2
        omega
      have hk : 32 - (j + 1) = k := by omega
      have hX : z / 2 ^ (2 * k) % 2 + 2 * ev j (z / 4 ^ (32 - j)) = ev (j + 1) (z / 4 ^ (32 - (j + 1))) := by
        rw [ev, h4, hk, Nat.pow_mul]
      have hY : z / 2 ^ (2 * k + 1) % 2 + 2 * od j (z / 4 ^ (32 - j)) = od (j + 1) (z / 4 ^ (32 - (j + 1))) := by
        rw [od, h4, hk, Nat.pow_succ, Nat.pow_mul, Nat.div_div_eq_div_mul]
      have lx : ev j (z / 4 ^ (32 - j)) < 2147483648 := Nat.lt_of_lt_of_le (ev_lt _ _) (Nat.le_trans (Nat.pow_le_pow_right (by omega) (show j ≤ 31 by omega)) (by decide))
      have ly : od j (z / 4 ^ (32 - j)) < 2147483648 := Nat.lt_of_lt_of_le (od_lt _ _) (Nat.le_trans (Nat.pow_le_pow_right (by omega) (show j ≤ 31 by omega)) (by decide))
      have hbx := Lib.hid (u64_bit z (2 * k) hz)
      have hby := Lib.hid (u64_bit z (2 * k + 1) hz)
      have vx := Lib.hid (low_round _ _ _ (by omega) hX)
      have vy := Lib.hid (low_round _ _ _ (by omega) hY)
      clear hX hY lx ly h4 hk
      generalize ev j (z / 4 ^ (32 - j)) = x at *
      generalize od j (z / 4 ^ (32 - j)) = y at *
      go_wp2
      exact ⟨⟨j + 1, (k : Int) - 1, by omega, by omega, rfl, congrArg (Value.int .u32) (by rw [hbx.out, vx.out]), congrArg (Value.int .u32) (by rw [hby.out, vy.out])⟩, by simp [intOf]⟩
    · obtain rfl : j = 32 := by omega
      obtain rfl : q = -1 := by omega
      rw [show 32 - 32 = 0 from rfl, Nat.pow_zero, Nat.div_one]
      go_wp2
      go_ret2
      exact ⟨rfl, rfl⟩
end Go.Proofs.Ytdhcilnkimmblaa
