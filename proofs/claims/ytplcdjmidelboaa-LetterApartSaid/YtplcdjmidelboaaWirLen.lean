/- The library's Len64: how many bits tell a number. -/
import Derived.Test.YtplcdjmidelboaaWirMem
import Derived.Lib.Tables
import Derived.Deep.Light
namespace Go.Proofs.Ytplcdjmidelboaa
open Go.RowKit Go.Sort

theorem len8_fin : ∀ n : Fin 256, Lib.len8 (n.val : Int) = (bitLen n.val : Int) := by decide +kernel
theorem len8_nat (y : Nat) (h : y < 256) : Lib.len8 (y : Int) = (bitLen y : Int) := len8_fin ⟨y, h⟩
theorem bit_more (x b y : Nat) (hy : x / 2 ^ b = y) (h0 : y ≠ 0) : bitLen x = b + bitLen y := by
  subst hy
  exact bitLen_shift x b h0
/-- the table's answer, and what was counted ahead -/
theorem len_at (x b : Nat) (z : Int) (hz : z.toNat = x / 2 ^ b) (hlt : x / 2 ^ b < 256) (hne : x / 2 ^ b ≠ 0 ∨ b = 0) (h : z.toNat < Lib.len8tab.size) : ((Lib.len8tab[z.toNat]'h).toNat : Int) = (bitLen x : Int) - (b : Int) ∧ (bitLen x : Int) ≤ b + 8 ∧ (b : Int) ≤ bitLen x := by
  have e : ((Lib.len8tab[z.toNat]'h).toNat : Int) = Lib.len8 (z.toNat : Int) := by
    simp only [Lib.len8, Int.toNat_natCast, ByteArray.getElem?_lt' _ _ h, Option.getD_some]
  rw [e, hz, len8_nat _ hlt]
  have h8 := bitLen_le8 _ hlt
  rcases hne with h | h
  · have := bit_more x b _ rfl h
    omega
  · subst h
    rw [Nat.pow_zero, Nat.div_one] at *
    omega

theorem len_sum (b n T : Int) (h : T = n - b ∧ n ≤ b + 8 ∧ b ≤ n) (hb : 0 ≤ b ∧ b ≤ 64) : wrap64 (b + wrap64 T) = n := by
  unfold wrap64; omega
theorem len_sum0 (n T : Int) (h : T = n - 0 ∧ n ≤ 0 + 8 ∧ 0 ≤ n) : wrap64 (wrap64 T) = n := by
  unfold wrap64; omega
set_option maxRecDepth 100000 in
set_option maxHeartbeats 4000000 in
theorem len64_int (x : Int) (w : World) (h0 : 0 ≤ x) (h1 : x ≤ 18446744073709551615) : Calls Try.prog 50 #[.int .u64 x] w fun e w' => e = .returned (.int .i64 ((bitLen x.toNat : Nat) : Int)) ∧ w = w' := by
  go_enter Try.func50, Try.ntmps50
  go_wp2
  all_goals first
    | go_ret
    | (exfalso
       have hs := Lib.len8tab_size
       omega)
  all_goals refine ⟨congrArg Ending.returned (congrArg (Value.int IntKind.i64) ?_), rfl⟩
  all_goals go_light
  all_goals first
    | (refine len_sum 56 _ _ (len_at x.toNat 56 _ ?_ ?_ (.inl ?_) _) (by decide) <;> omega)
    | (refine len_sum 48 _ _ (len_at x.toNat 48 _ ?_ ?_ (.inl ?_) _) (by decide) <;> omega)
    | (refine len_sum 40 _ _ (len_at x.toNat 40 _ ?_ ?_ (.inl ?_) _) (by decide) <;> omega)
    | (refine len_sum 32 _ _ (len_at x.toNat 32 _ ?_ ?_ (.inl ?_) _) (by decide) <;> omega)
    | (refine len_sum 24 _ _ (len_at x.toNat 24 _ ?_ ?_ (.inl ?_) _) (by decide) <;> omega)
    | (refine len_sum 16 _ _ (len_at x.toNat 16 _ ?_ ?_ (.inl ?_) _) (by decide) <;> omega)
    | (refine len_sum 8 _ _ (len_at x.toNat 8 _ ?_ ?_ (.inl ?_) _) (by decide) <;> omega)
    | (refine len_sum0 _ _ (len_at x.toNat 0 _ ?_ ?_ (.inr rfl) _) <;> omega)
theorem len64_any (v : Nat) (w : World) (hv : v < 18446744073709551616) : Calls Try.prog 50 #[.int .u64 (v : Int)] w fun e w' => e = .returned (.int .i64 ((bitLen v : Nat) : Int)) ∧ w = w' := by
  have h := len64_int (v : Int) w (by omega) (by omega)
  rwa [Int.toNat_natCast] at h
end Go.Proofs.Ytplcdjmidelboaa
