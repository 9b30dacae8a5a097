/- The program's calls on labels: Is, Of, Covers, Within. -/
import Derived.Test.YtgfcdkihahfnkaaLabNum
import Derived.Test.YtgfcdkihahfnkaaBlk
import Derived.Test.YtgfcdkihahfnkaaRows
import Derived.Below
import Derived.Lib.Hide
import Derived.Deep.QuietTactic
import Derived.BigQuiet
namespace Go.Proofs.Ytgfcdkihahfnkaa
open Go.RowKit

/-- a label, as a value -/
def labv (n : Int) (b : Nat) : Value := .agg #[.int .i64 n, .int .u64 (b : Int)]
/-- whether a length is one -/
def lenB (n : Int) : Bool := decide (0 ≤ n ∧ n ≤ 64)
theorem lenB_yes {n : Int} (h : 0 ≤ n ∧ n ≤ 64) : lenB n = true := decide_eq_true h
theorem lenB_no {n : Int} (h : ¬ (0 ≤ n ∧ n ≤ 64)) : lenB n = false := decide_eq_false h
theorem lenB_iff {n : Int} : lenB n = true ↔ (0 ≤ n ∧ n ≤ 64) := by unfold lenB; simp
/-- whether bits are those of a label of this length -/
def lowB (n b : Nat) : Bool := decide (b % gap n = 0)
/-- whether a label is right -/
def isB (n : Int) (b : Nat) : Bool := lenB n && lowB n.toNat b
theorem ret_u64 {a b : Int} (h : a = b) : Ending.returned (.int .u64 a) = .returned (.int .u64 b) := by rw [h]
theorem ret_bool {a b : Bool} (h : a = b) : Ending.returned (.bool a) = .returned (.bool b) := by rw [h]
theorem shr_int (n : Nat) (h : n ≤ 64) : (18446744073709551615 : Int) / 2 ^ n = ((gap n - 1 : Nat) : Int) := by
  rw [← shr_all n h, Int.natCast_ediv, Int.natCast_pow]; rfl

theorem quiet_eq {P : Program} {f : FuncId} {args : Array Value} {w : World} {n : Nat} {v : Value}
    (h : Calls P f args (w.drewN n) fun e w' => e = .returned v ∧ w.drewN n = w') : Calls P f args (w.drewN n) fun e w'' => e = .returned v ∧ ∃ m, w'' = w.drewN m :=
  h.mono fun _ _ ⟨he, hm⟩ => ⟨he, n, hm.symm⟩

theorem isLength_any (n : Int) (w : World) (h1 : -9223372036854775808 ≤ n) (h2 : n ≤ 9223372036854775807) : Calls Try.prog 46 #[.int .i64 n] w fun e w' => e = .returned (.bool (lenB n)) ∧ w = w' := by
  by_cases h : 0 ≤ n
  · by_cases h' : n ≤ 64
    · rw [lenB_yes ⟨h, h'⟩]
      go_enter Try.func46, Try.ntmps46
      go_wp2
      go_ret
      exact ⟨rfl, rfl⟩
    · rw [lenB_no (by omega)]
      go_enter Try.func46, Try.ntmps46
      go_wp2
      go_ret
      exact ⟨rfl, rfl⟩
  · rw [lenB_no (by omega)]
    go_enter Try.func46, Try.ntmps46
    go_wp2
    go_ret
    exact ⟨rfl, rfl⟩

theorem behind_any (n : Nat) (w : World) (h : n ≤ 64) : Calls Try.prog 47 #[.int .i64 (n : Int)] w fun e w' => e = .returned (.int .u64 ((gap n - 1 : Nat) : Int)) ∧ w = w' := by
  have hs := Lib.hid (shr_int n h)
  go_enter Try.func47, Try.ntmps47
  go_wp2
  go_ret
  exact ⟨ret_u64 hs.out, rfl⟩

theorem isL_no (n : Int) (b : Nat) (w : World) (h1 : -9223372036854775808 ≤ n) (h2 : n ≤ 9223372036854775807) (hl : lenB n = false) : Calls Try.prog 28 #[labv n b] w fun e w' => e = .returned (.bool false) ∧ Below w.heap.size w w' := by
  have HL := fun w => isLength_any n w h1 h2
  rw [hl] at HL
  clear hl
  unfold labv
  go_enter Try.func28, Try.ntmps28
  go_wp2
  go_quiet ((go_at_call 46; exact quiet_eq (HL _)))
  go_wp2
  go_ret
  exact ⟨rfl, bel_drewN ((Below.refl _ _).alloc (Nat.le_refl _) _) _⟩

theorem isL_yes (n : Nat) (b : Nat) (w : World) (hl : n ≤ 64) (hb : b < 18446744073709551616) : Calls Try.prog 28 #[labv (n : Int) b] w fun e w' => e = .returned (.bool (lowB n b)) ∧ Below w.heap.size w w' := by
  have HL := fun w => isLength_any n w (by omega) (by omega)
  rw [lenB_yes (by omega)] at HL
  have HB := fun w => behind_any n w hl
  have hg := gap_le n
  have hand : Hid (bits .and .u64 (b : Int) ((gap n - 1 : Nat) : Int) = ((b % gap n : Nat) : Int)) := by
    unfold Hid; rw [u64_and_nat b (gap n - 1) hb (by omega), and_low]
  have hv : Hid ((((b % gap n : Nat) : Int) == 0) = lowB n b) := by
    unfold Hid lowB; rw [Bool.eq_iff_iff]; simp; omega
  clear hb hg
  unfold labv
  go_enter Try.func28, Try.ntmps28
  go_wp2
  go_quiet ((first | (go_at_call 46; exact quiet_eq (HL _)) | (go_at_call 47; exact quiet_eq (HB _))))
  go_wp2
  go_ret
  refine ⟨ret_bool ?_, bel_drewN ((Below.refl _ _).alloc (Nat.le_refl _) _) _⟩
  rw [← hv.out, ← hand.out]

theorem isL_any (n : Int) (b : Nat) (w : World) (h1 : -9223372036854775808 ≤ n) (h2 : n ≤ 9223372036854775807) (hb : b < 18446744073709551616) : Calls Try.prog 28 #[labv n b] w fun e w' => e = .returned (.bool (isB n b)) ∧ Below w.heap.size w w' := by
  cases hl : lenB n
  · rw [show isB n b = false by unfold isB; rw [hl]; rfl]
    exact isL_no n b w h1 h2 hl
  · have hn := lenB_iff.1 hl
    obtain ⟨m, rfl⟩ := Int.eq_ofNat_of_zero_le hn.1
    rw [show isB (m : Int) b = lowB m b by unfold isB; rw [hl]; rfl]
    exact isL_yes m b w (by omega) hb

/-- an answer of a label and a code -/
def labr (n : Int) (b : Nat) (c : Int) : Value := .tuple #[labv n b, .int .i64 c]

end Go.Proofs.Ytgfcdkihahfnkaa
