/- Boxes: what the program and the document tell alike. -/
import Derived.Test.YtdhcilnkimmblaaMorWoven
namespace Go.Proofs.Ytdhcilnkimmblaa
open Go.RowKit Go.Sort

/-- a label that is no label, or a right one -/
theorem lab_two (n : Int) (b : Nat) : isB n b = false ∨ ∃ m : Nat, n = m ∧ m ≤ 64 ∧ lowB m b = true := by
  cases hi : isB n b
  · exact .inl rfl
  · right
    have hn := isB_len hi
    obtain ⟨m, rfl⟩ := Int.eq_ofNat_of_zero_le hn.1
    exact ⟨m, rfl, by omega, isB_low hi⟩
theorem box_rises {n s : Nat} (hi : lowB n s = true) : evX s ≤ evX (s + (gap n - 1)) ∧ odY s ≤ odY (s + (gap n - 1)) := by
  have h1 := evX_full s (64 - n) (by omega) (lowB_iff.1 hi)
  have h2 := odY_full s (64 - n) (by omega) (lowB_iff.1 hi)
  rw [show 2 ^ (64 - n) = gap n from rfl] at h1 h2
  omega
theorem holds_same {a b c d lo hi : Nat} (h1 : evX lo ≤ evX hi) (h2 : odY lo ≤ odY hi) : (insideB a b c d lo && insideB a b c d hi) = holdsB a b c d (evX lo) (evX hi) (odY lo) (odY hi) := by
  rw [Bool.eq_iff_iff, Bool.and_eq_true, insideB_iff, insideB_iff]
  unfold holdsB isR
  simp
  omega
theorem both_box (n : Int) (s a b c d : Nat) (h1 : -9223372036854775808 ≤ n) (h2 : n ≤ 9223372036854775807) (hs : s < 18446744073709551616) : ∃ (p q r t : Nat) (e : Int) (m o : Bool),
    Gives Try.prog 20 #[.agg (labc n s)] (.tuple #[.agg (rectc p q r t), .int .i64 e]) ∧ Gives Try.prog 21 #[.agg (labc n s)] (.tuple #[.agg (rectc p q r t), .int .i64 e]) ∧
    Gives Try.prog 22 #[.agg (rectc a b c d), .agg (labc n s)] (.bool m) ∧ Gives Try.prog 23 #[.agg (rectc a b c d), .agg (labc n s)] (.bool m) ∧
    Gives Try.prog 24 #[.agg (rectc a b c d), .agg (labc n s)] (.bool o) ∧ Gives Try.prog 25 #[.agg (rectc a b c d), .agg (labc n s)] (.bool o) := by
  rcases lab_two n s with hi | ⟨k, rfl, hk, hi⟩
  · have HS : Gives Try.prog 35 #[.agg (labc n s)] (.tuple #[.int .u64 0, .int .u64 0, .int .i64 1]) := fun w => span_no n s w h1 h2 hs hi
    have HR : Gives Try.prog 36 #[.agg (labc n s)] (.tuple #[.int .u64 0, .int .u64 0, .int .i64 1]) := fun w => refSpan_no n s w hs hi
    have B1 := box_err n s HS
    have B2 := refbox_err n s HR
    refine ⟨0, 0, 0, 0, 1, false, false, B1, B2, ?_, ?_, ?_, ?_⟩
    · exact meets_err a b c d n s _ _ _ _ B1
    · exact refMeets_err a b c d n s _ _ _ _ B2
    · exact holds_err a b c d n s HS
    · exact refHolds_err a b c d n s _ _ _ _ B2
  · have hr := lab_room hs hi
    have hg := gap_pos k
    have HS : Gives Try.prog 35 #[.agg (labc (k : Int) s)] (.tuple #[.int .u64 (s : Int), .int .u64 ((s + (gap k - 1) : Nat) : Int), .int .i64 0]) := fun w => span_yes k s w hk hs hi
    have HR : Gives Try.prog 36 #[.agg (labc (k : Int) s)] (.tuple #[.int .u64 (s : Int), .int .u64 ((s + (gap k - 1) : Nat) : Int), .int .i64 0]) := fun w => refSpan_yes k s w hk hs hi
    have hlt : s + (gap k - 1) < 18446744073709551616 := by omega
    have B1 := box_ok (k : Int) s _ _ hs hlt HS
    have B2 := refbox_ok (k : Int) s _ _ hs hlt HR
    have hri := box_rises hi
    have H1 := holds_ok a b c d (k : Int) s _ _ hs hlt HS
    rw [holds_same hri.1 hri.2] at H1
    exact ⟨_, _, _, _, 0, _, _, B1, B2, meets_ok a b c d _ s _ _ _ _ B1, refMeets_ok a b c d _ s _ _ _ _ B2, H1, refHolds_ok a b c d _ s _ _ _ _ B2⟩
end Go.Proofs.Ytdhcilnkimmblaa
