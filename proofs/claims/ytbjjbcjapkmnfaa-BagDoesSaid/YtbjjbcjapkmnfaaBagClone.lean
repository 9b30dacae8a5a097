/- A text is copied. -/
import Derived.Test.YtbjjbcjapkmnfaaBagNumber
import Derived.Lib.UnsafeStr
import Derived.Deep.MidRow
namespace Go.Proofs.Ytbjjbcjapkmnfaa
open Go Go.RowKit

theorem info8 : (Try.prog.info? 5).map (fun i => (i.zero, i.size, i.bytes)) = some (some (.int .u8 0), 1, 1) := by kernel_rfl
theorem size8 : (Try.prog.info? 5).map (·.size) = some 1 := by kernel_rfl
theorem cells8 : Try.prog.cellsOf 5 = 1 := by kernel_rfl
set_option maxHeartbeats 1000000 in
theorem inner_any (s : ByteArray) (w : World) (hs : s.size ≤ 1000000) : Calls Try.prog 31 #[.string s] w fun e w' => e = .returned (.string s) ∧ Below w.heap.size w w' := by
  rcases Nat.eq_zero_or_pos s.size with h0 | h0
  · obtain rfl : s = ⟨#[]⟩ := by apply ByteArray.ext; exact Array.eq_empty_of_size_eq_zero h0
    go_enter Try.func31, Try.ntmps31
    go_wp2
    go_ret
    exact ⟨rfl, Below.refl _ _⟩
  · have hn : ¬ ((s.size : Int) = 0) := by omega
    have hsz : s.size = s.data.toList.length := (Array.length_toList ..).symm
    obtain ⟨Y, hY⟩ : ∃ Y : Array Value, Y = (Lib.byteCells s.data.toList).toArray := ⟨_, rfl⟩
    have hYs : Y.size = s.size := by rw [hY, List.size_toArray, Lib.byteCells_length, ← hsz]
    have hcp : (Lib.byteCells s.data.toList ++ (row (tab s.size fun _ => 0)).toList.drop s.size).toArray = Y := by
      rw [hY, List.drop_eq_nil_of_le (by rw [Array.length_toList, row_size, tab_length]; omega), List.append_nil]
    have A0 := Blk.new w (row (tab s.size fun _ => 0)) 5
    have A1 := A0.setRow Y
    have bel : Below w.heap.size w ((w.alloc (.cells (row (tab s.size fun _ => 0)) 5)).setRow w.heap.size Y) := bel_setRow ((Below.refl _ _).alloc (Nat.le_refl _) _) (Nat.le_refl _) _
    have hne : s.data.toList ≠ [] := by
      intro e
      have h2 : s.data.toList.length = 0 := by rw [e]; rfl
      omega
    have hUS := Lib.run_unsafeString_row (P := Try.prog) ((w.alloc (.cells (row (tab s.size fun _ => 0)) 5)).setRow w.heap.size Y) 65 3 9 5 Try.underlying65 cells8 w.heap.size Y.size (by unfold World.shape?; rw [A1]) s.data.toList hne (by omega) (by omega)
      (fun j x hx => by
        rw [Addr.add_mid, Nat.zero_add, A1.cell, hY]
        simp [Lib.byteCells, hx])
    rw [← hsz] at hUS
    have B2 := Lib.below_freeze bel (p := ⟨w.heap.size, 0, none⟩) (Nat.le_refl _) s.size
    have HA := Lib.hid A0
    have HF : Hid (s.size ≤ (row (tab s.size fun _ => 0)).size) := by unfold Hid; rw [row_size, tab_length]; omega
    have HB := Lib.hid B2
    have HC := Lib.hid hcp
    clear A0 B2 bel hcp hY hsz hne A1
    go_enter Try.func31, Try.ntmps31
    go_wp2_with (first
      | (refine wpList_make_blk rfl _ _ 64 rfl 5 (.int .u8 0) 1 1 Try.underlying64 info8 (s.size : Int) s.size rfl rfl rfl (by omega) (by omega) (row (tab s.size fun _ => 0)) (made8 _) ?_)
      | (refine wpList_copy_str rfl _ _ _ _ rfl 5 Try.underlying64 size8 w.heap.size s.size s.size s rfl rfl (row (tab s.size fun _ => 0)) 5 HA.out (Nat.le_refl _) HF.out Y HC.out ?_))
    go_ret
    exact ⟨rfl, HB.out⟩
theorem clone_any (s : ByteArray) (w : World) (hs : s.size ≤ 1000000) : Calls Try.prog 26 #[.string s] w fun e w' => e = .returned (.string s) ∧ Below w.heap.size w w' := by
  have HI := Lib.hid (inner_any s w hs)
  go_enter Try.func26, Try.ntmps26
  go_wp2_with (go_at_call 31; (with_reducible refine HI.out.mono ?_); rintro e w1 ⟨rfl, hb1⟩)
  go_ret
  exact ⟨rfl, hb1⟩
end Go.Proofs.Ytbjjbcjapkmnfaa
