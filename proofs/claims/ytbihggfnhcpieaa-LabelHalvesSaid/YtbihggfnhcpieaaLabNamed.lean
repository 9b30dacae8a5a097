/- The document's rows on labels, as the statements ask them. -/
import Derived.Test.YtbihggfnhcpieaaLabBoth
namespace Go.Proofs.Ytbihggfnhcpieaa
open Go.RowKit Go.Sort

theorem goodT_01 : goodT ⟨#[47, 48, 49]⟩ = true := by decide +kernel
theorem valS_01 : valS ⟨#[47, 48, 49]⟩ 2 = 4611686018427387904 := by decide +kernel
theorem parse_01 : Gives Try.prog 28 #[.string ⟨#[47, 48, 49]⟩] (.tuple #[.agg (labc 2 4611686018427387904), .int .i64 0]) := by
  have h := parse_any ⟨#[47, 48, 49]⟩ (by decide)
  unfold parsedT at h
  rw [if_pos goodT_01, show (⟨#[47, 48, 49]⟩ : ByteArray).size - 1 = 2 from rfl, valS_01] at h
  exact h
theorem parse_bare : Gives Try.prog 28 #[.string ⟨#[48, 49]⟩] (.tuple #[.agg (labc 0 0), .int .i64 3]) := by
  have h := parse_any ⟨#[48, 49]⟩ (by decide)
  rw [goodT_not (s := ⟨#[48, 49]⟩) (fun x => by have := x.2; revert this; decide)] at h
  exact h
theorem low_01 : lowB 2 4611686018427387904 = true := by decide +kernel
theorem span_01 : Gives Try.prog 15 #[.agg (labc 2 4611686018427387904)] (.tuple #[.int .u64 4611686018427387904, .int .u64 9223372036854775807, .int .i64 0]) := fun w => by
  have h := span_yes 2 4611686018427387904 w (by omega) (by omega) low_01
  rw [show 4611686018427387904 + (gap 2 - 1) = 9223372036854775807 by decide +kernel] at h
  exact h
theorem parent_01 : Gives Try.prog 11 #[.agg (labc 2 4611686018427387904)] (.tuple #[.agg (labc 1 0), .int .i64 0]) := fun w => by
  have h := parent_yes 1 4611686018427387904 w (by omega) (by omega) low_01
  rw [show cutN 1 4611686018427387904 = 0 by decide +kernel] at h
  exact h
theorem sibling_01 : Gives Try.prog 13 #[.agg (labc 2 4611686018427387904)] (.tuple #[.agg (labc 2 0), .int .i64 0]) := fun w => by
  have h := sibling_yes 1 4611686018427387904 w (by omega) (by omega) low_01
  rw [show chB 1 (cutN 1 4611686018427387904) (1 - bitAt 4611686018427387904 1) = 0 by decide +kernel] at h
  exact h
theorem text_00 : Gives Try.prog 19 #[.agg (labc 2 0)] (.tuple #[.string ⟨#[47, 48, 48]⟩, .int .i64 0]) := fun w => by
  have h := text_yes 2 0 w (by omega) (by omega) (by decide +kernel)
  rw [show txt (textN 2 0) = ⟨#[47, 48, 48]⟩ by decide +kernel] at h
  exact h
theorem text_0 : Gives Try.prog 19 #[.agg (labc 1 0)] (.tuple #[.string ⟨#[47, 48]⟩, .int .i64 0]) := fun w => by
  have h := text_yes 1 0 w (by omega) (by omega) (by decide +kernel)
  rw [show txt (textN 1 0) = ⟨#[47, 48]⟩ by decide +kernel] at h
  exact h
theorem parent_00 : Gives Try.prog 11 #[.agg #[.int .i64 0, .int .u64 0]] (.tuple #[.agg (labc 0 0), .int .i64 7]) := fun w => parent_root 0 w (by omega) (by decide +kernel)
theorem is_01 : Gives Try.prog 24 #[.agg (labc 2 4611686018427387904)] (.bool true) := fun w => low_01 ▸ isL_yes 2 4611686018427387904 w (by omega) (by omega)
theorem is_11 : Gives Try.prog 24 #[.agg #[.int .i64 1, .int .u64 1]] (.bool false) := fun w => by
  have h := isL_yes 1 1 w (by omega) (by omega)
  rw [show lowB 1 1 = false by decide +kernel] at h
  exact h

set_option maxRecDepth 100000 in
set_option maxHeartbeats 2000000 in
theorem named_all (w : World) : Calls Try.prog 23 #[] w fun e w' => e = .returned (.bool true) ∧ Below w.heap.size w w' := by
  go_enter Try.func23, Try.ntmps23
  have B0 := Below.refl w.heap.size w
  go_upto_region 2 with (first | (go_at_call 28; (with_reducible refine (parse_01.calls _).mono ?_); rintro e w1 ⟨rfl, hb⟩) | (refine wpList_store_newrow rfl 24 _ _ rfl (labc 2 4611686018427387904) rfl rfl infoLab (lab_all _ _) rfl ?_))
  replace B0 := (B0.trans (hb.mono B0.size)).alloc (Nat.le_trans B0.size hb.size) (.cells (labc 2 4611686018427387904) 24)
  have A1 := Blk.new w1 (labc 2 4611686018427387904) 24
  clear hb
  generalize w1.heap.size = g1 at *
  generalize w1.alloc _ = W1 at *
  go_upto_region 3 with (first | (refine p_loadL rfl _ rfl _ rfl _ _ (by first | with_reducible exact A1) ?_) | (go_at_call 15; (with_reducible refine (span_01.calls _).mono ?_); rintro e w2 ⟨rfl, hb⟩))
  replace A1 := A1.below hb A1.lt
  replace B0 := B0.trans (hb.mono B0.size)
  clear hb
  go_upto_region 4 with (first | (refine p_loadL rfl _ rfl _ rfl _ _ (by first | with_reducible exact A1) ?_) | (go_at_call 11; (with_reducible refine (parent_01.calls _).mono ?_); rintro e w3 ⟨rfl, hb⟩) | (refine wpList_store_newrow rfl 24 _ _ rfl (labc 1 0) rfl rfl infoLab (lab_all _ _) rfl ?_))
  replace A1 := (A1.below hb A1.lt).alloc (.cells (labc 1 0) 24)
  replace B0 := (B0.trans (hb.mono B0.size)).alloc (Nat.le_trans B0.size hb.size) (.cells (labc 1 0) 24)
  have A2 := Blk.new w3 (labc 1 0) 24
  clear hb
  generalize w3.heap.size = g3 at *
  generalize w3.alloc _ = W3 at *
  go_upto_region 5 with (first | (refine p_loadL rfl _ rfl _ rfl _ _ (by first | with_reducible exact A1 | with_reducible exact A2) ?_) | (go_at_call 13; (with_reducible refine (sibling_01.calls _).mono ?_); rintro e w4 ⟨rfl, hb⟩) | (refine wpList_store_newrow rfl 24 _ _ rfl (labc 2 0) rfl rfl infoLab (lab_all _ _) rfl ?_))
  replace A1 := (A1.below hb A1.lt).alloc (.cells (labc 2 0) 24)
  replace A2 := (A2.below hb A2.lt).alloc (.cells (labc 2 0) 24)
  replace B0 := (B0.trans (hb.mono B0.size)).alloc (Nat.le_trans B0.size hb.size) (.cells (labc 2 0) 24)
  have A3 := Blk.new w4 (labc 2 0) 24
  clear hb
  generalize w4.heap.size = g4 at *
  generalize w4.alloc _ = W4 at *
  go_upto_region 6 with (first | (refine p_loadL rfl _ rfl _ rfl _ _ (by first | with_reducible exact A1 | with_reducible exact A2 | with_reducible exact A3) ?_) | (go_at_call 19; (with_reducible refine (text_00.calls _).mono ?_); rintro e w5 ⟨rfl, hb⟩))
  replace A1 := A1.below hb A1.lt
  replace A2 := A2.below hb A2.lt
  replace A3 := A3.below hb A3.lt
  replace B0 := B0.trans (hb.mono B0.size)
  clear hb
  go_upto_region 7 with (first | (refine p_loadL rfl _ rfl _ rfl _ _ (by first | with_reducible exact A1 | with_reducible exact A2 | with_reducible exact A3) ?_) | (go_at_call 19; (with_reducible refine (text_0.calls _).mono ?_); rintro e w6 ⟨rfl, hb⟩))
  replace A1 := A1.below hb A1.lt
  replace A2 := A2.below hb A2.lt
  replace A3 := A3.below hb A3.lt
  replace B0 := B0.trans (hb.mono B0.size)
  clear hb
  go_upto_region 8 with (first | (refine p_loadL rfl _ rfl _ rfl _ _ (by first | with_reducible exact A1 | with_reducible exact A2 | with_reducible exact A3) ?_) | (go_at_call 28; (with_reducible refine (parse_bare.calls _).mono ?_); rintro e w7 ⟨rfl, hb⟩) | (refine wpList_store_newrow rfl 24 _ _ rfl (labc 0 0) rfl rfl infoLab (lab_all _ _) rfl ?_))
  replace A1 := (A1.below hb A1.lt).alloc (.cells (labc 0 0) 24)
  replace A2 := (A2.below hb A2.lt).alloc (.cells (labc 0 0) 24)
  replace A3 := (A3.below hb A3.lt).alloc (.cells (labc 0 0) 24)
  replace B0 := (B0.trans (hb.mono B0.size)).alloc (Nat.le_trans B0.size hb.size) (.cells (labc 0 0) 24)
  have A4 := Blk.new w7 (labc 0 0) 24
  clear hb
  generalize w7.heap.size = g7 at *
  generalize w7.alloc _ = W7 at *
  go_upto_region 9 with (first | (refine p_loadL rfl _ rfl _ rfl _ _ (by first | with_reducible exact A1 | with_reducible exact A2 | with_reducible exact A3 | with_reducible exact A4) ?_) | (go_at_call 11; (with_reducible refine (parent_00.calls _).mono ?_); rintro e w8 ⟨rfl, hb⟩) | (refine wpList_store_newrow rfl 24 _ _ rfl (labc 0 0) rfl rfl infoLab (lab_all _ _) rfl ?_))
  replace A1 := (A1.below hb A1.lt).alloc (.cells (labc 0 0) 24)
  replace A2 := (A2.below hb A2.lt).alloc (.cells (labc 0 0) 24)
  replace A3 := (A3.below hb A3.lt).alloc (.cells (labc 0 0) 24)
  replace A4 := (A4.below hb A4.lt).alloc (.cells (labc 0 0) 24)
  replace B0 := (B0.trans (hb.mono B0.size)).alloc (Nat.le_trans B0.size hb.size) (.cells (labc 0 0) 24)
  have A5 := Blk.new w8 (labc 0 0) 24
  clear hb
  generalize w8.heap.size = g8 at *
  generalize w8.alloc _ = W8 at *
  go_wp2_with (first | (go_at_call 24; (with_reducible refine (is_01.calls _).mono ?_); rintro e w9 ⟨rfl, hb⟩; replace A1 := A1.below hb A1.lt; replace A2 := A2.below hb A2.lt; replace A3 := A3.below hb A3.lt; replace A4 := A4.below hb A4.lt; replace A5 := A5.below hb A5.lt; replace B0 := B0.trans (hb.mono B0.size); clear hb) | (go_at_call 24; (with_reducible refine (is_11.calls _).mono ?_); rintro e w10 ⟨rfl, hb⟩; replace A1 := A1.below hb A1.lt; replace A2 := A2.below hb A2.lt; replace A3 := A3.below hb A3.lt; replace A4 := A4.below hb A4.lt; replace A5 := A5.below hb A5.lt; replace B0 := B0.trans (hb.mono B0.size); clear hb) | (refine p_loadL rfl _ rfl _ rfl _ _ (by first | with_reducible exact A1 | with_reducible exact A2 | with_reducible exact A3 | with_reducible exact A4 | with_reducible exact A5) ?_) | (go_guarded; refine o_loadL _ rfl _ rfl _ _ (by first | with_reducible exact A1 | with_reducible exact A2 | with_reducible exact A3 | with_reducible exact A4 | with_reducible exact A5) ?_; simp only [Act.put, List.setIfInBounds_toArray, List.set_cons_succ, List.set_cons_zero]))
  go_ret
  exact ⟨rfl, B0⟩
end Go.Proofs.Ytbihggfnhcpieaa
