/- The document's rows on points, as the statements ask them; arguments that are rectangles or numbers. -/
import Derived.Test.YtdhcilnkimmblaaMorRefLeast
import Derived.Test.YtdhcilnkimmblaaMorEq
import Derived.Test.YtdhcilnkimmblaaLabParse
import Derived.Test.YtdhcilnkimmblaaLabOpen
namespace Go.Proofs.Ytdhcilnkimmblaa
open Go.RowKit Go.Sort

theorem goodT_0001 : goodT ⟨#[47, 48, 48, 48, 49]⟩ = true := by decide +kernel
theorem valS_0001 : valS ⟨#[47, 48, 48, 48, 49]⟩ 4 = 1152921504606846976 := by decide +kernel
theorem parse_0001 : Gives Try.prog 33 #[.string ⟨#[47, 48, 48, 48, 49]⟩] (.tuple #[.agg (labc 4 1152921504606846976), .int .i64 0]) := by
  have h := parse_any ⟨#[47, 48, 48, 48, 49]⟩ (by decide)
  unfold parsedT at h
  rw [if_pos goodT_0001, show (⟨#[47, 48, 48, 48, 49]⟩ : ByteArray).size - 1 = 4 from rfl, valS_0001] at h
  exact h
theorem low_0001 : lowB 4 1152921504606846976 = true := by decide +kernel
theorem box_0001 : Gives Try.prog 20 #[.agg (labc 4 1152921504606846976)] (.tuple #[.agg (rectc 1073741824 2147483647 0 1073741823), .int .i64 0]) := by
  have h := box_ok 4 1152921504606846976 1152921504606846976 (1152921504606846976 + (gap 4 - 1)) (by omega) (by decide +kernel) (fun w => span_yes 4 1152921504606846976 w (by omega) (by omega) low_0001)
  rw [show evX 1152921504606846976 = 1073741824 by decide +kernel, show odY 1152921504606846976 = 0 by decide +kernel, show evX (1152921504606846976 + (gap 4 - 1)) = 2147483647 by decide +kernel, show odY (1152921504606846976 + (gap 4 - 1)) = 1073741823 by decide +kernel] at h
  exact h
theorem keys_12 {u : Nat} (hu : u < 18446744073709551616) (h : insideB 1 2 1 2 u = true) (h4 : 4 ≤ u) : 6 ≤ u := by
  obtain ⟨_, ⟨h1, h2⟩, h3, h5⟩ := insideB_iff.1 h
  have e := wvZ_parts hu
  have k11 : wvZ 1 1 = 3 := by decide +kernel
  have k12 : wvZ 1 2 = 9 := by decide +kernel
  have k21 : wvZ 2 1 = 6 := by decide +kernel
  have k22 : wvZ 2 2 = 12 := by decide +kernel
  rcases (by omega : evX u = 1 ∨ evX u = 2) with hx | hx <;> rcases (by omega : odY u = 1 ∨ odY u = 2) with hy | hy <;> rw [hx, hy] at e <;> omega
theorem least_12 : Gives Try.prog 11 #[.agg (rectc 1 2 1 2), .int .u64 ((4 : Nat) : Int)] (.tuple #[.int .u64 ((6 : Nat) : Int), .bool true]) :=
  least_any (by omega) (by omega) (by omega) (.inl ⟨rfl, by omega, by decide +kernel, fun _ hu hp hz => keys_12 hu hp hz⟩)
theorem weave_31 : Gives Try.prog 14 #[.int .u32 ((3 : Nat) : Int), .int .u32 ((1 : Nat) : Int)] (.int .u64 ((7 : Nat) : Int)) := fun w => by
  have h := calls_below (weave_any 3 1 w (by omega) (by omega))
  rw [show wvZ 3 1 = 7 by decide +kernel] at h
  exact h
theorem is_0001 : Gives Try.prog 16 #[.agg (rectc 1073741824 2147483647 0 1073741823)] (.bool true) := by
  have h := isM_any 1073741824 2147483647 0 1073741823
  rw [show isR 1073741824 2147483647 0 1073741823 = true by decide] at h
  exact h
theorem is_1 : Gives Try.prog 16 #[.agg #[.int .u32 1, .int .u32 0, .int .u32 0, .int .u32 0]] (.bool false) := isM_any 1 0 0 0
theorem least_12' : Gives Try.prog 11 #[.agg #[.int .u32 1, .int .u32 2, .int .u32 1, .int .u32 2], .int .u64 4] (.tuple #[.int .u64 6, .bool true]) := least_12
theorem weave_31' : Gives Try.prog 14 #[.int .u32 3, .int .u32 1] (.int .u64 7) := weave_31

set_option maxRecDepth 100000 in
set_option maxHeartbeats 2000000 in
theorem woven_all : Gives Try.prog 13 #[] (.bool true) := by
  intro w
  go_enter Try.func13, Try.ntmps13
  have B0 := Below.refl w.heap.size w
  go_upto_region 2 with (first | (go_at_call 33; (with_reducible refine (parse_0001.calls _).mono ?_); rintro e w1 ⟨rfl, hb⟩) | (refine wpList_store_newrow rfl 36 _ _ rfl (labc 4 1152921504606846976) rfl rfl infoLab (lab_all _ _) rfl ?_))
  replace B0 := (B0.trans (hb.mono B0.size)).alloc (Nat.le_trans B0.size hb.size) (.cells (labc 4 1152921504606846976) 36)
  have A1 := Blk.new w1 (labc 4 1152921504606846976) 36
  clear hb
  generalize w1.heap.size = g1 at *
  generalize w1.alloc _ = W1 at *
  go_upto_region 3 with (first | (refine p_loadL rfl _ rfl _ rfl _ _ (by first | with_reducible exact A1) ?_) | (go_at_call 20; (with_reducible refine (box_0001.calls _).mono ?_); rintro e w2 ⟨rfl, hb⟩) | (refine wpList_store_newrow rfl 25 _ _ rfl (rectc 1073741824 2147483647 0 1073741823) rfl rfl infoRect (rect_all _ _ _ _) rfl ?_))
  clear A1
  replace B0 := (B0.trans (hb.mono B0.size)).alloc (Nat.le_trans B0.size hb.size) (.cells (rectc 1073741824 2147483647 0 1073741823) 25)
  have A2 := Blk.new w2 (rectc 1073741824 2147483647 0 1073741823) 25
  clear hb
  generalize w2.heap.size = g2 at *
  generalize w2.alloc _ = W2 at *
  go_upto_region 4 with (first | (refine p_loadR rfl _ rfl _ rfl _ _ _ _ (by first | with_reducible exact A2) ?_) | (go_at_call 11; (with_reducible refine (least_12'.calls _).mono ?_); rintro e w3 ⟨rfl, hb⟩))
  replace A2 := A2.below hb A2.lt
  replace B0 := B0.trans (hb.mono B0.size)
  clear hb
  go_wp2_with (first | (go_at_call 14; (with_reducible refine (weave_31'.calls _).mono ?_); rintro e w4 ⟨rfl, hb⟩; replace A2 := A2.below hb A2.lt; replace B0 := B0.trans (hb.mono B0.size); clear hb) | (go_at_call 16; (with_reducible refine (is_0001.calls _).mono ?_); rintro e w5 ⟨rfl, hb⟩; replace A2 := A2.below hb A2.lt; replace B0 := B0.trans (hb.mono B0.size); clear hb) | (go_at_call 16; (with_reducible refine (is_1.calls _).mono ?_); rintro e w6 ⟨rfl, hb⟩; replace A2 := A2.below hb A2.lt; replace B0 := B0.trans (hb.mono B0.size); clear hb) | (go_guarded; refine o_loadR _ rfl _ rfl _ _ _ _ (by first | with_reducible exact A2) ?_; simp only [Act.put, List.setIfInBounds_toArray, List.set_cons_succ, List.set_cons_zero]) | (go_guarded; refine o_eqlR _ _ rfl ⟨1073741824, 2147483647, 0, 1073741823⟩ ⟨1073741824, 2147483647, 0, 1073741823⟩ rfl rfl (eqR_self _) ?_; simp only [Act.put, List.setIfInBounds_toArray, List.set_cons_succ, List.set_cons_zero]))
  go_ret
  exact ⟨rfl, B0⟩
end Go.Proofs.Ytdhcilnkimmblaa
