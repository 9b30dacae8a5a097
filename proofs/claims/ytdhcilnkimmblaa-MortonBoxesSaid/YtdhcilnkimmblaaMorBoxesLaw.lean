/- MortonBoxes: for every label and rectangle the call returns true: the program and the document tell the same box, and whether it meets the rectangle, and is held by it. No condition. -/
import Derived.Test.YtdhcilnkimmblaaMorKit
import Derived.Test.YtdhcilnkimmblaaMorOpen
import Derived.Test.YtdhcilnkimmblaaOwn
namespace Go.Proofs.Ytdhcilnkimmblaa.MorBoxesLaw
open Go.ChangeShapes Go.WideShapes Go.ChangeAt Go.RowKit Go.Sort
set_option linter.unusedVariables false

set_option maxRecDepth 100000 in
set_option maxHeartbeats 4000000 in
theorem core (n : Int) (s a b c d p q r t : Nat) (e : Int) (m o : Bool) (w : World)
    (h1 : Gives Try.prog 20 #[.agg (labc n s)] (.tuple #[.agg (rectc p q r t), .int .i64 e]))
    (h2 : Gives Try.prog 21 #[.agg (labc n s)] (.tuple #[.agg (rectc p q r t), .int .i64 e]))
    (h3 : Gives Try.prog 22 #[.agg (rectc a b c d), .agg (labc n s)] (.bool m))
    (h4 : Gives Try.prog 23 #[.agg (rectc a b c d), .agg (labc n s)] (.bool m))
    (h5 : Gives Try.prog 24 #[.agg (rectc a b c d), .agg (labc n s)] (.bool o))
    (h6 : Gives Try.prog 25 #[.agg (rectc a b c d), .agg (labc n s)] (.bool o))
    (h7 : Gives Try.prog 13 #[] (.bool true)) :
    Calls Try.prog 4 #[.agg (labc n s), .agg (rectc a b c d)] w fun e w' => e = .returned (.bool true) ∧ Below w.heap.size w w' := by
  go_enter Try.func4, Try.ntmps4
  go_upto_region 1 with (fail)
  have L0 := (Blk.new w (labc n s) 36).alloc (.cells (rectc a b c d) 25)
  have R0 := Blk.new (w.alloc (.cells (labc n s) 36)) (rectc a b c d) 25
  have B0 := (((Below.refl w.heap.size w).alloc (Nat.le_refl _) (.cells (labc n s) 36)).alloc (by simp) (.cells (rectc a b c d) 25))
  simp only [World.size_alloc] at L0 R0 B0
  generalize World.alloc _ _ = W0 at *
  go_upto_region 2 with (first | (refine p_loadL rfl _ rfl _ rfl _ _ (by first | with_reducible exact L0) ?_) | (refine p_loadR rfl _ rfl _ rfl _ _ _ _ (by first | with_reducible exact R0) ?_) | (go_at_call 20; (with_reducible refine (h1.calls _).mono ?_); rintro e w1 ⟨rfl, hb⟩) | (refine wpList_store_newrow rfl 25 _ _ rfl (rectc p q r t) rfl rfl infoRect (rect_all _ _ _ _) rfl ?_))
  replace L0 := (L0.below hb L0.lt).alloc (.cells (rectc p q r t) 25)
  replace R0 := (R0.below hb R0.lt).alloc (.cells (rectc p q r t) 25)
  replace B0 := (B0.trans (hb.mono B0.size)).alloc (Nat.le_trans B0.size hb.size) (.cells (rectc p q r t) 25)
  have A1 := Blk.new w1 (rectc p q r t) 25
  clear hb
  generalize w1.heap.size = g1 at *
  generalize w1.alloc _ = W1 at *
  go_upto_region 3 with (first | (refine p_loadL rfl _ rfl _ rfl _ _ (by first | with_reducible exact L0) ?_) | (refine p_loadR rfl _ rfl _ rfl _ _ _ _ (by first | with_reducible exact R0 | with_reducible exact A1) ?_) | (go_at_call 21; (with_reducible refine (h2.calls _).mono ?_); rintro e w2 ⟨rfl, hb⟩) | (refine wpList_store_newrow rfl 25 _ _ rfl (rectc p q r t) rfl rfl infoRect (rect_all _ _ _ _) rfl ?_))
  replace L0 := (L0.below hb L0.lt).alloc (.cells (rectc p q r t) 25)
  replace R0 := (R0.below hb R0.lt).alloc (.cells (rectc p q r t) 25)
  replace A1 := (A1.below hb A1.lt).alloc (.cells (rectc p q r t) 25)
  replace B0 := (B0.trans (hb.mono B0.size)).alloc (Nat.le_trans B0.size hb.size) (.cells (rectc p q r t) 25)
  have A2 := Blk.new w2 (rectc p q r t) 25
  clear hb
  generalize w2.heap.size = g2 at *
  generalize w2.alloc _ = W2 at *
  refine wp_region_quiet_below (by kernel_rfl) (by kernel_rfl) ?_
  repeat (first
    | go_big_quiet_skip
    | (go_big_quiet_want
       first
       | (first | refine q_loadL _ rfl _ rfl _ _ (by first | with_reducible exact L0) ?_ | refine q_loadR _ rfl _ rfl _ _ _ _ (by first | with_reducible exact R0 | with_reducible exact A1 | with_reducible exact A2) ?_ | refine q_eqlR _ _ rfl ⟨p, q, r, t⟩ ⟨p, q, r, t⟩ rfl rfl (eqR_self _) ?_
          simp only [Act.put, List.setIfInBounds_toArray, List.set_cons_succ, List.set_cons_zero]
          go_big_quiet_on)
       | (go_big_quiet_op
          first | go_big_quiet_on | go_big_quiet_call (first | with_reducible exact h3.grown _ _ | with_reducible exact h4.grown _ _ | with_reducible exact h5.grown _ _ | with_reducible exact h6.grown _ _ | with_reducible exact h7.grown _ _))))
  refine wpQuiet_nil ?_
  intro _ hw'
  obtain ⟨⟨dq, osq⟩, hw''⟩ := hw'
  subst hw''
  replace B0 := B0.trans ((below_regrown _ dq osq).mono B0.size)
  clear L0
  clear R0
  clear A1
  clear A2
  go_wp2
  go_ret
  exact ⟨rfl, B0⟩

theorem walk (n : Int) (s : Nat) (o : (-9223372036854775808 ≤ n ∧ n ≤ 9223372036854775807) ∧ s < 18446744073709551616) (a b c d : Nat) (_ : a < 4294967296 ∧ b < 4294967296 ∧ c < 4294967296 ∧ d < 4294967296) (w : World) :
    Calls Try.prog 4 #[labv n s, .agg (rectc a b c d)] w fun e w' => e = .returned (.bool true) ∧ Below w.heap.size w w' := by
  obtain ⟨⟨h1, h2⟩, hs⟩ := o
  obtain ⟨p, q, r, t, e, m, o, g1, g2, g3, g4, g5, g6⟩ := both_box n s a b c d h1 h2 hs
  exact core n s a b c d p q r t e m o w g1 g2 g3 g4 g5 g6 woven_all

set_option maxRecDepth 100000 in
theorem lifted (os : Os) (started : os.Started) (H : Type) (enc : TypeId × Value → H) :
    ReturnsInHanded {} Try.checked os 4 .any (Rows.mortonBoxesSpec.pre6 enc Try.prog Try.f4 Rows.mortonBoxesRow.domain false) (Rows.mortonBoxesSpec.post enc Try.prog Try.f4 false true false false) := by
  refine returnsInHanded_of_change (C := Try.checked) own started (by kernel_rfl) Try.func4
    (ChangeSpec.witness6 (enc := enc) (C := Try.checked) false ⟨#[], #[.agg #[.int .i64 0, .int .u64 0], .agg #[.int .u32 0, .int .u32 0, .int .u32 0, .int .u32 0]], []⟩ 8 (by kernel_rfl) (by kernel_rfl) (by kernel_rfl) (by kernel_rfl)) ?_
  intro W base args ds gs before hval0 hW hcnd _
  have hval : ∀ (j : Nat) t v, Try.f4.params[j]? = some t → args[j]? = some v → Value.okWide Try.prog W .any base t v := hval0
  have hW' := hW
  obtain ⟨p, q, hA0, hV, rfl, hfz, hnd⟩ := hW
  have hA : DataW.TrodAll enc Try.prog W 0 (fun _ => true) true Try.f4.params.toList args.toList ds p := hA0
  rw [Try.params4] at hA hval
  obtain ⟨v0, vs0, d0, ds0, p0, q0, hargs, rfl, rfl, h0, r0⟩ := trodAll_cons hA
  obtain ⟨v1, vs1, d1, ds1, p1, q1, rfl, rfl, rfl, h1, r1⟩ := trodAll_cons r0
  obtain ⟨rfl, rfl, rfl⟩ := trodAll_nil r1
  obtain rfl : args = #[v0, v1] := by cases args; simp_all
  obtain ⟨rfl, rfl⟩ := trodVars_none hV
  have k0 := h0
  have lt0 : ∀ x ∈ p0, x.block < W.heap.size := by obtain ⟨m, hm⟩ := k0; exact DataW.trod_lt m _ _ _ hm
  obtain ⟨n0, b0, ok0, rfl⟩ := open_label (hval 0 36 v0 rfl rfl) h0
  have k1 := h1
  have lt1 : ∀ x ∈ p1, x.block < W.heap.size := by obtain ⟨m, hm⟩ := k1; exact DataW.trod_lt m _ _ _ hm
  obtain ⟨x1, x1_, y1, y1_, ok1, rfl⟩ := open_rect (hval 1 25 v1 rfl rfl) h1
  clear hA0 hval0
  refine (walk n0 b0 ok0 x1 x1_ y1 y1_ ok1 W ).mono fun e W' ⟨he, bel⟩ => ?_
  subst he
  exact ⟨_, rfl, _, _, _, [], _, [], hW', trodAll_mk1 (shut_bool Try.underlying4 _), (trodAll_cons_mk (Below.trod laidOut (by kernel_rfl) (of_decide_eq_true (by kernel_rfl)) k0 bel lt0) (trodAll_cons_mk (Below.trod laidOut (by kernel_rfl) (of_decide_eq_true (by kernel_rfl)) k1 bel lt1) trodAll_mk0)), rfl, bel.frame _, fun h => by cases h⟩

theorem proved : Rows.MortonBoxesSaid :=
  OpenClaim.holds_of_wide 4 Try.f4 rfl rfl rfl rfl rfl rfl rfl ⟨rfl, rfl, rfl, rfl, rfl⟩ rfl rfl rfl rfl rfl (by kernel_rfl) Try.func4 (by kernel_rfl)
    (of_decide_eq_true (by kernel_rfl)) (by unfold Func.isWrapper; first | (rw [if_pos (by decide +kernel)]; kernel_rfl) | (rw [if_neg (by decide +kernel)]; exact ⟨rfl, rfl⟩))
    (fun os started H enc _ => lifted os started H enc)
end Go.Proofs.Ytdhcilnkimmblaa.MorBoxesLaw
