/- MortonDoes: for every point, key and rectangle the call returns true: the program and the document tell the same key, point, whether a rectangle is right and has the key, and the least key not below one. No condition. -/
import Derived.Test.YtdhcilnkimmblaaMorKit
import Derived.Test.YtdhcilnkimmblaaMorOpen
import Derived.Test.YtdhcilnkimmblaaOwn
namespace Go.Proofs.Ytdhcilnkimmblaa.MorDoesLaw
open Go.ChangeShapes Go.WideShapes Go.ChangeAt Go.RowKit Go.Sort
set_option linter.unusedVariables false

set_option maxRecDepth 100000 in
set_option maxHeartbeats 4000000 in
theorem core (x y z a b c d p q v k : Nat) (o r1 r2 : Bool) (w : World)
    (h1 : Gives Try.prog 9 #[.int .u64 (z : Int)] (.tuple #[.int .u32 (p : Int), .int .u32 (q : Int)]))
    (h2 : Gives Try.prog 10 #[.int .u64 (z : Int)] (.tuple #[.int .u32 (p : Int), .int .u32 (q : Int)]))
    (h3 : Gives Try.prog 11 #[.agg (rectc a b c d), .int .u64 (z : Int)] (.tuple #[.int .u64 (v : Int), .bool o]))
    (h4 : Gives Try.prog 12 #[.agg (rectc a b c d), .int .u64 (z : Int)] (.tuple #[.int .u64 (v : Int), .bool o]))
    (h5 : Gives Try.prog 14 #[.int .u32 (x : Int), .int .u32 (y : Int)] (.int .u64 (k : Int)))
    (h6 : Gives Try.prog 15 #[.int .u32 (x : Int), .int .u32 (y : Int)] (.int .u64 (k : Int)))
    (h7 : Gives Try.prog 16 #[.agg (rectc a b c d)] (.bool r1))
    (h8 : Gives Try.prog 17 #[.agg (rectc a b c d)] (.bool r1))
    (h9 : Gives Try.prog 18 #[.agg (rectc a b c d), .int .u64 (z : Int)] (.bool r2))
    (h10 : Gives Try.prog 19 #[.agg (rectc a b c d), .int .u64 (z : Int)] (.bool r2))
    (h11 : Gives Try.prog 13 #[] (.bool true)) :
    Calls Try.prog 3 #[.int .u32 (x : Int), .int .u32 (y : Int), .int .u64 (z : Int), .agg (rectc a b c d)] w fun e w' => e = .returned (.bool true) ∧ Below w.heap.size w w' := by
  go_enter Try.func3, Try.ntmps3
  go_upto_region 1 with (fail)
  have R0 := Blk.new w (rectc a b c d) 25
  have B0 := ((Below.refl w.heap.size w).alloc (Nat.le_refl _) (.cells (rectc a b c d) 25))
  generalize World.alloc _ _ = W0 at *
  go_upto_region 2 with (first | (refine p_loadR rfl _ rfl _ rfl _ _ _ _ (by first | with_reducible exact R0) ?_) | (go_at_call 9; (with_reducible refine (h1.calls _).mono ?_); rintro e w1 ⟨rfl, hb⟩))
  replace R0 := R0.below hb R0.lt
  replace B0 := B0.trans (hb.mono B0.size)
  clear hb
  go_upto_region 3 with (first | (refine p_loadR rfl _ rfl _ rfl _ _ _ _ (by first | with_reducible exact R0) ?_) | (go_at_call 10; (with_reducible refine (h2.calls _).mono ?_); rintro e w2 ⟨rfl, hb⟩))
  replace R0 := R0.below hb R0.lt
  replace B0 := B0.trans (hb.mono B0.size)
  clear hb
  go_upto_region 4 with (first | (refine p_loadR rfl _ rfl _ rfl _ _ _ _ (by first | with_reducible exact R0) ?_) | (go_at_call 11; (with_reducible refine (h3.calls _).mono ?_); rintro e w3 ⟨rfl, hb⟩))
  replace R0 := R0.below hb R0.lt
  replace B0 := B0.trans (hb.mono B0.size)
  clear hb
  go_upto_region 5 with (first | (refine p_loadR rfl _ rfl _ rfl _ _ _ _ (by first | with_reducible exact R0) ?_) | (go_at_call 12; (with_reducible refine (h4.calls _).mono ?_); rintro e w4 ⟨rfl, hb⟩))
  replace R0 := R0.below hb R0.lt
  replace B0 := B0.trans (hb.mono B0.size)
  clear hb
  refine wp_region_quiet_below (by kernel_rfl) (by kernel_rfl) ?_
  repeat (first
    | go_big_quiet_skip
    | (go_big_quiet_want
       first
       | (first | refine q_loadR _ rfl _ rfl _ _ _ _ (by first | with_reducible exact R0) ?_
          simp only [Act.put, List.setIfInBounds_toArray, List.set_cons_succ, List.set_cons_zero]
          go_big_quiet_on)
       | (go_big_quiet_op
          first | go_big_quiet_on | go_big_quiet_call (first | with_reducible exact h5.grown _ _ | with_reducible exact h6.grown _ _ | with_reducible exact h7.grown _ _ | with_reducible exact h8.grown _ _ | with_reducible exact h9.grown _ _ | with_reducible exact h10.grown _ _ | with_reducible exact h11.grown _ _))))
  refine wpQuiet_nil ?_
  intro _ hw'
  obtain ⟨⟨dq, osq⟩, hw''⟩ := hw'
  subst hw''
  replace B0 := B0.trans ((below_regrown _ dq osq).mono B0.size)
  clear R0
  go_wp2
  go_ret
  exact ⟨rfl, B0⟩

theorem walk (x : Nat) (hx : x < 4294967296) (y : Nat) (hy : y < 4294967296) (z : Nat) (hz : z < 18446744073709551616) (a b c d : Nat) (hr : a < 4294967296 ∧ b < 4294967296 ∧ c < 4294967296 ∧ d < 4294967296) (w : World) :
    Calls Try.prog 3 #[.int .u32 (x : Int), .int .u32 (y : Int), .int .u64 (z : Int), .agg (rectc a b c d)] w fun e w' => e = .returned (.bool true) ∧ Below w.heap.size w w' := by
  obtain ⟨v, o, hl⟩ := LeastAt.exists (fun u => insideB a b c d u = true) z
  exact core x y z a b c d _ _ v _ o _ _ w (fun w => calls_below (apart_any z w hz)) (fun w => calls_below (refApart_any z w hz)) (least_any hr.2.1 hr.2.2.2 hz hl) (refLeast_any hz hl)
    (fun w => calls_below (weave_any x y w hx hy)) (fun w => (refWeave_any x y w hx hy).mono fun _ _ ⟨he, n, hn⟩ => ⟨he, hn ▸ bel_drewN (Below.refl _ _) n⟩) (isM_any a b c d) (refIs4_any a b c d) (inside_any a b c d z hz) (refInside_any a b c d z hz) woven_all

set_option maxRecDepth 100000 in
theorem lifted (os : Os) (started : os.Started) (H : Type) (enc : TypeId × Value → H) :
    ReturnsInHanded {} Try.checked os 3 .any (Rows.mortonDoesSpec.pre6 enc Try.prog Try.f3 Rows.mortonDoesRow.domain false) (Rows.mortonDoesSpec.post enc Try.prog Try.f3 false true false false) := by
  refine returnsInHanded_of_change (C := Try.checked) own started (by kernel_rfl) Try.func3
    (ChangeSpec.witness6 (enc := enc) (C := Try.checked) false ⟨#[], #[.int .u32 0, .int .u32 0, .int .u64 0, .agg #[.int .u32 0, .int .u32 0, .int .u32 0, .int .u32 0]], []⟩ 8 (by kernel_rfl) (by kernel_rfl) (by kernel_rfl) (by kernel_rfl)) ?_
  intro W base args ds gs before hval0 hW hcnd _
  have hval : ∀ (j : Nat) t v, Try.f3.params[j]? = some t → args[j]? = some v → Value.okWide Try.prog W .any base t v := hval0
  have hW' := hW
  obtain ⟨p, q, hA0, hV, rfl, hfz, hnd⟩ := hW
  have hA : DataW.TrodAll enc Try.prog W 0 (fun _ => true) true Try.f3.params.toList args.toList ds p := hA0
  rw [Try.params3] at hA hval
  obtain ⟨v0, vs0, d0, ds0, p0, q0, hargs, rfl, rfl, h0, r0⟩ := trodAll_cons hA
  obtain ⟨v1, vs1, d1, ds1, p1, q1, rfl, rfl, rfl, h1, r1⟩ := trodAll_cons r0
  obtain ⟨v2, vs2, d2, ds2, p2, q2, rfl, rfl, rfl, h2, r2⟩ := trodAll_cons r1
  obtain ⟨v3, vs3, d3, ds3, p3, q3, rfl, rfl, rfl, h3, r3⟩ := trodAll_cons r2
  obtain ⟨rfl, rfl, rfl⟩ := trodAll_nil r3
  obtain rfl : args = #[v0, v1, v2, v3] := by cases args; simp_all
  obtain ⟨rfl, rfl⟩ := trodVars_none hV
  have k0 := h0
  have lt0 : ∀ x ∈ p0, x.block < W.heap.size := by obtain ⟨m, hm⟩ := k0; exact DataW.trod_lt m _ _ _ hm
  obtain ⟨n0, ok0, rfl⟩ := open_u32 (hval 0 22 v0 rfl rfl) h0
  have k1 := h1
  have lt1 : ∀ x ∈ p1, x.block < W.heap.size := by obtain ⟨m, hm⟩ := k1; exact DataW.trod_lt m _ _ _ hm
  obtain ⟨n1, ok1, rfl⟩ := open_u32 (hval 1 22 v1 rfl rfl) h1
  have k2 := h2
  have lt2 : ∀ x ∈ p2, x.block < W.heap.size := by obtain ⟨m, hm⟩ := k2; exact DataW.trod_lt m _ _ _ hm
  obtain ⟨n2, ok2, rfl⟩ := open_u64 (hval 2 23 v2 rfl rfl) h2
  have k3 := h3
  have lt3 : ∀ x ∈ p3, x.block < W.heap.size := by obtain ⟨m, hm⟩ := k3; exact DataW.trod_lt m _ _ _ hm
  obtain ⟨x3, x3_, y3, y3_, ok3, rfl⟩ := open_rect (hval 3 25 v3 rfl rfl) h3
  clear hA0 hval0
  refine (walk n0 ok0 n1 ok1 n2 ok2 x3 x3_ y3 y3_ ok3 W ).mono fun e W' ⟨he, bel⟩ => ?_
  subst he
  exact ⟨_, rfl, _, _, _, [], _, [], hW', trodAll_mk1 (shut_bool Try.underlying4 _), (trodAll_cons_mk (Below.trod laidOut (by kernel_rfl) (of_decide_eq_true (by kernel_rfl)) k0 bel lt0) (trodAll_cons_mk (Below.trod laidOut (by kernel_rfl) (of_decide_eq_true (by kernel_rfl)) k1 bel lt1) (trodAll_cons_mk (Below.trod laidOut (by kernel_rfl) (of_decide_eq_true (by kernel_rfl)) k2 bel lt2) (trodAll_cons_mk (Below.trod laidOut (by kernel_rfl) (of_decide_eq_true (by kernel_rfl)) k3 bel lt3) trodAll_mk0)))), rfl, bel.frame _, fun h => by cases h⟩

theorem proved : Rows.MortonDoesSaid :=
  OpenClaim.holds_of_wide 3 Try.f3 rfl rfl rfl rfl rfl rfl rfl ⟨rfl, rfl, rfl, rfl, rfl⟩ rfl rfl rfl rfl rfl (by kernel_rfl) Try.func3 (by kernel_rfl)
    (of_decide_eq_true (by kernel_rfl)) (by unfold Func.isWrapper; first | (rw [if_pos (by decide +kernel)]; kernel_rfl) | (rw [if_neg (by decide +kernel)]; exact ⟨rfl, rfl⟩))
    (fun os started H enc _ => lifted os started H enc)
end Go.Proofs.Ytdhcilnkimmblaa.MorDoesLaw
