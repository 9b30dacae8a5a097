/- MortonLeast: for every rectangle and two keys the call returns true: the least key that is told is in the rectangle and not below the one asked for, and no key between both is; if there is none, none is. No condition. -/
import Derived.Test.YtdhcilnkimmblaaMorKit
import Derived.Test.YtdhcilnkimmblaaMorOpen
import Derived.Test.YtdhcilnkimmblaaOwn
namespace Go.Proofs.Ytdhcilnkimmblaa.MorLeastLaw
open Go.ChangeShapes Go.WideShapes Go.ChangeAt Go.RowKit Go.Sort
set_option linter.unusedVariables false

set_option maxRecDepth 100000 in
set_option maxHeartbeats 4000000 in
theorem isNone (a b c d z x top : Nat) (r i : Bool) (w : World)
    (h1 : Gives Try.prog 11 #[.agg (rectc a b c d), .int .u64 (z : Int)] (.tuple #[.int .u64 0, .bool false]))
    (h2 : Gives Try.prog 14 #[.int .u32 (b : Int), .int .u32 (d : Int)] (.int .u64 (top : Int)))
    (h3 : Gives Try.prog 16 #[.agg (rectc a b c d)] (.bool r))
    (h4 : Gives Try.prog 18 #[.agg (rectc a b c d), .int .u64 (x : Int)] (.bool i))
    (g1 : r = false ∨ (r = true ∧ top < z)) (g2 : ¬ z ≤ x ∨ (z ≤ x ∧ i = false)) : Calls Try.prog 7 #[.agg (rectc a b c d), .int .u64 (z : Int), .int .u64 (x : Int)] w fun e w' => e = .returned (.bool true) ∧ Below w.heap.size w w' := by
  rcases g1 with rfl | ⟨rfl, g1⟩ <;> rcases g2 with g2 | ⟨g2, rfl⟩
  all_goals
    go_enter Try.func7, Try.ntmps7
    go_upto_region 1 with (fail)
    have R0 := Blk.new w (rectc a b c d) 25
    have B0 := ((Below.refl w.heap.size w).alloc (Nat.le_refl _) (.cells (rectc a b c d) 25))
    generalize World.alloc _ _ = W0 at *
    go_upto_region 2 with (first | (refine p_loadR rfl _ rfl _ rfl _ _ _ _ (by first | with_reducible exact R0) ?_) | (go_at_call 11; (with_reducible refine (h1.calls _).mono ?_); rintro e w1 ⟨rfl, hb⟩))
    replace R0 := R0.below hb R0.lt
    replace B0 := B0.trans (hb.mono B0.size)
    clear hb
    have d1 := rect1 R0
    have d3 := rect3 R0
    go_upto_region 4 with (first | (go_at_call 14; (with_reducible refine (h2.calls _).mono ?_); rintro e w2 ⟨rfl, hb⟩; replace R0 := R0.below hb R0.lt; replace B0 := B0.trans (hb.mono B0.size); clear hb; clear d1 d3) | (go_guarded; refine o_loadR _ rfl _ rfl _ _ _ _ (by first | with_reducible exact R0) ?_; simp only [Act.put, List.setIfInBounds_toArray, List.set_cons_succ, List.set_cons_zero]))
    go_wp2_with (first | (go_at_call 13; (with_reducible refine (woven_all.calls _).mono ?_); rintro e w3 ⟨rfl, hb⟩; replace R0 := R0.below hb R0.lt; replace B0 := B0.trans (hb.mono B0.size); clear hb) | (go_at_call 16; (with_reducible refine (h3.calls _).mono ?_); rintro e w4 ⟨rfl, hb⟩; replace R0 := R0.below hb R0.lt; replace B0 := B0.trans (hb.mono B0.size); clear hb) | (go_at_call 18; (with_reducible refine (h4.calls _).mono ?_); rintro e w5 ⟨rfl, hb⟩; replace R0 := R0.below hb R0.lt; replace B0 := B0.trans (hb.mono B0.size); clear hb) | (go_guarded; refine o_loadR _ rfl _ rfl _ _ _ _ (by first | with_reducible exact R0) ?_; simp only [Act.put, List.setIfInBounds_toArray, List.set_cons_succ, List.set_cons_zero]))
    go_ret
    exact ⟨rfl, B0⟩

set_option maxRecDepth 100000 in
set_option maxHeartbeats 4000000 in
theorem isSome (a b c d z x v : Nat) (i iz : Bool) (w : World)
    (h1 : Gives Try.prog 11 #[.agg (rectc a b c d), .int .u64 (z : Int)] (.tuple #[.int .u64 (v : Int), .bool true]))
    (h2 : Gives Try.prog 18 #[.agg (rectc a b c d), .int .u64 (v : Int)] (.bool true))
    (h3 : Gives Try.prog 18 #[.agg (rectc a b c d), .int .u64 (z : Int)] (.bool iz))
    (h4 : Gives Try.prog 18 #[.agg (rectc a b c d), .int .u64 (x : Int)] (.bool i))
    (g0 : ¬ v < z) (g1 : ¬ z ≤ x ∨ (z ≤ x ∧ ¬ x < v) ∨ (z ≤ x ∧ x < v ∧ i = false)) (g2 : (iz = true ∧ ((v : Int) == (z : Int)) = true) ∨ (iz = false ∧ ((v : Int) == (z : Int)) = false)) : Calls Try.prog 7 #[.agg (rectc a b c d), .int .u64 (z : Int), .int .u64 (x : Int)] w fun e w' => e = .returned (.bool true) ∧ Below w.heap.size w w' := by
  rcases g1 with g1 | ⟨g1, g3⟩ | ⟨g1, g3, rfl⟩ <;> rcases g2 with ⟨rfl, g2⟩ | ⟨rfl, g2⟩
  all_goals
    go_enter Try.func7, Try.ntmps7
    go_upto_region 1 with (fail)
    have R0 := Blk.new w (rectc a b c d) 25
    have B0 := ((Below.refl w.heap.size w).alloc (Nat.le_refl _) (.cells (rectc a b c d) 25))
    generalize World.alloc _ _ = W0 at *
    go_upto_region 2 with (first | (refine p_loadR rfl _ rfl _ rfl _ _ _ _ (by first | with_reducible exact R0) ?_) | (go_at_call 11; (with_reducible refine (h1.calls _).mono ?_); rintro e w1 ⟨rfl, hb⟩))
    replace R0 := R0.below hb R0.lt
    replace B0 := B0.trans (hb.mono B0.size)
    clear hb
    go_upto_region 7 with (first | (go_at_call 18; (with_reducible refine (h2.calls _).mono ?_); rintro e w2 ⟨rfl, hb⟩; replace R0 := R0.below hb R0.lt; replace B0 := B0.trans (hb.mono B0.size); clear hb) | (go_at_call 18; (with_reducible refine (h4.calls _).mono ?_); rintro e w3 ⟨rfl, hb⟩; replace R0 := R0.below hb R0.lt; replace B0 := B0.trans (hb.mono B0.size); clear hb) | (go_guarded; refine o_loadR _ rfl _ rfl _ _ _ _ (by first | with_reducible exact R0) ?_; simp only [Act.put, List.setIfInBounds_toArray, List.set_cons_succ, List.set_cons_zero]))
    go_wp2_with (first | (go_at_call 13; (with_reducible refine (woven_all.calls _).mono ?_); rintro e w4 ⟨rfl, hb⟩; replace R0 := R0.below hb R0.lt; replace B0 := B0.trans (hb.mono B0.size); clear hb) | (go_at_call 18; (with_reducible refine (h3.calls _).mono ?_); rintro e w5 ⟨rfl, hb⟩; replace R0 := R0.below hb R0.lt; replace B0 := B0.trans (hb.mono B0.size); clear hb) | (go_guarded; refine o_loadR _ rfl _ rfl _ _ _ _ (by first | with_reducible exact R0) ?_; simp only [Act.put, List.setIfInBounds_toArray, List.set_cons_succ, List.set_cons_zero]))
    go_ret
    exact ⟨rfl, B0⟩

theorem walk (a b c d : Nat) (hr : a < 4294967296 ∧ b < 4294967296 ∧ c < 4294967296 ∧ d < 4294967296) (z : Nat) (hz : z < 18446744073709551616) (x : Nat) (hx : x < 18446744073709551616) (w : World) : Calls Try.prog 7 #[.agg (rectc a b c d), .int .u64 (z : Int), .int .u64 (x : Int)] w fun e w' => e = .returned (.bool true) ∧ Below w.heap.size w w' := by
  obtain ⟨v, o, hl⟩ := LeastAt.exists (fun u => insideB a b c d u = true) z
  have h1 := least_any hr.2.1 hr.2.2.2 hz hl
  have h4 := inside_any a b c d x hx
  rcases hl with ⟨rfl, ⟨l1, l2⟩, l3, l4⟩ | ⟨rfl, rfl, l4⟩
  · have h2 := inside_any a b c d v l2
    have h3 := inside_any a b c d z hz
    rw [l3] at h2
    refine isSome a b c d z x v _ _ w h1 h2 h3 h4 (by omega) ?_ ?_
    · by_cases hzx : z ≤ x
      · by_cases hxv : x < v
        · refine .inr (.inr ⟨hzx, hxv, ?_⟩)
          cases hi : insideB a b c d x
          · rfl
          · have := l4 x hx hi hzx; omega
        · exact .inr (.inl ⟨hzx, hxv⟩)
      · exact .inl hzx
    · cases hi : insideB a b c d z
      · refine .inr ⟨rfl, ?_⟩
        rw [beq_eq_false_iff_ne]
        intro e
        have e' : v = z := by omega
        rw [e', hi] at l3
        cases l3
      · refine .inl ⟨rfl, ?_⟩
        rw [beq_iff_eq]
        have := l4 z hz hi (Nat.le_refl _)
        omega
  · refine isNone a b c d z x _ _ _ w h1 (fun w => calls_below (weave_any b d w hr.2.1 hr.2.2.2)) (isM_any a b c d) h4 ?_ ?_
    · cases hi : isR a b c d
      · exact .inl rfl
      · have := isR_iff.1 hi
        exact .inr ⟨rfl, l4 _ (wvZ_lt b d) (insideB_iff.2 (by rw [evX_wvZ hr.2.1, odY_wvZ hr.2.2.2]; omega))⟩
    · by_cases hzx : z ≤ x
      · refine .inr ⟨hzx, ?_⟩
        cases hi : insideB a b c d x
        · rfl
        · have := l4 x hx hi; omega
      · exact .inl hzx

set_option maxRecDepth 100000 in
theorem lifted (os : Os) (started : os.Started) (H : Type) (enc : TypeId × Value → H) :
    ReturnsInHanded {} Try.checked os 7 .any (Rows.mortonLeastSpec.pre6 enc Try.prog Try.f7 Rows.mortonLeastRow.domain false) (Rows.mortonLeastSpec.post enc Try.prog Try.f7 false true false false) := by
  refine returnsInHanded_of_change (C := Try.checked) own started (by kernel_rfl) Try.func7
    (ChangeSpec.witness6 (enc := enc) (C := Try.checked) false ⟨#[], #[.agg #[.int .u32 0, .int .u32 0, .int .u32 0, .int .u32 0], .int .u64 0, .int .u64 0], []⟩ 8 (by kernel_rfl) (by kernel_rfl) (by kernel_rfl) (by kernel_rfl)) ?_
  intro W base args ds gs before hval0 hW hcnd _
  have hval : ∀ (j : Nat) t v, Try.f7.params[j]? = some t → args[j]? = some v → Value.okWide Try.prog W .any base t v := hval0
  have hW' := hW
  obtain ⟨p, q, hA0, hV, rfl, hfz, hnd⟩ := hW
  have hA : DataW.TrodAll enc Try.prog W 0 (fun _ => true) true Try.f7.params.toList args.toList ds p := hA0
  rw [Try.params7] at hA hval
  obtain ⟨v0, vs0, d0, ds0, p0, q0, hargs, rfl, rfl, h0, r0⟩ := trodAll_cons hA
  obtain ⟨v1, vs1, d1, ds1, p1, q1, rfl, rfl, rfl, h1, r1⟩ := trodAll_cons r0
  obtain ⟨v2, vs2, d2, ds2, p2, q2, rfl, rfl, rfl, h2, r2⟩ := trodAll_cons r1
  obtain ⟨rfl, rfl, rfl⟩ := trodAll_nil r2
  obtain rfl : args = #[v0, v1, v2] := by cases args; simp_all
  obtain ⟨rfl, rfl⟩ := trodVars_none hV
  have k0 := h0
  have lt0 : ∀ x ∈ p0, x.block < W.heap.size := by obtain ⟨m, hm⟩ := k0; exact DataW.trod_lt m _ _ _ hm
  obtain ⟨x0, x0_, y0, y0_, ok0, rfl⟩ := open_rect (hval 0 25 v0 rfl rfl) h0
  have k1 := h1
  have lt1 : ∀ x ∈ p1, x.block < W.heap.size := by obtain ⟨m, hm⟩ := k1; exact DataW.trod_lt m _ _ _ hm
  obtain ⟨n1, ok1, rfl⟩ := open_u64 (hval 1 23 v1 rfl rfl) h1
  have k2 := h2
  have lt2 : ∀ x ∈ p2, x.block < W.heap.size := by obtain ⟨m, hm⟩ := k2; exact DataW.trod_lt m _ _ _ hm
  obtain ⟨n2, ok2, rfl⟩ := open_u64 (hval 2 23 v2 rfl rfl) h2
  clear hA0 hval0
  refine (walk x0 x0_ y0 y0_ ok0 n1 ok1 n2 ok2 W ).mono fun e W' ⟨he, bel⟩ => ?_
  subst he
  exact ⟨_, rfl, _, _, _, [], _, [], hW', trodAll_mk1 (shut_bool Try.underlying4 _), (trodAll_cons_mk (Below.trod laidOut (by kernel_rfl) (of_decide_eq_true (by kernel_rfl)) k0 bel lt0) (trodAll_cons_mk (Below.trod laidOut (by kernel_rfl) (of_decide_eq_true (by kernel_rfl)) k1 bel lt1) (trodAll_cons_mk (Below.trod laidOut (by kernel_rfl) (of_decide_eq_true (by kernel_rfl)) k2 bel lt2) trodAll_mk0))), rfl, bel.frame _, fun h => by cases h⟩

theorem proved : Rows.MortonLeastSaid :=
  OpenClaim.holds_of_wide 7 Try.f7 rfl rfl rfl rfl rfl rfl rfl ⟨rfl, rfl, rfl, rfl, rfl⟩ rfl rfl rfl rfl rfl (by kernel_rfl) Try.func7 (by kernel_rfl)
    (of_decide_eq_true (by kernel_rfl)) (by unfold Func.isWrapper; first | (rw [if_pos (by decide +kernel)]; kernel_rfl) | (rw [if_neg (by decide +kernel)]; exact ⟨rfl, rfl⟩))
    (fun os started H enc _ => lifted os started H enc)
end Go.Proofs.Ytdhcilnkimmblaa.MorLeastLaw
