/- IdentDoes: for every three places and number the call returns true: sum, difference, power, order and arcs are just those of the document's program. No condition. -/
import Derived.Test.YteljhengfeebfaaTurnsLaw
namespace Go.Proofs.Yteljhengfeebfaa.DoesLaw
open Go.ChangeShapes Go.WideShapes Go.ChangeAt Go.RowKit Go.Sort
open Go.ChangeMaps (open_string shut_string)
open ArcsLaw (Tells placed_tells)
open TurnsLaw (Gives)
set_option linter.unusedVariables false


/-- a call that makes a place -/
def Makes (f : FuncId) (args : Array Value) (n : Nat) : Prop := ∀ w : World, Calls Try.prog f args w fun e w' => e = .returned (idv n) ∧ Below w.heap.size w w'
theorem Makes.grown {f : FuncId} {args : Array Value} {n : Nat} (h : Makes f args n) {W : World} (d : Nat) (os : Array Obj) : Calls Try.prog f args (grow (redrawn W d) os) fun e w'' => e = .returned (idv n) ∧ ∃ p : Regrown, w'' = grow (redrawn W p.d) p.os :=
  Calls.regrown_of (h _)

set_option maxHeartbeats 4000000 in
set_option maxRecDepth 100000 in
theorem core (a x b n s m : Nat) (k code : Int) (w : World) (l o h : Bool) (c9 : Gives 9 #[.int .i64 k] n code) (c10 : Gives 10 #[.int .i64 k] n code)
    (c12 : Makes 12 #[idv a, idv b] s) (c13 : Makes 13 #[idv a, idv b] s) (c14 : Makes 14 #[idv a, idv b] m) (c15 : Makes 15 #[idv a, idv b] m)
    (c16 : Tells 16 #[idv a, idv b] l) (c17 : Tells 17 #[idv a, idv b] l) (c18 : Tells 18 #[idv a, idv x, idv b] o) (c19 : Tells 19 #[idv a, idv x, idv b] o) (c20 : Tells 20 #[idv a, idv x, idv b] h) (c21 : Tells 21 #[idv a, idv x, idv b] h) :
    Calls Try.prog 3 #[idv a, idv x, idv b, .int .i64 k] w fun e w' => e = .returned (.bool true) ∧ Below w.heap.size w w' := by
  rw [show idv a = .agg (row (dig 20 a)) from rfl, show idv x = .agg (row (dig 20 x)) from rfl, show idv b = .agg (row (dig 20 b)) from rfl]
  go_enter Try.func3, Try.ntmps3
  go_upto_region 1 with (fail)
  have hm := Mem3.made w a x b
  have B0 := hm.below
  have A1 : At _ w.heap.size a := hm.a
  have A2 : At _ (w.heap.size + 1) x := hm.x
  have A3 : At _ (w.heap.size + 1 + 1) b := hm.b
  clear hm
  generalize ((w.alloc (.cells (row (dig 20 a)) 23)).alloc (.cells (row (dig 20 x)) 23)).alloc (.cells (row (dig 20 b)) 23) = W0 at *
  go_upto_region 2 with (first | (go_at_call 9; with_reducible refine (c9.calls _).mono ?_; rintro e w3 ⟨rfl, hb⟩) | (refine wpList_store_new rfl rfl _ _ rfl _ rfl rfl ?_))
  replace A1 := (A1.below hb).alloc (.cells (row (dig 20 (n))) 23)
  replace A2 := (A2.below hb).alloc (.cells (row (dig 20 (n))) 23)
  replace A3 := (A3.below hb).alloc (.cells (row (dig 20 (n))) 23)
  have A4 := At.new w3 (n)
  replace B0 := B0.trans ((hb.mono B0.size).trans ((Below.refl w.heap.size w3).alloc (Nat.le_trans B0.size hb.size) (.cells (row (dig 20 (n))) 23)))
  clear hb
  generalize w3.heap.size = gw3 at *
  generalize w3.alloc _ = Ww3 at *
  go_upto_region 3 with (first | (go_at_call 10; with_reducible refine (c10.calls _).mono ?_; rintro e w4 ⟨rfl, hb⟩) | (refine wpList_store_new rfl rfl _ _ rfl _ rfl rfl ?_))
  replace A1 := (A1.below hb).alloc (.cells (row (dig 20 (n))) 23)
  replace A2 := (A2.below hb).alloc (.cells (row (dig 20 (n))) 23)
  replace A3 := (A3.below hb).alloc (.cells (row (dig 20 (n))) 23)
  replace A4 := (A4.below hb).alloc (.cells (row (dig 20 (n))) 23)
  have A5 := At.new w4 (n)
  replace B0 := B0.trans ((hb.mono B0.size).trans ((Below.refl w.heap.size w4).alloc (Nat.le_trans B0.size hb.size) (.cells (row (dig 20 (n))) 23)))
  clear hb
  generalize w4.heap.size = gw4 at *
  generalize w4.alloc _ = Ww4 at *
  refine wp_region_quiet_below (by kernel_rfl) (by kernel_rfl) ?_
  repeat (first
    | go_big_quiet_skip
    | (go_big_quiet_want
       first
       | (first | (refine q_at _ rfl _ _ rfl (by first | with_reducible exact A1 | with_reducible exact A2 | with_reducible exact A3 | with_reducible exact A4 | with_reducible exact A5) ?_) | (refine q_eql _ _ rfl _ _ rfl rfl (eqB_self _) ?_)
          simp only [Act.put, List.setIfInBounds_toArray, List.set_cons_succ, List.set_cons_zero]
          go_big_quiet_on)
       | (go_big_quiet_op
          first | go_big_quiet_on | go_big_quiet_call (first | with_reducible exact placed_tells.grown _ _ | with_reducible exact c12.grown _ _ | with_reducible exact c13.grown _ _ | with_reducible exact c14.grown _ _ | with_reducible exact c15.grown _ _ | with_reducible exact c16.grown _ _ | with_reducible exact c17.grown _ _ | with_reducible exact c18.grown _ _ | with_reducible exact c19.grown _ _ | with_reducible exact c20.grown _ _ | with_reducible exact c21.grown _ _))))
  refine wpQuiet_nil ?_
  intro _ hw'
  obtain ⟨⟨dq, osq⟩, hw''⟩ := hw'
  subst hw''
  have hb := below_regrown Ww4 dq osq
  replace A1 := A1.below hb
  replace A2 := A2.below hb
  replace A3 := A3.below hb
  replace A4 := A4.below hb
  replace A5 := A5.below hb
  replace B0 := B0.trans (hb.mono B0.size)
  generalize grow (redrawn Ww4 dq) osq = W5 at *
  clear hb
  go_wp2
  go_ret
  exact ⟨rfl, B0⟩

theorem walk (a x b : Nat) (k : Int) (w : World) : Calls Try.prog 3 #[idv a, idv x, idv b, .int .i64 k] w fun e w' => e = .returned (.bool true) ∧ Below w.heap.size w w' := by
  obtain ⟨n, code, c9, c10⟩ : ∃ n code, Gives 9 #[.int .i64 k] n code ∧ Gives 10 #[.int .i64 k] n code := by
    rcases Int.lt_or_le k 0 with h | h
    · exact ⟨0, 1, fun w => power_no k w (.inl h), fun w => refPower_no k w (.inl h)⟩
    · obtain ⟨n, rfl⟩ := Int.eq_ofNat_of_zero_le h
      rcases Nat.lt_or_ge n 160 with h1 | h1
      · exact ⟨2 ^ n, 0, fun w => power_yes n w h1, fun w => refPower_yes n w h1⟩
      · exact ⟨0, 1, fun w => power_no n w (.inr (by omega)), fun w => refPower_no n w (.inr (by omega))⟩
  exact core a x b n (a + b) (sub a b) k code w (lessB a b) (openB a x b) (halfB a x b) c9 c10 (plus_any a b) (refPlus_any a b) (minus_all a b) (refMinus_all a b) (less_all a b) (refLess_all a b) (open_all a x b) (refOpen_all a x b) (half_all a x b) (refHalf_all a x b)

set_option maxRecDepth 100000 in
theorem lifted (os : Os) (started : os.Started) (H : Type) (enc : TypeId × Value → H) :
    ReturnsInHanded {} Try.checked os 3 .any (Rows.identDoesSpec.pre6 enc Try.prog Try.f3 Rows.identDoesRow.domain false) (Rows.identDoesSpec.post enc Try.prog Try.f3 false true false false) := by
  refine returnsInHanded_of_change (C := Try.checked) own started (by kernel_rfl) Try.func3
    (ChangeSpec.witness6 (enc := enc) (C := Try.checked) false ⟨#[], #[.agg #[.int .u8 0, .int .u8 0, .int .u8 0, .int .u8 0, .int .u8 0, .int .u8 0, .int .u8 0, .int .u8 0, .int .u8 0, .int .u8 0, .int .u8 0, .int .u8 0, .int .u8 0, .int .u8 0, .int .u8 0, .int .u8 0, .int .u8 0, .int .u8 0, .int .u8 0, .int .u8 0], .agg #[.int .u8 0, .int .u8 0, .int .u8 0, .int .u8 0, .int .u8 0, .int .u8 0, .int .u8 0, .int .u8 0, .int .u8 0, .int .u8 0, .int .u8 0, .int .u8 0, .int .u8 0, .int .u8 0, .int .u8 0, .int .u8 0, .int .u8 0, .int .u8 0, .int .u8 0, .int .u8 0], .agg #[.int .u8 0, .int .u8 0, .int .u8 0, .int .u8 0, .int .u8 0, .int .u8 0, .int .u8 0, .int .u8 0, .int .u8 0, .int .u8 0, .int .u8 0, .int .u8 0, .int .u8 0, .int .u8 0, .int .u8 0, .int .u8 0, .int .u8 0, .int .u8 0, .int .u8 0, .int .u8 0], .int .i64 0], []⟩ 8 (by kernel_rfl) (by kernel_rfl) (by kernel_rfl) (by kernel_rfl)) ?_
  intro W base args ds gs before hval0 hW hcnd _
  have hval : ∀ (j : Nat) t v, Try.f3.params[j]? = some t → args[j]? = some v → Value.okWide Try.prog W .any base t v := hval0
  have hW' := hW
  obtain ⟨p, q, hA0, hV, rfl, hfz, hnd⟩ := hW
  have hA : DataW.TrodAll enc Try.prog W 0 (fun _ => true) true Try.f3.params.toList args.toList ds p := hA0
  rw [Try.params3] at hA hval
  obtain ⟨v0, vs0, d0, ds0, p0, q0, hargs, rfl, rfl, h0, r0⟩ := trodAll_cons hA
  obtain ⟨v1, vs1, d1, ds1, p1, q1, rfl, rfl, rfl, h1, r1⟩ := trodAll_cons r0
  obtain ⟨v2, vs2, d2, ds2, p2, q2, rfl, rfl, rfl, h2, r2⟩ := trodAll_cons r1
  obtain ⟨v3, vs3, d3, ds3, p3, q3, rfl, rfl, rfl, h3, r3⟩ := trodAll_cons r2
  obtain ⟨rfl, rfl, rfl⟩ := trodAll_nil r3
  obtain rfl : args = #[v0, v1, v2, v3] := by cases args; simp_all
  obtain ⟨rfl, rfl⟩ := trodVars_none hV
  have k0 := h0
  have lt0 : ∀ x ∈ p0, x.block < W.heap.size := by obtain ⟨m, hm⟩ := k0; exact DataW.trod_lt m _ _ _ hm
  obtain ⟨n0, _, rfl⟩ := open_id (hval 0 23 v0 rfl rfl) h0
  have k1 := h1
  have lt1 : ∀ x ∈ p1, x.block < W.heap.size := by obtain ⟨m, hm⟩ := k1; exact DataW.trod_lt m _ _ _ hm
  obtain ⟨n1, _, rfl⟩ := open_id (hval 1 23 v1 rfl rfl) h1
  have k2 := h2
  have lt2 : ∀ x ∈ p2, x.block < W.heap.size := by obtain ⟨m, hm⟩ := k2; exact DataW.trod_lt m _ _ _ hm
  obtain ⟨n2, _, rfl⟩ := open_id (hval 2 23 v2 rfl rfl) h2
  have k3 := h3
  have lt3 : ∀ x ∈ p3, x.block < W.heap.size := by obtain ⟨m, hm⟩ := k3; exact DataW.trod_lt m _ _ _ hm
  obtain ⟨n3, rfl, _, _, wf3⟩ := open_int Try.underlying3 (hval 3 3 v3 rfl rfl) h3
  clear hA0 hval0
  refine (walk n0 n1 n2 n3 W).mono fun e W' ⟨he, bel⟩ => ?_
  subst he
  exact ⟨_, rfl, _, _, _, [], _, [], hW', trodAll_mk1 (shut_bool Try.underlying4 _), (trodAll_cons_mk (Below.trod laidOut (by kernel_rfl) (of_decide_eq_true (by kernel_rfl)) k0 bel lt0) (trodAll_cons_mk (Below.trod laidOut (by kernel_rfl) (of_decide_eq_true (by kernel_rfl)) k1 bel lt1) (trodAll_cons_mk (Below.trod laidOut (by kernel_rfl) (of_decide_eq_true (by kernel_rfl)) k2 bel lt2) (trodAll_cons_mk (Below.trod laidOut (by kernel_rfl) (of_decide_eq_true (by kernel_rfl)) k3 bel lt3) trodAll_mk0)))), rfl, bel.frame _, fun h => by cases h⟩

theorem proved : Rows.IdentDoesSaid :=
  OpenClaim.holds_of_wide 3 Try.f3 rfl rfl rfl rfl rfl rfl rfl ⟨rfl, rfl, rfl, rfl, rfl⟩ rfl rfl rfl rfl rfl (by kernel_rfl) Try.func3 (by kernel_rfl)
    (of_decide_eq_true (by kernel_rfl)) (by unfold Func.isWrapper; first | (rw [if_pos (by decide +kernel)]; kernel_rfl) | (rw [if_neg (by decide +kernel)]; exact ⟨rfl, rfl⟩))
    (fun os started H enc _ => lifted os started H enc)
end Go.Proofs.Yteljhengfeebfaa.DoesLaw
