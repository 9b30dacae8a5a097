/- IdentSums: for every three places the call returns true: sums hang on no order and no brackets, a difference takes back what was added. No condition. -/
import Derived.Test.YteljhengfeebfaaQ
namespace Go.Proofs.Yteljhengfeebfaa.SumsLaw
open Go.ChangeShapes Go.WideShapes Go.ChangeAt Go.RowKit Go.Sort
open Go.ChangeMaps (open_string shut_string)
set_option linter.unusedVariables false

set_option maxRecDepth 100000 in
theorem walk (a b c : Nat) (w : World) : Calls Try.prog 5 #[idv a, idv b, idv c] w fun e w' => e = .returned (.bool true) ∧ Below w.heap.size w w' := by
  have e1 : eqB (a + b) (b + a) = true := eqB_of (by rw [Nat.add_comm])
  have e2 : eqB (a + b + c) (a + (b + c)) = true := eqB_of (by rw [Nat.add_assoc])
  have e3 : eqB (sub (a + b) b) a = true := eqB_of (sums_mod a b)
  have e4 : eqB (sub a b + b) a = true := eqB_of (back_mod a b)
  have e5 : eqB (sub a a) 0 = true := eqB_of (self_mod a)
  have c14 := minus_all
  generalize sub = sub at *
  have D14 := Lib.hid c14
  clear c14
  rw [show idv a = .agg (row (dig 20 a)) from rfl, show idv b = .agg (row (dig 20 b)) from rfl, show idv c = .agg (row (dig 20 c)) from rfl]
  go_enter Try.func5, Try.ntmps5
  go_upto_region 1 with (fail)
  generalize hW : ((w.alloc (.cells (row (dig 20 a)) 23)).alloc (.cells (row (dig 20 b)) 23)).alloc (.cells (row (dig 20 c)) 23) = W
  have hm : Mem3 w W a b c := hW ▸ Mem3.made w a b c
  clear hW
  have B0 := hm.below
  have A1 : At W w.heap.size a := hm.a
  have A2 : At W (w.heap.size + 1) b := hm.x
  have A3 : At W (w.heap.size + 1 + 1) c := hm.b
  clear hm
  go_upto_region 2 with (first | refine wpList_load_n rfl _ rfl _ rfl _ A1 ?_ | refine wpList_load_n rfl _ rfl _ rfl _ A2 ?_ | (go_at_call 12; refine (plus_any a b _).mono ?_; rintro e w1 ⟨rfl, hb⟩) | (refine wpList_store_new rfl rfl _ _ rfl _ rfl rfl ?_))
  simp only [Act.put]
  have B1 := B0.trans ((hb.mono B0.size).trans ((Below.refl w.heap.size w1).alloc (Nat.le_trans B0.size hb.size) (.cells (row (dig 20 (a + b))) 23)))
  replace A1 := (A1.below hb).alloc (.cells (row (dig 20 (a + b))) 23)
  replace A2 := (A2.below hb).alloc (.cells (row (dig 20 (a + b))) 23)
  replace A3 := (A3.below hb).alloc (.cells (row (dig 20 (a + b))) 23)
  have A4 := At.new w1 (a + b)
  clear hb B0
  generalize w1.heap.size = g1 at *
  generalize w1.alloc _ = W1 at *
  have E3 := run_guard
  have C11 := Lib.hid (fun (d : Nat) (os : Array Obj) => Calls.regrown_of (placed_all (grow (redrawn W1 d) os)))
  have C12 := Lib.hid (fun (a b : Nat) (d : Nat) (os : Array Obj) => Calls.regrown_of (plus_any a b (grow (redrawn W1 d) os)))
  have C14 := Lib.hid (fun (a b : Nat) (d : Nat) (os : Array Obj) => Calls.regrown_of (D14.out a b (grow (redrawn W1 d) os)))
  refine wp_region_quiet_below (by kernel_rfl) (by kernel_rfl) ?_
  repeat (first
    | go_big_quiet_skip
    | (go_big_quiet_want
       first
       | (first | refine q_build rfl ?_ | refine q_load _ rfl _ _ rfl A1 ?_ | refine q_load _ rfl _ _ rfl A2 ?_ | refine q_load _ rfl _ _ rfl A3 ?_ | refine q_load _ rfl _ _ rfl A4 ?_ | refine q_eql _ _ rfl _ _ rfl rfl e1 ?_ | refine q_eql _ _ rfl _ _ rfl rfl e2 ?_ | refine q_eql _ _ rfl _ _ rfl rfl e3 ?_ | refine q_eql _ _ rfl _ _ rfl rfl e4 ?_ | refine q_eql _ _ rfl _ _ rfl rfl e5 ?_
          simp only [Act.put, List.setIfInBounds_toArray, List.set_cons_succ, List.set_cons_zero]
          go_big_quiet_on)
       | (go_big_quiet_op
          first | go_big_quiet_on | go_big_quiet_call (first | with_reducible exact C11.out _ _ | with_reducible exact C12.out _ _ _ _ | with_reducible exact C14.out _ _ _ _))))
  refine wpQuiet_nil ?_
  intro _ hw'
  obtain ⟨⟨dq, osq⟩, hw''⟩ := hw'
  subst hw''
  have HB : Hid (Below w.heap.size w (grow (redrawn W1 dq) osq)) := B1.trans ((below_regrown W1 dq osq).mono B1.size)
  go_wp2
  go_ret
  exact ⟨rfl, HB.out⟩

set_option maxRecDepth 100000 in
theorem lifted (os : Os) (started : os.Started) (H : Type) (enc : TypeId × Value → H) :
    ReturnsInHanded {} Try.checked os 5 .any (Rows.identSumsSpec.pre6 enc Try.prog Try.f5 Rows.identSumsRow.domain false) (Rows.identSumsSpec.post enc Try.prog Try.f5 false true false false) := by
  refine returnsInHanded_of_change (C := Try.checked) own started (by kernel_rfl) Try.func5
    (ChangeSpec.witness6 (enc := enc) (C := Try.checked) false ⟨#[], #[.agg #[.int .u8 0, .int .u8 0, .int .u8 0, .int .u8 0, .int .u8 0, .int .u8 0, .int .u8 0, .int .u8 0, .int .u8 0, .int .u8 0, .int .u8 0, .int .u8 0, .int .u8 0, .int .u8 0, .int .u8 0, .int .u8 0, .int .u8 0, .int .u8 0, .int .u8 0, .int .u8 0], .agg #[.int .u8 0, .int .u8 0, .int .u8 0, .int .u8 0, .int .u8 0, .int .u8 0, .int .u8 0, .int .u8 0, .int .u8 0, .int .u8 0, .int .u8 0, .int .u8 0, .int .u8 0, .int .u8 0, .int .u8 0, .int .u8 0, .int .u8 0, .int .u8 0, .int .u8 0, .int .u8 0], .agg #[.int .u8 0, .int .u8 0, .int .u8 0, .int .u8 0, .int .u8 0, .int .u8 0, .int .u8 0, .int .u8 0, .int .u8 0, .int .u8 0, .int .u8 0, .int .u8 0, .int .u8 0, .int .u8 0, .int .u8 0, .int .u8 0, .int .u8 0, .int .u8 0, .int .u8 0, .int .u8 0]], []⟩ 8 (by kernel_rfl) (by kernel_rfl) (by kernel_rfl) (by kernel_rfl)) ?_
  intro W base args ds gs before hval0 hW hcnd _
  have hval : ∀ (j : Nat) t v, Try.f5.params[j]? = some t → args[j]? = some v → Value.okWide Try.prog W .any base t v := hval0
  have hW' := hW
  obtain ⟨p, q, hA0, hV, rfl, hfz, hnd⟩ := hW
  have hA : DataW.TrodAll enc Try.prog W 0 (fun _ => true) true Try.f5.params.toList args.toList ds p := hA0
  rw [Try.params5] at hA hval
  obtain ⟨v0, vs0, d0, ds0, p0, q0, hargs, rfl, rfl, h0, r0⟩ := trodAll_cons hA
  obtain ⟨v1, vs1, d1, ds1, p1, q1, rfl, rfl, rfl, h1, r1⟩ := trodAll_cons r0
  obtain ⟨v2, vs2, d2, ds2, p2, q2, rfl, rfl, rfl, h2, r2⟩ := trodAll_cons r1
  obtain ⟨rfl, rfl, rfl⟩ := trodAll_nil r2
  obtain rfl : args = #[v0, v1, v2] := by cases args; simp_all
  obtain ⟨rfl, rfl⟩ := trodVars_none hV
  have k0 := h0
  have lt0 : ∀ x ∈ p0, x.block < W.heap.size := by obtain ⟨m, hm⟩ := k0; exact DataW.trod_lt m _ _ _ hm
  obtain ⟨n0, _, rfl⟩ := open_id (hval 0 23 v0 rfl rfl) h0
  have k1 := h1
  have lt1 : ∀ x ∈ p1, x.block < W.heap.size := by obtain ⟨m, hm⟩ := k1; exact DataW.trod_lt m _ _ _ hm
  obtain ⟨n1, _, rfl⟩ := open_id (hval 1 23 v1 rfl rfl) h1
  have k2 := h2
  have lt2 : ∀ x ∈ p2, x.block < W.heap.size := by obtain ⟨m, hm⟩ := k2; exact DataW.trod_lt m _ _ _ hm
  obtain ⟨n2, _, rfl⟩ := open_id (hval 2 23 v2 rfl rfl) h2
  clear hA0 hval0
  refine (walk n0 n1 n2 W).mono fun e W' ⟨he, bel⟩ => ?_
  subst he
  exact ⟨_, rfl, _, _, _, [], _, [], hW', trodAll_mk1 (shut_bool Try.underlying4 _), (trodAll_cons_mk (Below.trod laidOut (by kernel_rfl) (of_decide_eq_true (by kernel_rfl)) k0 bel lt0) (trodAll_cons_mk (Below.trod laidOut (by kernel_rfl) (of_decide_eq_true (by kernel_rfl)) k1 bel lt1) (trodAll_cons_mk (Below.trod laidOut (by kernel_rfl) (of_decide_eq_true (by kernel_rfl)) k2 bel lt2) trodAll_mk0))), rfl, bel.frame _, fun h => by cases h⟩

theorem proved : Rows.IdentSumsSaid :=
  OpenClaim.holds_of_wide 5 Try.f5 rfl rfl rfl rfl rfl rfl rfl ⟨rfl, rfl, rfl, rfl, rfl⟩ rfl rfl rfl rfl rfl (by kernel_rfl) Try.func5 (by kernel_rfl)
    (of_decide_eq_true (by kernel_rfl)) (by unfold Func.isWrapper; first | (rw [if_pos (by decide +kernel)]; kernel_rfl) | (rw [if_neg (by decide +kernel)]; exact ⟨rfl, rfl⟩))
    (fun os started H enc _ => lifted os started H enc)
end Go.Proofs.Yteljhengfeebfaa.SumsLaw
