/- CircleDoes: for all peers, places and any two numbers the call returns true: owners, copies, fingers and the ends of an arc are just the document's, or refused with its code. No condition but that the package variables read as the program's text lays them. -/
import Derived.Test.YtmlejcfnnjnggaaDoorCirBoth
namespace Go.Proofs.YtmlejcfnnjnggaaDoor.DoesLaw
set_option maxRecDepth 100000
open Go Go.ChangeShapes Go.WideShapes Go.ChangeAt Go.RowKit Go.Sort

set_option maxHeartbeats 2000000 in
theorem walk_long {w : World} {v : Value} {L : List Pe} (id : Nat) (i r : Int) (hL : Lies w v L) (h : 100 < L.length) : Calls Tryd.prog 4 #[v, idv id, .int .i64 i, .int .i64 r] w fun e w' => e = .returned (.bool true) ∧ Below w.heap.size w w' := by
  obtain ⟨a, c, rfl⟩ := hL.form
  have B0 := (Below.refl w.heap.size w).alloc (Nat.le_refl _) (.cells (row (dig 20 id)) 32)
  clear hL
  generalize L.length = n at *
  have d1 : decide ((100 : Int) < (n : Int)) = true := decide_eq_true (by omega)
  rw [show idv id = .agg (row (dig 20 id)) from rfl]
  go_enter Tryd.func4, Tryd.ntmps4
  go_upto_region 1 with (fail)
  generalize w.alloc _ = W at *
  go_wp2
  go_ret
  exact ⟨rfl, B0⟩
set_option maxHeartbeats 8000000 in
theorem walk_in {w : World} {v : Value} {L : List Pe} (id : Nat) (i r : Int) (hG : Glob w) (hL : Lies w v L) (hw : Wf L) (hid : id < M) (h : L.length ≤ 100) : Calls Tryd.prog 4 #[v, idv id, .int .i64 i, .int .i64 r] w fun e w' => e = .returned (.bool true) ∧ Below w.heap.size w w' := by
  obtain ⟨ob, oe, hO⟩ := own_both L id hw hid (by omega)
  obtain ⟨C, ce, hCl, hC⟩ := cop_both L id r hw hid (by omega)
  obtain ⟨Fg, fe, hFl, hF⟩ := fin_both L i hw (by omega)
  obtain ⟨x, y, ae, hA⟩ := arc_both L i hw (by omega)
  have B0 := (Below.refl w.heap.size w).alloc (Nat.le_refl _) (.cells (row (dig 20 id)) 32)
  have I0 := At.new w id
  have L0 := hL.bel B0
  obtain ⟨a, c, rfl⟩ := hL.form
  generalize hW : w.alloc (.cells (row (dig 20 id)) 32) = W at *
  have HO := Lib.hid (fun w1 (hb : Below W.heap.size W w1) => hO (L0.bel hb))
  have HC := Lib.hid (fun w1 (hb : Below W.heap.size W w1) => hC (L0.bel hb))
  have HF := Lib.hid (fun w1 (hb : Below W.heap.size W w1) => hF (L0.bel hb))
  have HA := Lib.hid (fun w1 (hb : Below W.heap.size W w1) => hA (L0.bel hb))
  have HR : Hid (∀ w1, Below W.heap.size W w1 → Calls Tryd.prog 10 #[] w1 fun e w' => e = .returned (.bool true) ∧ Below w1.heap.size w1 w') := fun w1 hb => rounded_any w1 (hG.later (step B0 hb))
  have HCl := Lib.hid hCl
  have HFl := Lib.hid hFl
  have d1 : decide ((100 : Int) < (L.length : Int)) = false := decide_eq_false (by omega)
  have e1 : (ob == ob) = true := by simp
  have e2 : (oe == oe) = true := by simp
  have e3 : (ce == ce) = true := by simp
  have e4 : (fe == fe) = true := by simp
  have e5 : (ae == ae) = true := by simp
  clear hL hw hG hid h hO hC hF hA L0 hCl hFl
  generalize L.length = n at *
  have hr : Below W.heap.size W W := Below.refl _ _
  rw [show idv id = .agg (row (dig 20 id)) from rfl]
  go_enter Tryd.func4, Tryd.ntmps4
  go_upto_region 1 with (fail)
  try rw [hW]
  clear hW
  go_upto_region 9 with (first
    | (refine p_load rfl _ rfl _ rfl id I0 ?_)
    | (go_at_call 14; (with_reducible refine (HO.out _ hr).1.mono ?_); rintro e w1 ⟨rfl, b1⟩; have I1 := I0.below b1)
    | (refine p_load rfl _ rfl _ rfl id I1 ?_)
    | (go_at_call 15; (with_reducible refine (HO.out _ b1).2.mono ?_); rintro e w2 ⟨rfl, k2⟩; have b2 := step b1 k2; have I2 := I0.below b2)
    | (refine p_load rfl _ rfl _ rfl id I2 ?_)
    | (go_at_call 16; (with_reducible refine (HC.out _ b2).1.mono ?_); rintro e w3 ⟨u1, rfl, n1, k3⟩; obtain ⟨q1, s1, rfl⟩ := n1.form; have N1 := Lib.hid n1; clear n1; have b3 := step b2 k3; have I3 := I0.below b3)
    | (refine p_load rfl _ rfl _ rfl id I3 ?_)
    | (go_at_call 17; (with_reducible refine (HC.out _ b3).2.mono ?_); rintro e w4 ⟨u2, rfl, n2, k4⟩; obtain ⟨q2, s2, rfl⟩ := n2.form; have N2 := Lib.hid n2; clear n2; have N1b := Lib.hid (N1.out.bel k4); have b4 := step b3 k4)
    | (go_at_call 18; (with_reducible refine (HF.out _ b4).1.mono ?_); rintro e w5 ⟨u3, rfl, n3, k5⟩; obtain ⟨q3, s3, rfl⟩ := n3.form; have N3 := Lib.hid n3; clear n3; have b5 := step b4 k5)
    | (go_at_call 19; (with_reducible refine (HF.out _ b5).2.mono ?_); rintro e w6 ⟨u4, rfl, n4, k6⟩; obtain ⟨q4, s4, rfl⟩ := n4.form; have N4 := Lib.hid n4; clear n4; have N3b := Lib.hid (N3.out.bel k6); have b6 := step b5 k6))
  have M1 := Lib.hid ((N1b.out.bel k5).bel k6)
  have M2 := Lib.hid ((N2.out.bel k5).bel k6)
  clear N1 N1b N2 N3 I0 I1 I2 I3 k2 k3 k4 k5 k6 HO HC HF
  go_upto_region 10 with (first
    | (go_at_call 20; (with_reducible refine (HA.out _ b6).1.mono ?_); rintro e w7 ⟨rfl, k7⟩; have T0 := Two.made w7)
    | (refine wpList_store_id rfl _ _ rfl w7.heap.size (dig 20 x) rfl rfl _ T0.one (dig_length _ _) (dig_length _ _) ?_; have T1 := T0.put1 x)
    | (refine wpList_store_id rfl _ _ rfl (w7.heap.size + 1) (dig 20 y) rfl rfl _ T1.two (dig_length _ _) (dig_length _ _) ?_; have T2 := T1.put2 y))
  have k8 := step k7 T2.bel
  have b7 := step b6 k8
  have P1 := Lib.hid T2.one
  have P2 := Lib.hid T2.two
  clear T0 T1 T2 k7
  have K8 := Lib.hid k8
  clear k8
  rw [row_zero]
  generalize World.setRow _ _ _ = V7 at *
  generalize w7.heap.size = g7 at *
  go_upto_region 11 with (first
    | (go_at_call 21; (with_reducible refine (HA.out _ b7).2.mono ?_); rintro e w8 ⟨rfl, k9⟩; have U0 := Two.made w8)
    | (refine wpList_store_id rfl _ _ rfl w8.heap.size (dig 20 x) rfl rfl _ U0.one (dig_length _ _) (dig_length _ _) ?_; have U1 := U0.put1 x)
    | (refine wpList_store_id rfl _ _ rfl (w8.heap.size + 1) (dig 20 y) rfl rfl _ U1.two (dig_length _ _) (dig_length _ _) ?_; have U2 := U1.put2 y))
  have k10 := step k9 U2.bel
  have b8 := step b7 k10
  have R1 := Lib.hid U2.one
  have R2 := Lib.hid U2.two
  have K10 := Lib.hid k10
  clear U0 U1 U2 k9 k10
  rw [row_zero]
  generalize World.setRow _ _ _ = V8 at *
  generalize w8.heap.size = g8 at *
  go_wp2_with (first
    | (go_at_call 10; (with_reducible refine (HR.out _ b8).mono ?_); rintro e w9 ⟨rfl, k11⟩; have b9 := step b8 k11; have kk := step (step K8.out K10.out) k11)
    | (go_at_call 22; (with_reducible refine (ints_self (M1.out.bel kk) (M2.out.bel kk) HCl.out).mono ?_); rintro e w10 ⟨rfl, k12⟩; have b10 := step b9 k12)
    | (go_at_call 22; (with_reducible refine (ints_self ((N3b.out.bel kk).bel k12) ((N4.out.bel kk).bel k12) HFl.out).mono ?_); rintro e w11 ⟨rfl, k13⟩; have b11 := step b10 k13; have kz := step (step k11 k12) k13; have Z1 := Blk.below (P1.out.below K10.out P1.out.lt) kz (P1.out.below K10.out P1.out.lt).lt; have Z2 := Blk.below (P2.out.below K10.out P2.out.lt) kz (P2.out.below K10.out P2.out.lt).lt; have Z3 := R1.out.below kz R1.out.lt; have Z4 := R2.out.below kz R2.out.lt)
    | (go_guarded; refine o_load _ rfl _ rfl x Z1 ?_; simp only [Act.put, List.setIfInBounds_toArray, List.set_cons_succ, List.set_cons_zero])
    | (go_guarded; refine o_load _ rfl _ rfl y Z2 ?_; simp only [Act.put, List.setIfInBounds_toArray, List.set_cons_succ, List.set_cons_zero])
    | (go_guarded; refine o_load _ rfl _ rfl x Z3 ?_; simp only [Act.put, List.setIfInBounds_toArray, List.set_cons_succ, List.set_cons_zero])
    | (go_guarded; refine o_load _ rfl _ rfl y Z4 ?_; simp only [Act.put, List.setIfInBounds_toArray, List.set_cons_succ, List.set_cons_zero])
    | (go_guarded; refine o_eql _ _ rfl x x rfl rfl (eqB_self x) ?_; simp only [Act.put, List.setIfInBounds_toArray, List.set_cons_succ, List.set_cons_zero])
    | (go_guarded; refine o_eql _ _ rfl y y rfl rfl (eqB_self y) ?_; simp only [Act.put, List.setIfInBounds_toArray, List.set_cons_succ, List.set_cons_zero]))
  go_ret
  exact ⟨rfl, step B0 b11⟩
theorem walk {w : World} (hG : Glob w) {v : Value} {L : List Pe} (hL : Lies w v L) (hw : Wf L) (id : Nat) (hid : id < M) (i : Int) (_ : -9223372036854775808 ≤ i ∧ i ≤ 9223372036854775807) (r : Int) (_ : -9223372036854775808 ≤ r ∧ r ≤ 9223372036854775807) :
    Calls Tryd.prog 4 #[v, idv id, .int .i64 i, .int .i64 r] w fun e w' => e = .returned (.bool true) ∧ Below w.heap.size w w' := by
  by_cases h : L.length ≤ 100
  · exact walk_in id i r hG hL hw hid h
  · exact walk_long id i r hL (by omega)

set_option maxRecDepth 100000 in
theorem lifted (os : Os) (started : os.Started) (H : Type) (enc : TypeId × Value → H) :
    ReturnsInHanded {} Tryd.checked os 4 .any (fun w args => (Rows.circleDoesSpec.pre enc Tryd.prog Tryd.f4 [] false w args ∧ laidMetH Tryd.prog LD w) ∧ sizedMet enc Tryd.prog Tryd.f4 (OpenSpec.ofChange Rows.circleDoesSpec) false w args)
      (Rows.circleDoesSpec.post enc Tryd.prog Tryd.f4 false true false false) := by
  refine returnsInHanded_of_change_and (C := Tryd.checked) (X := fun w _ => laidMetH Tryd.prog LD w) (fun _ _ _ hh h => h.of_heap hh) own started (by kernel_rfl) Tryd.func4
    (ChangeSpec.witness_shaped (enc := enc) (C := Tryd.checked) (os := os) (X := fun w _ => laidMetH Tryd.prog LD w) false (World.doorLaid Tryd.prog 31 os) #[.slice none 0 0, .agg #[.int .u8 0, .int .u8 0, .int .u8 0, .int .u8 0, .int .u8 0, .int .u8 0, .int .u8 0, .int .u8 0, .int .u8 0, .int .u8 0, .int .u8 0, .int .u8 0, .int .u8 0, .int .u8 0, .int .u8 0, .int .u8 0, .int .u8 0, .int .u8 0, .int .u8 0, .int .u8 0], .int .i64 0, .int .i64 0] 8 rfl (World.shaped_of_RefB (by kernel_rfl) (by kernel_rfl)) (by kernel_rfl) (by kernel_rfl) (by kernel_rfl) (door_met os _)) ?_
  intro W base args ds gs before hval0 hW _ _ hL _
  have hval : ∀ (j : Nat) t v, Tryd.f4.params[j]? = some t → args[j]? = some v → Value.okWide Tryd.prog W .any base t v := hval0
  have hW' := hW
  obtain ⟨p, q, hA0, hV, rfl, hfz, hnd⟩ := hW
  have hA : DataW.TrodAll enc Tryd.prog W 0 (fun _ => true) true Tryd.f4.params.toList args.toList ds p := hA0
  rw [Tryd.params4] at hA hval
  obtain ⟨v0, vs0, d0, ds0, p0, q0, hargs, rfl, rfl, h0, r0⟩ := trodAll_cons hA
  obtain ⟨v1, vs1, d1, ds1, p1, q1, rfl, rfl, rfl, h1, r1⟩ := trodAll_cons r0
  obtain ⟨v2, vs2, d2, ds2, p2, q2, rfl, rfl, rfl, h2, r2⟩ := trodAll_cons r1
  obtain ⟨v3, vs3, d3, ds3, p3, q3, rfl, rfl, rfl, h3, r3⟩ := trodAll_cons r2
  obtain ⟨rfl, rfl, rfl⟩ := trodAll_nil r3
  obtain rfl : args = #[v0, v1, v2, v3] := by cases args; simp_all
  obtain ⟨rfl, rfl⟩ := trodVars_none hV
  have k0 := h0
  have lt0 : ∀ x ∈ p0, x.block < W.heap.size := by obtain ⟨m, hm⟩ := k0; exact DataW.trod_lt m _ _ _ hm
  obtain ⟨L0, ls0, wf0⟩ := open_peers (hval 0 23 v0 rfl rfl) h0
  have k1 := h1
  have lt1 : ∀ x ∈ p1, x.block < W.heap.size := by obtain ⟨m, hm⟩ := k1; exact DataW.trod_lt m _ _ _ hm
  obtain ⟨n1, il1, rfl⟩ := open_id (hval 1 32 v1 rfl rfl) h1
  have k2 := h2
  have lt2 : ∀ x ∈ p2, x.block < W.heap.size := by obtain ⟨m, hm⟩ := k2; exact DataW.trod_lt m _ _ _ hm
  obtain ⟨n2, bd2, rfl⟩ := open_i64 (hval 2 3 v2 rfl rfl) h2
  have k3 := h3
  have lt3 : ∀ x ∈ p3, x.block < W.heap.size := by obtain ⟨m, hm⟩ := k3; exact DataW.trod_lt m _ _ _ hm
  obtain ⟨n3, bd3, rfl⟩ := open_i64 (hval 3 3 v3 rfl rfl) h3
  have hG := glob_of_laid hL
  clear hA0 hval0
  refine (walk hG ls0 wf0 n1 il1 n2 bd2 n3 bd3).mono fun e W' ⟨he, bel⟩ => ?_
  subst he
  exact ⟨_, rfl, _, _, _, [], _, [], hW', trodAll_mk1 (shut_bool Tryd.underlying4 _), (trodAll_cons_mk (Below.trod laidOut (by kernel_rfl) (of_decide_eq_true (by kernel_rfl)) k0 bel lt0) (trodAll_cons_mk (Below.trod laidOut (by kernel_rfl) (of_decide_eq_true (by kernel_rfl)) k1 bel lt1) (trodAll_cons_mk (Below.trod laidOut (by kernel_rfl) (of_decide_eq_true (by kernel_rfl)) k2 bel lt2) (trodAll_cons_mk (Below.trod laidOut (by kernel_rfl) (of_decide_eq_true (by kernel_rfl)) k3 bel lt3) trodAll_mk0)))), rfl, bel.frame _, fun h => by cases h⟩

theorem proved : Rows.CircleDoesSaid :=
  OpenClaim.holds_of_wide 4 Tryd.f4 rfl rfl rfl rfl rfl rfl rfl ⟨rfl, rfl, rfl, rfl, rfl⟩ rfl rfl rfl rfl rfl (by kernel_rfl) Tryd.func4 (by kernel_rfl)
    (of_decide_eq_true (by kernel_rfl)) (by unfold Func.isWrapper; first | (rw [if_pos (by decide +kernel)]; kernel_rfl) | (rw [if_neg (by decide +kernel)]; exact ⟨rfl, rfl⟩))
    (fun os started H enc _ => lifted os started H enc)
theorem card : Rows.CircleDoesCardSaid :=
  Claim7.holds_tied_plain_at .later [] [.data, .data, .data] true _ false
    proved (fun _ h => by cases h) (by kernel_rfl) (fun _ h => by cases h) circleDoes_row_tie rfl ⟨rfl, rfl⟩ (by kernel_rfl) rfl
    (fun f fn hf hfn => by
      obtain rfl : f = 4 := Option.some.inj ((show Tryd.prog.funcNamed Rows.circleDoesRow.func = some 4 by kernel_rfl).symm.trans hf) |>.symm
      obtain rfl : fn = Tryd.f4 := (Option.some.inj (Tryd.func4.symm.trans hfn)).symm
      exact ⟨by kernel_rfl, fun j t ht => by
        rw [Tryd.params4] at ht
        have hm : t ∈ [23, 32, 3, 3] := by simpa using Array.mem_of_getElem? ht
        have hall : ([23, 32, 3, 3].all fun u => !Tryd.prog.wantsStandIn u) = true := by kernel_rfl
        exact (show Tryd.prog.wantsStandIn t = false by simpa using List.all_eq_true.1 hall t hm)⟩)
    (by kernel_rfl)

end Go.Proofs.YtmlejcfnnjnggaaDoor.DoesLaw
