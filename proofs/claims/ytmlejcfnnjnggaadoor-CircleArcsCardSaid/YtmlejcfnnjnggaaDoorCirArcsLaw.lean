/- CircleArcs: for all peers and any place the call returns true: each place is in the arc of its owner, and in no other one's. No condition but that the package variables read as the program's text lays them. -/
import Derived.Test.YtmlejcfnnjnggaaDoorCirOpen
namespace Go.Proofs.YtmlejcfnnjnggaaDoor.ArcsLaw
set_option maxRecDepth 100000
open Go Go.ChangeShapes Go.WideShapes Go.ChangeAt Go.RowKit Go.Sort

set_option maxHeartbeats 2000000 in
theorem walk_long {w : World} {v : Value} {L : List Pe} (id : Nat) (hL : Lies w v L) (h : 100 < L.length) : Calls Tryd.prog 5 #[v, idv id] w fun e w' => e = .returned (.bool true) ∧ Below w.heap.size w w' := by
  obtain ⟨a, c, rfl⟩ := hL.form
  have B0 := (Below.refl w.heap.size w).alloc (Nat.le_refl _) (.cells (row (dig 20 id)) 32)
  clear hL
  generalize L.length = n at *
  have d1 : decide ((100 : Int) < (n : Int)) = true := decide_eq_true (by omega)
  rw [show idv id = .agg (row (dig 20 id)) from rfl]
  go_enter Tryd.func5, Tryd.ntmps5
  go_upto_region 1 with (fail)
  generalize w.alloc _ = W at *
  go_wp2
  go_ret
  exact ⟨rfl, B0⟩
set_option maxHeartbeats 4000000 in
theorem walk_no {w : World} {v : Value} {L : List Pe} (id : Nat) (hG : Glob w) (hL : Lies w v L) (hw : Wf L) (hC : ¬ Circ L) (h : L.length ≤ 100) : Calls Tryd.prog 5 #[v, idv id] w fun e w' => e = .returned (.bool true) ∧ Below w.heap.size w w' := by
  have B0 := (Below.refl w.heap.size w).alloc (Nat.le_refl _) (.cells (row (dig 20 id)) 32)
  have I0 := At.new w id
  have L0 := hL.bel B0
  obtain ⟨a, c, rfl⟩ := hL.form
  generalize hW : w.alloc (.cells (row (dig 20 id)) 32) = W at *
  have HO := Lib.hid (Owner_no id L0 hw (by omega) hC)
  have HI : Hid (∀ w1, Below W.heap.size W w1 → Calls Tryd.prog 12 #[.slice a L.length c] w1 fun e w' => e = .returned (.bool false) ∧ Below w1.heap.size w1 w') := fun w1 hb => by
    have := is_any (L0.bel hb) hw (by omega)
    rwa [isB_no hC] at this
  have HR : Hid (∀ w1, Below W.heap.size W w1 → Calls Tryd.prog 10 #[] w1 fun e w' => e = .returned (.bool true) ∧ Below w1.heap.size w1 w') := fun w1 hb => rounded_any w1 (hG.later (step B0 hb))
  have d1 : decide ((100 : Int) < (L.length : Int)) = false := decide_eq_false (by omega)
  clear hL hw hG hC h L0
  generalize L.length = n at *
  rw [show idv id = .agg (row (dig 20 id)) from rfl]
  go_enter Tryd.func5, Tryd.ntmps5
  go_upto_region 1 with (fail)
  try rw [hW]
  clear hW
  go_wp2_with (first
    | (refine p_load rfl _ rfl _ rfl id I0 ?_)
    | (go_at_call 14; (with_reducible refine HO.out.mono ?_); rintro e w1 ⟨rfl, b1⟩)
    | (go_at_call 10; (with_reducible refine (HR.out _ b1).mono ?_); rintro e w2 ⟨rfl, k2⟩; have b2 := step b1 k2)
    | (go_at_call 12; (with_reducible refine (HI.out _ b2).mono ?_); rintro e w3 ⟨rfl, k3⟩; have b3 := step b2 k3))
  go_ret
  exact ⟨rfl, step B0 b3⟩
set_option maxHeartbeats 8000000 in
theorem walk_yes {w : World} {v : Value} {L : List Pe} (id : Nat) (hid : id < M) (hG : Glob w) (hL : Lies w v L) (hw : Wf L) (hC : Circ L) : Calls Tryd.prog 5 #[v, idv id] w fun e w' => e = .returned (.bool true) ∧ Below w.heap.size w w' := by
  have B0 := (Below.refl w.heap.size w).alloc (Nat.le_refl _) (.cells (row (dig 20 id)) 32)
  have I0 := At.new w id
  have L0 := hL.bel B0
  obtain ⟨b, o, c, rfl, hc, hr, hb0⟩ := L0.some hC.pos.1
  generalize hW : w.alloc (.cells (row (dig 20 id)) 32) = W at *
  have HO := Lib.hid (Owner_yes id L0 hw hid hC)
  have HR : Hid (∀ w1, Below W.heap.size W w1 → Calls Tryd.prog 10 #[] w1 fun e w' => e = .returned (.bool true) ∧ Below w1.heap.size w1 w') := fun w1 hb => rounded_any w1 (hG.later (step B0 hb))
  have HA : Hid (∀ q w1, q < L.length → Below W.heap.size W w1 → Calls Tryd.prog 20 #[.slice (some ⟨b, o, none⟩) L.length c, .int .i64 (q : Int)] w1 fun e w' => e = .returned (.tuple #[idv (pn L ((q + L.length - 1) % L.length)), idv (pn L q), .int .i64 0]) ∧ Below w1.heap.size w1 w') := fun q w1 hq hb => Arc_yes q (L0.bel hb) hw hC hq
  have HP : Hid (∀ q w1, q < L.length → Below W.heap.size W w1 → w1.rangeAt b (o + q * 21 + 1) (row (dig 20 (pn L q))).toList) := fun q w1 hq hb => range_bel (pe_id (row_peer hr (at_get hq))) hb hb0
  have HH : Hid (∀ q w1, q < L.length → Calls Tryd.prog 23 #[idv (pn L ((q + L.length - 1) % L.length)), idv id, idv (pn L q)] w1 fun e w' => e = .returned (.bool (decide (q = ownN L id))) ∧ Below w1.heap.size w1 w') := fun q w1 hq => by
    have := half_all (pn L ((q + L.length - 1) % L.length)) id (pn L q) w1
    rwa [arc_own hC hw hid hq] at this
  have hlt := own_lt hC.pos.1 id
  have h16 := hC.1.2
  clear hL hw hG hC L0 hr hc hb0
  have d1 : decide ((100 : Int) < (L.length : Int)) = false := decide_eq_false (by omega)
  generalize ownN L id = z at *
  generalize hxf : (fun q => pn L ((q + L.length - 1) % L.length)) = xf
  have HXF : Hid (∀ q, pn L ((q + L.length - 1) % L.length) = xf q) := fun q => by rw [← hxf]
  clear hxf
  have HA : Hid (∀ q w1, q < L.length → Below W.heap.size W w1 → Calls Tryd.prog 20 #[.slice (some ⟨b, o, none⟩) L.length c, .int .i64 (q : Int)] w1 fun e w' => e = .returned (.tuple #[idv (xf q), idv (pn L q), .int .i64 0]) ∧ Below w1.heap.size w1 w') := fun q w1 hq hb => by rw [← HXF.out q]; exact HA.out q w1 hq hb
  have HH : Hid (∀ q w1, q < L.length → Calls Tryd.prog 23 #[idv (xf q), idv id, idv (pn L q)] w1 fun e w' => e = .returned (.bool (decide (q = z))) ∧ Below w1.heap.size w1 w') := fun q w1 hq => by rw [← HXF.out q]; exact HH.out q w1 hq
  clear HXF
  generalize pn L = p at *
  generalize L.length = n at *
  have d5 : decide ((0 : Int) ≤ (z : Int)) = true := decide_eq_true (by omega)
  have d6 : decide ((z : Int) < (n : Int)) = true := decide_eq_true (by omega)
  rw [show idv id = .agg (row (dig 20 id)) from rfl]
  go_enter Tryd.func5, Tryd.ntmps5
  go_upto_region 1 with (fail)
  try rw [hW]
  clear hW
  go_wp2_with (first
    | (refine p_load rfl _ rfl _ rfl id I0 ?_)
    | (go_at_call 14; (with_reducible refine HO.out.mono ?_); rintro e w1 ⟨rfl, b1⟩))
  have HB1 := Lib.hid b1
  have HI0 := Lib.hid I0
  clear b1 I0 HO
  go_loopw [7] (fun k wr => ∃ q : Nat, q ≤ n ∧ k = .int .i64 (q : Int) ∧ Below W.heap.size W wr) (fun k _ => n - (intOf k).toNat)
  case atStart => exact ⟨0, by omega, rfl, HB1.out⟩
  case round =>
    obtain ⟨q, hq, rfl, hb⟩ := hrel
    by_cases hqn : q < n
    · have HAq := Lib.hid (HA.out q wr hqn hb)
      have d4 : decide ((q : Int) < (n : Int)) = true := decide_eq_true (by omega)
      have hqn' : (q : Int) < (n : Int) := by omega
      have hq0 : (0 : Int) ≤ (q : Int) := by omega
      generalize hx : xf q = x at *
      generalize hy : p q = y at *
      go_upto_region 10 with (first
        | (go_at_call 20; (with_reducible refine HAq.out.mono ?_); rintro e w2 ⟨rfl, k2⟩; have T0 := Two.made w2)
        | (refine wpList_store_id rfl _ _ rfl w2.heap.size (dig 20 x) rfl rfl _ T0.one (dig_length _ _) (dig_length _ _) ?_; have T1 := T0.put1 x)
        | (refine wpList_store_id rfl _ _ rfl (w2.heap.size + 1) (dig 20 y) rfl rfl _ T1.two (dig_length _ _) (dig_length _ _) ?_; have T2 := T1.put2 y))
      (try simp only [Act.put])
      have k3 := step k2 T2.bel
      have b3 := step hb k3
      have P1 := T2.one
      have P2 := T2.two
      have I3 := HI0.out.below b3
      have R3 := HP.out q _ hqn b3
      rw [hy] at R3
      have HH3 : ∀ w1, Calls Tryd.prog 23 #[idv x, idv id, idv y] w1 fun e w' => e = .returned (.bool (decide (q = z))) ∧ Below w1.heap.size w1 w' := fun w1 => by have := HH.out q w1 hqn; rwa [hx, hy] at this
      clear T0 T1 T2 k2 k3 HAq
      rw [row_zero]
      generalize World.setRow _ _ _ = V at *
      generalize w2.heap.size = g at *
      have dz : decide ((q : Int) = (z : Int)) = decide (q = z) := by simp [Int.ofNat_inj]
      have dy : ((q : Int) == (z : Int)) = decide (q = z) := by rw [← dz]; rfl
      generalize hT : decide (q = z) = t at *
      have e1 : (t == t) = true := by simp
      have e2 : (t != t) = false := by simp
      have HE := neqB_self y
      refine wp_region_quiet_below (by kernel_rfl) (by kernel_rfl) ?_
      repeat (first
        | go_big_quiet_skip
        | (go_big_quiet_want
           first
           | (first
                | (refine q_midI _ rfl _ _ rfl y (by with_reducible exact R3) ?_)
                | (refine q_at _ rfl _ y rfl P2 ?_)
                | (refine q_at _ rfl _ x rfl P1 ?_)
                | (refine q_at _ rfl _ id rfl I3 ?_)
                | (refine q_neq _ _ rfl y y rfl rfl HE ?_)
              simp only [Act.put, List.setIfInBounds_toArray, List.set_cons_succ, List.set_cons_zero]
              go_big_quiet_on)
           | (go_big_quiet_op
              first | go_big_quiet_on | go_big_quiet_call (first | with_reducible exact Calls.regrown_of (HH3 _)))))
      refine wpQuiet_nil ?_
      intro w4 hw'
      have k4 := quiet_end hw'
      have b4 := step b3 k4
      clear hw'
      go_wp2
      refine ⟨⟨q + 1, by omega, by go_num, b4⟩, ?_⟩
      simp only [intOf]
      omega
    · have d4 : decide ((q : Int) < (n : Int)) = false := decide_eq_false (by omega)
      have hqn' : ¬ ((q : Int) < (n : Int)) := by omega
      go_wp2_with (go_at_call 10; (with_reducible refine (HR.out _ hb).mono ?_); rintro e w5 ⟨rfl, k5⟩; have b5 := step hb k5)
      go_ret
      exact ⟨rfl, step B0 b5⟩
theorem walk {w : World} (hG : Glob w) {v : Value} {L : List Pe} (hL : Lies w v L) (hw : Wf L) (id : Nat) (hid : id < M) :
    Calls Tryd.prog 5 #[v, idv id] w fun e w' => e = .returned (.bool true) ∧ Below w.heap.size w w' := by
  by_cases h : L.length ≤ 100
  · by_cases hC : Circ L
    · exact walk_yes id hid hG hL hw hC
    · exact walk_no id hG hL hw hC h
  · exact walk_long id hL (by omega)

set_option maxRecDepth 100000 in
theorem lifted (os : Os) (started : os.Started) (H : Type) (enc : TypeId × Value → H) :
    ReturnsInHanded {} Tryd.checked os 5 .any (fun w args => (Rows.circleArcsSpec.pre enc Tryd.prog Tryd.f5 [] false w args ∧ laidMetH Tryd.prog LD w) ∧ sizedMet enc Tryd.prog Tryd.f5 (OpenSpec.ofChange Rows.circleArcsSpec) false w args)
      (Rows.circleArcsSpec.post enc Tryd.prog Tryd.f5 false true false false) := by
  refine returnsInHanded_of_change_and (C := Tryd.checked) (X := fun w _ => laidMetH Tryd.prog LD w) (fun _ _ _ hh h => h.of_heap hh) own started (by kernel_rfl) Tryd.func5
    (ChangeSpec.witness_shaped (enc := enc) (C := Tryd.checked) (os := os) (X := fun w _ => laidMetH Tryd.prog LD w) false (World.doorLaid Tryd.prog 31 os) #[.slice none 0 0, .agg #[.int .u8 0, .int .u8 0, .int .u8 0, .int .u8 0, .int .u8 0, .int .u8 0, .int .u8 0, .int .u8 0, .int .u8 0, .int .u8 0, .int .u8 0, .int .u8 0, .int .u8 0, .int .u8 0, .int .u8 0, .int .u8 0, .int .u8 0, .int .u8 0, .int .u8 0, .int .u8 0]] 8 rfl (World.shaped_of_RefB (by kernel_rfl) (by kernel_rfl)) (by kernel_rfl) (by kernel_rfl) (by kernel_rfl) (door_met os _)) ?_
  intro W base args ds gs before hval0 hW _ _ hL _
  have hval : ∀ (j : Nat) t v, Tryd.f5.params[j]? = some t → args[j]? = some v → Value.okWide Tryd.prog W .any base t v := hval0
  have hW' := hW
  obtain ⟨p, q, hA0, hV, rfl, hfz, hnd⟩ := hW
  have hA : DataW.TrodAll enc Tryd.prog W 0 (fun _ => true) true Tryd.f5.params.toList args.toList ds p := hA0
  rw [Tryd.params5] at hA hval
  obtain ⟨v0, vs0, d0, ds0, p0, q0, hargs, rfl, rfl, h0, r0⟩ := trodAll_cons hA
  obtain ⟨v1, vs1, d1, ds1, p1, q1, rfl, rfl, rfl, h1, r1⟩ := trodAll_cons r0
  obtain ⟨rfl, rfl, rfl⟩ := trodAll_nil r1
  obtain rfl : args = #[v0, v1] := by cases args; simp_all
  obtain ⟨rfl, rfl⟩ := trodVars_none hV
  have k0 := h0
  have lt0 : ∀ x ∈ p0, x.block < W.heap.size := by obtain ⟨m, hm⟩ := k0; exact DataW.trod_lt m _ _ _ hm
  obtain ⟨L0, ls0, wf0⟩ := open_peers (hval 0 23 v0 rfl rfl) h0
  have k1 := h1
  have lt1 : ∀ x ∈ p1, x.block < W.heap.size := by obtain ⟨m, hm⟩ := k1; exact DataW.trod_lt m _ _ _ hm
  obtain ⟨n1, il1, rfl⟩ := open_id (hval 1 32 v1 rfl rfl) h1
  have hG := glob_of_laid hL
  clear hA0 hval0
  refine (walk hG ls0 wf0 n1 il1).mono fun e W' ⟨he, bel⟩ => ?_
  subst he
  exact ⟨_, rfl, _, _, _, [], _, [], hW', trodAll_mk1 (shut_bool Tryd.underlying4 _), (trodAll_cons_mk (Below.trod laidOut (by kernel_rfl) (of_decide_eq_true (by kernel_rfl)) k0 bel lt0) (trodAll_cons_mk (Below.trod laidOut (by kernel_rfl) (of_decide_eq_true (by kernel_rfl)) k1 bel lt1) trodAll_mk0)), rfl, bel.frame _, fun h => by cases h⟩

theorem proved : Rows.CircleArcsSaid :=
  OpenClaim.holds_of_wide 5 Tryd.f5 rfl rfl rfl rfl rfl rfl rfl ⟨rfl, rfl, rfl, rfl, rfl⟩ rfl rfl rfl rfl rfl (by kernel_rfl) Tryd.func5 (by kernel_rfl)
    (of_decide_eq_true (by kernel_rfl)) (by unfold Func.isWrapper; first | (rw [if_pos (by decide +kernel)]; kernel_rfl) | (rw [if_neg (by decide +kernel)]; exact ⟨rfl, rfl⟩))
    (fun os started H enc _ => lifted os started H enc)
theorem card : Rows.CircleArcsCardSaid :=
  Claim7.holds_tied_plain_at .later [] [.data, .data, .data] true _ false
    proved (fun _ h => by cases h) (by kernel_rfl) (fun _ h => by cases h) circleArcs_row_tie rfl ⟨rfl, rfl⟩ (by kernel_rfl) rfl
    (fun f fn hf hfn => by
      obtain rfl : f = 5 := Option.some.inj ((show Tryd.prog.funcNamed Rows.circleArcsRow.func = some 5 by kernel_rfl).symm.trans hf) |>.symm
      obtain rfl : fn = Tryd.f5 := (Option.some.inj (Tryd.func5.symm.trans hfn)).symm
      exact ⟨by kernel_rfl, fun j t ht => by
        rw [Tryd.params5] at ht
        have hm : t ∈ [23, 32] := by simpa using Array.mem_of_getElem? ht
        have hall : ([23, 32].all fun u => !Tryd.prog.wantsStandIn u) = true := by kernel_rfl
        exact (show Tryd.prog.wantsStandIn t = false by simpa using List.all_eq_true.1 hall t hm)⟩)
    (by kernel_rfl)

end Go.Proofs.YtmlejcfnnjnggaaDoor.ArcsLaw
