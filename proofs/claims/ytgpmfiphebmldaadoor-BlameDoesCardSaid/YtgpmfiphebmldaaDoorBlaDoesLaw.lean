/- BlameDoes: for all scripts and codes the call returns true. No condition but that the package variables read as the program's text lays them. -/
import Derived.Test.YtgpmfiphebmldaaDoorBlaBuilt
import Derived.Test.YtgpmfiphebmldaaDoorBlaOpen
import Derived.Test.YtgpmfiphebmldaaDoorBlaLaid
import Derived.Test.YtgpmfiphebmldaaDoorBlaJoinLaw
import Derived.Test.YtgpmfiphebmldaaDoorBlaRefX
import Derived.Test.YtgpmfiphebmldaaDoorBlaRefR
import Derived.Test.YtgpmfiphebmldaaDoorBlaRefH
import Derived.Test.YtgpmfiphebmldaaDoorBlaSame
import Derived.Deep.RegionHeld3
namespace Go.Proofs.YtgpmfiphebmldaaDoor.DoesLaw
open Go Go.ChangeShapes Go.WideShapes Go.ChangeAt Go.RowKit Go.Sort
theorem step {w a b : World} (h : Below w.heap.size w a) (k : Below a.heap.size a b) : Below w.heap.size w b := h.trans (k.mono h.size)

set_option maxRecDepth 100000 in
set_option maxHeartbeats 8000000 in
theorem walk (l : List Stp) (v : Value) (w : World) (hS : Scr w v l) (c : Int) (hG : Glob w) : Calls Tryd.prog 3 #[v, .int .i64 c] w fun e w' => e = .returned (.bool true) ∧ Below w.heap.size w w' := by
  have hF := few_any v l w hS
  have hB := fun (h : l.length ≤ 60 ∧ opsum l ≤ 2000) => built_any v l w hS h.1 h.2
  have b0 := Below.refl w.heap.size w
  obtain ⟨al0, nl0, cl0, rfl⟩ : ∃ a n c, v = .slice a n c := by
    rcases hS with ⟨_, rfl⟩ | ⟨b, o, c, rfl, _⟩ <;> exact ⟨_, _, _, rfl⟩
  go_enter Tryd.func3, Tryd.ntmps3
  go_upto_region 4 with (first
    | (go_at_call 7; (with_reducible refine hF.mono ?_); rintro e w1 ⟨r, rfl, hr, rfl⟩; cases r)
    | (go_at_call 8; (with_reducible refine (hB (hr trivial)).mono ?_); rintro e w2 ⟨lv, mv, us, xs, rfl, hL, hM, b1⟩))
  · go_ret
    exact ⟨rfl, b0⟩
  obtain ⟨h60, h2000⟩ := hr trivial
  have hwt : wts (runO l) ≤ 4200 := by
    have := wts_run l l.length
    rw [List.take_length] at this
    omega
  clear hB hF hr hS
  generalize runO l = L at *
  obtain ⟨n, hn⟩ : ∃ n, n = L.length := ⟨_, rfl⟩
  have hlen := wts_length L
  have HN := Lib.hid hn
  obtain ⟨al, cl, rfl⟩ := own_shape hL.own
  obtain ⟨am, cm, rfl⟩ := own_shape hM.own
  rw [← hn] at hL hM hlen ⊢
  have hlo := hL.own
  have hmo := hM.own
  rw [← hn] at hlo hmo
  have hn1 : n ≤ 2100 := by omega
  have hG2 := hG.below b1 hG.size
  have hE2 := (hL.is.mono (q := fun k => k < w2.heap.size) fun i hi _ => hi)
  have hT2 := (hM.is.mono (q := fun k => k < w2.heap.size) fun i hi _ => hi)
  have HE2 := Lib.hid hE2
  have HT2 := Lib.hid hT2
  have HLO := Lib.hid hlo
  have HMO := Lib.hid hmo
  clear hL hM hn hE2 hT2 hlo hmo
  go_wp2
  go_loopw [7] (fun i wr => ∃ k : Nat, k ≤ n ∧ i = .int .i64 (k : Int) ∧ Below w2.heap.size w2 wr) (fun i _ => n - (intOf i).toNat)
  case atStart => exact ⟨0, by omega, rfl, Below.refl _ _⟩
  case round =>
    obtain ⟨k, hk, rfl, hb⟩ := hrel
    by_cases hlt : k < n
    · obtain ⟨o, ho⟩ : ∃ o, L[k]? = some o := ⟨_, List.getElem?_eq_getElem (by rw [← HN.out]; omega)⟩
      obtain ⟨v, hv⟩ : ∃ v, us[k]? = some v := ⟨_, List.getElem?_eq_getElem (by rw [HE2.out.length, ← HN.out]; omega)⟩
      obtain ⟨X, hX⟩ : ∃ X, xs[k]? = some X := ⟨_, List.getElem?_eq_getElem (by rw [HT2.out.1, ← HN.out]; omega)⟩
      obtain ⟨g, c1, hal, _, hgl, _, hgr⟩ := own_range HLO.out (by omega)
      obtain ⟨g2, c2, ham, _, hgl2, _, hgr2⟩ := own_range HMO.out (by omega)
      simp only [Value.slice.injEq, true_and] at hal ham
      obtain ⟨rfl, rfl⟩ := hal
      obtain ⟨rfl, rfl⟩ := ham
      have hvo := HE2.out.get k v o hv ho
      have hXo := HT2.out.2 k X o hX ho
      have hwo : wtO o ≤ 1000000 := by have := wts_get L k o ho; omega
      obtain ⟨q1, q2, q3, q4, q5, hXs⟩ := to_shape hXo
      have hgr3 : w2.rangeAt g2 (k * 4) X.toList := by
        have := flat_range (o := 0) HT2.out.size hgr2 k X hX
        rwa [Nat.zero_add] at this
      have z0 : w2.cell? ⟨g, k, none⟩ = some v := by have := hgr k v hv; rwa [Nat.zero_add] at this
      have z1 : w2.cell? ⟨g2, k * 4, none⟩ = some (.int .i64 (kindO o)) := by have := hgr3 0 (.int .i64 (kindO o)) (by rw [hXs]; rfl); rwa [Nat.add_zero] at this
      have z2 : w2.cell? ⟨g2, k * 4 + 1, none⟩ = some (.int .i64 q1) := hgr3 1 _ (by rw [hXs]; rfl)
      have z3 : w2.cell? ⟨g2, k * 4 + 2, none⟩ = some (.string q2) := hgr3 2 _ (by rw [hXs]; rfl)
      have z4 : w2.cell? ⟨g2, k * 4 + 3, none⟩ = some (.slice q3 q4 q5) := hgr3 3 _ (by rw [hXs]; rfl)
      have HS : Hid (∀ w', Below w2.heap.size w2 w' → w'.cell? ⟨g, k, none⟩ = some v ∧ w'.cell? ⟨g2, k * 4, none⟩ = some (.int .i64 (kindO o)) ∧ w'.cell? ⟨g2, k * 4 + 1, none⟩ = some (.int .i64 q1) ∧ w'.cell? ⟨g2, k * 4 + 2, none⟩ = some (.string q2) ∧ w'.cell? ⟨g2, k * 4 + 3, none⟩ = some (.slice q3 q4 q5)) :=
        fun w' hb => ⟨(hb.cell (p := ⟨g, k, none⟩) hgl).trans z0, (hb.cell (p := ⟨g2, k * 4, none⟩) hgl2).trans z1, (hb.cell (p := ⟨g2, k * 4 + 1, none⟩) hgl2).trans z2, (hb.cell (p := ⟨g2, k * 4 + 2, none⟩) hgl2).trans z3, (hb.cell (p := ⟨g2, k * 4 + 3, none⟩) hgl2).trans z4⟩
      have hkd := kind_zero o
      have hC : Hid (∀ w', Below w2.heap.size w2 w' → Calls Tryd.prog 9 #[v] w' fun e w'' => e = .returned (.int .i64 (firstO o)) ∧ Below w'.heap.size w' w'') := fun w' hb => code_any _ v o w' (hvo.bel hb) (hG2.below hb hG2.size) hwo
      have hH : Hid (∀ w', Below w2.heap.size w2 w' → Calls Tryd.prog 11 #[v, .int .i64 c] w' fun e w'' => e = .returned (.bool (hasO o c)) ∧ Below w'.heap.size w' w'') := fun w' hb => has_any _ v o c w' (hvo.bel hb) (hG2.below hb hG2.size) hwo
      have hA : Hid (∀ w', Below w2.heap.size w2 w' → Calls Tryd.prog 13 #[v] w' fun e w'' => e = .returned (.bool (againO o)) ∧ Below w'.heap.size w' w'') := fun w' hb => again_any _ v o w' (hvo.bel hb) (hG2.below hb hG2.size) hwo
      have hT : Hid (∀ w', Below w2.heap.size w2 w' → Calls Tryd.prog 16 #[v] w' fun e w'' => ∃ u, e = .returned u ∧ Txs w'.heap.size u (trailO o) w'' ∧ Below w'.heap.size w' w'') := fun w' hb => trail_any _ v o w' (hvo.bel hb) hwo
      have hX1 : Hid (∀ w', Below w2.heap.size w2 w' → Calls Tryd.prog 18 #[v] w' fun e w'' => e = .returned (.string (bs (textO o))) ∧ Below w'.heap.size w' w'') := fun w' hb => text_any _ v o w' (hvo.bel hb) (hG2.below hb hG2.size) hwo
      have hRC : Hid (∀ w', Below w2.heap.size w2 w' → Calls Tryd.prog 10 #[.agg X] w' fun e w'' => e = .returned (.int .i64 (firstO o)) ∧ Below w'.heap.size w' w'') := fun w' hb => refcode_any _ X o w' (hXo.bel hb) hwo
      have hRH : Hid (∀ w', Below w2.heap.size w2 w' → Calls Tryd.prog 12 #[.agg X, .int .i64 c] w' fun e w'' => e = .returned (.bool (hasO o c)) ∧ Below w'.heap.size w' w'') := fun w' hb => refhas_any _ X o c w' (hXo.bel hb) hwo
      have hRA : Hid (∀ w', Below w2.heap.size w2 w' → Calls Tryd.prog 14 #[.agg X] w' fun e w'' => e = .returned (.bool (againO o)) ∧ Below w'.heap.size w' w'') := fun w' hb => refagain_any _ X o w' (hXo.bel hb) hwo
      have hRT : Hid (∀ w', Below w2.heap.size w2 w' → Calls Tryd.prog 17 #[.agg X] w' fun e w'' => ∃ u, e = .returned u ∧ Txs w'.heap.size u (trailO o) w'' ∧ Below w'.heap.size w' w'') := fun w' hb => reftrail_any _ X o w' (hXo.bel hb) hwo
      have hRX : Hid (∀ w', Below w2.heap.size w2 w' → Calls Tryd.prog 19 #[.agg X] w' fun e w'' => e = .returned (.string (bs (textO o))) ∧ Below w'.heap.size w' w'') := fun w' hb => reftext_any _ X o w' (hXo.bel hb) hwo
      have hf5 : (trailO o).length ≤ 1000000 := by
        cases o with
        | none => simp [trailO]
        | some t => exact Nat.le_trans (trail_le t) hwo
      have hne := eo_eql hvo
      have hgu := eo_guard hvo
      clear z0 z1 z2 z3 z4 hgr hgr2 hgr3 hX hv ho hXo hvo
      subst hXs
      generalize firstO o = f1 at *
      generalize hasO o c = f2 at *
      generalize againO o = f3 at *
      generalize bs (textO o) = f4 at *
      generalize trailO o = f5 at *
      generalize kindO o = kd at *
      have n1 : (f1 != f1) = false := by simp
      have n2 : (f2 != f2) = false := by simp
      have n3 : (f3 != f3) = false := by simp
      have n4 : (f4.toList != f4.toList) = false := by rw [bne, beq_self]; rfl
      have n6 := beq_self f4
      generalize o.isNone = on at *
      have n5 : (on != on) = false := by simp
      unfold treeC at hRC hRH hRA hRT hRX
      have hbw := hb
      go_upto_region 7 with (fail)
      replace hb := hb.drew
      go_region_held3 (fun w' => w'.cell? ⟨g, k, none⟩ = some v ∧ w'.cell? ⟨g2, k * 4, none⟩ = some (.int .i64 kd) ∧ w'.cell? ⟨g2, k * 4 + 1, none⟩ = some (.int .i64 q1) ∧ w'.cell? ⟨g2, k * 4 + 2, none⟩ = some (.string q2) ∧ w'.cell? ⟨g2, k * 4 + 3, none⟩ = some (.slice q3 q4 q5))
        (first | exact HS.out _ hb | exact HS.out _ hbw)
        (first
          | (go_at_call 9; (with_reducible refine (hC.out _ hb).mono ?_); rintro e wa ⟨rfl, k1⟩; have hb := step hb k1)
          | (go_at_call 10; (with_reducible refine (hRC.out _ hb).mono ?_); rintro e wa ⟨rfl, k1⟩; have hb := step hb k1)
          | (go_at_call 11; (with_reducible refine (hH.out _ hb).mono ?_); rintro e wa ⟨rfl, k1⟩; have hb := step hb k1)
          | (go_at_call 12; (with_reducible refine (hRH.out _ hb).mono ?_); rintro e wa ⟨rfl, k1⟩; have hb := step hb k1)
          | (go_at_call 13; (with_reducible refine (hA.out _ hb).mono ?_); rintro e wa ⟨rfl, k1⟩; have hb := step hb k1)
          | (go_at_call 14; (with_reducible refine (hRA.out _ hb).mono ?_); rintro e wa ⟨rfl, k1⟩; have hb := step hb k1))
      all_goals
        go_upto_region 9 with (fail)
        have hbw := hb
        replace hb := hb.drew
        go_region_held3 (fun w' => w'.cell? ⟨g, k, none⟩ = some v ∧ w'.cell? ⟨g2, k * 4, none⟩ = some (.int .i64 kd) ∧ w'.cell? ⟨g2, k * 4 + 1, none⟩ = some (.int .i64 q1) ∧ w'.cell? ⟨g2, k * 4 + 2, none⟩ = some (.string q2) ∧ w'.cell? ⟨g2, k * 4 + 3, none⟩ = some (.slice q3 q4 q5))
          (first | exact HS.out _ hb | exact HS.out _ hbw)
          (first
            | (go_at_call 16; (with_reducible refine (hT.out _ hb).mono ?_); rintro e wa ⟨ua, rfl, ta, k1⟩; have sa := ta.sl; (try have sb := sb.later k1); have hb := step hb k1)
            | (go_at_call 17; (with_reducible refine (hRT.out _ hb).mono ?_); rintro e wb ⟨ub, rfl, tb, k1⟩; have sb := tb.sl; (try have sa := sa.later k1); have hb := step hb k1)
            | (go_at_call 15; (with_reducible refine (same_any _ _ f5 _ sa sb hf5).mono ?_); rintro e wc ⟨rfl, k1⟩; have hb := step hb k1)
            | (go_at_call 18; (with_reducible refine (hX1.out _ hb).mono ?_); rintro e wd ⟨rfl, k1⟩; have hb := step hb k1)
            | (go_at_call 19; (with_reducible refine (hRX.out _ hb).mono ?_); rintro e we ⟨rfl, k1⟩; have hb := step hb k1))
        all_goals
          go_wp2
          exact ⟨⟨k + 1, by omega, by go_num, hb⟩, by simp [intOf] <;> omega⟩
    · have hBl := blamed_any wr (hG2.below hb hG2.size)
      go_wp2_with (go_at_call 20; (with_reducible refine hBl.mono ?_); rintro e wa ⟨rfl, k1⟩; have hb := step hb k1)
      go_ret
      exact ⟨rfl, step b1 hb⟩
theorem walk2 (w : World) (hG : Glob w) (l : List Stp) (v : Value) (hS : Scr w v l) (c : Int) (_ : -9223372036854775808 ≤ c) (_ : c ≤ 9223372036854775807) : Calls Tryd.prog 3 #[v, .int .i64 c] w fun e w' => e = .returned (.bool true) ∧ Below w.heap.size w w' := walk l v w hS c hG
theorem int_bounds {n : Int} (h : (Lit.int .i64 n).wf = true) : -9223372036854775808 ≤ n ∧ n ≤ 9223372036854775807 := int_bounds0 h

set_option maxRecDepth 100000 in
theorem lifted (os : Os) (started : os.Started) (H : Type) (enc : TypeId × Value → H) :
    ReturnsInHanded {} Tryd.checked os 3 .any (fun w args => (Rows.blameDoesSpec.pre enc Tryd.prog Tryd.f3 [] false w args ∧ laidMetH Tryd.prog LD w) ∧ sizedMet enc Tryd.prog Tryd.f3 (OpenSpec.ofChange Rows.blameDoesSpec) false w args)
      (Rows.blameDoesSpec.post enc Tryd.prog Tryd.f3 false true false false) := by
  refine returnsInHanded_of_change_and (C := Tryd.checked) (X := fun w _ => laidMetH Tryd.prog LD w) (fun _ _ _ hh h => h.of_heap hh) own started (by kernel_rfl) Tryd.func3
    (ChangeSpec.witness_shaped (enc := enc) (C := Tryd.checked) (os := os) (X := fun w _ => laidMetH Tryd.prog LD w) false (World.doorLaid Tryd.prog 31 os) #[.slice none 0 0, .int .i64 0] 8 rfl (World.shaped_of_RefB (by kernel_rfl) (by kernel_rfl)) (by kernel_rfl) (by kernel_rfl) (by kernel_rfl) (door_met os _)) ?_
  intro W base args ds gs before hval0 hW _ hsz hL _
  have hval : ∀ (j : Nat) t v, Tryd.f3.params[j]? = some t → args[j]? = some v → Value.okWide Tryd.prog W .any base t v := hval0
  have hW' := hW
  obtain ⟨p, q, hA0, hV, rfl, hfz, hnd⟩ := hW
  have hA : DataW.TrodAll enc Tryd.prog W 0 (fun _ => true) true Tryd.f3.params.toList args.toList ds p := hA0
  rw [Tryd.params3] at hA hval
  obtain ⟨v0, vs0, d0, ds0, p0, q0, hargs, rfl, rfl, h0, r0⟩ := trodAll_cons hA
  obtain ⟨v1, vs1, d1, ds1, p1, q1, rfl, rfl, rfl, h1, r1⟩ := trodAll_cons r0
  obtain ⟨rfl, rfl, rfl⟩ := trodAll_nil r1
  obtain rfl : args = #[v0, v1] := by cases args; simp_all
  obtain ⟨rfl, rfl⟩ := trodVars_none hV
  have k0 := h0
  have lt0 : ∀ x ∈ p0, x.block < W.heap.size := by obtain ⟨m, hm⟩ := k0; exact DataW.trod_lt m _ _ _ hm
  have hz0 : ∀ k ∈ d0.weights Tryd.prog 22, k ≤ reachBytes := fun k hk => by simpa using List.all_eq_true.1 hsz k (DataW.weights_mem_each (j := 0) rfl rfl k hk)
  obtain ⟨st0, sc0⟩ := open_script (hval 0 22 v0 rfl rfl) h0 hz0
  have k1 := h1
  have lt1 : ∀ x ∈ p1, x.block < W.heap.size := by obtain ⟨m, hm⟩ := k1; exact DataW.trod_lt m _ _ _ hm
  obtain ⟨n1, rfl, _, _, wf1⟩ := open_int Tryd.underlying23 (hval 1 23 v1 rfl rfl) h1
  have bd1 := int_bounds wf1
  have hG := glob_of_laid hL
  clear hA0 hval0
  refine (walk2 W hG st0 v0 sc0 n1 bd1.1 bd1.2).mono fun e W' ⟨he, bel⟩ => ?_
  subst he
  exact ⟨_, rfl, _, _, _, [], _, [], hW', trodAll_mk1 (shut_bool Tryd.underlying4 _), (trodAll_cons_mk (Below.trod laidOut (by kernel_rfl) (of_decide_eq_true (by kernel_rfl)) k0 bel lt0) (trodAll_cons_mk (Below.trod laidOut (by kernel_rfl) (of_decide_eq_true (by kernel_rfl)) k1 bel lt1) trodAll_mk0)), rfl, bel.frame _, fun h => by cases h⟩

theorem proved : Rows.BlameDoesSaid :=
  OpenClaim.holds_of_wide 3 Tryd.f3 rfl rfl rfl rfl rfl rfl rfl ⟨rfl, rfl, rfl, rfl, rfl⟩ rfl rfl rfl rfl rfl (by kernel_rfl) Tryd.func3 (by kernel_rfl)
    (of_decide_eq_true (by kernel_rfl)) (by unfold Func.isWrapper; first | (rw [if_pos (by decide +kernel)]; kernel_rfl) | (rw [if_neg (by decide +kernel)]; exact ⟨rfl, rfl⟩))
    (fun os started H enc _ => lifted os started H enc)
theorem card : Rows.BlameDoesCardSaid :=
  Claim7.holds_tied_plain_at .later [] [.data, .data, .data, .handle] true _ true
    proved (fun _ h => by cases h) (by kernel_rfl) (fun _ h => by cases h) blameDoes_row_tie rfl ⟨rfl, rfl⟩ (by kernel_rfl) rfl
    (fun f fn hf hfn => by
      obtain rfl : f = 3 := Option.some.inj ((show Tryd.prog.funcNamed Rows.blameDoesRow.func = some 3 by kernel_rfl).symm.trans hf) |>.symm
      obtain rfl : fn = Tryd.f3 := (Option.some.inj (Tryd.func3.symm.trans hfn)).symm
      exact ⟨by kernel_rfl, fun j t ht => by
        rw [Tryd.params3] at ht
        have hm : t ∈ [22, 23] := by simpa using Array.mem_of_getElem? ht
        have hall : ([22, 23].all fun u => !Tryd.prog.wantsStandIn u) = true := by kernel_rfl
        exact (show Tryd.prog.wantsStandIn t = false by simpa using List.all_eq_true.1 hall t hm)⟩)
    (by kernel_rfl)

end Go.Proofs.YtgpmfiphebmldaaDoor.DoesLaw
