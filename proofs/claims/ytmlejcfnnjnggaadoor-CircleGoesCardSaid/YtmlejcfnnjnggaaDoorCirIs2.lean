/- Whether a row of peers is a circle: Is; a place of it; the owner. -/
import Derived.Test.YtmlejcfnnjnggaaDoorCirIs
namespace Go.Proofs.YtmlejcfnnjnggaaDoor
set_option maxRecDepth 100000
open Go Go.RowKit Go.Sort

theorem take_ad {L : List Pe} {i j : Nat} (h : j < i) : ad (L.take i) j = ad L j := by
  unfold ad; rw [List.getD_eq_getElem?_getD, List.getD_eq_getElem?_getD, List.getElem?_take, if_pos h]
theorem hasB_take {L : List Pe} {i : Nat} (hi : i ≤ L.length) (a : Int) : hasB (L.take i) a = decide (∃ j, j < i ∧ ad L j = a) := by
  unfold hasB
  rw [decide_eq_decide, List.length_take, Nat.min_eq_left hi]
  exact ⟨fun ⟨j, hj, h⟩ => ⟨j, hj, by rw [← take_ad hj]; exact h⟩, fun ⟨j, hj, h⟩ => ⟨j, hj, by rw [take_ad hj]; exact h⟩⟩
theorem okAt_iff {L : List Pe} (hw : Wf L) {i : Nat} (hi : i < L.length) : okAt L i ↔ addrB (ad L i) = true ∧ hasB (L.take i) (ad L i) = false ∧ (0 < i → lessB (pn L (i - 1)) (pn L i) = true) := by
  rw [hasB_take (Nat.le_of_lt hi), lessB_lt (hw.pn _) (hw.pn _)]
  unfold okAt addrB
  simp only [Bool.and_eq_true, decide_eq_true_eq, decide_eq_false_iff_not, not_exists, not_and, ne_eq]
  exact ⟨fun ⟨a, b, c, d⟩ => ⟨⟨a, b⟩, c, d⟩, fun ⟨⟨a, b⟩, c, d⟩ => ⟨a, b, c, d⟩⟩
theorem lies_take {w : World} {b o c : Nat} {L : List Pe} (hr : w.rangeAt b o (flat L)) (hc : L.length ≤ c) {i : Nat} (hi : i ≤ L.length) : Lies w (.slice (some ⟨b, o, none⟩) i c) (L.take i) := by
  have e : (L.take i).length = i := by rw [List.length_take, Nat.min_eq_left hi]
  refine .inr ⟨b, o, c, by rw [e], by rw [e]; omega, fun j v hj => hr j v ?_⟩
  rw [← flat_take, List.getElem?_take] at hj
  split at hj
  · exact hj
  · cases hj
theorem isAddr_gives (n : Int) : Gives Tryd.prog 29 #[.int .i64 n] (.bool (addrB n)) := fun w => calls_below (isAddr_any n w)
set_option maxHeartbeats 4000000 in
theorem is_any {w : World} {v : Value} {L : List Pe} (hL : Lies w v L) (hw : Wf L) (hn : L.length ≤ 1000000) : Calls Tryd.prog 12 #[v] w fun e w' => e = .returned (.bool (isB L)) ∧ Below w.heap.size w w' := by
  obtain ⟨sa, sc, rfl⟩ := hL.form
  have HS := Lib.hid (isSize_any (L.length : Int))
  cases hs : sizeB (L.length : Int)
  · rw [hs] at HS
    have hb : isB L = false := by
      unfold isB
      rw [decide_eq_false_iff_not]
      rintro ⟨⟨h1, h2⟩, _⟩
      unfold sizeB at hs
      simp at hs
      omega
    rw [hb]
    clear hL hw hb hs
    generalize L.length = n at *
    go_enter Tryd.func12, Tryd.ntmps12
    go_wp2_with (go_at_call 28; (with_reducible refine (HS.out _).mono ?_); rintro e w1 ⟨rfl, rfl⟩)
    go_ret
    exact ⟨rfl, Below.refl _ _⟩
  · rw [hs] at HS
    have hsz : 1 ≤ L.length ∧ L.length ≤ 16 := by
      unfold sizeB at hs
      simp at hs
      omega
    obtain ⟨n, hnL⟩ : ∃ n, n = L.length := ⟨_, rfl⟩
    rw [← hnL] at hL hn HS hsz ⊢
    have HN := Lib.hid hnL
    have HL := Lib.hid hL
    have HW := Lib.hid hw
    have HZ := Lib.hid hsz
    clear hL hw hnL hs hsz
    go_enter Tryd.func12, Tryd.ntmps12
    go_wp2_with (go_at_call 28; (with_reducible refine (HS.out _).mono ?_); rintro e w1 ⟨rfl, rfl⟩)
    go_loopw [11] (fun i wr => ∃ q : Nat, q ≤ n ∧ i = .int .i64 (q : Int) ∧ Below w.heap.size w wr ∧ ∀ j, j < q → okAt L j) (fun i _ => n - (intOf i).toNat)
    case atStart => exact ⟨0, by omega, rfl, Below.refl _ _, fun j hj => by omega⟩
    case round =>
      obtain ⟨q, hq, rfl, hB, hJ⟩ := hrel
      have HB := Lib.hid hB
      have HJ := Lib.hid hJ
      clear hB hJ
      by_cases hlt : q < n
      · have hqL : q < L.length := by have := HN.out; omega
        have hx := at_get (L := L) (i := q) hqL
        obtain ⟨b, o, c, e1, hc, hr, hp, hbs⟩ := (HL.out.bel HB.out).at hx
        simp only [Value.slice.injEq] at e1
        obtain ⟨rfl, enl, rfl⟩ := e1
        have hok := Lib.hid (okAt_iff HW.out hqL)
        have hT := lies_take hr hc (Nat.le_of_lt hqL)
        have B1 := (Below.refl wr.heap.size wr).alloc (Nat.le_refl _) (.cells (peA (ad L q, pn L q)) 43)
        have X1 := Blk.new wr (peA (ad L q, pn L q)) 43
        have hprev : 0 < q → (wr.alloc (.cells (peA (ad L q, pn L q)) 43)).rangeAt b (o + (q - 1) * 21 + 1) (row (dig 20 (pn L (q - 1)))).toList := fun h0 => by
          have h1 := at_get (L := L) (i := q - 1) (by omega)
          exact range_bel (pe_id (row_peer hr h1)) B1 hbs
        have HT := Lib.hid (hT.bel B1)
        have hqn : (L.take q).length ≤ 1000000 := by rw [List.length_take]; omega
        have HP := Lib.hid hp
        have bad : ¬ okAt L q → isB L = false := fun h => by
          unfold isB
          rw [decide_eq_false_iff_not]
          exact fun hC => h (hC.2 q hqL)
        have HBad := Lib.hid bad
        have good : okAt L q → ∀ j, j < q + 1 → okAt L j := fun h j hj => by
          rcases Nat.lt_or_ge j q with h' | h'
          · exact HJ.out j h'
          · obtain rfl : j = q := by omega
            exact h
        have HGood := Lib.hid good
        clear hx hp hr hT bad good
        have hcq : q ≤ sc := by omega
        clear hc enl
        go_upto_region 6 with (first
          | (refine p_midP rfl _ rfl _ _ rfl (ad L q, pn L q) HP.out ?_)
          | (refine p_storeP rfl rfl _ _ rfl (ad L q, pn L q) rfl rfl ?_))
        simp only [Act.put]
        have c0 : ∀ d os, (grow (redrawn (wr.alloc (.cells (peA (ad L q, pn L q)) 43)) d) os).cell? ⟨wr.heap.size, 0, none⟩ = some (.int .i64 (ad L q)) := fun d os => X1.grown 0 d os
        have ri : (wr.alloc (.cells (peA (ad L q, pn L q)) 43)).rangeAt wr.heap.size 1 (row (dig 20 (pn L q))).toList := pe_id (blk_range X1)
        have HA := isAddr_gives (ad L q)
        have HH : Hid (∀ d os, Calls Tryd.prog 38 #[.slice (some ⟨b, o, none⟩) q sc, .int .i64 (ad L q)] (grow (redrawn (wr.alloc (.cells (peA (ad L q, pn L q)) 43)) d) os) fun e w'' => e = .returned (.bool (hasB (L.take q) (ad L q))) ∧ ∃ p : Regrown, w'' = grow (redrawn (wr.alloc (.cells (peA (ad L q, pn L q)) 43)) p.d) p.os) :=
          fun d os => Calls.regrown_of (hasAddr_any (ad L q) (HT.out.bel (below_regrown _ d os)) hqn)
        have HLs := less_gives (pn L (q - 1)) (pn L q)
        have HB1 := Lib.hid (step HB.out B1)
        clear X1 HP HT B1
        generalize ad L q = xa at *
        generalize pn L q = xi at *
        generalize pn L (q - 1) = yi at *
        generalize hWW : wr.alloc _ = W at *
        generalize wr.heap.size = g at *
        clear hWW
        generalize hasB (L.take q) xa = hh at *
        generalize lessB yi xi = ls at *
        generalize addrB xa = aa at *
        clear hqL hbs
        cases aa
        · have hbad := Lib.hid (HBad.out (fun h => by have := (hok.out.1 h).1; simp at this))
          clear hok HBad HGood hprev
          refine wp_region_quiet_below (by kernel_rfl) (by kernel_rfl) ?_
          repeat (first
            | go_big_quiet_skip
            | (go_big_quiet_want
               first
               | (first | (refine q_to 23 _ _ rfl 43 21 Tryd.underlying23 sizeP b o _ sc q _ rfl rfl rfl hcq ?_)
                  simp only [Act.put, List.setIfInBounds_toArray, List.set_cons_succ, List.set_cons_zero]
                  go_big_quiet_on)
               | (go_big_quiet_op
                  first | go_big_quiet_on | go_big_quiet_call (first | with_reducible exact HA.grown _ _ | with_reducible exact HH.out _ _ | with_reducible exact HLs.grown _ _))))
          refine wpQuiet_nil ?_
          intro w2 hw'
          have hb2 := quiet_end hw'
          clear hw'
          have HB2 := Lib.hid (step HB1.out hb2)
          clear hb2 c0 ri
          go_wp2
          go_ret
          exact ⟨by rw [hbad.out]; rfl, HB2.out⟩
        cases hh
        rotate_left
        · have hbad := Lib.hid (HBad.out (fun h => by have := (hok.out.1 h).2.1; simp at this))
          clear hok HBad HGood hprev
          refine wp_region_quiet_below (by kernel_rfl) (by kernel_rfl) ?_
          repeat (first
            | go_big_quiet_skip
            | (go_big_quiet_want
               first
               | (first | (refine q_to 23 _ _ rfl 43 21 Tryd.underlying23 sizeP b o _ sc q _ rfl rfl rfl hcq ?_)
                  simp only [Act.put, List.setIfInBounds_toArray, List.set_cons_succ, List.set_cons_zero]
                  go_big_quiet_on)
               | (go_big_quiet_op
                  first | go_big_quiet_on | go_big_quiet_call (first | with_reducible exact HA.grown _ _ | with_reducible exact HH.out _ _ | with_reducible exact HLs.grown _ _))))
          refine wpQuiet_nil ?_
          intro w2 hw'
          have hb2 := quiet_end hw'
          clear hw'
          have HB2 := Lib.hid (step HB1.out hb2)
          clear hb2 c0 ri
          go_wp2
          go_ret
          exact ⟨by rw [hbad.out]; rfl, HB2.out⟩
        rcases Nat.eq_zero_or_pos q with h0 | h0
        · have hgood := Lib.hid (HGood.out (hok.out.2 ⟨rfl, rfl, fun h => by omega⟩))
          have hg0 : decide ((0 : Int) < (q : Int)) = false := decide_eq_false (by omega)
          have hg1 : decide (0 < q) = false := decide_eq_false (by omega)
          clear hok HBad HGood hprev h0
          refine wp_region_quiet_below (by kernel_rfl) (by kernel_rfl) ?_
          repeat (first
            | go_big_quiet_skip
            | (go_big_quiet_want
               first
               | (first | (refine q_to 23 _ _ rfl 43 21 Tryd.underlying23 sizeP b o _ sc q _ rfl rfl rfl hcq ?_)
                  simp only [Act.put, List.setIfInBounds_toArray, List.set_cons_succ, List.set_cons_zero]
                  go_big_quiet_on)
               | (go_big_quiet_op
                  first | go_big_quiet_on | go_big_quiet_call (first | with_reducible exact HA.grown _ _ | with_reducible exact HH.out _ _ | with_reducible exact HLs.grown _ _))))
          refine wpQuiet_nil ?_
          intro w2 hw'
          have hb2 := quiet_end hw'
          clear hw'
          have HB2 := Lib.hid (step HB1.out hb2)
          clear hb2 c0 ri
          go_wp2
          exact ⟨⟨q + 1, by omega, by go_num, HB2.out, hgood.out⟩, by simp [intOf]; omega⟩
        have rp := hprev h0
        obtain ⟨s, rfl⟩ : ∃ s, q = s + 1 := ⟨q - 1, by omega⟩
        rw [Nat.add_sub_cancel] at rp
        have hg0 : decide ((0 : Int) < (s : Int) + 1) = true := decide_eq_true (by omega)
        have hw1 : IntKind.i64.wrap ((s : Int) + 1 - 1) = (s : Int) := by rw [show (s : Int) + 1 - 1 = s by omega]; exact IntWalk.i64_in _ (by omega)
        have hin : (s : Int) < (n : Int) := by omega
        cases ls
        · have hbad := Lib.hid (HBad.out (fun h => by have := (hok.out.1 h).2.2 h0; simp at this))
          clear hok HBad HGood hprev h0
          refine wp_region_quiet_below (by kernel_rfl) (by kernel_rfl) ?_
          repeat (first
            | go_big_quiet_skip
            | (go_big_quiet_want
               first
               | (first | (refine q_to 23 _ _ rfl 43 21 Tryd.underlying23 sizeP b o _ sc q _ rfl rfl rfl hcq ?_) | (refine q_midI _ rfl _ _ rfl xi (by with_reducible exact ri) ?_) | (refine q_midI _ rfl _ _ rfl yi (by with_reducible exact rp) ?_)
                  simp only [Act.put, List.setIfInBounds_toArray, List.set_cons_succ, List.set_cons_zero]
                  go_big_quiet_on)
               | (go_big_quiet_op
                  first | go_big_quiet_on | go_big_quiet_call (first | with_reducible exact HA.grown _ _ | with_reducible exact HH.out _ _ | with_reducible exact HLs.grown _ _))))
          refine wpQuiet_nil ?_
          intro w2 hw'
          have hb2 := quiet_end hw'
          clear hw'
          have HB2 := Lib.hid (step HB1.out hb2)
          clear hb2 c0 ri rp
          go_wp2
          go_ret
          exact ⟨by rw [hbad.out]; rfl, HB2.out⟩
        · have hgood := Lib.hid (HGood.out (hok.out.2 ⟨rfl, rfl, fun _ => rfl⟩))
          clear hok HBad HGood hprev h0
          refine wp_region_quiet_below (by kernel_rfl) (by kernel_rfl) ?_
          repeat (first
            | go_big_quiet_skip
            | (go_big_quiet_want
               first
               | (first | (refine q_to 23 _ _ rfl 43 21 Tryd.underlying23 sizeP b o _ sc q _ rfl rfl rfl hcq ?_) | (refine q_midI _ rfl _ _ rfl xi (by with_reducible exact ri) ?_) | (refine q_midI _ rfl _ _ rfl yi (by with_reducible exact rp) ?_)
                  simp only [Act.put, List.setIfInBounds_toArray, List.set_cons_succ, List.set_cons_zero]
                  go_big_quiet_on)
               | (go_big_quiet_op
                  first | go_big_quiet_on | go_big_quiet_call (first | with_reducible exact HA.grown _ _ | with_reducible exact HH.out _ _ | with_reducible exact HLs.grown _ _))))
          refine wpQuiet_nil ?_
          intro w2 hw'
          have hb2 := quiet_end hw'
          clear hw'
          have HB2 := Lib.hid (step HB1.out hb2)
          clear hb2 c0 ri rp
          go_wp2
          exact ⟨⟨s + 1 + 1, by omega, by go_num, HB2.out, hgood.out⟩, by simp [intOf]; omega⟩
      · obtain rfl : n = q := by omega
        have HR : Hid (isB L = true) := by
          unfold Hid isB
          rw [decide_eq_true_eq]
          exact ⟨by have := HN.out; have := HZ.out; omega, fun i hi => HJ.out i (by have := HN.out; omega)⟩
        go_wp2
        go_ret
        exact ⟨by rw [HR.out]; rfl, HB.out⟩
end Go.Proofs.YtmlejcfnnjnggaaDoor
