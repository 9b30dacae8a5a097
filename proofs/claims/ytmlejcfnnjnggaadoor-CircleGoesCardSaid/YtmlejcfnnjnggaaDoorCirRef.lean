/- The document's answers: whether a row of peers is a circle, and who owns a place. -/
import Derived.Test.YtmlejcfnnjnggaaDoorCirIs2
namespace Go.Proofs.YtmlejcfnnjnggaaDoor
set_option maxRecDepth 100000
open Go Go.RowKit Go.Sort

theorem lies_ad {w : World} {b o : Nat} {L : List Pe} (hr : w.rangeAt b o (flat L)) {i : Nat} (hi : i < L.length) : w.cell? ⟨b, o + i * 21, none⟩ = some (.int .i64 (ad L i)) := pe_ad (row_peer hr (at_get hi))
theorem lies_id {w : World} {b o : Nat} {L : List Pe} (hr : w.rangeAt b o (flat L)) {i : Nat} (hi : i < L.length) : w.rangeAt b (o + i * 21 + 1) (row (dig 20 (pn L i))).toList := pe_id (row_peer hr (at_get hi))
theorem not_circ {L : List Pe} {q : Nat} (hq : q < L.length) (h : ¬ okAt L q) : isB L = false := by
  unfold isB
  rw [decide_eq_false_iff_not]
  exact fun hC => h (hC.2 q hq)
set_option maxHeartbeats 4000000 in
theorem refIs_any {w : World} {v : Value} {L : List Pe} (hL : Lies w v L) (hw : Wf L) (hn : L.length ≤ 1000000) : Calls Tryd.prog 13 #[v] w fun e w' => e = .returned (.bool (isB L)) ∧ Below w.heap.size w w' := by
  obtain ⟨sa, sc, rfl⟩ := hL.form
  by_cases hs : 1 ≤ L.length ∧ L.length ≤ 16
  rotate_left
  · have hb : isB L = false := by
      unfold isB
      rw [decide_eq_false_iff_not]
      exact fun h => hs h.1
    rw [hb]
    clear hL hw hb
    generalize L.length = n at *
    by_cases h1 : 1 ≤ n
    · have hd : decide ((n : Int) < 1) = false := decide_eq_false (by omega)
      have hd2 : decide ((16 : Int) < n) = true := decide_eq_true (by omega)
      go_enter Tryd.func13, Tryd.ntmps13
      go_wp2
      go_ret
      exact ⟨rfl, Below.refl _ _⟩
    · have hd : decide ((n : Int) < 1) = true := decide_eq_true (by omega)
      go_enter Tryd.func13, Tryd.ntmps13
      go_wp2
      go_ret
      exact ⟨rfl, Below.refl _ _⟩
  · obtain ⟨n, hnL⟩ : ∃ n, n = L.length := ⟨_, rfl⟩
    have hd : decide ((L.length : Int) < 1) = false := decide_eq_false (by omega)
    have hd2 : decide ((16 : Int) < L.length) = false := decide_eq_false (by omega)
    rw [← hnL] at hL hn hs hd hd2 ⊢
    obtain ⟨b, o, c, e1, hc0, hr0, hbs0⟩ : ∃ b o c, Value.slice sa n sc = .slice (some ⟨b, o, none⟩) n c ∧ n ≤ c ∧ w.rangeAt b o (flat L) ∧ b < w.heap.size := by
      obtain ⟨b, o, c, h1, h2, h3, h4⟩ := hL.some (by omega)
      exact ⟨b, o, c, by rw [h1, hnL], by omega, h3, h4⟩
    simp only [Value.slice.injEq, true_and] at e1
    obtain ⟨rfl, rfl⟩ := e1
    have HN := Lib.hid hnL
    have HR0 := Lib.hid hr0
    have HW := Lib.hid hw
    have HZ := Lib.hid hs
    clear hL hw hnL hs hc0 hr0
    go_enter Tryd.func13, Tryd.ntmps13
    go_wp2
    go_loopw [3] (fun i wr => ∃ q : Nat, q ≤ n ∧ i = .int .i64 (q : Int) ∧ Below w.heap.size w wr ∧ ∀ j, j < q → okAt L j) (fun i _ => n - (intOf i).toNat)
    case atStart => exact ⟨0, by omega, rfl, Below.refl _ _, fun j hj => by omega⟩
    case round =>
      obtain ⟨q, hq, rfl, hB, hJ⟩ := hrel
      have HB := Lib.hid hB
      have HJ := Lib.hid hJ
      clear hB hJ
      by_cases hlt : q < n
      · have hqL : q < L.length := by have := HN.out; omega
        have hr : wr.rangeAt b o (flat L) := range_bel HR0.out HB.out hbs0
        have hok := Lib.hid (okAt_iff HW.out hqL)
        have bad : ¬ okAt L q → isB L = false := not_circ hqL
        have HBad := Lib.hid bad
        have good : okAt L q → ∀ j, j < q + 1 → okAt L j := fun h j hj => by
          rcases Nat.lt_or_ge j q with h' | h'
          · exact HJ.out j h'
          · obtain rfl : j = q := by omega
            exact h
        have HGood := Lib.hid good
        have c1 : ∀ d os, (grow (redrawn wr d) os).cell? ⟨b, o + q * 21, none⟩ = some (.int .i64 (ad L q)) := fun d os => lies_ad (range_bel hr (below_regrown wr d os) (Nat.lt_of_lt_of_le hbs0 HB.out.size)) hqL
        have ri := lies_id hr hqL
        have hprev : 0 < q → wr.rangeAt b (o + (q - 1) * 21 + 1) (row (dig 20 (pn L (q - 1)))).toList := fun h0 => lies_id hr (by omega)
        have hfree : hasB (L.take q) (ad L q) = true ∨ hasB (L.take q) (ad L q) = false := by cases hasB (L.take q) (ad L q) <;> simp
        have HT := Lib.hid (hasB_take (Nat.le_of_lt hqL) (ad L q))
        have HLs := refLess_gives (pn L (q - 1)) (pn L q)
        clear bad good hr hfree
        generalize hxa : ad L q = xa at *
        generalize pn L q = xi at *
        generalize pn L (q - 1) = yi at *
        generalize lessB yi xi = ls at *
        have HXA := Lib.hid hxa
        clear hqL hxa
        go_upto_region 6 with (fail)
        by_cases ha : 0 ≤ xa
        rotate_left
        · have da : decide (xa < 0) = true := decide_eq_true (by omega)
          have hbad := Lib.hid (HBad.out (fun h => by have := (hok.out.1 h).1; unfold addrB at this; simp at this; omega))
          clear hok HBad HGood hprev
          refine wp_region_quiet_below (by kernel_rfl) (by kernel_rfl) ?_
          repeat (first
            | go_big_quiet_skip
            | (go_big_quiet_want
               first
               | (first | fail
                  simp only [Act.put, List.setIfInBounds_toArray, List.set_cons_succ, List.set_cons_zero]
                  go_big_quiet_on)
               | (go_big_quiet_op
                  first | go_big_quiet_on | go_big_quiet_call (first | with_reducible exact HLs.grown _ _))))
          refine wpQuiet_nil ?_
          intro w2 hw'
          have hb2 := quiet_end hw'
          clear hw'
          have HB2 := Lib.hid (step HB.out hb2)
          clear hb2 c1 ri
          go_wp2
          go_ret
          exact ⟨by rw [hbad.out]; rfl, HB2.out⟩
        have da : decide (xa < 0) = false := decide_eq_false (by omega)
        by_cases ha2 : xa ≤ 999
        rotate_left
        · have da2 : decide (999 < xa) = true := decide_eq_true (by omega)
          have hbad := Lib.hid (HBad.out (fun h => by have := (hok.out.1 h).1; unfold addrB at this; simp at this; omega))
          clear hok HBad HGood hprev
          refine wp_region_quiet_below (by kernel_rfl) (by kernel_rfl) ?_
          repeat (first
            | go_big_quiet_skip
            | (go_big_quiet_want
               first
               | (first | fail
                  simp only [Act.put, List.setIfInBounds_toArray, List.set_cons_succ, List.set_cons_zero]
                  go_big_quiet_on)
               | (go_big_quiet_op
                  first | go_big_quiet_on | go_big_quiet_call (first | with_reducible exact HLs.grown _ _))))
          refine wpQuiet_nil ?_
          intro w2 hw'
          have hb2 := quiet_end hw'
          clear hw'
          have HB2 := Lib.hid (step HB.out hb2)
          clear hb2 c1 ri
          go_wp2
          go_ret
          exact ⟨by rw [hbad.out]; rfl, HB2.out⟩
        have da2 : decide (999 < xa) = false := decide_eq_false (by omega)
        have haddr : addrB xa = true := by unfold addrB; simp; omega
        have HAD := Lib.hid haddr
        clear ha ha2 haddr
        rcases Nat.eq_zero_or_pos q with h0 | h0
        · have hg0 : decide ((0 : Int) < (q : Int)) = false := decide_eq_false (by omega)
          have hg1 : decide (0 < q) = false := decide_eq_false (by omega)
          have H0 := Lib.hid h0
          clear hprev h0
          refine wp_region_quiet_below (by kernel_rfl) (by kernel_rfl) ?_
          repeat (first
            | go_big_quiet_skip
            | (go_big_quiet_want
               first
               | (first | fail
                  simp only [Act.put, List.setIfInBounds_toArray, List.set_cons_succ, List.set_cons_zero]
                  go_big_quiet_on)
               | (go_big_quiet_op
                  first | go_big_quiet_on | go_big_quiet_call (first | with_reducible exact HLs.grown _ _))))
          refine wpQuiet_nil ?_
          intro w2 hw'
          have hb2 := quiet_end hw'
          clear hw'
          have HB2 := Lib.hid (step HB.out hb2)
          clear hb2 c1 ri hg0 hg1
          go_wp2
          go_loopw [4] (fun k wv => ∃ p : Nat, p ≤ q ∧ k = .int .i64 (p : Int) ∧ Below w.heap.size w wv ∧ ∀ j, j < p → ad L j ≠ xa) (fun k _ => q - (intOf k).toNat)
          case atStart => exact ⟨0, by omega, rfl, HB2.out, fun j hj => by omega⟩
          case round =>
            obtain ⟨p, hp, rfl, hB3, hJ3⟩ := hrel
            have HB3 := Lib.hid hB3
            have HJ3 := Lib.hid hJ3
            clear hB3 hJ3
            by_cases hlt2 : p < q
            · have hlt3 : (p : Int) < (q : Int) := by omega
              have hln : (p : Int) < (n : Int) := by omega
              have hr3 : wr.rangeAt b o (flat L) := range_bel HR0.out HB3.out hbs0
              have d1 : wr.cell? ⟨b, o + p * 21, none⟩ = some (.int .i64 (ad L p)) := lies_ad hr3 (by have := HN.out; omega)
              have d2 : wr.cell? ⟨b, o + (q) * 21, none⟩ = some (.int .i64 xa) := by rw [← HXA.out]; exact lies_ad hr3 (by have := HN.out; omega)
              have HB4 := Lib.hid (step HB3.out (drew_bel wr))
              clear hr3
              by_cases he : ad L p = xa
              · have e2 : (ad L p == xa) = true := by simpa using he
                have hbad := Lib.hid (HBad.out (fun h => by
                  have h2 := (hok.out.1 h).2.1
                  rw [HT.out, decide_eq_false_iff_not] at h2
                  exact h2 ⟨p, hlt2, he⟩))
                clear he hok HBad HGood
                generalize ad L p = ya at *
                go_wp2
                go_region
                go_wp2
                go_ret
                exact ⟨by rw [hbad.out]; rfl, HB4.out⟩
              · have e2 : (ad L p == xa) = false := by simpa using he
                have HR : Hid (∀ j, j < p + 1 → ad L j ≠ xa) := fun j hj => by
                  rcases Nat.lt_or_ge j p with h | h
                  · exact HJ3.out j h
                  · obtain rfl : j = p := by omega
                    exact he
                clear he
                generalize ad L p = ya at *
                go_wp2
                go_region
                go_wp2
                exact ⟨⟨p + 1, by omega, by go_num, HB4.out, HR.out⟩, by simp [intOf]; omega⟩
            · obtain rfl : p = q := by omega
              have hgood := Lib.hid (HGood.out (hok.out.2 ⟨HAD.out, by
                rw [HT.out, decide_eq_false_iff_not]
                rintro ⟨j, hj, h⟩
                exact HJ3.out j hj h, fun h => by have := H0.out; omega⟩))
              clear hok HBad HGood
              go_wp2
              exact ⟨⟨p + 1, by omega, by go_num, HB3.out, hgood.out⟩, by simp [intOf]; omega⟩
        have rp := hprev h0
        obtain ⟨s, rfl⟩ : ∃ s, q = s + 1 := ⟨q - 1, by omega⟩
        rw [Nat.add_sub_cancel] at rp
        have hg0 : decide ((0 : Int) < (s : Int) + 1) = true := decide_eq_true (by omega)
        have hw1 : IntKind.i64.wrap ((s : Int) + 1 - 1) = (s : Int) := by rw [show (s : Int) + 1 - 1 = s by omega]; exact IntWalk.i64_in _ (by omega)
        have hin : (s : Int) < (n : Int) := by omega
        cases ls
        · have hbad := Lib.hid (HBad.out (fun h => by have := (hok.out.1 h).2.2 h0; simp at this))
          clear hok HBad HGood hprev h0
          refine wp_region_quiet_below (by kernel_rfl) (by kernel_rfl) ?_
          repeat (first
            | go_big_quiet_skip
            | (go_big_quiet_want
               first
               | (first | (refine q_midI _ rfl _ _ rfl xi (by with_reducible exact ri) ?_) | (refine q_midI _ rfl _ _ rfl yi (by with_reducible exact rp) ?_)
                  simp only [Act.put, List.setIfInBounds_toArray, List.set_cons_succ, List.set_cons_zero]
                  go_big_quiet_on)
               | (go_big_quiet_op
                  first | go_big_quiet_on | go_big_quiet_call (first | with_reducible exact HLs.grown _ _))))
          refine wpQuiet_nil ?_
          intro w2 hw'
          have hb2 := quiet_end hw'
          clear hw'
          have HB2 := Lib.hid (step HB.out hb2)
          clear hb2 c1 ri rp
          go_wp2
          go_ret
          exact ⟨by rw [hbad.out]; rfl, HB2.out⟩
        · clear hprev h0
          refine wp_region_quiet_below (by kernel_rfl) (by kernel_rfl) ?_
          repeat (first
            | go_big_quiet_skip
            | (go_big_quiet_want
               first
               | (first | (refine q_midI _ rfl _ _ rfl xi (by with_reducible exact ri) ?_) | (refine q_midI _ rfl _ _ rfl yi (by with_reducible exact rp) ?_)
                  simp only [Act.put, List.setIfInBounds_toArray, List.set_cons_succ, List.set_cons_zero]
                  go_big_quiet_on)
               | (go_big_quiet_op
                  first | go_big_quiet_on | go_big_quiet_call (first | with_reducible exact HLs.grown _ _))))
          refine wpQuiet_nil ?_
          intro w2 hw'
          have hb2 := quiet_end hw'
          clear hw'
          have HB2 := Lib.hid (step HB.out hb2)
          clear hb2 c1 ri rp hg0 hw1 hin
          go_wp2
          go_loopw [4] (fun k wv => ∃ p : Nat, p ≤ s + 1 ∧ k = .int .i64 (p : Int) ∧ Below w.heap.size w wv ∧ ∀ j, j < p → ad L j ≠ xa) (fun k _ => s + 1 - (intOf k).toNat)
          case atStart => exact ⟨0, by omega, rfl, HB2.out, fun j hj => by omega⟩
          case round =>
            obtain ⟨p, hp, rfl, hB3, hJ3⟩ := hrel
            have HB3 := Lib.hid hB3
            have HJ3 := Lib.hid hJ3
            clear hB3 hJ3
            by_cases hlt2 : p < s + 1
            · have hlt3 : (p : Int) < (s : Int) + 1 := by omega
              have hln : (p : Int) < (n : Int) := by omega
              have hr3 : wr.rangeAt b o (flat L) := range_bel HR0.out HB3.out hbs0
              have d1 : wr.cell? ⟨b, o + p * 21, none⟩ = some (.int .i64 (ad L p)) := lies_ad hr3 (by have := HN.out; omega)
              have d2 : wr.cell? ⟨b, o + (s + 1) * 21, none⟩ = some (.int .i64 xa) := by rw [← HXA.out]; exact lies_ad hr3 (by have := HN.out; omega)
              have HB4 := Lib.hid (step HB3.out (drew_bel wr))
              clear hr3
              by_cases he : ad L p = xa
              · have e2 : (ad L p == xa) = true := by simpa using he
                have hbad := Lib.hid (HBad.out (fun h => by
                  have h2 := (hok.out.1 h).2.1
                  rw [HT.out, decide_eq_false_iff_not] at h2
                  exact h2 ⟨p, hlt2, he⟩))
                clear he hok HBad HGood
                generalize ad L p = ya at *
                go_wp2
                go_region
                go_wp2
                go_ret
                exact ⟨by rw [hbad.out]; rfl, HB4.out⟩
              · have e2 : (ad L p == xa) = false := by simpa using he
                have HR : Hid (∀ j, j < p + 1 → ad L j ≠ xa) := fun j hj => by
                  rcases Nat.lt_or_ge j p with h | h
                  · exact HJ3.out j h
                  · obtain rfl : j = p := by omega
                    exact he
                clear he
                generalize ad L p = ya at *
                go_wp2
                go_region
                go_wp2
                exact ⟨⟨p + 1, by omega, by go_num, HB4.out, HR.out⟩, by simp [intOf]; omega⟩
            · obtain rfl : p = s + 1 := by omega
              have hgood := Lib.hid (HGood.out (hok.out.2 ⟨HAD.out, by
                rw [HT.out, decide_eq_false_iff_not]
                rintro ⟨j, hj, h⟩
                exact HJ3.out j hj h, fun _ => by first | trivial | rfl⟩))
              clear hok HBad HGood
              go_wp2
              exact ⟨⟨s + 1 + 1, by omega, by go_num, HB3.out, hgood.out⟩, by simp [intOf]; omega⟩
      · obtain rfl : n = q := by omega
        have HR : Hid (isB L = true) := by
          unfold Hid isB
          rw [decide_eq_true_eq]
          exact ⟨by have := HN.out; have := HZ.out; omega, fun i hi => HJ.out i (by have := HN.out; omega)⟩
        go_wp2
        go_ret
        exact ⟨by rw [HR.out]; rfl, HB.out⟩
end Go.Proofs.YtmlejcfnnjnggaaDoor
