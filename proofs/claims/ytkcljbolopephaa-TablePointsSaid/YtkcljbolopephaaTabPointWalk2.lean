/- A finger is pointed to a peer just as long as it begins between Self and that one; all others stay: the walk. -/
import Derived.Test.YtkcljbolopephaaTabPointWalk
namespace Go.Proofs.Ytkcljbolopephaa.PointLaw
set_option maxRecDepth 100000
open Go Go.RowKit Go.Sort

set_option maxHeartbeats 16000000 in
theorem walk_nz (hT : Gives Try.prog 17 #[] (.bool true)) {w : World} {s p x : Pe} {u v : Value} {S L F : List Pe} (k : Nat) (en : Nat) (es : Bool) (inn : Nat → Bool)
    (hB : ∀ W, Below w.heap.size w W → Calls Try.prog 9 #[.agg (tabA s p u v)] W fun e w' => e = .returned (.bool false) ∧ Below W.heap.size W w')
    (hP : ∀ W, Below w.heap.size w W → Calls Try.prog 15 #[.agg (tabA s p u v), .int .i64 (k : Int), .agg (peA x)] W fun e w' => ∃ r1 r2, e = .returned (.tuple #[.agg (tabA s p r1 r2), .int .i64 (en : Int), .int .i64 0]) ∧ Lies w' r1 S ∧ Lies w' r2 F ∧ Below W.heap.size W w')
    (hH : ∀ j, Gives Try.prog 39 #[idv s.2, idv (s.2 + 2 ^ j), idv x.2] (.bool (inn j))) (hes : eqP x s = es)
    (hS : Lies w u S) (hL : Lies w v L) (hn : S.length ≤ 1000000) (hl : L.length = 160) (hf : F.length = 160) (hk : k < en) (_ : en ≠ 0) (_ : en < 160) 
    (h1 : ∀ j, j < 160 → (j < k ∨ en ≤ j) → F.getD j (0, 0) = L.getD j (0, 0)) (h2 : ∀ j, k < j → j < en → inn j = true) (h3 : inn en = false)
    (h4 : ∀ j, k ≤ j → j < en → F.getD j (0, 0) = if es = true then (-1, 0) else x) :
    Calls Try.prog 8 #[.agg (tabA s p u v), .int .i64 (k : Int), .agg (peA x)] w fun e w' => e = .returned (.bool true) ∧ Below w.heap.size w w' := by
  have HX := Box2.made w s p u v x
  have B0 := HX.bel
  have T0 := HX.tb
  have X0 := HX.pb
  have HS0 := Lib.hid (hS.bel B0)
  have HL0 := Lib.hid (hL.bel B0)
  obtain ⟨lb, lo, lc, rfl, _, _, _⟩ := hL.some (by omega)
  have HSF := Lib.hid hS.form
  clear HX
  simp only [hl] at hB hP B0 T0 X0 HS0 HL0 ⊢
  have HB := Lib.hid hB
  have HP := Lib.hid hP
  have HT := Lib.hid hT
  have HH := Lib.hid hH
  have H1 := Lib.hid h1
  have H2 := Lib.hid h2
  have H3 := Lib.hid h3
  have H4 := Lib.hid h4
  have HL := Lib.hid hl
  have HF := Lib.hid hf
  clear hB hP hT hH h1 h2 h4 hl hf hS hL
  clear h3
  have f1 : decide ((k : Int) < 0) = false := decide_eq_false (by omega)
  have f2 : decide ((en : Int) ≤ (k : Int)) = false := decide_eq_false (by omega)
  have f2' : decide (en ≤ k) = false := decide_eq_false (by omega)
  have f3 : decide ((160 : Int) < (en : Int)) = false := decide_eq_false (by omega)
  have f4 : ((en : Int) == 0) = false := by rw [beq_eq_false_iff_ne]; omega
  go_enter Try.func8, Try.ntmps8
  go_upto_region 1 with (fail)
  generalize (w.alloc _).alloc _ = W at *
  generalize hg : w.heap.size = g at *
  go_upto_region 4 with (first
    | (refine p_midT rfl _ rfl g rfl T0 ?_)
    | (refine p_midT rfl _ rfl g rfl T1 ?_)
    | (refine p_midP rfl _ rfl (g + 1) 0 rfl x X1 ?_)
    | (go_at_call 9; (with_reducible refine (HB.out _ B0).mono ?_); rintro e w1 ⟨rfl, k1⟩; have B1 := belTo hg B0 k1; have T1 := T0.bel k1; have X1 := (X0.bel k1).range; have XB := X0.bel k1; have HS1 := Lib.hid (HS0.out.bel k1); have HL1 := Lib.hid (HL0.out.bel k1); clear k1)
    | (go_at_call 15; (with_reducible refine (HP.out _ B1).mono ?_); rintro e w3 ⟨u7, v7, rfl, l1, l2, k3⟩; have B3 := belTo hg B1 k3; have T3 := T1.bel k3; have X3 := XB.bel k3; have HS3 := Lib.hid (HS1.out.bel k3); have HL3 := Lib.hid (HL1.out.bel k3); have O1 := Lib.hid (one_lies l1); have O2 := Lib.hid (one_lies l2); have L1 := Lib.hid l1; have L2 := Lib.hid l2; clear k3 l1 l2)
    | (refine p_storeT rfl rfl _ _ rfl rfl rfl O1.out O2.out ?_))
  (try simp only [Act.put])
  have k4 := (Below.refl w3.heap.size w3).alloc (Nat.le_refl _) (.cells (tabA s p u7 v7) 28)
  obtain ⟨fb, fo, fc, e7, _, _, _⟩ := L2.out.some (by have := HF.out; omega)
  rw [HF.out] at e7
  subst e7
  have HW : Hid (PtW g w3.heap.size w (w3.alloc (.cells (tabA s p u7 (.slice (some ⟨fb, fo, none⟩) 160 fc)) 28)) s p x u u7 lb lo lc fb fo fc S L F) := ⟨belTo hg B3 k4, T3.bel k4, X3.bel k4, TB.new w3 s p u7 _, L2.out.bel k4, HL3.out.bel k4, L1.out.bel k4, HS3.out.bel k4⟩
  clear k4 B0 B1 B3 T0 T1 T3 X0 X1 X3 XB HB HP HS0 HL0 HS1 HL1 HS3 HL3 O1 O2 L1 L2
  generalize w3.heap.size = g7 at *
  generalize w3.alloc _ = W4 at *
  have c1 := HW.out.t7.cv
  have c2 := HW.out.t.cv
  go_upto_region 12 with go_big_skip
  clear c1 c2 f1 f2 f2'
  clear f3 f4
  go_loopw [11] (fun j wr => ∃ d : Nat, d ≤ 160 ∧ j = .int .i64 (d : Int) ∧ PtW g g7 w wr s p x u u7 lb lo lc fb fo fc S L F) (fun j _ => 160 - (intOf j).toNat)
  case atStart => exact ⟨0, by omega, rfl, HW.out⟩
  case round =>
    clear HW
    obtain ⟨j, hj, rfl, hW⟩ := hrel
    have HW := Lib.hid hW
    clear hW
    by_cases hlt : j < 160
    · have b1 : (j : Int) < 160 := by omega
      have b2 : (0 : Int) ≤ (j : Int) := by omega
      have s1 : IntKind.i64.wrap ((j : Int) + 1) = (j : Int) + 1 := IntWalk.i64_in _ (by omega)
      have HPW : Hid (∀ w : World, Calls Try.prog 38 #[.int .i64 (j : Int)] w fun e w' => e = .returned (.tuple #[idv (2 ^ j), .int .i64 0]) ∧ Below w.heap.size w w') := fun w => power_yes j w hlt
      have hPL : Gives Try.prog 40 #[idv s.2, idv (2 ^ j)] (idv (s.2 + 2 ^ j)) := fun w => plus_any _ _ w
      have hHA := HH.out j
      have hxL := getD_at (L := L) (k := j) (by have := HL.out; omega)
      have hxF := getD_at (L := F) (k := j) (by have := HF.out; omega)
      have h1j := H1.out j hlt
      have h2j := H2.out j
      have h4j := H4.out j
      have h3j : j = en → inn j = false := fun e => by rw [e]; exact H3.out
      have HXL := Lib.hid hxL
      have HXF := Lib.hid hxF
      have HH1 := Lib.hid h1j
      have HH2 := Lib.hid h2j
      have HH3 := Lib.hid h3j
      have HH4 := Lib.hid h4j
      clear hxL hxF h1j h2j h4j
      clear h3j
      generalize s.2 + 2 ^ j = sm at *
      generalize 2 ^ j = z at *
      generalize inn j = ij at *
      generalize F.getD j (0, 0) = y at *
      generalize L.getD j (0, 0) = yl at *
      go_upto_region 15 with (first
        | (go_at_call 38; (with_reducible refine (HPW.out _).mono ?_); rintro e w1 ⟨rfl, k1⟩; have X1 := Blk.new w1 (row (dig 20 z)) 23; have k2 := step k1 ((Below.refl w1.heap.size w1).alloc (Nat.le_refl _) (.cells (row (dig 20 z)) 23)); have HW1 := Lib.hid (HW.out.bel2 hg k2); clear k1 k2)
        | (refine wpList_store_new (by rfl) rfl _ _ rfl _ rfl rfl ?_))
      (try simp only [Act.put])
      change At _ _ _ at X1
      clear HW HPW
      generalize w1.alloc _ = W1 at *
      generalize w1.heap.size = g1 at *
      have i1 := HW1.out.t.sI
      have i2 := HW1.out.x.I
      refine wp_region_quiet_below (by kernel_rfl) (by kernel_rfl) ?_
      repeat (first
        | go_big_quiet_skip
        | (go_big_quiet_want
           first
           | (first | (refine q_midI _ rfl g 1 rfl s.2 (by with_reducible exact i1) ?_) | (refine q_midI _ rfl (g + 1) 1 rfl x.2 (by with_reducible exact i2) ?_) | (refine q_at _ rfl _ z rfl X1 ?_)
              simp only [Act.put, List.setIfInBounds_toArray, List.set_cons_succ, List.set_cons_zero]
              go_big_quiet_on)
           | (go_big_quiet_op
              first | go_big_quiet_on | go_big_quiet_call (first | with_reducible exact hPL.grown _ _ | with_reducible exact hHA.grown _ _))))
      refine wpQuiet_nil ?_
      intro w9 hw'
      have k9 := quiet_end hw'
      clear hw'
      have HW2 := Lib.hid (HW1.out.bel2 hg k9)
      clear k9 HW1 X1 i1 i2 hPL hHA
      have R1 := row_at HW2.out.f HXF.out
      have R2 := row_at HW2.out.l HXL.out
      have xr := HW2.out.x.range
      have sr := HW2.out.t.self
      have c1 := fun d os => cell_regrown HW2.out.t7.cv d os
      have c2 := fun d os => cell_regrown HW2.out.t.cv d os
      have hNO : Gives Try.prog 37 #[] (.agg (peA (-1, 0))) := refnone_any
      by_cases hA : j < k
      · have d1 : decide ((j : Int) < (k : Int)) = true := decide_eq_true (by omega)
        have d1' : decide (j < k) = true := decide_eq_true (by omega)
        have d2 : decide ((en : Int) ≤ (j : Int)) = false := decide_eq_false (by omega)
        have d2' : decide (en ≤ j) = false := decide_eq_false (by omega)
        have d3 : decide ((k : Int) < (j : Int)) = false := decide_eq_false (by omega)
        have d3' : decide (k < j) = false := decide_eq_false (by omega)
        have d4 : decide ((j : Int) < (en : Int)) = true := decide_eq_true (by omega)
        have d4' : decide (j < en) = true := decide_eq_true (by omega)
        have d5 : ((j : Int) == (en : Int)) = false := by rw [beq_eq_false_iff_ne]; omega
        have d6 : decide ((k : Int) ≤ (j : Int)) = false := decide_eq_false (by omega)
        have d6' : decide (k ≤ j) = false := decide_eq_false (by omega)
        obtain rfl : y = yl := HH1.out (by omega)
        have e0 : (!eqP y y) = false := by rw [eqP_self]; rfl
        clear HH1 HH2 HH4 hlt
        clear HH3
        go_upto_region 16 with (fail)
        refine wp_region_quiet_below (by kernel_rfl) (by kernel_rfl) ?_
        repeat (first
          | go_big_quiet_skip
          | (go_big_quiet_want
             first
             | (first | (refine q_midP _ rfl _ _ rfl y (by with_reducible exact R1) ?_) | (refine q_midP _ rfl _ _ rfl y (by with_reducible exact R2) ?_) | (refine q_neqP _ _ rfl y y rfl rfl e0 ?_)
                simp only [Act.put, List.setIfInBounds_toArray, List.set_cons_succ, List.set_cons_zero]
                go_big_quiet_on)
             | (go_big_quiet_op
                first | go_big_quiet_on | go_big_quiet_call (first | fail))))
        refine wpQuiet_nil ?_
        intro w9 hw'
        have k9 := quiet_end hw'
        clear hw'
        have HW3 := Lib.hid (HW2.out.bel2 hg k9)
        clear k9 HW2 R1 R2 xr sr c1 c2
        generalize w9 = w3 at *
        go_upto_region 18 with (fail)
        refine wp_region_quiet_below (by kernel_rfl) (by kernel_rfl) ?_
        repeat (first
          | go_big_quiet_skip
          | (go_big_quiet_want
             first
             | (first | fail
                simp only [Act.put, List.setIfInBounds_toArray, List.set_cons_succ, List.set_cons_zero]
                go_big_quiet_on)
             | (go_big_quiet_op
                first | go_big_quiet_on | go_big_quiet_call (first | fail))))
        refine wpQuiet_nil ?_
        intro w9 hw'
        have k9 := quiet_end hw'
        clear hw'
        have HW4 := Lib.hid (HW3.out.bel2 hg k9)
        clear k9 HW3
        go_wp2
        exact ⟨⟨j + 1, by omega, by go_num, HW4.out⟩, by simp [intOf]; omega⟩
      · by_cases hBq : j = k
        · have d1 : decide ((j : Int) < (k : Int)) = false := decide_eq_false (by omega)
          have d1' : decide (j < k) = false := decide_eq_false (by omega)
          have d2 : decide ((en : Int) ≤ (j : Int)) = false := decide_eq_false (by omega)
          have d2' : decide (en ≤ j) = false := decide_eq_false (by omega)
          have d3 : decide ((k : Int) < (j : Int)) = false := decide_eq_false (by omega)
          have d3' : decide (k < j) = false := decide_eq_false (by omega)
          have d4 : decide ((j : Int) < (en : Int)) = true := decide_eq_true (by omega)
          have d4' : decide (j < en) = true := decide_eq_true (by omega)
          have d5 : ((j : Int) == (en : Int)) = false := by rw [beq_eq_false_iff_ne]; omega
          have d6 : decide ((k : Int) ≤ (j : Int)) = true := decide_eq_true (by omega)
          have d6' : decide (k ≤ j) = true := decide_eq_true (by omega)
          have hy := HH4.out (by omega) (by omega)
          have HY := Lib.hid hy
          clear hBq
          clear hy HH1 HH2 HH4 hlt
          clear HH3
          go_upto_region 16 with (fail)
          refine wp_region_quiet_below (by kernel_rfl) (by kernel_rfl) ?_
          repeat (first
            | go_big_quiet_skip
            | (go_big_quiet_want
               first
               | (first | fail
                  simp only [Act.put, List.setIfInBounds_toArray, List.set_cons_succ, List.set_cons_zero]
                  go_big_quiet_on)
               | (go_big_quiet_op
                  first | go_big_quiet_on | go_big_quiet_call (first | fail))))
          refine wpQuiet_nil ?_
          intro w9 hw'
          have k9 := quiet_end hw'
          clear hw'
          have HW3 := Lib.hid (HW2.out.bel2 hg k9)
          clear k9 HW2 R1 R2 xr sr c1 c2
          generalize w9 = w3 at *
          have R1 := row_at HW3.out.f HXF.out
          have xr := HW3.out.x.range
          have sr := HW3.out.t.self
          have c1 := fun d os => cell_regrown HW3.out.t7.cv d os
          cases es
          · obtain rfl : y = x := HY.out
            have e0 : (!eqP y y) = false := by rw [eqP_self]; rfl
            have e1 : (!eqP y s) = true := by rw [hes]; rfl
            have hes2 := hes
            clear HY
            go_upto_region 18 with (fail)
            refine wp_region_quiet_below (by kernel_rfl) (by kernel_rfl) ?_
            repeat (first
              | go_big_quiet_skip
              | (go_big_quiet_want
                 first
                 | (first | (refine q_midP _ rfl _ _ rfl y (by with_reducible exact R1) ?_) | (refine q_midP _ rfl (g + 1) 0 rfl y (by with_reducible exact xr) ?_) | (refine q_midP _ rfl g 0 rfl s (by with_reducible exact sr) ?_) | (refine q_eqlP _ _ rfl y s rfl rfl hes2 ?_) | (refine q_neqP _ _ rfl y s rfl rfl e1 ?_) | (refine q_neqP _ _ rfl y y rfl rfl e0 ?_)
                    simp only [Act.put, List.setIfInBounds_toArray, List.set_cons_succ, List.set_cons_zero]
                    go_big_quiet_on)
                 | (go_big_quiet_op
                    first | go_big_quiet_on | go_big_quiet_call (first | with_reducible exact hNO.grown _ _))))
            refine wpQuiet_nil ?_
            intro w9 hw'
            have k9 := quiet_end hw'
            clear hw'
            have HW4 := Lib.hid (HW3.out.bel2 hg k9)
            clear k9 HW3
            go_wp2
            exact ⟨⟨j + 1, by omega, by go_num, HW4.out⟩, by simp [intOf]; omega⟩
          · obtain rfl : y = (-1, 0) := HY.out
            have e0 : (!eqP (-1, 0) (-1, 0)) = false := by rw [eqP_self]; rfl
            have e1 : (!eqP x s) = false := by rw [hes]; rfl
            have hes2 := hes
            clear HY
            go_upto_region 18 with (fail)
            refine wp_region_quiet_below (by kernel_rfl) (by kernel_rfl) ?_
            repeat (first
              | go_big_quiet_skip
              | (go_big_quiet_want
                 first
                 | (first | (refine q_midP _ rfl _ _ rfl (-1, 0) (by with_reducible exact R1) ?_) | (refine q_midP _ rfl (g + 1) 0 rfl x (by with_reducible exact xr) ?_) | (refine q_midP _ rfl g 0 rfl s (by with_reducible exact sr) ?_) | (refine q_eqlP _ _ rfl x s rfl rfl hes2 ?_) | (refine q_neqP _ _ rfl x s rfl rfl e1 ?_) | (refine q_neqP _ _ rfl (-1, 0) (-1, 0) rfl rfl e0 ?_)
                    simp only [Act.put, List.setIfInBounds_toArray, List.set_cons_succ, List.set_cons_zero]
                    go_big_quiet_on)
                 | (go_big_quiet_op
                    first | go_big_quiet_on | go_big_quiet_call (first | with_reducible exact hNO.grown _ _))))
            refine wpQuiet_nil ?_
            intro w9 hw'
            have k9 := quiet_end hw'
            clear hw'
            have HW4 := Lib.hid (HW3.out.bel2 hg k9)
            clear k9 HW3
            go_wp2
            exact ⟨⟨j + 1, by omega, by go_num, HW4.out⟩, by simp [intOf]; omega⟩
        · by_cases hC : j < en
          · obtain rfl : ij = true := HH2.out (by omega) hC
            have d1 : decide ((j : Int) < (k : Int)) = false := decide_eq_false (by omega)
            have d1' : decide (j < k) = false := decide_eq_false (by omega)
            have d2 : decide ((en : Int) ≤ (j : Int)) = false := decide_eq_false (by omega)
            have d2' : decide (en ≤ j) = false := decide_eq_false (by omega)
            have d3 : decide ((k : Int) < (j : Int)) = true := decide_eq_true (by omega)
            have d3' : decide (k < j) = true := decide_eq_true (by omega)
            have d4 : decide ((j : Int) < (en : Int)) = true := decide_eq_true (by omega)
            have d4' : decide (j < en) = true := decide_eq_true (by omega)
            have d5 : ((j : Int) == (en : Int)) = false := by rw [beq_eq_false_iff_ne]; omega
            have d6 : decide ((k : Int) ≤ (j : Int)) = true := decide_eq_true (by omega)
            have d6' : decide (k ≤ j) = true := decide_eq_true (by omega)
            have hy := HH4.out (by omega) (by omega)
            have HY := Lib.hid hy
            clear hy HH1 HH2 HH4 hlt
            clear HH3
            go_upto_region 16 with (fail)
            refine wp_region_quiet_below (by kernel_rfl) (by kernel_rfl) ?_
            repeat (first
              | go_big_quiet_skip
              | (go_big_quiet_want
                 first
                 | (first | fail
                    simp only [Act.put, List.setIfInBounds_toArray, List.set_cons_succ, List.set_cons_zero]
                    go_big_quiet_on)
                 | (go_big_quiet_op
                    first | go_big_quiet_on | go_big_quiet_call (first | fail))))
            refine wpQuiet_nil ?_
            intro w9 hw'
            have k9 := quiet_end hw'
            clear hw'
            have HW3 := Lib.hid (HW2.out.bel2 hg k9)
            clear k9 HW2 R1 R2 xr sr c1 c2
            generalize w9 = w3 at *
            have R1 := row_at HW3.out.f HXF.out
            have xr := HW3.out.x.range
            have sr := HW3.out.t.self
            have c1 := fun d os => cell_regrown HW3.out.t7.cv d os
            cases es
            · obtain rfl : y = x := HY.out
              have e0 : (!eqP y y) = false := by rw [eqP_self]; rfl
              have e1 : (!eqP y s) = true := by rw [hes]; rfl
              have hes2 := hes
              clear HY
              go_upto_region 18 with (fail)
              refine wp_region_quiet_below (by kernel_rfl) (by kernel_rfl) ?_
              repeat (first
                | go_big_quiet_skip
                | (go_big_quiet_want
                   first
                   | (first | (refine q_midP _ rfl _ _ rfl y (by with_reducible exact R1) ?_) | (refine q_midP _ rfl (g + 1) 0 rfl y (by with_reducible exact xr) ?_) | (refine q_midP _ rfl g 0 rfl s (by with_reducible exact sr) ?_) | (refine q_eqlP _ _ rfl y s rfl rfl hes2 ?_) | (refine q_neqP _ _ rfl y s rfl rfl e1 ?_) | (refine q_neqP _ _ rfl y y rfl rfl e0 ?_)
                      simp only [Act.put, List.setIfInBounds_toArray, List.set_cons_succ, List.set_cons_zero]
                      go_big_quiet_on)
                   | (go_big_quiet_op
                      first | go_big_quiet_on | go_big_quiet_call (first | with_reducible exact hNO.grown _ _))))
              refine wpQuiet_nil ?_
              intro w9 hw'
              have k9 := quiet_end hw'
              clear hw'
              have HW4 := Lib.hid (HW3.out.bel2 hg k9)
              clear k9 HW3
              go_wp2
              exact ⟨⟨j + 1, by omega, by go_num, HW4.out⟩, by simp [intOf]; omega⟩
            · obtain rfl : y = (-1, 0) := HY.out
              have e0 : (!eqP (-1, 0) (-1, 0)) = false := by rw [eqP_self]; rfl
              have e1 : (!eqP x s) = false := by rw [hes]; rfl
              have hes2 := hes
              clear HY
              go_upto_region 18 with (fail)
              refine wp_region_quiet_below (by kernel_rfl) (by kernel_rfl) ?_
              repeat (first
                | go_big_quiet_skip
                | (go_big_quiet_want
                   first
                   | (first | (refine q_midP _ rfl _ _ rfl (-1, 0) (by with_reducible exact R1) ?_) | (refine q_midP _ rfl (g + 1) 0 rfl x (by with_reducible exact xr) ?_) | (refine q_midP _ rfl g 0 rfl s (by with_reducible exact sr) ?_) | (refine q_eqlP _ _ rfl x s rfl rfl hes2 ?_) | (refine q_neqP _ _ rfl x s rfl rfl e1 ?_) | (refine q_neqP _ _ rfl (-1, 0) (-1, 0) rfl rfl e0 ?_)
                      simp only [Act.put, List.setIfInBounds_toArray, List.set_cons_succ, List.set_cons_zero]
                      go_big_quiet_on)
                   | (go_big_quiet_op
                      first | go_big_quiet_on | go_big_quiet_call (first | with_reducible exact hNO.grown _ _))))
              refine wpQuiet_nil ?_
              intro w9 hw'
              have k9 := quiet_end hw'
              clear hw'
              have HW4 := Lib.hid (HW3.out.bel2 hg k9)
              clear k9 HW3
              go_wp2
              exact ⟨⟨j + 1, by omega, by go_num, HW4.out⟩, by simp [intOf]; omega⟩
          · by_cases hD : j = en
            · obtain rfl : ij = false := HH3.out hD
              have d1 : decide ((j : Int) < (k : Int)) = false := decide_eq_false (by omega)
              have d1' : decide (j < k) = false := decide_eq_false (by omega)
              have d2 : decide ((en : Int) ≤ (j : Int)) = true := decide_eq_true (by omega)
              have d2' : decide (en ≤ j) = true := decide_eq_true (by omega)
              have d3 : decide ((k : Int) < (j : Int)) = true := decide_eq_true (by omega)
              have d3' : decide (k < j) = true := decide_eq_true (by omega)
              have d4 : decide ((j : Int) < (en : Int)) = false := decide_eq_false (by omega)
              have d4' : decide (j < en) = false := decide_eq_false (by omega)
              have d5 : ((j : Int) == (en : Int)) = true := by rw [beq_iff_eq]; omega
              have d6 : decide ((k : Int) ≤ (j : Int)) = true := decide_eq_true (by omega)
              have d6' : decide (k ≤ j) = true := decide_eq_true (by omega)
              obtain rfl : y = yl := HH1.out (by omega)
              have e0 : (!eqP y y) = false := by rw [eqP_self]; rfl
              clear hD HH1 HH2 HH4 hlt
              clear HH3
              go_upto_region 16 with (fail)
              refine wp_region_quiet_below (by kernel_rfl) (by kernel_rfl) ?_
              repeat (first
                | go_big_quiet_skip
                | (go_big_quiet_want
                   first
                   | (first | (refine q_midP _ rfl _ _ rfl y (by with_reducible exact R1) ?_) | (refine q_midP _ rfl _ _ rfl y (by with_reducible exact R2) ?_) | (refine q_neqP _ _ rfl y y rfl rfl e0 ?_)
                      simp only [Act.put, List.setIfInBounds_toArray, List.set_cons_succ, List.set_cons_zero]
                      go_big_quiet_on)
                   | (go_big_quiet_op
                      first | go_big_quiet_on | go_big_quiet_call (first | fail))))
              refine wpQuiet_nil ?_
              intro w9 hw'
              have k9 := quiet_end hw'
              clear hw'
              have HW3 := Lib.hid (HW2.out.bel2 hg k9)
              clear k9 HW2 R1 R2 xr sr c1 c2
              generalize w9 = w3 at *
              go_upto_region 18 with (fail)
              refine wp_region_quiet_below (by kernel_rfl) (by kernel_rfl) ?_
              repeat (first
                | go_big_quiet_skip
                | (go_big_quiet_want
                   first
                   | (first | fail
                      simp only [Act.put, List.setIfInBounds_toArray, List.set_cons_succ, List.set_cons_zero]
                      go_big_quiet_on)
                   | (go_big_quiet_op
                      first | go_big_quiet_on | go_big_quiet_call (first | fail))))
              refine wpQuiet_nil ?_
              intro w9 hw'
              have k9 := quiet_end hw'
              clear hw'
              have HW4 := Lib.hid (HW3.out.bel2 hg k9)
              clear k9 HW3
              go_wp2
              exact ⟨⟨j + 1, by omega, by go_num, HW4.out⟩, by simp [intOf]; omega⟩
            · have d1 : decide ((j : Int) < (k : Int)) = false := decide_eq_false (by omega)
              have d1' : decide (j < k) = false := decide_eq_false (by omega)
              have d2 : decide ((en : Int) ≤ (j : Int)) = true := decide_eq_true (by omega)
              have d2' : decide (en ≤ j) = true := decide_eq_true (by omega)
              have d3 : decide ((k : Int) < (j : Int)) = true := decide_eq_true (by omega)
              have d3' : decide (k < j) = true := decide_eq_true (by omega)
              have d4 : decide ((j : Int) < (en : Int)) = false := decide_eq_false (by omega)
              have d4' : decide (j < en) = false := decide_eq_false (by omega)
              have d5 : ((j : Int) == (en : Int)) = false := by rw [beq_eq_false_iff_ne]; omega
              have d6 : decide ((k : Int) ≤ (j : Int)) = true := decide_eq_true (by omega)
              have d6' : decide (k ≤ j) = true := decide_eq_true (by omega)
              obtain rfl : y = yl := HH1.out (by omega)
              have e0 : (!eqP y y) = false := by rw [eqP_self]; rfl
              clear HH1 HH2 HH4 hlt
              clear HH3
              go_upto_region 16 with (fail)
              refine wp_region_quiet_below (by kernel_rfl) (by kernel_rfl) ?_
              repeat (first
                | go_big_quiet_skip
                | (go_big_quiet_want
                   first
                   | (first | (refine q_midP _ rfl _ _ rfl y (by with_reducible exact R1) ?_) | (refine q_midP _ rfl _ _ rfl y (by with_reducible exact R2) ?_) | (refine q_neqP _ _ rfl y y rfl rfl e0 ?_)
                      simp only [Act.put, List.setIfInBounds_toArray, List.set_cons_succ, List.set_cons_zero]
                      go_big_quiet_on)
                   | (go_big_quiet_op
                      first | go_big_quiet_on | go_big_quiet_call (first | fail))))
              refine wpQuiet_nil ?_
              intro w9 hw'
              have k9 := quiet_end hw'
              clear hw'
              have HW3 := Lib.hid (HW2.out.bel2 hg k9)
              clear k9 HW2 R1 R2 xr sr c1 c2
              generalize w9 = w3 at *
              go_upto_region 18 with (fail)
              refine wp_region_quiet_below (by kernel_rfl) (by kernel_rfl) ?_
              repeat (first
                | go_big_quiet_skip
                | (go_big_quiet_want
                   first
                   | (first | fail
                      simp only [Act.put, List.setIfInBounds_toArray, List.set_cons_succ, List.set_cons_zero]
                      go_big_quiet_on)
                   | (go_big_quiet_op
                      first | go_big_quiet_on | go_big_quiet_call (first | fail))))
              refine wpQuiet_nil ?_
              intro w9 hw'
              have k9 := quiet_end hw'
              clear hw'
              have HW4 := Lib.hid (HW3.out.bel2 hg k9)
              clear k9 HW3
              go_wp2
              exact ⟨⟨j + 1, by omega, by go_num, HW4.out⟩, by simp [intOf]; omega⟩
    · obtain rfl : j = 160 := by omega
      rw [show ((160 : Nat) : Int) = 160 from rfl] at *
      have es0 := eqP_self p
      have P1 := HW.out.t7.pred
      obtain ⟨ua, uc, rfl⟩ := HSF.out
      obtain ⟨xa, xc, rfl⟩ := HW.out.s7.form
      go_wp2_with (first
        | (go_at_call 17; (with_reducible refine ((HT.out.calls _)).mono ?_); rintro e w5 ⟨rfl, k5⟩; have HW5 := Lib.hid (HW.out.bel2 hg k5); have p1 := HW5.out.t7.pred; have p2 := HW5.out.t.pred; have c1 := HW5.out.t7.cu; have c2 := HW5.out.t.cu; clear k5)
        | (go_guarded; refine o_midP _ rfl g7 21 rfl p p1 ?_; simp only [Act.put, List.setIfInBounds_toArray, List.set_cons_succ, List.set_cons_zero])
        | (go_guarded; refine o_midP _ rfl g 21 rfl p p2 ?_; simp only [Act.put, List.setIfInBounds_toArray, List.set_cons_succ, List.set_cons_zero])
        | (go_guarded; refine o_eqlP _ _ rfl p p rfl rfl es0 ?_; simp only [Act.put, List.setIfInBounds_toArray, List.set_cons_succ, List.set_cons_zero])
        | (go_at_call 31; (with_reducible refine (same_self HW5.out.s7 HW5.out.su hn).mono ?_); rintro e w6 ⟨rfl, k6⟩; have HW6 := Lib.hid (HW5.out.bel2 hg k6); clear k6))
      go_ret
      exact ⟨rfl, by (try rw [hg]); exact HW6.out.bel⟩
end Go.Proofs.Ytkcljbolopephaa.PointLaw
