/- The circle of addresses, by the program. -/
import Derived.Test.YtmlejcfnnjnggaaDoorCirBuild
namespace Go.Proofs.YtmlejcfnnjnggaaDoor
set_option maxRecDepth 100000
open Go Go.RowKit Go.Sort

/-- what holds behind k of the addresses -/
structure Acc (A : List Int) (w wr : World) (v : Value) (k : Nat) : Prop where
  own : wr.ownsRow w.heap.size 43 21 v k (flat (accL A k))
  bel : Below w.heap.size w wr
  no : ∀ j, j < k → dupB A j = false
theorem Acc.lies {A : List Int} {w wr : World} {v : Value} {k : Nat} (h : Acc A w wr v k) (I : Inv A k) : Lies wr v (accL A k) := by
  have := h.own
  exact own_lies (by rw [I.len]; exact this)
theorem size_no {n : Nat} (h : ¬ (1 ≤ n ∧ n ≤ 16)) : sizeB (n : Int) = false := by unfold sizeB; simp; omega
theorem size_yes {n : Nat} (h : 1 ≤ n ∧ n ≤ 16) : sizeB (n : Int) = true := by unfold sizeB; simp; omega
theorem peN_cast (a : Nat) : peN (a : Int) = ((a : Int), idN a) := rfl
/-- one round's search, and what it tells of a twin -/
theorem dup_eq {A : List Int} {k : Nat} (I : Inv A k) (hf : firstN (accL A k) (peN (A.getD k 0)).2 < k) : eqP (ad (accL A k) (firstN (accL A k) (peN (A.getD k 0)).2), pn (accL A k) (firstN (accL A k) (peN (A.getD k 0)).2)) (peN (A.getD k 0)) = dupB A k := by
  have hlen := I.len
  obtain ⟨_, _, p3⟩ := I.pe _ hf
  unfold dupB eqP
  rw [p3, Bool.eq_iff_iff, Bool.and_eq_true, decide_eq_true_eq, decide_eq_true_eq]
  constructor
  · rintro ⟨h1, _⟩
    exact ⟨by omega, h1⟩
  · rintro ⟨_, h1⟩
    refine ⟨h1, ?_⟩
    show eqB (idN (ad (accL A k) (firstN (accL A k) (peN (A.getD k 0)).2)).toNat) (peN (A.getD k 0)).2 = true
    rw [h1]
    exact eqB_self _
theorem dup_end {A : List Int} {k : Nat} (I : Inv A k) (hf : ¬ firstN (accL A k) (peN (A.getD k 0)).2 < k) : dupB A k = false := by
  unfold dupB
  rw [decide_eq_false_iff_not, I.len]
  exact fun h => hf h.1
/-- behind an Insert -/
theorem acc_step {A : List Int} {w wr w4 w6 : World} {v v' : Value} {k vb : Nat} (h : Acc A w wr v k) (hb : Below wr.heap.size wr w4) (I : Inv A k) (hd : dupB A k = false)
    (hP : Put (w4.alloc (.cells (peA (peN (A.getD k 0))) 43)) w6 v v' (insP (accL A k) (peN (A.getD k 0)))) (_hvb : vb = w4.heap.size) : Acc A w w6 v' (k + 1) := by
  obtain ⟨p1, p2, p3⟩ := hP
  have B5 : Below w.heap.size w (w4.alloc (.cells (peA (peN (A.getD k 0))) 43)) := (h.bel.trans (hb.mono h.bel.size)).alloc (by have := h.bel.size; have := hb.size; omega) _
  have hl : (insP (accL A k) (peN (A.getD k 0))).length = k + 1 := by rw [ins_length, I.len]
  rw [hl] at p1
  refine ⟨own_up p1 fun j hj => ?_, B5.grown p2 (by simp; have := h.bel.size; have := hb.size; omega) fun j hj => (h.own.lt j hj).1, fun j hj => ?_⟩
  · rcases p3 with e | ⟨f, e, hf⟩
    · rw [e] at hj; exact (h.own.lt j hj).1
    · rw [e] at hj
      obtain rfl := Option.some.inj hj
      have := B5.size
      omega
  · rcases Nat.lt_or_ge j k with h' | h'
    · exact h.no j h'
    · obtain rfl : j = k := by omega
      exact hd
set_option maxHeartbeats 8000000 in
theorem of_any {w : World} {v : Value} {A : List Int} (hA : Nums w v A) (hG : Glob w) : Calls Tryd.prog 8 #[v] w fun e w' => OfAns A w.heap.size e w' ∧ Below w.heap.size w w' := by
  by_cases hs : 1 ≤ A.length ∧ A.length ≤ 16
  rotate_left
  · obtain ⟨a, c, rfl⟩ := hA.form
    have HS := Lib.hid (isSize_any (A.length : Int))
    rw [size_no hs] at HS
    have fin : ∀ w', OfAns A w.heap.size (.returned (.tuple #[.slice none 0 0, .int .i64 2])) w' := fun w' => .size hs rfl
    have HF := Lib.hid fin
    clear hA hG hs fin
    generalize A.length = n at *
    go_enter Tryd.func8, Tryd.ntmps8
    go_wp2_with (go_at_call 28; (with_reducible refine (HS.out _).mono ?_); rintro e w1 ⟨rfl, rfl⟩)
    go_ret2
    exact ⟨HF.out _, Below.refl _ _⟩
  obtain ⟨b, o, c, rfl, hr, hb0⟩ := hA.some (by omega)
  have HS := Lib.hid (isSize_any (A.length : Int))
  rw [size_yes hs] at HS
  obtain ⟨n, hnA⟩ : ∃ n, n = A.length := ⟨_, rfl⟩
  have HN := Lib.hid hnA
  have HR := Lib.hid hr
  have HG := Lib.hid hG
  have HSZ := Lib.hid hs
  rw [← hnA] at HS hs ⊢
  clear hA hG hr hnA
  go_enter Tryd.func8, Tryd.ntmps8
  go_wp2_with (go_at_call 28; (with_reducible refine (HS.out _).mono ?_); rintro e w1 ⟨rfl, rfl⟩)
  clear HS
  go_loopw [17] (fun i wr => ∃ q : Nat, q ≤ n ∧ i = .int .i64 (q : Int) ∧ Below w.heap.size w wr ∧ ∀ j, j < q → 0 ≤ A.getD j 0 ∧ A.getD j 0 ≤ 999) (fun i _ => n - (intOf i).toNat)
  case atStart => exact ⟨0, by omega, rfl, Below.refl _ _, fun j hj => by omega⟩
  case round =>
    obtain ⟨q, hq, rfl, hB, hJ⟩ := hrel
    have HB := Lib.hid hB
    have HJ := Lib.hid hJ
    clear hB hJ
    by_cases hlt : q < n
    · have c1 : wr.cell? ⟨b, o + q, none⟩ = some (.int .i64 (A.getD q 0)) := nums_cell (range_bel HR.out HB.out hb0) (by have := HN.out; omega)
      have HA := Lib.hid (isAddr_any (A.getD q 0))
      cases ha : addrB (A.getD q 0)
      · have fin : ∀ w', OfAns A w.heap.size (.returned (.tuple #[.slice none 0 0, .int .i64 1])) w' := fun w' => .arg HSZ.out (fun g => by
          obtain ⟨g1, g2⟩ := g q (by have := HN.out; omega)
          unfold addrB at ha
          simp only [Bool.and_eq_false_iff, decide_eq_false_iff_not] at ha
          omega) rfl
        have HF := Lib.hid fin
        rw [ha] at HA
        clear ha fin
        generalize A.getD q 0 = x at *
        go_wp2_with (go_at_call 29; (with_reducible refine (HA.out _).mono ?_); rintro e w1 ⟨rfl, rfl⟩)
        go_ret2
        exact ⟨HF.out _, HB.out⟩
      · have HX : Hid (∀ j, j < q + 1 → 0 ≤ A.getD j 0 ∧ A.getD j 0 ≤ 999) := fun j hj => by
          rcases Nat.lt_or_ge j q with h | h
          · exact HJ.out j h
          · obtain rfl : j = q := by omega
            unfold addrB at ha
            simp only [Bool.and_eq_true, decide_eq_true_eq] at ha
            exact ha
        rw [ha] at HA
        clear ha
        generalize hx : A.getD q 0 = x at *
        clear hx
        go_wp2_with (go_at_call 29; (with_reducible refine (HA.out _).mono ?_); rintro e w1 ⟨rfl, rfl⟩)
        exact ⟨⟨q + 1, by omega, by go_num, HB.out, HX.out⟩, by simp [intOf]; omega⟩
    · obtain rfl : n = q := by omega
      have HGd : Hid (Good A) := fun j hj => HJ.out j (by have := HN.out; omega)
      have HB0 := Lib.hid HB.out
      clear HJ HB
      go_wp2
      go_loopw [6, 27] (fun v i wv => ∃ k : Nat, k ≤ n ∧ i = .int .i64 (k : Int) ∧ Acc A w wv v k) (fun _ i _ => n - (intOf i).toNat)
      case atStart => exact ⟨0, by omega, rfl, World.ownsRow_nil _ _ _ _, HB0.out, fun j hj => by omega⟩
      case round =>
        obtain ⟨k, hk, rfl, hAcc⟩ := hrel
        have HAcc := Lib.hid hAcc
        have hI : Inv A k := inv_all HGd.out k (by have := HN.out; omega) hAcc.no
        have HI := Lib.hid hI
        obtain ⟨fa, fc, hv⟩ := own_form hAcc.own
        subst hv
        clear hAcc hI
        by_cases hlt2 : k < n
        · have hkA : k < A.length := by have := HN.out; omega
          have c1 : wr.cell? ⟨b, o + k, none⟩ = some (.int .i64 (A.getD k 0)) := nums_cell (range_bel HR.out HAcc.out.bel hb0) hkA
          obtain ⟨g1, g2⟩ := HGd.out k hkA
          obtain ⟨m, hm⟩ : ∃ m : Nat, A.getD k 0 = (m : Int) := ⟨(A.getD k 0).toNat, by omega⟩
          have hpe : peN (A.getD k 0) = ((m : Int), idN m) := by rw [hm]; rfl
          have HPe := Lib.hid hpe
          have hPeer := peer_any m (by omega) wr (HG.out.later HAcc.out.bel)
          have HPr := Lib.hid hPeer
          have hidl := idN_lt m
          rw [hm] at c1
          have HM := Lib.hid hm
          clear hPeer hpe hm g1 g2
          generalize hid : idN m = id at *
          clear hid
          go_upto_region 14 with (first
            | (go_at_call 30; (with_reducible refine HPr.out.mono ?_); rintro e w2 ⟨rfl, hb2⟩)
            | (refine p_storeP rfl rfl _ _ rfl ((m : Int), id) rfl rfl ?_))
          (try simp only [Act.put])
          have X := Blk.new w2 (peA ((m : Int), id)) 43
          have BW : Below wr.heap.size wr (w2.alloc (.cells (peA ((m : Int), id)) 43)) := hb2.alloc hb2.size _
          have hgs : wr.heap.size ≤ w2.heap.size := hb2.size
          generalize w2.alloc _ = W at *
          generalize w2.heap.size = g at *
          clear hb2 c1 HPr
          have HL := Lib.hid ((HAcc.out.lies HI.out).bel BW)
          have hlen := HI.out.len
          have hF := firstFrom_any id HL.out HI.out.rise HI.out.wf hidl (by omega)
          have HF := Lib.hid hF
          have ri : W.rangeAt g 1 (row (dig 20 id)).toList := pe_id (blk_range X)
          have HXX := Lib.hid X
          have HBW := Lib.hid BW
          have hfl := first_le (accL A k) id
          rw [hlen] at hfl
          have HLen := Lib.hid hlen
          clear X BW hF hlen
          go_upto_region 15 with (first
            | (refine p_midI rfl _ rfl _ _ rfl id ri ?_)
            | (go_at_call 31; (with_reducible refine HF.out.mono ?_); rintro e w3 ⟨rfl, hb3⟩))
          have HB3 := Lib.hid hb3
          have HX3 := Lib.hid (HXX.out.below hb3 HXX.out.lt)
          have rp : w3.rangeAt g 0 (peC ((m : Int), id)) := blk_range HX3.out
          have HBw3 := Lib.hid (step HBW.out hb3)
          have hL3 := HL.out.bel hb3
          have HL3 := Lib.hid hL3
          clear hb3 ri HF HL HXX hL3
          have HDE := Lib.hid (dup_eq HI.out)
          have HDN := Lib.hid (dup_end HI.out)
          rw [HPe.out] at HDE HDN
          by_cases hfk : firstN (accL A k) id < k
          · have hde := HDE.out hfk
            obtain ⟨b2, o2, c2, e2, _, _, hp, _⟩ := HL3.out.at (at_get (L := accL A k) (i := firstN (accL A k) id) (by rw [HLen.out]; exact hfk))
            rw [HLen.out] at e2
            simp only [Value.slice.injEq, true_and] at e2
            obtain ⟨rfl, rfl⟩ := e2
            have HD := Lib.hid (rfl : dupB A k = dupB A k)
            cases hd : dupB A k
            · rw [hd] at hde
              have HDD := Lib.hid hd
              clear hd HD HDE HDN
              generalize hq1 : (ad (accL A k) (firstN (accL A k) id), pn (accL A k) (firstN (accL A k) id)) = y at *
              generalize hq2 : firstN (accL A k) id = f at *
              have HQ2 := Lib.hid hq2
              clear hq1 hq2
              refine wp_region_quiet_below (by kernel_rfl) (by kernel_rfl) ?_
              repeat (first
                | go_big_quiet_skip
                | (go_big_quiet_want
                   first
                   | (first | (refine q_midP _ rfl _ _ rfl ((m : Int), id) (by with_reducible exact rp) ?_) | (refine q_midP _ rfl _ _ rfl y (by with_reducible exact hp) ?_) | (refine q_eqlP _ _ rfl y ((m : Int), id) rfl rfl hde ?_)
                      simp only [Act.put, List.setIfInBounds_toArray, List.set_cons_succ, List.set_cons_zero]
                      go_big_quiet_on)
                   | (go_big_quiet_op
                      first | go_big_quiet_on | go_big_quiet_call (first | fail))))
              refine wpQuiet_nil ?_
              intro w2 hw'
              have hb2 := quiet_end hw'
              clear hw'
              have HB4 := Lib.hid (step HBw3.out hb2)
              have HX4 := Lib.hid (HX3.out.below hb2 HX3.out.lt)
              clear hb2 rp HL3 HX3 HBw3 HB3
              have r4 := blk_range HX4.out
              have B5 := (Below.refl w2.heap.size w2).alloc (Nat.le_refl _) (.cells (peA ((m : Int), id)) 43)
              have O5 : (w2.alloc (.cells (peA ((m : Int), id)) 43)).ownsRow 0 43 21 (.slice (some ⟨b2, o2, none⟩) k fc) (accL A k).length (flat (accL A k)) := by
                rw [HLen.out]; exact (own_down (own_bel HAcc.out.own HB4.out)).alloc _
              have hne : (Value.slice (some ⟨b2, o2, none⟩) k fc).ownBlock ≠ some w2.heap.size := fun e => by
                have h1 := (HAcc.out.own.lt _ e).2
                have h2 := HB4.out.size
                omega
              have HIn := Lib.hid (insert_any O5 (show f ≤ (accL A k).length by rw [HLen.out]; omega) (by rw [HLen.out]; omega) (Blk.new w2 (peA ((m : Int), id)) 43) hne)
              have stp : ∀ v' w6, Put (w2.alloc (.cells (peA ((m : Int), id)) 43)) w6 (.slice (some ⟨b2, o2, none⟩) k fc) v' ((accL A k).take f ++ ((m : Int), id) :: (accL A k).drop f) → Acc A w w6 v' (k + 1) := fun v' w6 hP => by
                refine acc_step (vb := w2.heap.size) HAcc.out HB4.out HI.out HDD.out ?_ rfl
                unfold insP
                rw [HPe.out]
                show Put _ _ _ _ ((accL A k).take (firstN (accL A k) id) ++ ((m : Int), id) :: (accL A k).drop (firstN (accL A k) id))
                rw [HQ2.out]
                exact hP
              have HSt := Lib.hid stp
              clear O5 hne stp B5
              go_wp2_with (first
                | (refine p_midP rfl _ rfl _ _ rfl ((m : Int), id) r4 ?_)
                | (refine p_sliceP rfl _ rfl ((m : Int), id) rfl ?_)
                | (go_at_call 32; (with_reducible refine HIn.out.mono ?_); rintro e w6 ⟨v', rfl, hP⟩; have HAc := Lib.hid (HSt.out v' w6 hP); clear hP))
              exact ⟨⟨k + 1, by omega, by go_num, HAc.out⟩, by simp [intOf]; omega⟩
            · rw [hd] at hde
              have fin : ∀ w', OfAns A w.heap.size (.returned (.tuple #[.slice none 0 0, .int .i64 9])) w' := fun w' => .twice HSZ.out HGd.out k hkA HAcc.out.no hd rfl
              have HFin := Lib.hid fin
              have HBf := Lib.hid (HAcc.out.bel.trans (HBw3.out.mono HAcc.out.bel.size))
              clear hd HD HDE HDN fin
              generalize (ad (accL A k) (firstN (accL A k) id), pn (accL A k) (firstN (accL A k) id)) = y at *
              generalize firstN (accL A k) id = f at *
              refine wp_region_quiet_below (by kernel_rfl) (by kernel_rfl) ?_
              repeat (first
                | go_big_quiet_skip
                | (go_big_quiet_want
                   first
                   | (first | (refine q_midP _ rfl _ _ rfl ((m : Int), id) (by with_reducible exact rp) ?_) | (refine q_midP _ rfl _ _ rfl y (by with_reducible exact hp) ?_) | (refine q_eqlP _ _ rfl y ((m : Int), id) rfl rfl hde ?_)
                      simp only [Act.put, List.setIfInBounds_toArray, List.set_cons_succ, List.set_cons_zero]
                      go_big_quiet_on)
                   | (go_big_quiet_op
                      first | go_big_quiet_on | go_big_quiet_call (first | fail))))
              refine wpQuiet_nil ?_
              intro w2 hw'
              have hb2 := quiet_end hw'
              clear hw'
              have HBe := Lib.hid (HBf.out.trans (hb2.mono HBf.out.size))
              clear hb2 hp rp
              go_wp2
              go_ret2
              exact ⟨HFin.out _, HBe.out⟩
          · have HDD := Lib.hid (HDN.out hfk)
            have hnf : ((firstN (accL A k) id : Nat) : Int) = (k : Int) := by omega
            have d0 : decide (((firstN (accL A k) id : Nat) : Int) < (k : Int)) = false := decide_eq_false (by omega)
            have d1 : decide (firstN (accL A k) id < k) = false := decide_eq_false hfk
            clear HDE HDN hfk hnf
            generalize hq2 : firstN (accL A k) id = f at *
            have HQ2 := Lib.hid hq2
            clear hq2
            refine wp_region_quiet_below (by kernel_rfl) (by kernel_rfl) ?_
            repeat (first
              | go_big_quiet_skip
              | (go_big_quiet_want
                 first
                 | (first | (refine q_midP _ rfl _ _ rfl ((m : Int), id) (by with_reducible exact rp) ?_)
                    simp only [Act.put, List.setIfInBounds_toArray, List.set_cons_succ, List.set_cons_zero]
                    go_big_quiet_on)
                 | (go_big_quiet_op
                    first | go_big_quiet_on | go_big_quiet_call (first | fail))))
            refine wpQuiet_nil ?_
            intro w2 hw'
            have hb2 := quiet_end hw'
            clear hw'
            have HB4 := Lib.hid (step HBw3.out hb2)
            have HX4 := Lib.hid (HX3.out.below hb2 HX3.out.lt)
            clear hb2 rp HL3 HX3 HBw3 HB3
            have r4 := blk_range HX4.out
            have B5 := (Below.refl w2.heap.size w2).alloc (Nat.le_refl _) (.cells (peA ((m : Int), id)) 43)
            have O5 : (w2.alloc (.cells (peA ((m : Int), id)) 43)).ownsRow 0 43 21 (.slice fa k fc) (accL A k).length (flat (accL A k)) := by
              rw [HLen.out]; exact (own_down (own_bel HAcc.out.own HB4.out)).alloc _
            have hne : (Value.slice fa k fc).ownBlock ≠ some w2.heap.size := fun e => by
              have h1 := (HAcc.out.own.lt _ e).2
              have h2 := HB4.out.size
              omega
            have HIn := Lib.hid (insert_any O5 (show f ≤ (accL A k).length by rw [HLen.out]; omega) (by rw [HLen.out]; omega) (Blk.new w2 (peA ((m : Int), id)) 43) hne)
            have stp : ∀ v' w6, Put (w2.alloc (.cells (peA ((m : Int), id)) 43)) w6 (.slice fa k fc) v' ((accL A k).take f ++ ((m : Int), id) :: (accL A k).drop f) → Acc A w w6 v' (k + 1) := fun v' w6 hP => by
              refine acc_step (vb := w2.heap.size) HAcc.out HB4.out HI.out HDD.out ?_ rfl
              unfold insP
              rw [HPe.out]
              show Put _ _ _ _ ((accL A k).take (firstN (accL A k) id) ++ ((m : Int), id) :: (accL A k).drop (firstN (accL A k) id))
              rw [HQ2.out]
              exact hP
            have HSt := Lib.hid stp
            clear O5 hne stp B5
            go_wp2_with (first
              | (refine p_midP rfl _ rfl _ _ rfl ((m : Int), id) r4 ?_)
              | (refine p_sliceP rfl _ rfl ((m : Int), id) rfl ?_)
              | (go_at_call 32; (with_reducible refine HIn.out.mono ?_); rintro e w6 ⟨v', rfl, hP⟩; have HAc := Lib.hid (HSt.out v' w6 hP); clear hP))
            exact ⟨⟨k + 1, by omega, by go_num, HAc.out⟩, by simp [intOf]; omega⟩
        · obtain rfl : n = k := by omega
          have hown := HAcc.out.own
          have fin : ∀ w', w'.ownsRow w.heap.size 43 21 (.slice fa n fc) n (flat (accL A n)) → OfAns A w.heap.size (.returned (.tuple #[.slice fa n fc, .int .i64 0])) w' := fun w' h => by
            have e := HN.out
            exact .ok HSZ.out HGd.out (fun j hj => HAcc.out.no j (by omega)) _ rfl (by rw [← e]; exact h)
          have HFin := Lib.hid (fin _ hown)
          clear fin hown
          go_wp2
          go_ret2
          exact ⟨HFin.out, HAcc.out.bel⟩
end Go.Proofs.YtmlejcfnnjnggaaDoor
