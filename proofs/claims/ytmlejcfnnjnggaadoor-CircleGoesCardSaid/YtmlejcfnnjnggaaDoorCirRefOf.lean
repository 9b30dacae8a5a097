/- The circle of addresses, by the document. -/
import Derived.Test.YtmlejcfnnjnggaaDoorCirJoin
import Derived.Test.YtmlejcfnnjnggaaDoorCirOf
import Derived.Test.YtmlejcfnnjnggaaDoorCirRef
namespace Go.Proofs.YtmlejcfnnjnggaaDoor
set_option maxRecDepth 100000
open Go Go.RowKit Go.Sort

theorem y_buildP {ops : Array Oper} {S : World → Prop} {op : Oper} {a : Act} (hw : Region.wanted op (yielded ops a.tmps) = true) (x y : Operand) (ho : op.op = .build 43 #[(0, x), (1, y)])
    (m : Int) (n : Nat) (hx : a.eval x = .int .i64 m) (hy : a.eval y = idv n) : YieldsIf Tryd.prog ops S op (.agg (peA (m, n))) a :=
  .inl ⟨hw, fun w _ => by
    have e := run_build (P := Tryd.prog) w 43 #[(0, .int .i64 m), (1, .agg (row (dig 20 n)))] _ (builtP m n)
    unfold execOp
    simp only [ho, List.map_toArray, List.map_cons, List.map_nil, hx, hy, Sem.run_bind, idv, e, Sem.run_pure, Result.andThen_ok]⟩
theorem own_lower {w : World} {B C e s n : Nat} {v : Value} {xs : List Value} (h : w.ownsRow C e s v n xs) (hB : B ≤ C) : w.ownsRow B e s v n xs := by
  refine ⟨h.1, h.2.imp id ?_⟩
  rintro ⟨g, cap, cur, rfl, h1, h2, h3⟩
  exact ⟨g, cap, cur, rfl, Nat.le_trans hB h1, h2, h3⟩
theorem accR_step {A : List Int} {w wr w4 w6 : World} {v v' : Value} {k f : Nat} (h : Acc A w wr v k) (hb : Below wr.heap.size wr w4) (I : Inv A k) (hd : dupB A k = false) (hf : firstN (accL A k) (peN (A.getD k 0)).2 = f)
    (ho : w6.ownsRow w4.heap.size 43 21 v' (0 + f + 1 + (k - f)) (flat (([] ++ (accL A k).take f) ++ [peN (A.getD k 0)] ++ (accL A k).drop f))) (h6 : Below w4.heap.size w4 w6) : Acc A w w6 v' (k + 1) := by
  have hs : w.heap.size ≤ w4.heap.size := by have := h.bel.size; have := hb.size; omega
  have hfk := first_le (accL A k) (peN (A.getD k 0)).2
  rw [hf, I.len] at hfk
  have e1 : 0 + f + 1 + (k - f) = k + 1 := by omega
  have e2 : ([] ++ (accL A k).take f) ++ [peN (A.getD k 0)] ++ (accL A k).drop f = accL A (k + 1) := by
    rw [accL, insP, hf]; simp
  rw [e1, e2] at ho
  refine ⟨own_lower ho hs, (h.bel.trans (hb.mono h.bel.size)).trans (h6.mono hs), fun j hj => ?_⟩
  rcases Nat.lt_or_ge j k with h' | h'
  · exact h.no j h'
  · obtain rfl : j = k := by omega
    exact hd
theorem src_drop {w : World} {v : Value} {n : Nat} {L : List Pe} {r : Nat} (h : Src w v n 21 ((flat L).drop (r * 21))) : Src w v n 21 (flat (L.drop r)) := by rw [← flat_drop]; exact h
theorem src_take {w : World} {v : Value} {n : Nat} {L : List Pe} {r : Nat} (h : Src w v n 21 ((flat L).take (r * 21))) : Src w v n 21 (flat (L.take r)) := by rw [← flat_take]; exact h
/-- what the search finds -/
theorem first_less {L : List Pe} (hw : Wf L) {id q : Nat} (hid : id < M) (h : q < firstN L id) : lessB (pn L q) id = true := by
  rw [lessB_lt (hw.pn _) hid, decide_eq_true_eq]; exact first_lt h
theorem first_stop {L : List Pe} (hw : Wf L) {id : Nat} (hid : id < M) (h : firstN L id < L.length) : lessB (pn L (firstN L id)) id = false := by
  rw [lessB_lt (hw.pn _) hid, decide_eq_false_iff_not]; exact first_at h
theorem cell_keep {w w' : World} {b o : Nat} {u : Value} (hb : b < w.heap.size) (h : w.cell? ⟨b, o, none⟩ = some u) (k : Below w.heap.size w w') : w'.cell? ⟨b, o, none⟩ = some u := (k.cell (p := ⟨b, o, none⟩) hb).trans h
theorem Below.heap_cell_alloc (w : World) (o : Obj) (p : Addr) {u : Value} (h : w.cell? p = some u) : (w.alloc o).cell? p = some u := (World.cell?_alloc_lt w o p (World.block_lt_of_cell? w _ h)).trans h
set_option maxHeartbeats 16000000 in
theorem refOf_any {w : World} {v : Value} {A : List Int} (hA : Nums w v A) : Calls Tryd.prog 9 #[v] w fun e w' => OfAns A w.heap.size e w' ∧ Below w.heap.size w w' := by
  by_cases hs : 1 ≤ A.length ∧ A.length ≤ 16
  rotate_left
  · obtain ⟨a, c, rfl⟩ := hA.form
    have fin : ∀ w', OfAns A w.heap.size (.returned (.tuple #[.slice none 0 0, .int .i64 2])) w' := fun w' => .size hs rfl
    have HF := Lib.hid fin
    clear hA fin
    generalize A.length = n at *
    by_cases h1 : 1 ≤ n
    · have hd : decide ((n : Int) < 1) = false := decide_eq_false (by omega)
      have hd2 : decide ((16 : Int) < n) = true := decide_eq_true (by omega)
      clear hs h1
      go_enter Tryd.func9, Tryd.ntmps9
      go_wp2
      go_ret2
      exact ⟨HF.out _, Below.refl _ _⟩
    · have hd : decide ((n : Int) < 1) = true := decide_eq_true (by omega)
      clear hs h1
      go_enter Tryd.func9, Tryd.ntmps9
      go_wp2
      go_ret2
      exact ⟨HF.out _, Below.refl _ _⟩
  obtain ⟨b, o, c, rfl, hr, hb0⟩ := hA.some (by omega)
  obtain ⟨n, hnA⟩ : ∃ n, n = A.length := ⟨_, rfl⟩
  have HN := Lib.hid hnA
  have HR := Lib.hid hr
  have HSZ := Lib.hid hs
  have hd : decide ((n : Int) < 1) = false := decide_eq_false (by omega)
  have hd2 : decide ((16 : Int) < n) = false := decide_eq_false (by omega)
  rw [← hnA] at hs ⊢
  clear hA hr hnA
  go_enter Tryd.func9, Tryd.ntmps9
  go_wp2
  go_loopw [4] (fun i wr => ∃ q : Nat, q ≤ n ∧ i = .int .i64 (q : Int) ∧ Below w.heap.size w wr ∧ ∀ j, j < q → 0 ≤ A.getD j 0 ∧ A.getD j 0 ≤ 999) (fun i _ => n - (intOf i).toNat)
  case atStart => exact ⟨0, by omega, rfl, Below.refl _ _, fun j hj => by omega⟩
  case round =>
    obtain ⟨q, hq, rfl, hB, hJ⟩ := hrel
    have HB := Lib.hid hB
    have HJ := Lib.hid hJ
    clear hB hJ
    by_cases hlt : q < n
    · have c1 : wr.cell? ⟨b, o + q, none⟩ = some (.int .i64 (A.getD q 0)) := nums_cell (range_bel HR.out HB.out hb0) (by have := HN.out; omega)
      by_cases h1 : 0 ≤ A.getD q 0
      · have d1 : decide (A.getD q 0 < 0) = false := decide_eq_false (by omega)
        by_cases h2 : A.getD q 0 ≤ 999
        · have d2 : decide (999 < A.getD q 0) = false := decide_eq_false (by omega)
          have HX : Hid (∀ j, j < q + 1 → 0 ≤ A.getD j 0 ∧ A.getD j 0 ≤ 999) := fun j hj => by
            rcases Nat.lt_or_ge j q with h | h
            · exact HJ.out j h
            · obtain rfl : j = q := by omega
              exact ⟨h1, h2⟩
          clear h1 h2
          generalize hx : A.getD q 0 = x at *
          clear hx
          go_wp2
          exact ⟨⟨q + 1, by omega, by go_num, HB.out, HX.out⟩, by simp [intOf]; omega⟩
        · have d2 : decide (999 < A.getD q 0) = true := decide_eq_true (by omega)
          have fin : ∀ w', OfAns A w.heap.size (.returned (.tuple #[.slice none 0 0, .int .i64 1])) w' := fun w' => .arg HSZ.out (fun g => by
            obtain ⟨g1, g2⟩ := g q (by have := HN.out; omega)
            omega) rfl
          have HF := Lib.hid fin
          clear h1 h2 fin
          generalize A.getD q 0 = x at *
          go_wp2
          go_ret2
          exact ⟨HF.out _, HB.out⟩
      · have d1 : decide (A.getD q 0 < 0) = true := decide_eq_true (by omega)
        have fin : ∀ w', OfAns A w.heap.size (.returned (.tuple #[.slice none 0 0, .int .i64 1])) w' := fun w' => .arg HSZ.out (fun g => by
          obtain ⟨g1, g2⟩ := g q (by have := HN.out; omega)
          omega) rfl
        have HF := Lib.hid fin
        clear h1 fin
        generalize A.getD q 0 = x at *
        go_wp2
        go_ret2
        exact ⟨HF.out _, HB.out⟩
    · obtain rfl : n = q := by omega
      have HGd : Hid (Good A) := fun j hj => HJ.out j (by have := HN.out; omega)
      have HB0 := Lib.hid HB.out
      clear HJ HB
      go_wp2
      go_loopw [5, 6] (fun v i wv => ∃ k : Nat, k ≤ n ∧ i = .int .i64 (k : Int) ∧ Acc A w wv v k) (fun _ i _ => n - (intOf i).toNat)
      case atStart => exact ⟨0, by omega, rfl, World.ownsRow_nil _ _ _ _, HB0.out, fun j hj => by omega⟩
      case round =>
        obtain ⟨k, hk, rfl, hAcc⟩ := hrel
        have HAcc := Lib.hid hAcc
        have hI : Inv A k := inv_all HGd.out k (by have := HN.out; omega) hAcc.no
        have HI := Lib.hid hI
        obtain ⟨fa, fc, hv⟩ := own_form hAcc.own
        subst hv
        clear hAcc hI
        by_cases hlt2 : k < n
        · have hkA : k < A.length := by have := HN.out; omega
          have c1 : wr.cell? ⟨b, o + k, none⟩ = some (.int .i64 (A.getD k 0)) := nums_cell (range_bel HR.out HAcc.out.bel hb0) hkA
          obtain ⟨g1, g2⟩ := HGd.out k hkA
          obtain ⟨m, hm⟩ : ∃ m : Nat, A.getD k 0 = (m : Int) := ⟨(A.getD k 0).toNat, by omega⟩
          have hpe : peN (A.getD k 0) = ((m : Int), idN m) := by rw [hm]; rfl
          have HPe := Lib.hid hpe
          have HPr := Lib.hid (fun w1 => refID_any m (by omega) w1)
          have hidl := idN_lt m
          rw [hm] at c1
          have HM := Lib.hid hm
          have hbwr : b < wr.heap.size := Nat.lt_of_lt_of_le hb0 HAcc.out.bel.size
          clear hpe hm g1 g2
          generalize hid : idN m = id at *
          clear hid
          have hlen := HI.out.len
          have HLen := Lib.hid hlen
          have hfl := first_le (accL A k) id
          rw [hlen] at hfl
          have hless : ∀ q, q < firstN (accL A k) id → lessB (pn (accL A k) q) id = true := fun q hq => first_less HI.out.wf hidl hq
          have hstop : firstN (accL A k) id < k → lessB (pn (accL A k) (firstN (accL A k) id)) id = false := fun h => first_stop HI.out.wf hidl (by rw [hlen]; exact h)
          have HLess := Lib.hid hless
          have HStop := Lib.hid hstop
          have HDE := Lib.hid (dup_eq HI.out)
          have HDN := Lib.hid (dup_end HI.out)
          rw [HPe.out] at HDE HDN
          clear hlen hless hstop
          generalize hf : firstN (accL A k) id = f at *
          have HQ2 := Lib.hid hf
          clear hf
          have HO := Lib.hid HAcc.out.own
          go_upto_region 12 with (fail)
          refine wp_region_held_drew (S := (fun w9 => w9.cell? ⟨b, o + k, none⟩ = some (.int .i64 (m : Int)))) (by kernel_rfl) ?_ (fun hHeld => ?_)
          · exact c1
          have hX : Below wr.heap.size wr wr.drew := drew_bel wr
          generalize wr.drew = W1 at *
          refine wpAnyH_take (i := 0) (v := ?_) rfl (by kernel_rfl) (by kernel_rfl) (by kernel_rfl) (fun _ _ _ h => h) (Or.inl ⟨by rfl, ?_⟩) (by assumption) ?_
          rotate_left
          · intro w9 hSw
            (try dsimp only at hSw)
            go_simp
            (try with_reducible rfl)
          (try simp only [Act.put]); (try simp only [List.setIfInBounds_toArray]); (try simp only [List.set_cons_succ]); (try simp only [List.set_cons_zero])
          refine wpAnyH_take (i := 1) (v := ?_) rfl (by kernel_rfl) (by kernel_rfl) (by kernel_rfl) (fun _ _ _ h => h) (Or.inl ⟨by rfl, ?_⟩) (by assumption) ?_
          rotate_left
          · intro w9 hSw
            (try dsimp only at hSw)
            go_simp
            (try with_reducible rfl)
          (try simp only [Act.put]); (try simp only [List.setIfInBounds_toArray]); (try simp only [List.set_cons_succ]); (try simp only [List.set_cons_zero])
          refine wpAnyH_take (i := 2) (v := ?_) rfl (by kernel_rfl) (by kernel_rfl) (by kernel_rfl) (fun _ _ _ h => h) (Or.inl ⟨by rfl, ?_⟩) (by assumption) ?_
          rotate_left
          · intro w9 hSw
            (try dsimp only at hSw)
            go_simp
            (try with_reducible rfl)
          (try simp only [Act.put]); (try simp only [List.setIfInBounds_toArray]); (try simp only [List.set_cons_succ]); (try simp only [List.set_cons_zero])
          refine wpAnyH_take (i := 3) (v := ?_) rfl (by kernel_rfl) (by kernel_rfl) (by kernel_rfl) (fun _ _ _ h => h) (Or.inl ⟨by rfl, ?_⟩) (by assumption) ?_
          rotate_left
          · intro w9 hSw
            (try dsimp only at hSw)
            go_simp
            (try with_reducible rfl)
          (try simp only [Act.put]); (try simp only [List.setIfInBounds_toArray]); (try simp only [List.set_cons_succ]); (try simp only [List.set_cons_zero])
          refine wpAnyH_take (i := 4) (v := ?_) rfl (by kernel_rfl) (by kernel_rfl) (by kernel_rfl) (fun _ _ _ h => h) (Or.inl ⟨by rfl, ?_⟩) (by assumption) ?_
          rotate_left
          · intro w9 hSw
            (try dsimp only at hSw)
            go_simp
            (try with_reducible rfl)
          (try simp only [Act.put]); (try simp only [List.setIfInBounds_toArray]); (try simp only [List.set_cons_succ]); (try simp only [List.set_cons_zero])
          refine wpAnyH_take (i := 5) (v := ?_) rfl (by kernel_rfl) (by kernel_rfl) (by kernel_rfl) (fun _ _ _ h => h) (Or.inl ⟨by rfl, ?_⟩) (by assumption) ?_
          rotate_left
          · intro w9 hSw
            (try dsimp only at hSw)
            go_simp
            (try with_reducible rfl)
          (try simp only [Act.put]); (try simp only [List.setIfInBounds_toArray]); (try simp only [List.set_cons_succ]); (try simp only [List.set_cons_zero])
          refine wpAnyH_take (i := 6) (v := ?_) rfl (by kernel_rfl) (by kernel_rfl) (by kernel_rfl) (fun _ _ _ h => h) (Or.inl ⟨by rfl, ?_⟩) (by assumption) ?_
          rotate_left
          · intro w9 hSw
            (try dsimp only at hSw)
            go_simp
            (try with_reducible rfl)
          (try simp only [Act.put]); (try simp only [List.setIfInBounds_toArray]); (try simp only [List.set_cons_succ]); (try simp only [List.set_cons_zero])
          refine wpAnyH_take (i := 7) (v := ?_) rfl (by kernel_rfl) (by kernel_rfl) (by kernel_rfl) (fun _ _ _ h => h) (Or.inl ⟨by rfl, ?_⟩) (by assumption) ?_
          rotate_left
          · intro w9 hSw
            (try dsimp only at hSw)
            go_simp
            (try with_reducible rfl)
          (try simp only [Act.put]); (try simp only [List.setIfInBounds_toArray]); (try simp only [List.set_cons_succ]); (try simp only [List.set_cons_zero])
          iterate 8
            (try dsimp only [List.getElem_toArray, List.getElem_cons_succ, List.getElem_cons_zero])
            (try simp only [Act.put]); (try simp only [List.setIfInBounds_toArray]); (try simp only [List.set_cons_succ]); (try simp only [List.set_cons_zero])
          refine wpAnyH_ready (rs := [8, 10]) (by kernel_rfl) (by simp) ?_
          refine AllReadyH.cons rfl (fun K hK => ?_) ?_
          · go_simp
            go_wp2_with (go_at_call 33; (with_reducible refine (HPr.out _).mono ?_); rintro e w2 ⟨rfl, hb2⟩)
            refine hK.out _ _ ?_ (fun hHeld => ?_)
            · exact (hb2.cell (World.block_lt_of_cell? _ _ hHeld)).trans hHeld
            clear hK K
            (try simp only [Act.put]); (try simp only [List.setIfInBounds_toArray]); (try simp only [List.set_cons_succ]); (try simp only [List.set_cons_zero])
            refine wpAnyH_take (i := 9) (oi := { dst := some 51, op := .build 43 #[(0, .tmp 45), (1, .tmp 50)], type := 43, pos := "ref.go:32", after := #[{ on := 3, ground := .data }, { on := 8, ground := .data }], guard := none }) (v := .agg (peA ((m : Int), id))) rfl (by kernel_rfl) (by kernel_rfl) (by kernel_rfl) (fun _ _ _ h => h) (y_buildP (by rfl) (.tmp 45) (.tmp 50) rfl (m : Int) id rfl rfl) (by assumption) ?_
            (try simp only [Act.put]); (try simp only [List.setIfInBounds_toArray]); (try simp only [List.set_cons_succ]); (try simp only [List.set_cons_zero])
            refine wpAnyH_ready (rs := [10]) (by kernel_rfl) (by simp) ?_
            refine AllReadyH.cons rfl (fun K hK => ?_) ?_
            rotate_left
            · exact AllReadyH.nil
            go_simp
            skip
            refine hK.out _ _ ?_ (fun hHeld => ?_)
            · exact (Below.heap_cell_alloc _ _ _ hHeld)
            clear hK K
            (try simp only [Act.put]); (try simp only [List.setIfInBounds_toArray]); (try simp only [List.set_cons_succ]); (try simp only [List.set_cons_zero])
            clear hHeld
            rw [peer_zero]
            have Z := Blk.new w2 (peA (0, 0)) 43
            have hX2 : Below wr.heap.size wr w2 := step hX hb2
            refine wpAnyH_ready (rs := [11]) (by kernel_rfl) (by simp) ?_
            refine AllReadyH.cons rfl (fun K hK => ?_) ?_
            rotate_left
            · exact AllReadyH.nil
            rw [if_pos (by rfl)]
            refine wp_store_row 43 _ _ rfl w2.heap.size (peA ((m : Int), id)) rfl rfl 43 (peA (0, 0)) Z (by rw [peA_size]; exact sizeP) (by rw [peA_size, peA_size]) (peA_one _) ?_
            refine hK.out _ _ ?_ (fun hHeld => ?_)
            · exact cell_keep hbwr c1 (bel_setRow (hX2.alloc hX2.size _) hX2.size _)
            clear hK K
            (try simp only [Act.put]); (try simp only [List.setIfInBounds_toArray]); (try simp only [List.set_cons_succ]); (try simp only [List.set_cons_zero])
            iterate 2
              (try dsimp only [List.getElem_toArray, List.getElem_cons_succ, List.getElem_cons_zero])
              (try simp only [Act.put]); (try simp only [List.setIfInBounds_toArray]); (try simp only [List.set_cons_succ]); (try simp only [List.set_cons_zero])
            refine wpAnyH_done (by kernel_rfl) ?_ _
            have X := Z.setRow (peA ((m : Int), id))
            have BW : Below wr.heap.size wr ((w2.alloc (.cells (peA (0, 0)) 43)).setRow w2.heap.size (peA ((m : Int), id))) := bel_setRow (hX2.alloc hX2.size _) hX2.size _
            clear hHeld hX hX2 hb2 Z c1 HPr
            generalize (w2.alloc _).setRow _ _ = W at *
            generalize w2.heap.size = g at *
            have HXX := Lib.hid X
            have HBW := Lib.hid BW
            clear X BW
            generalize wr = wo at *
            go_wp2
            go_loopw [9] (fun i wv => ∃ q : Nat, q ≤ f ∧ i = .int .i64 (q : Int) ∧ Below W.heap.size W wv) (fun i _ => f - (intOf i).toNat)
            case atStart => exact ⟨0, by omega, rfl, Below.refl _ _⟩
            case round =>
              obtain ⟨q, hq, rfl, hB3⟩ := hrel
              have HB3 := Lib.hid hB3
              clear hB3
              have rg : wr.rangeAt g 1 (row (dig 20 id)).toList := pe_id (blk_range (HXX.out.below HB3.out HXX.out.lt))
              have hBz : Below wo.heap.size wo wr := step HBW.out HB3.out
              have HBz := Lib.hid hBz
              have HXz := Lib.hid (HXX.out.below HB3.out HXX.out.lt)
              have hLz := (HAcc.out.lies HI.out).bel hBz
              have HLz := Lib.hid hLz
              clear hBz hLz
              by_cases hqf : q < f
              · have hqk : q < k := by omega
                obtain ⟨b2, o2, c2, e2, _, hrr, _, _⟩ := HLz.out.at (at_get (L := accL A k) (i := q) (by rw [HLen.out]; exact hqk))
                rw [HLen.out] at e2
                simp only [Value.slice.injEq, true_and] at e2
                obtain ⟨rfl, rfl⟩ := e2
                have ri := lies_id hrr (i := q) (by rw [HLen.out]; exact hqk)
                have HL := refLess_gives (pn (accL A k) q) id
                rw [HLess.out q hqf] at HL
                generalize pn (accL A k) q = x at *
                go_upto_region 15 with (fail)
                refine wp_region_quiet_below (by kernel_rfl) (by kernel_rfl) ?_
                repeat (first
                  | go_big_quiet_skip
                  | (go_big_quiet_want
                     first
                     | (first | (refine q_midI _ rfl _ _ rfl x (by with_reducible exact ri) ?_) | (refine q_midI _ rfl _ _ rfl id (by with_reducible exact rg) ?_)
                        simp only [Act.put, List.setIfInBounds_toArray, List.set_cons_succ, List.set_cons_zero]
                        go_big_quiet_on)
                     | (go_big_quiet_op
                        first | go_big_quiet_on | go_big_quiet_call (first | with_reducible exact HL.grown _ _))))
                refine wpQuiet_nil ?_
                intro w2 hw'
                have hb2 := quiet_end hw'
                clear hw'
                have HB4 := Lib.hid (step HB3.out hb2)
                clear hb2 ri rg hrr
                go_wp2
                exact ⟨⟨q + 1, by omega, by go_num, HB4.out⟩, by simp [intOf]; omega⟩
              · obtain rfl : f = q := by omega
                by_cases hfk : f < k
                · obtain ⟨b2, o2, c2, e2, _, hrr, _, hbz⟩ := HLz.out.at (at_get (L := accL A k) (i := f) (by rw [HLen.out]; exact hfk))
                  rw [HLen.out] at e2
                  simp only [Value.slice.injEq, true_and] at e2
                  obtain ⟨rfl, rfl⟩ := e2
                  have ri := lies_id hrr (i := f) (by rw [HLen.out]; exact hfk)
                  have HL := refLess_gives (pn (accL A k) f) id
                  rw [HStop.out hfk] at HL
                  have hde := HDE.out hfk
                  generalize hx : pn (accL A k) f = x at *
                  have HXN := Lib.hid hx
                  have HRR := Lib.hid hrr
                  clear hx hrr
                  go_upto_region 15 with (fail)
                  refine wp_region_quiet_below (by kernel_rfl) (by kernel_rfl) ?_
                  repeat (first
                    | go_big_quiet_skip
                    | (go_big_quiet_want
                       first
                       | (first | (refine q_midI _ rfl _ _ rfl x (by with_reducible exact ri) ?_) | (refine q_midI _ rfl _ _ rfl id (by with_reducible exact rg) ?_)
                          simp only [Act.put, List.setIfInBounds_toArray, List.set_cons_succ, List.set_cons_zero]
                          go_big_quiet_on)
                       | (go_big_quiet_op
                          first | go_big_quiet_on | go_big_quiet_call (first | with_reducible exact HL.grown _ _))))
                  refine wpQuiet_nil ?_
                  intro w2 hw'
                  have hb2 := quiet_end hw'
                  clear hw'
                  have HB4 := Lib.hid (step HBz.out hb2)
                  have HX4 := Lib.hid (HXz.out.below hb2 HXz.out.lt)
                  have c2 : ∀ d os, (grow (redrawn w2 d) os).cell? ⟨b2, o2 + f * 21, none⟩ = some (.int .i64 (ad (accL A k) f)) := fun d os => lies_ad (range_bel (range_bel HRR.out hb2 hbz) (below_regrown w2 d os) (Nat.lt_of_lt_of_le hbz hb2.size)) (by rw [HLen.out]; exact hfk)
                  have c3 : ∀ d os, (grow (redrawn w2 d) os).cell? ⟨g, 0, none⟩ = some (.int .i64 (m : Int)) := fun d os => HX4.out.grown 0 d os
                  clear hb2 ri rg HL hbz
                  generalize w2 = wq at *
                  by_cases had : ad (accL A k) f = (m : Int)
                  · have hdup : dupB A k = true := by
                      rw [← hde]
                      unfold eqP
                      rw [Bool.and_eq_true]
                      exact ⟨decide_eq_true had, by
                        have := (HI.out.pe f hfk).2.2
                        rw [HXN.out] at this
                        rw [this, had]
                        have h2 : (peN (A.getD k 0)).2 = id := congrArg Prod.snd HPe.out
                        show eqB (idN (m : Int).toNat) id = true
                        rw [show idN (m : Int).toNat = id by rw [← h2, peN, HM.out]]
                        exact eqB_self _⟩
                    have e3 : (ad (accL A k) f == (m : Int)) = true := by simpa using had
                    have fin : ∀ w', OfAns A w.heap.size (.returned (.tuple #[.slice none 0 0, .int .i64 9])) w' := fun w' => .twice HSZ.out HGd.out k hkA HAcc.out.no hdup rfl
                    have HFin := Lib.hid fin
                    have HBf := Lib.hid (HAcc.out.bel.trans (HB4.out.mono HAcc.out.bel.size))
                    clear hdup had fin hde HDE HDN
                    generalize ad (accL A k) f = y at *
                    go_upto_region 17 with (fail)
                    refine wp_region_quiet_below (by kernel_rfl) (by kernel_rfl) ?_
                    repeat (first
                      | go_big_quiet_skip
                      | (go_big_quiet_want
                         first
                         | (first | fail
                            simp only [Act.put, List.setIfInBounds_toArray, List.set_cons_succ, List.set_cons_zero]
                            go_big_quiet_on)
                         | (go_big_quiet_op
                            first | go_big_quiet_on | go_big_quiet_call (first | fail))))
                    refine wpQuiet_nil ?_
                    intro w2 hw'
                    have hb2 := quiet_end hw'
                    clear hw'
                    have HBe := Lib.hid (HBf.out.trans (hb2.mono HBf.out.size))
                    clear hb2 c2 c3
                    go_wp2
                    go_ret2
                    exact ⟨HFin.out _, HBe.out⟩
                  · have hdup : dupB A k = false := by
                      rw [← hde]
                      unfold eqP
                      rw [Bool.and_eq_false_iff]
                      exact .inl (decide_eq_false had)
                    have HD := Lib.hid hdup
                    have e3 : (ad (accL A k) f == (m : Int)) = false := by simpa using had
                    clear hdup had hde HDE HDN
                    generalize ad (accL A k) f = y at *
                    go_upto_region 17 with (fail)
                    refine wp_region_quiet_below (by kernel_rfl) (by kernel_rfl) ?_
                    repeat (first
                      | go_big_quiet_skip
                      | (go_big_quiet_want
                         first
                         | (first | fail
                            simp only [Act.put, List.setIfInBounds_toArray, List.set_cons_succ, List.set_cons_zero]
                            go_big_quiet_on)
                         | (go_big_quiet_op
                            first | go_big_quiet_on | go_big_quiet_call (first | fail))))
                    refine wpQuiet_nil ?_
                    intro w2 hw'
                    have hb2 := quiet_end hw'
                    clear hw'
                    have HB2 := Lib.hid (step HB4.out hb2)
                    have HX2 := Lib.hid (HX4.out.below hb2 HX4.out.lt)
                    clear hb2 c2 c3 HLz HLess HStop HRR HXN
                    have OUT := Lib.hid (own_bel HO.out HB2.out)
                    have HOF := Lib.hid (fun v' w6 => accR_step (f := f) (v' := v') (w6 := w6) HAcc.out HB2.out HI.out HD.out (by rw [HPe.out]; exact HQ2.out))
                    rw [HPe.out] at HOF
                    generalize accL A k = LL at *
                    go_wp2_with (first
                      | (refine wpList_upto rfl 23 _ _ rfl 43 21 Tryd.underlying23 sizeP _ k f (flat LL) w.heap.size rfl rfl hfl OUT.out ?_; intro u1 hS1; have HS1 := Lib.hid (src_take hS1); clear hS1)
                      | (refine wpList_joinP rfl _ _ rfl w2.heap.size _ [] (LL.take f) 0 f rfl (World.ownsRow_nil _ _ _ _) u1 rfl HS1.out (by omega) (Below.refl w2.heap.size w2) (Nat.le_refl _) ?_; intro v1 y1 h1 b1 s1; have H1 := Lib.hid h1; have B1 := Lib.hid b1; have hp1 := blk_range (HX2.out.below b1 HX2.out.lt); clear h1 b1 HS1)
                      | (refine p_midP rfl _ rfl _ _ rfl ((m : Int), id) hp1 ?_)
                      | (refine p_sliceP rfl _ rfl ((m : Int), id) rfl ?_)
                      | (refine wpList_joinP rfl _ _ rfl w2.heap.size _ ([] ++ LL.take f) [((m : Int), id)] (0 + f) 1 rfl (H1.out.alloc _) _ rfl (lit_src y1 ((m : Int), id)) (by omega) (B1.out.alloc B1.out.size _) (by rw [World.size_alloc]; omega) ?_; intro v2 y2 h2 b2 s2; have H2 := Lib.hid h2; have B2 := Lib.hid b2; clear h2 b2 H1)
                      | (refine wpList_from rfl 23 _ _ rfl 43 21 Tryd.underlying23 sizeP _ k f (flat LL) w.heap.size rfl rfl hfl (own_bel OUT.out B2.out) ?_; intro u3 hS3; have HS3 := Lib.hid (src_drop hS3); clear hS3)
                      | (refine wpList_joinP rfl _ _ rfl w2.heap.size _ ([] ++ LL.take f ++ [((m : Int), id)]) (LL.drop f) (0 + f + 1) (k - f) rfl H2.out u3 rfl HS3.out (by omega) B2.out B2.out.size ?_; intro v3 y3 h3 b3 s3; have HAc := Lib.hid (HOF.out v3 y3 h3 b3); clear h3 b3 HS3))
                    exact ⟨⟨k + 1, by omega, by go_num, HAc.out⟩, by simp [intOf]; omega⟩
                · have HD := Lib.hid (HDN.out hfk)
                  have d0 : decide ((f : Int) < (k : Int)) = false := decide_eq_false (by omega)
                  have d1 : decide (f < k) = false := decide_eq_false hfk
                  clear HDE HDN
                  go_upto_region 15 with (fail)
                  refine wp_region_quiet_below (by kernel_rfl) (by kernel_rfl) ?_
                  repeat (first
                    | go_big_quiet_skip
                    | (go_big_quiet_want
                       first
                       | (first | fail
                          simp only [Act.put, List.setIfInBounds_toArray, List.set_cons_succ, List.set_cons_zero]
                          go_big_quiet_on)
                       | (go_big_quiet_op
                          first | go_big_quiet_on | go_big_quiet_call (first | fail))))
                  refine wpQuiet_nil ?_
                  intro w2 hw'
                  have hb2 := quiet_end hw'
                  clear hw'
                  have HB4 := Lib.hid (step HBz.out hb2)
                  have HX4 := Lib.hid (HXz.out.below hb2 HXz.out.lt)
                  clear hb2 rg
                  generalize w2 = wq at *
                  go_upto_region 17 with (fail)
                  refine wp_region_quiet_below (by kernel_rfl) (by kernel_rfl) ?_
                  repeat (first
                    | go_big_quiet_skip
                    | (go_big_quiet_want
                       first
                       | (first | fail
                          simp only [Act.put, List.setIfInBounds_toArray, List.set_cons_succ, List.set_cons_zero]
                          go_big_quiet_on)
                       | (go_big_quiet_op
                          first | go_big_quiet_on | go_big_quiet_call (first | fail))))
                  refine wpQuiet_nil ?_
                  intro w2 hw'
                  have hb2 := quiet_end hw'
                  clear hw'
                  have HB2 := Lib.hid (step HB4.out hb2)
                  have HX2 := Lib.hid (HX4.out.below hb2 HX4.out.lt)
                  clear hb2 HLz HLess HStop
                  have OUT := Lib.hid (own_bel HO.out HB2.out)
                  have HOF := Lib.hid (fun v' w6 => accR_step (f := f) (v' := v') (w6 := w6) HAcc.out HB2.out HI.out HD.out (by rw [HPe.out]; exact HQ2.out))
                  rw [HPe.out] at HOF
                  generalize accL A k = LL at *
                  go_wp2_with (first
                    | (refine wpList_upto rfl 23 _ _ rfl 43 21 Tryd.underlying23 sizeP _ k f (flat LL) w.heap.size rfl rfl hfl OUT.out ?_; intro u1 hS1; have HS1 := Lib.hid (src_take hS1); clear hS1)
                    | (refine wpList_joinP rfl _ _ rfl w2.heap.size _ [] (LL.take f) 0 f rfl (World.ownsRow_nil _ _ _ _) u1 rfl HS1.out (by omega) (Below.refl w2.heap.size w2) (Nat.le_refl _) ?_; intro v1 y1 h1 b1 s1; have H1 := Lib.hid h1; have B1 := Lib.hid b1; have hp1 := blk_range (HX2.out.below b1 HX2.out.lt); clear h1 b1 HS1)
                    | (refine p_midP rfl _ rfl _ _ rfl ((m : Int), id) hp1 ?_)
                    | (refine p_sliceP rfl _ rfl ((m : Int), id) rfl ?_)
                    | (refine wpList_joinP rfl _ _ rfl w2.heap.size _ ([] ++ LL.take f) [((m : Int), id)] (0 + f) 1 rfl (H1.out.alloc _) _ rfl (lit_src y1 ((m : Int), id)) (by omega) (B1.out.alloc B1.out.size _) (by rw [World.size_alloc]; omega) ?_; intro v2 y2 h2 b2 s2; have H2 := Lib.hid h2; have B2 := Lib.hid b2; clear h2 b2 H1)
                    | (refine wpList_from rfl 23 _ _ rfl 43 21 Tryd.underlying23 sizeP _ k f (flat LL) w.heap.size rfl rfl hfl (own_bel OUT.out B2.out) ?_; intro u3 hS3; have HS3 := Lib.hid (src_drop hS3); clear hS3)
                    | (refine wpList_joinP rfl _ _ rfl w2.heap.size _ ([] ++ LL.take f ++ [((m : Int), id)]) (LL.drop f) (0 + f + 1) (k - f) rfl H2.out u3 rfl HS3.out (by omega) B2.out B2.out.size ?_; intro v3 y3 h3 b3 s3; have HAc := Lib.hid (HOF.out v3 y3 h3 b3); clear h3 b3 HS3))
                  exact ⟨⟨k + 1, by omega, by go_num, HAc.out⟩, by simp [intOf]; omega⟩
          refine AllReadyH.cons rfl (fun K hK => ?_) ?_
          rotate_left
          · exact AllReadyH.nil
          go_simp
          refine hK.out _ _ ?_ (fun hHeld => ?_)
          · exact (Below.heap_cell_alloc _ _ _ hHeld)
          clear hK K
          (try simp only [Act.put]); (try simp only [List.setIfInBounds_toArray]); (try simp only [List.set_cons_succ]); (try simp only [List.set_cons_zero])
          have Z := Blk.new W1 (peA (0, 0)) 43
          rw [peer_zero] at hHeld ⊢
          have hX1 := hX.alloc hX.size (.cells (peA (0, 0)) 43)
          refine wpAnyH_ready (rs := [8]) (by kernel_rfl) (by simp) ?_
          refine AllReadyH.cons rfl (fun K hK => ?_) ?_
          rotate_left
          · exact AllReadyH.nil
          go_simp
          go_wp2_with (go_at_call 33; (with_reducible refine (HPr.out _).mono ?_); rintro e w2 ⟨rfl, hb2⟩)
          refine hK.out _ _ ?_ (fun hHeld => ?_)
          · exact (hb2.cell (World.block_lt_of_cell? _ _ hHeld)).trans hHeld
          clear hK K
          (try simp only [Act.put]); (try simp only [List.setIfInBounds_toArray]); (try simp only [List.set_cons_succ]); (try simp only [List.set_cons_zero])
          refine wpAnyH_take (i := 9) (oi := { dst := some 51, op := .build 43 #[(0, .tmp 45), (1, .tmp 50)], type := 43, pos := "ref.go:32", after := #[{ on := 3, ground := .data }, { on := 8, ground := .data }], guard := none }) (v := .agg (peA ((m : Int), id))) rfl (by kernel_rfl) (by kernel_rfl) (by kernel_rfl) (fun _ _ _ h => h) (y_buildP (by rfl) (.tmp 45) (.tmp 50) rfl (m : Int) id rfl rfl) (by assumption) ?_
          (try simp only [Act.put]); (try simp only [List.setIfInBounds_toArray]); (try simp only [List.set_cons_succ]); (try simp only [List.set_cons_zero])
          have hX2 : Below wr.heap.size wr w2 := step hX1 hb2
          have Z2 := Z.below hb2 Z.lt
          refine wpAnyH_ready (rs := [11]) (by kernel_rfl) (by simp) ?_
          refine AllReadyH.cons rfl (fun K hK => ?_) ?_
          rotate_left
          · exact AllReadyH.nil
          rw [if_pos (by rfl)]
          refine wp_store_row 43 _ _ rfl W1.heap.size (peA ((m : Int), id)) rfl rfl 43 (peA (0, 0)) Z2 (by rw [peA_size]; exact sizeP) (by rw [peA_size, peA_size]) (peA_one _) ?_
          refine hK.out _ _ ?_ (fun hHeld => ?_)
          · exact cell_keep hbwr c1 (bel_setRow hX2 hX.size _)
          clear hK K
          (try simp only [Act.put]); (try simp only [List.setIfInBounds_toArray]); (try simp only [List.set_cons_succ]); (try simp only [List.set_cons_zero])
          iterate 2
            (try dsimp only [List.getElem_toArray, List.getElem_cons_succ, List.getElem_cons_zero])
            (try simp only [Act.put]); (try simp only [List.setIfInBounds_toArray]); (try simp only [List.set_cons_succ]); (try simp only [List.set_cons_zero])
          refine wpAnyH_done (by kernel_rfl) ?_ _
          have X := Z2.setRow (peA ((m : Int), id))
          have BW : Below wr.heap.size wr (w2.setRow W1.heap.size (peA ((m : Int), id))) := bel_setRow hX2 hX.size _
          clear hHeld hX hX1 hX2 hb2 Z Z2 c1 HPr
          generalize w2.setRow _ _ = W at *
          generalize W1.heap.size = g at *
          have HXX := Lib.hid X
          have HBW := Lib.hid BW
          clear X BW
          generalize wr = wo at *
          go_wp2
          go_loopw [9] (fun i wv => ∃ q : Nat, q ≤ f ∧ i = .int .i64 (q : Int) ∧ Below W.heap.size W wv) (fun i _ => f - (intOf i).toNat)
          case atStart => exact ⟨0, by omega, rfl, Below.refl _ _⟩
          case round =>
            obtain ⟨q, hq, rfl, hB3⟩ := hrel
            have HB3 := Lib.hid hB3
            clear hB3
            have rg : wr.rangeAt g 1 (row (dig 20 id)).toList := pe_id (blk_range (HXX.out.below HB3.out HXX.out.lt))
            have hBz : Below wo.heap.size wo wr := step HBW.out HB3.out
            have HBz := Lib.hid hBz
            have HXz := Lib.hid (HXX.out.below HB3.out HXX.out.lt)
            have hLz := (HAcc.out.lies HI.out).bel hBz
            have HLz := Lib.hid hLz
            clear hBz hLz
            by_cases hqf : q < f
            · have hqk : q < k := by omega
              obtain ⟨b2, o2, c2, e2, _, hrr, _, _⟩ := HLz.out.at (at_get (L := accL A k) (i := q) (by rw [HLen.out]; exact hqk))
              rw [HLen.out] at e2
              simp only [Value.slice.injEq, true_and] at e2
              obtain ⟨rfl, rfl⟩ := e2
              have ri := lies_id hrr (i := q) (by rw [HLen.out]; exact hqk)
              have HL := refLess_gives (pn (accL A k) q) id
              rw [HLess.out q hqf] at HL
              generalize pn (accL A k) q = x at *
              go_upto_region 15 with (fail)
              refine wp_region_quiet_below (by kernel_rfl) (by kernel_rfl) ?_
              repeat (first
                | go_big_quiet_skip
                | (go_big_quiet_want
                   first
                   | (first | (refine q_midI _ rfl _ _ rfl x (by with_reducible exact ri) ?_) | (refine q_midI _ rfl _ _ rfl id (by with_reducible exact rg) ?_)
                      simp only [Act.put, List.setIfInBounds_toArray, List.set_cons_succ, List.set_cons_zero]
                      go_big_quiet_on)
                   | (go_big_quiet_op
                      first | go_big_quiet_on | go_big_quiet_call (first | with_reducible exact HL.grown _ _))))
              refine wpQuiet_nil ?_
              intro w2 hw'
              have hb2 := quiet_end hw'
              clear hw'
              have HB4 := Lib.hid (step HB3.out hb2)
              clear hb2 ri rg hrr
              go_wp2
              exact ⟨⟨q + 1, by omega, by go_num, HB4.out⟩, by simp [intOf]; omega⟩
            · obtain rfl : f = q := by omega
              by_cases hfk : f < k
              · obtain ⟨b2, o2, c2, e2, _, hrr, _, hbz⟩ := HLz.out.at (at_get (L := accL A k) (i := f) (by rw [HLen.out]; exact hfk))
                rw [HLen.out] at e2
                simp only [Value.slice.injEq, true_and] at e2
                obtain ⟨rfl, rfl⟩ := e2
                have ri := lies_id hrr (i := f) (by rw [HLen.out]; exact hfk)
                have HL := refLess_gives (pn (accL A k) f) id
                rw [HStop.out hfk] at HL
                have hde := HDE.out hfk
                generalize hx : pn (accL A k) f = x at *
                have HXN := Lib.hid hx
                have HRR := Lib.hid hrr
                clear hx hrr
                go_upto_region 15 with (fail)
                refine wp_region_quiet_below (by kernel_rfl) (by kernel_rfl) ?_
                repeat (first
                  | go_big_quiet_skip
                  | (go_big_quiet_want
                     first
                     | (first | (refine q_midI _ rfl _ _ rfl x (by with_reducible exact ri) ?_) | (refine q_midI _ rfl _ _ rfl id (by with_reducible exact rg) ?_)
                        simp only [Act.put, List.setIfInBounds_toArray, List.set_cons_succ, List.set_cons_zero]
                        go_big_quiet_on)
                     | (go_big_quiet_op
                        first | go_big_quiet_on | go_big_quiet_call (first | with_reducible exact HL.grown _ _))))
                refine wpQuiet_nil ?_
                intro w2 hw'
                have hb2 := quiet_end hw'
                clear hw'
                have HB4 := Lib.hid (step HBz.out hb2)
                have HX4 := Lib.hid (HXz.out.below hb2 HXz.out.lt)
                have c2 : ∀ d os, (grow (redrawn w2 d) os).cell? ⟨b2, o2 + f * 21, none⟩ = some (.int .i64 (ad (accL A k) f)) := fun d os => lies_ad (range_bel (range_bel HRR.out hb2 hbz) (below_regrown w2 d os) (Nat.lt_of_lt_of_le hbz hb2.size)) (by rw [HLen.out]; exact hfk)
                have c3 : ∀ d os, (grow (redrawn w2 d) os).cell? ⟨g, 0, none⟩ = some (.int .i64 (m : Int)) := fun d os => HX4.out.grown 0 d os
                clear hb2 ri rg HL hbz
                generalize w2 = wq at *
                by_cases had : ad (accL A k) f = (m : Int)
                · have hdup : dupB A k = true := by
                    rw [← hde]
                    unfold eqP
                    rw [Bool.and_eq_true]
                    exact ⟨decide_eq_true had, by
                      have := (HI.out.pe f hfk).2.2
                      rw [HXN.out] at this
                      rw [this, had]
                      have h2 : (peN (A.getD k 0)).2 = id := congrArg Prod.snd HPe.out
                      show eqB (idN (m : Int).toNat) id = true
                      rw [show idN (m : Int).toNat = id by rw [← h2, peN, HM.out]]
                      exact eqB_self _⟩
                  have e3 : (ad (accL A k) f == (m : Int)) = true := by simpa using had
                  have fin : ∀ w', OfAns A w.heap.size (.returned (.tuple #[.slice none 0 0, .int .i64 9])) w' := fun w' => .twice HSZ.out HGd.out k hkA HAcc.out.no hdup rfl
                  have HFin := Lib.hid fin
                  have HBf := Lib.hid (HAcc.out.bel.trans (HB4.out.mono HAcc.out.bel.size))
                  clear hdup had fin hde HDE HDN
                  generalize ad (accL A k) f = y at *
                  go_upto_region 17 with (fail)
                  refine wp_region_quiet_below (by kernel_rfl) (by kernel_rfl) ?_
                  repeat (first
                    | go_big_quiet_skip
                    | (go_big_quiet_want
                       first
                       | (first | fail
                          simp only [Act.put, List.setIfInBounds_toArray, List.set_cons_succ, List.set_cons_zero]
                          go_big_quiet_on)
                       | (go_big_quiet_op
                          first | go_big_quiet_on | go_big_quiet_call (first | fail))))
                  refine wpQuiet_nil ?_
                  intro w2 hw'
                  have hb2 := quiet_end hw'
                  clear hw'
                  have HBe := Lib.hid (HBf.out.trans (hb2.mono HBf.out.size))
                  clear hb2 c2 c3
                  go_wp2
                  go_ret2
                  exact ⟨HFin.out _, HBe.out⟩
                · have hdup : dupB A k = false := by
                    rw [← hde]
                    unfold eqP
                    rw [Bool.and_eq_false_iff]
                    exact .inl (decide_eq_false had)
                  have HD := Lib.hid hdup
                  have e3 : (ad (accL A k) f == (m : Int)) = false := by simpa using had
                  clear hdup had hde HDE HDN
                  generalize ad (accL A k) f = y at *
                  go_upto_region 17 with (fail)
                  refine wp_region_quiet_below (by kernel_rfl) (by kernel_rfl) ?_
                  repeat (first
                    | go_big_quiet_skip
                    | (go_big_quiet_want
                       first
                       | (first | fail
                          simp only [Act.put, List.setIfInBounds_toArray, List.set_cons_succ, List.set_cons_zero]
                          go_big_quiet_on)
                       | (go_big_quiet_op
                          first | go_big_quiet_on | go_big_quiet_call (first | fail))))
                  refine wpQuiet_nil ?_
                  intro w2 hw'
                  have hb2 := quiet_end hw'
                  clear hw'
                  have HB2 := Lib.hid (step HB4.out hb2)
                  have HX2 := Lib.hid (HX4.out.below hb2 HX4.out.lt)
                  clear hb2 c2 c3 HLz HLess HStop HRR HXN
                  have OUT := Lib.hid (own_bel HO.out HB2.out)
                  have HOF := Lib.hid (fun v' w6 => accR_step (f := f) (v' := v') (w6 := w6) HAcc.out HB2.out HI.out HD.out (by rw [HPe.out]; exact HQ2.out))
                  rw [HPe.out] at HOF
                  generalize accL A k = LL at *
                  go_wp2_with (first
                    | (refine wpList_upto rfl 23 _ _ rfl 43 21 Tryd.underlying23 sizeP _ k f (flat LL) w.heap.size rfl rfl hfl OUT.out ?_; intro u1 hS1; have HS1 := Lib.hid (src_take hS1); clear hS1)
                    | (refine wpList_joinP rfl _ _ rfl w2.heap.size _ [] (LL.take f) 0 f rfl (World.ownsRow_nil _ _ _ _) u1 rfl HS1.out (by omega) (Below.refl w2.heap.size w2) (Nat.le_refl _) ?_; intro v1 y1 h1 b1 s1; have H1 := Lib.hid h1; have B1 := Lib.hid b1; have hp1 := blk_range (HX2.out.below b1 HX2.out.lt); clear h1 b1 HS1)
                    | (refine p_midP rfl _ rfl _ _ rfl ((m : Int), id) hp1 ?_)
                    | (refine p_sliceP rfl _ rfl ((m : Int), id) rfl ?_)
                    | (refine wpList_joinP rfl _ _ rfl w2.heap.size _ ([] ++ LL.take f) [((m : Int), id)] (0 + f) 1 rfl (H1.out.alloc _) _ rfl (lit_src y1 ((m : Int), id)) (by omega) (B1.out.alloc B1.out.size _) (by rw [World.size_alloc]; omega) ?_; intro v2 y2 h2 b2 s2; have H2 := Lib.hid h2; have B2 := Lib.hid b2; clear h2 b2 H1)
                    | (refine wpList_from rfl 23 _ _ rfl 43 21 Tryd.underlying23 sizeP _ k f (flat LL) w.heap.size rfl rfl hfl (own_bel OUT.out B2.out) ?_; intro u3 hS3; have HS3 := Lib.hid (src_drop hS3); clear hS3)
                    | (refine wpList_joinP rfl _ _ rfl w2.heap.size _ ([] ++ LL.take f ++ [((m : Int), id)]) (LL.drop f) (0 + f + 1) (k - f) rfl H2.out u3 rfl HS3.out (by omega) B2.out B2.out.size ?_; intro v3 y3 h3 b3 s3; have HAc := Lib.hid (HOF.out v3 y3 h3 b3); clear h3 b3 HS3))
                  exact ⟨⟨k + 1, by omega, by go_num, HAc.out⟩, by simp [intOf]; omega⟩
              · have HD := Lib.hid (HDN.out hfk)
                have d0 : decide ((f : Int) < (k : Int)) = false := decide_eq_false (by omega)
                have d1 : decide (f < k) = false := decide_eq_false hfk
                clear HDE HDN
                go_upto_region 15 with (fail)
                refine wp_region_quiet_below (by kernel_rfl) (by kernel_rfl) ?_
                repeat (first
                  | go_big_quiet_skip
                  | (go_big_quiet_want
                     first
                     | (first | fail
                        simp only [Act.put, List.setIfInBounds_toArray, List.set_cons_succ, List.set_cons_zero]
                        go_big_quiet_on)
                     | (go_big_quiet_op
                        first | go_big_quiet_on | go_big_quiet_call (first | fail))))
                refine wpQuiet_nil ?_
                intro w2 hw'
                have hb2 := quiet_end hw'
                clear hw'
                have HB4 := Lib.hid (step HBz.out hb2)
                have HX4 := Lib.hid (HXz.out.below hb2 HXz.out.lt)
                clear hb2 rg
                generalize w2 = wq at *
                go_upto_region 17 with (fail)
                refine wp_region_quiet_below (by kernel_rfl) (by kernel_rfl) ?_
                repeat (first
                  | go_big_quiet_skip
                  | (go_big_quiet_want
                     first
                     | (first | fail
                        simp only [Act.put, List.setIfInBounds_toArray, List.set_cons_succ, List.set_cons_zero]
                        go_big_quiet_on)
                     | (go_big_quiet_op
                        first | go_big_quiet_on | go_big_quiet_call (first | fail))))
                refine wpQuiet_nil ?_
                intro w2 hw'
                have hb2 := quiet_end hw'
                clear hw'
                have HB2 := Lib.hid (step HB4.out hb2)
                have HX2 := Lib.hid (HX4.out.below hb2 HX4.out.lt)
                clear hb2 HLz HLess HStop
                have OUT := Lib.hid (own_bel HO.out HB2.out)
                have HOF := Lib.hid (fun v' w6 => accR_step (f := f) (v' := v') (w6 := w6) HAcc.out HB2.out HI.out HD.out (by rw [HPe.out]; exact HQ2.out))
                rw [HPe.out] at HOF
                generalize accL A k = LL at *
                go_wp2_with (first
                  | (refine wpList_upto rfl 23 _ _ rfl 43 21 Tryd.underlying23 sizeP _ k f (flat LL) w.heap.size rfl rfl hfl OUT.out ?_; intro u1 hS1; have HS1 := Lib.hid (src_take hS1); clear hS1)
                  | (refine wpList_joinP rfl _ _ rfl w2.heap.size _ [] (LL.take f) 0 f rfl (World.ownsRow_nil _ _ _ _) u1 rfl HS1.out (by omega) (Below.refl w2.heap.size w2) (Nat.le_refl _) ?_; intro v1 y1 h1 b1 s1; have H1 := Lib.hid h1; have B1 := Lib.hid b1; have hp1 := blk_range (HX2.out.below b1 HX2.out.lt); clear h1 b1 HS1)
                  | (refine p_midP rfl _ rfl _ _ rfl ((m : Int), id) hp1 ?_)
                  | (refine p_sliceP rfl _ rfl ((m : Int), id) rfl ?_)
                  | (refine wpList_joinP rfl _ _ rfl w2.heap.size _ ([] ++ LL.take f) [((m : Int), id)] (0 + f) 1 rfl (H1.out.alloc _) _ rfl (lit_src y1 ((m : Int), id)) (by omega) (B1.out.alloc B1.out.size _) (by rw [World.size_alloc]; omega) ?_; intro v2 y2 h2 b2 s2; have H2 := Lib.hid h2; have B2 := Lib.hid b2; clear h2 b2 H1)
                  | (refine wpList_from rfl 23 _ _ rfl 43 21 Tryd.underlying23 sizeP _ k f (flat LL) w.heap.size rfl rfl hfl (own_bel OUT.out B2.out) ?_; intro u3 hS3; have HS3 := Lib.hid (src_drop hS3); clear hS3)
                  | (refine wpList_joinP rfl _ _ rfl w2.heap.size _ ([] ++ LL.take f ++ [((m : Int), id)]) (LL.drop f) (0 + f + 1) (k - f) rfl H2.out u3 rfl HS3.out (by omega) B2.out B2.out.size ?_; intro v3 y3 h3 b3 s3; have HAc := Lib.hid (HOF.out v3 y3 h3 b3); clear h3 b3 HS3))
                exact ⟨⟨k + 1, by omega, by go_num, HAc.out⟩, by simp [intOf]; omega⟩
        · obtain rfl : n = k := by omega
          have hown := HAcc.out.own
          have fin : ∀ w', w'.ownsRow w.heap.size 43 21 (.slice fa n fc) n (flat (accL A n)) → OfAns A w.heap.size (.returned (.tuple #[.slice fa n fc, .int .i64 0])) w' := fun w' h => by
            have e := HN.out
            exact .ok HSZ.out HGd.out (fun j hj => HAcc.out.no j (by omega)) _ rfl (by rw [← e]; exact h)
          have HFin := Lib.hid (fin _ hown)
          clear fin hown
          go_wp2
          go_ret2
          exact ⟨HFin.out, HAcc.out.bel⟩
end Go.Proofs.YtmlejcfnnjnggaaDoor
