/- The document's answers: the ends of an arc, fingers. -/
import Derived.Test.YtmlejcfnnjnggaaDoorCirRef2
namespace Go.Proofs.YtmlejcfnnjnggaaDoor
set_option maxRecDepth 100000
open Go Go.RowKit Go.Sort

theorem plB_no {L : List Pe} {i : Int} (h : plB L i = false) : isB L = false ∨ (isB L = true ∧ i < 0) ∨ (isB L = true ∧ 0 ≤ i ∧ (L.length : Int) ≤ i) := by
  unfold plB at h
  cases hb : isB L
  · exact .inl rfl
  · rw [hb] at h
    simp only [Bool.true_and, Bool.and_eq_false_iff, decide_eq_false_iff_not] at h
    by_cases h0 : 0 ≤ i
    · exact .inr (.inr ⟨rfl, h0, by omega⟩)
    · exact .inr (.inl ⟨rfl, by omega⟩)
set_option maxHeartbeats 2000000 in
theorem refArc_no {w : World} {v : Value} {L : List Pe} (i : Int) (hL : Lies w v L) (hw : Wf L) (hn : L.length ≤ 1000000) (hp : plB L i = false) :
    Calls Tryd.prog 21 #[v, .int .i64 i] w fun e w' => e = .returned (.tuple #[idv 0, idv 0, .int .i64 1]) ∧ Below w.heap.size w w' := by
  have hL0 := hL
  obtain ⟨a, c, rfl⟩ := hL.form
  have T0 := Two.made w
  have hI := refIs_any (hL0.bel T0.bel) hw hn
  have key : ∀ r, isB L = r → (r = false ∨ (r = true ∧ i < 0) ∨ (r = true ∧ 0 ≤ i ∧ (L.length : Int) ≤ i)) := fun r hr => by rw [← hr]; exact plB_no hp
  generalize hb : isB L = r at *
  have key := key r rfl
  have HI := Lib.hid hI
  clear hL hL0 hw hn hI hp hb
  generalize L.length = n at *
  rcases key with rfl | ⟨rfl, h0⟩ | ⟨rfl, h0, h1⟩
  · go_enter Tryd.func21, Tryd.ntmps21
    go_upto_region 1 with (fail)
    rw [row_zero]
    generalize (w.alloc _).alloc _ = W at *
    go_upto_region 2 with (go_at_call 13; (with_reducible refine HI.out.mono ?_); rintro e w1 ⟨rfl, hb⟩; have T1 := T0.later hb)
    go_wp2_with (first
      | (refine wpList_store_id rfl _ _ rfl w.heap.size (dig 20 0) rfl rfl _ T1.one (dig_length _ _) (dig_length _ _) ?_; have T2 := T1.put1 0)
      | (refine wpList_store_id rfl _ _ rfl (w.heap.size + 1) (dig 20 0) rfl rfl _ T2.two (dig_length _ _) (dig_length _ _) ?_; have T3 := T2.put2 0))
    exact bodyPost_ret (results_idd Tryd.results21 _ _ _ _ 0 0 _ rfl rfl rfl T3.one T3.two) rfl ⟨rfl, T3.bel⟩
  · have d0 : decide (i < 0) = true := decide_eq_true h0
    go_enter Tryd.func21, Tryd.ntmps21
    go_upto_region 1 with (fail)
    rw [row_zero]
    generalize (w.alloc _).alloc _ = W at *
    go_upto_region 2 with (go_at_call 13; (with_reducible refine HI.out.mono ?_); rintro e w1 ⟨rfl, hb⟩; have T1 := T0.later hb)
    go_wp2_with (first
      | (refine wpList_store_id rfl _ _ rfl w.heap.size (dig 20 0) rfl rfl _ T1.one (dig_length _ _) (dig_length _ _) ?_; have T2 := T1.put1 0)
      | (refine wpList_store_id rfl _ _ rfl (w.heap.size + 1) (dig 20 0) rfl rfl _ T2.two (dig_length _ _) (dig_length _ _) ?_; have T3 := T2.put2 0))
    exact bodyPost_ret (results_idd Tryd.results21 _ _ _ _ 0 0 _ rfl rfl rfl T3.one T3.two) rfl ⟨rfl, T3.bel⟩
  · have d0 : decide (i < 0) = false := decide_eq_false (by omega)
    have d1 : decide ((n : Int) ≤ i) = true := decide_eq_true h1
    go_enter Tryd.func21, Tryd.ntmps21
    go_upto_region 1 with (fail)
    rw [row_zero]
    generalize (w.alloc _).alloc _ = W at *
    go_upto_region 2 with (go_at_call 13; (with_reducible refine HI.out.mono ?_); rintro e w1 ⟨rfl, hb⟩; have T1 := T0.later hb)
    go_wp2_with (first
      | (refine wpList_store_id rfl _ _ rfl w.heap.size (dig 20 0) rfl rfl _ T1.one (dig_length _ _) (dig_length _ _) ?_; have T2 := T1.put1 0)
      | (refine wpList_store_id rfl _ _ rfl (w.heap.size + 1) (dig 20 0) rfl rfl _ T2.two (dig_length _ _) (dig_length _ _) ?_; have T3 := T2.put2 0))
    exact bodyPost_ret (results_idd Tryd.results21 _ _ _ _ 0 0 _ rfl rfl rfl T3.one T3.two) rfl ⟨rfl, T3.bel⟩
set_option maxHeartbeats 2000000 in
theorem refArc_yes {w : World} {v : Value} {L : List Pe} (i : Nat) (hL : Lies w v L) (hw : Wf L) (hC : Circ L) (hi : i < L.length) :
    Calls Tryd.prog 21 #[v, .int .i64 (i : Int)] w fun e w' => e = .returned (.tuple #[idv (pn L ((i + L.length - 1) % L.length)), idv (pn L i), .int .i64 0]) ∧ Below w.heap.size w w' := by
  have hL0 := hL
  obtain ⟨b, o, c, e0, hc, hr, hb0⟩ := hL.some hC.pos.1
  subst e0
  have T0 := Two.made w
  have hI := refIs_any (hL0.bel T0.bel) hw hC.pos.2
  rw [isB_yes hC] at hI
  have HI := Lib.hid hI
  have hn0 := hC.pos
  have hj : (i + L.length - 1) % L.length < L.length := Nat.mod_lt _ hn0.1
  have hrem : ((i : Int) + (L.length : Int) - 1).tmod (L.length : Int) = (((i + L.length - 1) % L.length : Nat) : Int) := by
    rw [Int.tmod_eq_emod_of_nonneg (by omega), Int.natCast_emod, show ((i + L.length - 1 : Nat) : Int) = (i : Int) + (L.length : Int) - 1 by omega]
  have HR : Hid (∀ w1, Below w.heap.size w w1 → w1.rangeAt b (o + i * 21 + 1) (row (dig 20 (pn L i))).toList ∧ w1.rangeAt b (o + ((i + L.length - 1) % L.length) * 21 + 1) (row (dig 20 (pn L ((i + L.length - 1) % L.length)))).toList) := fun w1 hb =>
    ⟨range_bel (lies_id hr hi) hb hb0, range_bel (lies_id hr hj) hb hb0⟩
  clear hL hL0 hw hI hC hr hc
  generalize (i + L.length - 1) % L.length = j at *
  generalize pn L i = x at *
  generalize pn L j = y at *
  generalize L.length = n at *
  obtain ⟨hn1, hn2⟩ := hn0
  have hw1 : IntKind.i64.wrap ((i : Int) + (n : Int)) = (i : Int) + (n : Int) := IntWalk.i64_in _ (by omega)
  have hw2 : IntKind.i64.wrap ((i : Int) + (n : Int) - 1) = (i : Int) + (n : Int) - 1 := IntWalk.i64_in _ (by omega)
  have hz : ¬ n = 0 := by omega
  have hnn : (0 : Int) ≤ (i : Int) + (n : Int) - 1 := by omega
  have d0 : decide ((i : Int) < 0) = false := decide_eq_false (by omega)
  have d1 : decide ((n : Int) ≤ (i : Int)) = false := decide_eq_false (by omega)
  have d2 : decide (n ≤ i) = false := decide_eq_false (by omega)
  go_enter Tryd.func21, Tryd.ntmps21
  go_upto_region 1 with (fail)
  rw [row_zero]
  generalize (w.alloc _).alloc _ = W at *
  go_upto_region 3 with (go_at_call 13; (with_reducible refine HI.out.mono ?_); rintro e w1 ⟨rfl, hb⟩; have T1 := (T0.later hb).later (drew_bel _))
  obtain ⟨r1, r2⟩ := HR.out _ T1.bel
  have HT1 := Lib.hid T1
  clear T1 T0 hb
  refine wp_region_held_drew (S := (fun w9 => w9.rangeAt b (o + i * 21 + 1) (row (dig 20 x)).toList ∧ w9.rangeAt b (o + j * 21 + 1) (row (dig 20 y)).toList)) (by kernel_rfl) ?_ (fun hHeld => ?_)
  · exact ⟨r1, r2⟩
  generalize World.drew _ = W1 at *
  refine wpAnyH_take (i := 0) (v := ?_) rfl (by kernel_rfl) (by kernel_rfl) (by kernel_rfl) (fun _ _ _ h => h) (Or.inl ⟨by rfl, ?_⟩) (by assumption) ?_
  rotate_left
  · intro w9 hSw
    (try dsimp only at hSw)
    go_simp
    (try with_reducible rfl)
  (try simp only [Act.put]); (try simp only [List.setIfInBounds_toArray]); (try simp only [List.set_cons_succ]); (try simp only [List.set_cons_zero])
  refine wpAnyH_take (i := 1) (v := ?_) rfl (by kernel_rfl) (by kernel_rfl) (by kernel_rfl) (fun _ _ _ h => h) (Or.inl ⟨by rfl, ?_⟩) (by assumption) ?_
  rotate_left
  · intro w9 hSw
    (try dsimp only at hSw)
    go_simp
    (try with_reducible rfl)
  (try simp only [Act.put]); (try simp only [List.setIfInBounds_toArray]); (try simp only [List.set_cons_succ]); (try simp only [List.set_cons_zero])
  refine wpAnyH_take (i := 2) (v := ?_) rfl (by kernel_rfl) (by kernel_rfl) (by kernel_rfl) (fun _ _ _ h => h) (Or.inl ⟨by rfl, ?_⟩) (by assumption) ?_
  rotate_left
  · intro w9 hSw
    (try dsimp only at hSw)
    go_simp
    (try with_reducible rfl)
  (try simp only [Act.put]); (try simp only [List.setIfInBounds_toArray]); (try simp only [List.set_cons_succ]); (try simp only [List.set_cons_zero])
  refine wpAnyH_take (i := 3) (v := ?_) rfl (by kernel_rfl) (by kernel_rfl) (by kernel_rfl) (fun _ _ _ h => h) (Or.inl ⟨by rfl, ?_⟩) (by assumption) ?_
  rotate_left
  · intro w9 hSw
    (try dsimp only at hSw)
    go_simp
    (try with_reducible rfl)
  (try simp only [Act.put]); (try simp only [List.setIfInBounds_toArray]); (try simp only [List.set_cons_succ]); (try simp only [List.set_cons_zero])
  refine wpAnyH_take (i := 4) (v := ?_) rfl (by kernel_rfl) (by kernel_rfl) (by kernel_rfl) (fun _ _ _ h => h) (Or.inl ⟨by rfl, ?_⟩) (by assumption) ?_
  rotate_left
  · intro w9 hSw
    (try dsimp only at hSw)
    go_simp
    (try with_reducible rfl)
  (try simp only [Act.put]); (try simp only [List.setIfInBounds_toArray]); (try simp only [List.set_cons_succ]); (try simp only [List.set_cons_zero])
  refine wpAnyH_take (i := 5) (v := ?_) rfl (by kernel_rfl) (by kernel_rfl) (by kernel_rfl) (fun _ _ _ h => h) (Or.inl ⟨by rfl, ?_⟩) (by assumption) ?_
  rotate_left
  · intro w9 hSw
    (try dsimp only at hSw)
    go_simp
    (try with_reducible rfl)
  (try simp only [Act.put]); (try simp only [List.setIfInBounds_toArray]); (try simp only [List.set_cons_succ]); (try simp only [List.set_cons_zero])
  refine wpAnyH_take (i := 6) (v := ?_) rfl (by kernel_rfl) (by kernel_rfl) (by kernel_rfl) (fun _ _ _ h => h) (Or.inl ⟨by rfl, ?_⟩) (by assumption) ?_
  rotate_left
  · intro w9 hSw
    (try dsimp only at hSw)
    go_simp
    (try with_reducible rfl)
  (try simp only [Act.put]); (try simp only [List.setIfInBounds_toArray]); (try simp only [List.set_cons_succ]); (try simp only [List.set_cons_zero])
  refine wpAnyH_take (i := 7) (v := ?_) rfl (by kernel_rfl) (by kernel_rfl) (by kernel_rfl) (fun _ _ _ h => h) (Or.inl ⟨by rfl, ?_⟩) (by assumption) ?_
  rotate_left
  · intro w9 hSw
    (try dsimp only at hSw)
    go_simp
    (try with_reducible rfl)
  (try simp only [Act.put]); (try simp only [List.setIfInBounds_toArray]); (try simp only [List.set_cons_succ]); (try simp only [List.set_cons_zero])
  refine wpAnyH_take (i := 8) (v := ?_) rfl (by kernel_rfl) (by kernel_rfl) (by kernel_rfl) (fun _ _ _ h => h) (Or.inl ⟨by rfl, ?_⟩) (by assumption) ?_
  rotate_left
  · intro w9 hSw
    (try dsimp only at hSw)
    go_simp
    (try with_reducible rfl)
  (try simp only [Act.put]); (try simp only [List.setIfInBounds_toArray]); (try simp only [List.set_cons_succ]); (try simp only [List.set_cons_zero])
  refine wpAnyH_take (i := 9) (v := ?_) rfl (by kernel_rfl) (by kernel_rfl) (by kernel_rfl) (fun _ _ _ h => h) (Or.inl ⟨by rfl, ?_⟩) (by assumption) ?_
  rotate_left
  · intro w9 hSw
    (try dsimp only at hSw)
    go_simp
    (try with_reducible rfl)
  (try simp only [Act.put]); (try simp only [List.setIfInBounds_toArray]); (try simp only [List.set_cons_succ]); (try simp only [List.set_cons_zero])
  refine wpAnyH_take (i := 10) (v := ?_) rfl (by kernel_rfl) (by kernel_rfl) (by kernel_rfl) (fun _ _ _ h => h) (Or.inl ⟨by rfl, ?_⟩) (by assumption) ?_
  rotate_left
  · intro w9 hSw
    (try dsimp only at hSw)
    go_simp
    (try with_reducible rfl)
  (try simp only [Act.put]); (try simp only [List.setIfInBounds_toArray]); (try simp only [List.set_cons_succ]); (try simp only [List.set_cons_zero])
  iterate 12
    (try dsimp only [List.getElem_toArray, List.getElem_cons_succ, List.getElem_cons_zero])
    (try simp only [Act.put]); (try simp only [List.setIfInBounds_toArray]); (try simp only [List.set_cons_succ]); (try simp only [List.set_cons_zero])
  refine wpAnyH_take (i := 11) (oi := { dst := some 33, op := .load 32 (.tmp 32), type := 32, pos := "ref.go:112", after := #[{ on := 10, ground := .data }], guard := none }) (v := idv y) rfl (by kernel_rfl) (by kernel_rfl) (by kernel_rfl) (fun _ _ _ h => h) (y_midI (by rfl) (.tmp 32) rfl b (o + j * 21 + 1) rfl y (fun _ h => h.2)) (by assumption) ?_
  (try simp only [Act.put]); (try simp only [List.setIfInBounds_toArray]); (try simp only [List.set_cons_succ]); (try simp only [List.set_cons_zero])
  refine wpAnyH_take (i := 12) (v := ?_) rfl (by kernel_rfl) (by kernel_rfl) (by kernel_rfl) (fun _ _ _ h => h) (Or.inl ⟨by rfl, ?_⟩) (by assumption) ?_
  rotate_left
  · intro w9 hSw
    (try dsimp only at hSw)
    go_simp
    (try with_reducible rfl)
  (try simp only [Act.put]); (try simp only [List.setIfInBounds_toArray]); (try simp only [List.set_cons_succ]); (try simp only [List.set_cons_zero])
  refine wpAnyH_take (i := 13) (v := ?_) rfl (by kernel_rfl) (by kernel_rfl) (by kernel_rfl) (fun _ _ _ h => h) (Or.inl ⟨by rfl, ?_⟩) (by assumption) ?_
  rotate_left
  · intro w9 hSw
    (try dsimp only at hSw)
    go_simp
    (try with_reducible rfl)
  (try simp only [Act.put]); (try simp only [List.setIfInBounds_toArray]); (try simp only [List.set_cons_succ]); (try simp only [List.set_cons_zero])
  refine wpAnyH_take (i := 14) (v := ?_) rfl (by kernel_rfl) (by kernel_rfl) (by kernel_rfl) (fun _ _ _ h => h) (Or.inl ⟨by rfl, ?_⟩) (by assumption) ?_
  rotate_left
  · intro w9 hSw
    (try dsimp only at hSw)
    go_simp
    (try with_reducible rfl)
  (try simp only [Act.put]); (try simp only [List.setIfInBounds_toArray]); (try simp only [List.set_cons_succ]); (try simp only [List.set_cons_zero])
  refine wpAnyH_take (i := 15) (v := ?_) rfl (by kernel_rfl) (by kernel_rfl) (by kernel_rfl) (fun _ _ _ h => h) (Or.inl ⟨by rfl, ?_⟩) (by assumption) ?_
  rotate_left
  · intro w9 hSw
    (try dsimp only at hSw)
    go_simp
    (try with_reducible rfl)
  (try simp only [Act.put]); (try simp only [List.setIfInBounds_toArray]); (try simp only [List.set_cons_succ]); (try simp only [List.set_cons_zero])
  iterate 5
    (try dsimp only [List.getElem_toArray, List.getElem_cons_succ, List.getElem_cons_zero])
    (try simp only [Act.put]); (try simp only [List.setIfInBounds_toArray]); (try simp only [List.set_cons_succ]); (try simp only [List.set_cons_zero])
  refine wpAnyH_take (i := 16) (oi := { dst := some 38, op := .load 32 (.tmp 37), type := 32, pos := "ref.go:112", after := #[{ on := 15, ground := .data }, { on := 17, ground := .gcOnly .lateStores }], guard := none }) (v := idv x) rfl (by kernel_rfl) (by kernel_rfl) (by kernel_rfl) (fun _ _ _ h => h) (y_midI (by rfl) (.tmp 37) rfl b (o + i * 21 + 1) rfl x (fun _ h => h.1)) (by assumption) ?_
  (try simp only [Act.put]); (try simp only [List.setIfInBounds_toArray]); (try simp only [List.set_cons_succ]); (try simp only [List.set_cons_zero])
  have T1 := HT1.out
  iterate 2
    (try dsimp only [List.getElem_toArray, List.getElem_cons_succ, List.getElem_cons_zero])
    (try simp only [Act.put]); (try simp only [List.setIfInBounds_toArray]); (try simp only [List.set_cons_succ]); (try simp only [List.set_cons_zero])
  refine wpAnyH_ready (rs := [17]) (by kernel_rfl) (by simp) ?_
  refine AllReadyH.cons rfl (fun K hK => ?_) ?_
  rotate_left
  · exact AllReadyH.nil
  rw [if_pos (by rfl)]
  refine wp_store_row 32 _ _ rfl w.heap.size (row (dig 20 y)) rfl rfl 32 (row (dig 20 0)) T1.one (by rw [row_size, dig_length]; exact Tryd.info23) (by rw [row_size, row_size, dig_length, dig_length]) (row_one _) ?_
  refine hK.out _ _ ?_ (fun hHeld => ?_)
  · exact HR.out _ (T1.put1 y).bel
  clear hK K
  (try simp only [Act.put]); (try simp only [List.setIfInBounds_toArray]); (try simp only [List.set_cons_succ]); (try simp only [List.set_cons_zero])
  have T2 := T1.put1 y
  refine wpAnyH_ready (rs := [18]) (by kernel_rfl) (by simp) ?_
  refine AllReadyH.cons rfl (fun K hK => ?_) ?_
  rotate_left
  · exact AllReadyH.nil
  rw [if_pos (by rfl)]
  refine wp_store_row 32 _ _ rfl (w.heap.size + 1) (row (dig 20 x)) rfl rfl 32 (row (dig 20 0)) T2.two (by rw [row_size, dig_length]; exact Tryd.info23) (by rw [row_size, row_size, dig_length, dig_length]) (row_one _) ?_
  refine hK.out _ _ ?_ (fun hHeld => ?_)
  · exact HR.out _ (T2.put2 x).bel
  clear hK K
  (try simp only [Act.put]); (try simp only [List.setIfInBounds_toArray]); (try simp only [List.set_cons_succ]); (try simp only [List.set_cons_zero])
  have T3 := T2.put2 x
  refine wpAnyH_take (i := 19) (v := ?_) rfl (by kernel_rfl) (by kernel_rfl) (by kernel_rfl) (fun _ _ _ h => h) (Or.inl ⟨by rfl, ?_⟩) (by assumption) ?_
  rotate_left
  · intro w9 hSw
    (try dsimp only at hSw)
    go_simp
    (try with_reducible rfl)
  (try simp only [Act.put]); (try simp only [List.setIfInBounds_toArray]); (try simp only [List.set_cons_succ]); (try simp only [List.set_cons_zero])
  iterate 2
    (try dsimp only [List.getElem_toArray, List.getElem_cons_succ, List.getElem_cons_zero])
    (try simp only [Act.put]); (try simp only [List.setIfInBounds_toArray]); (try simp only [List.set_cons_succ]); (try simp only [List.set_cons_zero])
  refine wpAnyH_done (by kernel_rfl) ?_ _
  clear hHeld hw1 hw2 T1 T2 HR HI r1 r2 HT1
  go_wp2
  exact bodyPost_ret (results_idd Tryd.results21 _ _ _ _ y x _ rfl rfl rfl T3.one T3.two) rfl ⟨rfl, T3.bel⟩
theorem refFingers_no {w : World} {v : Value} {L : List Pe} (i : Int) (hL : Lies w v L) (hw : Wf L) (hn : L.length ≤ 1000000) (hp : plB L i = false) :
    Calls Tryd.prog 19 #[v, .int .i64 i] w fun e w' => e = .returned (.tuple #[.slice none 0 0, .int .i64 1]) ∧ Below w.heap.size w w' := by
  have hL0 := hL
  obtain ⟨a, c, rfl⟩ := hL.form
  have hI := refIs_any hL0 hw hn
  have key : ∀ r, isB L = r → (r = false ∨ (r = true ∧ i < 0) ∨ (r = true ∧ 0 ≤ i ∧ (L.length : Int) ≤ i)) := fun r hr => by rw [← hr]; exact plB_no hp
  generalize hb : isB L = r at *
  have key := key r rfl
  have HI := Lib.hid hI
  clear hL hL0 hw hn hI hp hb
  generalize L.length = n at *
  rcases key with rfl | ⟨rfl, h0⟩ | ⟨rfl, h0, h1⟩
  · go_enter Tryd.func19, Tryd.ntmps19
    go_wp2_with (go_at_call 13; (with_reducible refine HI.out.mono ?_); rintro e w1 ⟨rfl, hb⟩)
    go_ret2
    exact ⟨rfl, hb⟩
  · have d0 : decide (i < 0) = true := decide_eq_true h0
    go_enter Tryd.func19, Tryd.ntmps19
    go_wp2_with (go_at_call 13; (with_reducible refine HI.out.mono ?_); rintro e w1 ⟨rfl, hb⟩)
    go_ret2
    exact ⟨rfl, hb⟩
  · have d0 : decide (i < 0) = false := decide_eq_false (by omega)
    have d1 : decide ((n : Int) ≤ i) = true := decide_eq_true h1
    go_enter Tryd.func19, Tryd.ntmps19
    go_wp2_with (go_at_call 13; (with_reducible refine HI.out.mono ?_); rintro e w1 ⟨rfl, hb⟩)
    go_ret2
    exact ⟨rfl, hb⟩
theorem refPlus_gives (a b : Nat) : Gives Tryd.prog 43 #[idv a, idv b] (idv (a + b)) := refPlus_any a b
set_option maxHeartbeats 4000000 in
theorem refFingers_yes {w : World} {v : Value} {L : List Pe} (i : Nat) (hL : Lies w v L) (hw : Wf L) (hC : Circ L) (hi : i < L.length) :
    Calls Tryd.prog 19 #[v, .int .i64 (i : Int)] w fun e w' => ∃ u, e = .returned (.tuple #[u, .int .i64 0]) ∧ Row w.heap.size w' u (fingN L i 160) ∧ Below w.heap.size w w' := by
  have hL0 := hL
  obtain ⟨b, o, c, e0, hc, hr, hb0⟩ := hL.some hC.pos.1
  subst e0
  have hI := refIs_any hL0 hw hC.pos.2
  rw [isB_yes hC] at hI
  have HI := Lib.hid hI
  have hn0 := hC.pos
  have HR : Hid (∀ w1, Below w.heap.size w w1 → w1.rangeAt b (o + i * 21 + 1) (row (dig 20 (pn L i))).toList) := fun w1 hb => range_bel (lies_id hr hi) hb hb0
  obtain ⟨ov, hov⟩ : ∃ ov : Nat → Nat, ∀ q, ov q = ownN L ((pn L i + 2 ^ q) % M) := ⟨_, fun _ => rfl⟩
  have HO : Hid (∀ q w1, Below w.heap.size w w1 → Calls Tryd.prog 15 #[.slice (some ⟨b, o, none⟩) L.length c, idv (pn L i + 2 ^ q)] w1 fun e w' => e = .returned (.tuple #[.int .i64 ((ov q : Nat) : Int), .int .i64 0]) ∧ Below w1.heap.size w1 w') := fun q w1 hb => by
    rw [← idv_mod, hov q]
    exact refOwner_yes _ (hL0.bel hb) hw (Nat.mod_lt _ M_pos) hC
  have HS : Hid (∀ k, ints (fingN L i k) ++ [.int .i64 ((ov k : Nat) : Int)] = ints (fingN L i (k + 1))) := fun k => by rw [ints_snoc, fingN_succ, hov k]
  have HCL : Hid (∀ k, (fingN L i k).length = k) := fingN_len L i
  have HC0 : Hid (fingN L i 0 = []) := rfl
  have d0 : decide ((i : Int) < 0) = false := decide_eq_false (by omega)
  have d1 : decide ((L.length : Int) ≤ (i : Int)) = false := decide_eq_false (by omega)
  have d2 : decide (L.length ≤ i) = false := decide_eq_false (by omega)
  have hin : (i : Int) < (L.length : Int) := by omega
  clear hL hL0 hw hI hC hr hc hov
  generalize fingN L i = fp at *
  generalize pn L i = x at *
  generalize L.length = n at *
  go_enter Tryd.func19, Tryd.ntmps19
  go_wp2_with (go_at_call 13; (with_reducible refine HI.out.mono ?_); rintro e w1 ⟨rfl, hb⟩)
  have HB1 := Lib.hid hb
  clear hb HI
  go_loopw [6, 7] (fun v k wr => ∃ q : Nat, q ≤ 160 ∧ k = .int .i64 (q : Int) ∧ Fing w wr v q (fp q)) (fun _ k _ => 160 - (intOf k).toNat)
  case atStart => exact ⟨0, by omega, rfl, by rw [HC0.out]; exact ⟨World.ownsRow_nil _ _ _ _, HB1.out⟩⟩
  case round =>
    obtain ⟨q, hq, rfl, hF⟩ := hrel
    have HF := Lib.hid hF
    clear hF
    by_cases hlt : q < 160
    · have HP := Lib.hid (fun w1 => refPower_yes q w1 hlt)
      have HS2 := Lib.hid (HS.out q)
      go_upto_region 8 with (first
        | (go_at_call 42; (with_reducible refine (HP.out _).mono ?_); rintro e w2 ⟨rfl, hb2⟩)
        | (refine wpList_store_new rfl rfl _ _ rfl (2 ^ q) rfl rfl ?_))
      (try simp only [Act.put])
      have B2 : Below wr.heap.size wr (w2.alloc (.cells (row (dig 20 (2 ^ q))) 32)) := hb2.alloc hb2.size _
      have I2 := At.new w2 (2 ^ q)
      generalize w2.alloc _ = W at *
      generalize w2.heap.size = g at *
      have BW := Lib.hid (HF.out.bel.trans (B2.mono HF.out.bel.size))
      have OW := Lib.hid (own_bel HF.out.own B2)
      have ri := HR.out W BW.out
      have HL := refPlus_gives x (2 ^ q)
      have HO2 : Hid (∀ d os, Calls Tryd.prog 15 #[.slice (some ⟨b, o, none⟩) n c, idv (x + 2 ^ q)] (grow (redrawn W d) os) fun e w'' => e = .returned (.tuple #[.int .i64 ((ov q : Nat) : Int), .int .i64 0]) ∧ ∃ p : Regrown, w'' = grow (redrawn W p.d) p.os) :=
        fun d os => Calls.regrown_of (HO.out q _ (BW.out.trans ((below_regrown W d os).mono BW.out.size)))
      clear hb2 HP B2 HF
      generalize ov q = y at *
      refine wp_region_quiet_below (by kernel_rfl) (by kernel_rfl) ?_
      repeat (first
        | go_big_quiet_skip
        | (go_big_quiet_want
           first
           | (first | (refine q_midI _ rfl _ _ rfl x (by with_reducible exact ri) ?_) | (refine q_at _ rfl _ (2 ^ q) rfl I2 ?_)
              simp only [Act.put, List.setIfInBounds_toArray, List.set_cons_succ, List.set_cons_zero]
              go_big_quiet_on)
           | (go_big_quiet_op
              first | go_big_quiet_on | go_big_quiet_call (first | with_reducible exact HL.grown _ _ | with_reducible exact HO2.out _ _))))
      refine wpQuiet_nil ?_
      intro w2 hw'
      have hb2 := quiet_end hw'
      clear hw'
      have OW2 := Lib.hid (own_bel OW.out hb2)
      have BW2 := Lib.hid (BW.out.trans (hb2.mono BW.out.size))
      clear hb2 ri I2 OW BW HO2 HL
      go_wp2_with (refine wpList_append1 rfl _ _ 22 rfl w.heap.size 3 (.int .i64 0) 8 Tryd.underlying22 infoN rfl _ q _ rfl OW2.out (.int .i64 (y : Int)) rfl rfl (by omega) (by omega) BW2.out BW2.out.size ?_; intro v' w' hO' B')
      rw [HS2.out] at hO'
      exact ⟨⟨q + 1, by omega, by go_num, hO', B'⟩, by simp [intOf]; omega⟩
    · obtain rfl : q = 160 := by omega
      go_wp2
      go_ret2
      refine ⟨_, rfl, ?_, HF.out.bel⟩
      unfold Row
      rw [HCL.out]
      exact HF.out.own
end Go.Proofs.YtmlejcfnnjnggaaDoor
