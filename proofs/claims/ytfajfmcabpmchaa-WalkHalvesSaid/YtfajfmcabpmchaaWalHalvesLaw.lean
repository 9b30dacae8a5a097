/- WalkHalves: for all peers, every two numbers and every place the call returns true: more than a hundred peers are let go; in settled tables each hop of a walk at least halves how far the peer ahead of the place is, clockwise, and the last one stands there. -/
import Derived.Test.YtfajfmcabpmchaaWalFin
namespace Go.Proofs.Ytfajfmcabpmchaa.HalvesLaw
set_option maxRecDepth 100000
open Go Go.ChangeShapes Go.WideShapes Go.ChangeAt Go.RowKit Go.Sort

set_option maxHeartbeats 4000000 in
theorem walk_no {w : World} {v : Value} {L : List Pe} (r i : Int) (id : Nat) (hid : id < M) (hL : Lies w v L) (hw : Wf L) (hn : L.length ≤ 100) (hok : (isB L && okS r) = false) : Calls Try.prog 6 #[v, .int .i64 r, .int .i64 i, idv id] w fun e w' => e = .returned (.bool true) ∧ Below w.heap.size w w' := by
  have h1 : Hid (∀ W, Below w.heap.size w W → Calls Try.prog 14 #[v, .int .i64 r] W fun e w' => e = .returned (.tuple #[nilS, .int .i64 1]) ∧ Below W.heap.size W w') := fun W hb => by
    have := Settled_any r (hL.bel hb) hw (by omega)
    rw [hok] at this
    exact this.mono fun e w' ⟨a, b⟩ => ⟨st_none a, b⟩
  obtain ⟨oa, of, h2⟩ := owner_any id w hL hw (by omega) hid
  have h4 : Hid (∀ w1, Calls Try.prog 12 #[] w1 fun e w' => e = .returned (.bool true) ∧ Below w1.heap.size w1 w') := fun w1 => walked_any w1
  obtain ⟨a, c, rfl⟩ := hL.form
  have d1 : decide ((100 : Int) < (L.length : Int)) = false := decide_eq_false (by omega)
  clear hL hw hok hn
  generalize L.length = n at *
  rw [show idv id = .agg (row (dig 20 id)) from rfl]
  go_enter Try.func6, Try.ntmps6
  go_upto_region 1 with (fail)
  have i1 := At.new w id
  have B1 := (Below.refl w.heap.size w).alloc (Nat.le_refl _) (.cells (row (dig 20 id)) 24)
  generalize hg : w.heap.size = g at *
  generalize w.alloc _ = w1 at *
  go_upto_region 4 with (go_at_call 14; (with_reducible refine (h1.out _ B1).mono ?_); rintro e w2 ⟨rfl, k2⟩)
  have B2 := belTo hg B1 k2
  have i2 := At.below i1 k2
  have r2 : w2.rangeAt g 0 (row (dig 20 id)).toList := blk_range i2
  go_wp2_with (first
    | (refine p_midI rfl _ rfl g 0 rfl id r2 ?_)
    | (go_at_call 18; (with_reducible refine (h2.out _ B2).mono ?_); rintro e w3 ⟨rfl, k3⟩; have B3 := belTo hg B2 k3)
    | (go_at_call 12; (with_reducible refine (h4.out _).mono ?_); rintro e w4 ⟨rfl, k4⟩; have B4 := belTo hg B3 k4))
  go_ret
  exact ⟨rfl, by (try rw [hg]); exact B4⟩
set_option maxHeartbeats 4000000 in
theorem walk_off {w : World} {v : Value} {L : List Pe} (r : Nat) (i : Int) (id : Nat) (hid : id < M) (hL : Lies w v L) (hw : Wf L) (hC : Circ L) (hr : 1 ≤ r) (h8 : r ≤ 8) (hi : i < 0 ∨ (¬ i < 0 ∧ (L.length : Int) ≤ i)) : Calls Try.prog 6 #[v, .int .i64 (r : Int), .int .i64 i, idv id] w fun e w' => e = .returned (.bool true) ∧ Below w.heap.size w w' := by
  have hn16 := hC.1
  obtain ⟨n, hn⟩ : ∃ n, n = L.length := ⟨_, rfl⟩
  have h1 : Hid (∀ W, Below w.heap.size w W → Calls Try.prog 14 #[v, .int .i64 (r : Int)] W fun e w' => (∃ a c X, e = .returned (.tuple #[.slice a n c, .int .i64 0]) ∧ LiesT w' (.slice a n c) X ∧ tabsOf X = setL L r) ∧ Below W.heap.size W w') := fun W hb =>
    (Settled_yes r (hL.bel hb) hw hC hr h8).mono fun e w' ⟨a, b⟩ => ⟨st_form hn a, b⟩
  have h2 : Hid (∀ W, Below w.heap.size w W → Calls Try.prog 18 #[v, idv id] W fun e w' => e = .returned (.tuple #[.int .i64 (ownN L id : Nat), .int .i64 0]) ∧ Below W.heap.size W w') := fun W hb => Cr.Owner_yes id (hL.bel hb) hw hid hC
  have h4 : Hid (∀ w1, Calls Try.prog 12 #[] w1 fun e w' => e = .returned (.bool true) ∧ Below w1.heap.size w1 w') := fun w1 => walked_any w1
  obtain ⟨a, c, rfl⟩ := hL.form
  rw [← hn] at hn16 hi h1 h2 ⊢
  have d1 : decide ((100 : Int) < (n : Int)) = false := decide_eq_false (by omega)
  clear hL hw hC hn
  have HI := Lib.hid hi
  clear hi
  generalize ownN L id = oa at *
  rw [show idv id = .agg (row (dig 20 id)) from rfl]
  go_enter Try.func6, Try.ntmps6
  go_upto_region 1 with (fail)
  have i1 := At.new w id
  have B1 := (Below.refl w.heap.size w).alloc (Nat.le_refl _) (.cells (row (dig 20 id)) 24)
  generalize hg : w.heap.size = g at *
  generalize w.alloc _ = w1 at *
  go_upto_region 4 with (go_at_call 14; (with_reducible refine (h1.out _ B1).mono ?_); rintro e w2 ⟨⟨ta, tc, X, rfl, hX, hT⟩, k2⟩; clear hX hT)
  have B2 := belTo hg B1 k2
  have i2 := At.below i1 k2
  have r2 : w2.rangeAt g 0 (row (dig 20 id)).toList := blk_range i2
  rcases HI.out with h | ⟨h5, h⟩
  · have d2 := decide_eq_true h
    go_wp2_with (first
      | (refine p_midI rfl _ rfl g 0 rfl id r2 ?_)
      | (go_at_call 18; (with_reducible refine (h2.out _ B2).mono ?_); rintro e w3 ⟨rfl, k3⟩; have B3 := belTo hg B2 k3)
      | (go_at_call 12; (with_reducible refine (h4.out _).mono ?_); rintro e w4 ⟨rfl, k4⟩; have B4 := belTo hg B3 k4))
    go_ret
    exact ⟨rfl, by (try rw [hg]); exact B4⟩
  · have d2 : decide (i < 0) = false := decide_eq_false (by omega)
    have d3 := decide_eq_true h
    go_wp2_with (first
      | (refine p_midI rfl _ rfl g 0 rfl id r2 ?_)
      | (go_at_call 18; (with_reducible refine (h2.out _ B2).mono ?_); rintro e w3 ⟨rfl, k3⟩; have B3 := belTo hg B2 k3)
      | (go_at_call 12; (with_reducible refine (h4.out _).mono ?_); rintro e w4 ⟨rfl, k4⟩; have B4 := belTo hg B3 k4))
    go_ret
    exact ⟨rfl, by (try rw [hg]); exact B4⟩
theorem sub_dst {γ b : Nat} (hg : γ < M) (hb : b < M) : sub γ b % M = dst M b γ := by
  unfold sub dst
  rw [Nat.mod_eq_of_lt hb, mod2 (by omega)]
  split <;> split <;> omega
theorem half_facts {γ a b : Nat} (hg : γ < M) (ha : a < M) (hb : b < M) (h : dst M b γ * 2 < dst M a γ) :
    lessB (sub γ b) (sub γ a) = true ∧ lessB (sub γ a) (sub γ b + sub γ b) = false ∧ lessB (sub γ b + sub γ b) (sub γ b) = false := by
  have hl := dst_lt ha hg
  have e1 := sub_dst hg hb
  have e2 := sub_dst hg ha
  have e3 : (sub γ b + sub γ b) % M = dst M b γ + dst M b γ := by
    rw [Nat.add_mod, e1, Nat.mod_eq_of_lt (by omega)]
  unfold lessB
  rw [e1, e2, e3]
  exact ⟨decide_eq_true (by omega), decide_eq_false (by omega), decide_eq_false (by omega)⟩
/-- the hops' places, and what is known of them -/
structure HopF (L : List Pe) (A : List Int) (P : Nat → Nat) (γ : Nat) : Prop where
  wh : ∀ j, j < A.length → ∃ q, q < L.length ∧ A.getD j 0 = ad L q ∧ P j = pn L q
  half : ∀ j, j + 1 < A.length → lessB (sub γ (P (j + 1))) (sub γ (P j)) = true ∧ lessB (sub γ (P j)) (sub γ (P (j + 1)) + sub γ (P (j + 1))) = false ∧ lessB (sub γ (P (j + 1)) + sub γ (P (j + 1))) (sub γ (P (j + 1))) = false
  last : ∀ z, z + 1 = A.length → P z = γ
theorem hop_road {L : List Pe} {id n i : Nat} {J : List Nat} (hw : Wf L) (h : Road L id n i J) : HopF L (J.map (ad L)) (fun j => pn L (J.getD j 0)) (pn L (goalN L id)) := by
  have hJ : ∀ j, j < J.length → J[j]? = some (J.getD j 0) := fun j hj => by rw [List.getD_eq_getElem?_getD, List.getElem?_eq_getElem hj]; rfl
  refine ⟨fun j hj => ?_, fun j hj => ?_, fun z hz => ?_⟩
  · rw [List.length_map] at hj
    refine ⟨J.getD j 0, h.lt _ (List.mem_of_getElem? (hJ j hj)), ?_, rfl⟩
    rw [List.getD_eq_getElem?_getD, List.getElem?_map, hJ j hj]; rfl
  · rw [List.length_map] at hj
    have h2 := h.half j _ _ (hJ j (by omega)) (hJ (j + 1) hj)
    exact half_facts (hw.pn _) (hw.pn _) (hw.pn _) h2
  · rw [List.length_map] at hz
    have h2 := h.last
    rw [List.getLast?_eq_getElem?, show J.length - 1 = z by omega, hJ z (by omega), Option.some.injEq] at h2
    show pn L (J.getD z 0) = _
    rw [h2]
set_option maxHeartbeats 16000000 in
theorem walk_in {w : World} {v : Value} {L : List Pe} (r i : Nat) (id : Nat) (hid : id < M) (hL : Lies w v L) (hw : Wf L) (hC : Circ L) (hr : 1 ≤ r) (h8 : r ≤ 8) (hi : i < L.length) : Calls Try.prog 6 #[v, .int .i64 (r : Int), .int .i64 (i : Int), idv id] w fun e w' => e = .returned (.bool true) ∧ Below w.heap.size w w' := by
  have hn16 := hC.1
  obtain ⟨J, hJ, hwk⟩ := walk_set (r := r) (n := 64) hC hw hid hr h8 hi (by omega) (by omega)
  have hWk : Hid (∀ W va X, LiesT W va X → tabsOf X = setL L r → Hid (∀ W', Below W.heap.size W W' → Calls Try.prog 10 #[va, .int .i64 (ad L i), idv id, .int .i64 64] W' fun e w' => (∃ a c, e = .returned (.tuple #[.agg (rtA (.slice a (J.map (ad L)).length c) (L.getD (ownN L id) (0, 0))), .int .i64 0]) ∧ w'.ownsRow W'.heap.size 3 1 (.slice a (J.map (ad L)).length c) (J.map (ad L)).length (ints (J.map (ad L)))) ∧ Below W'.heap.size W' w')) := fun W va X hX hT => walk_settled (n := 64) hX hT hC h8 hi hwk
  have HF := Lib.hid (hop_road hw hJ)
  have hWh : Hid (∀ W j, j < (J.map (ad L)).length → Below w.heap.size w W → Calls Try.prog 20 #[v, .int .i64 ((J.map (ad L)).getD j 0)] W fun e w' => e = .returned (.tuple #[idv (pn L (J.getD j 0)), .bool true]) ∧ Below W.heap.size W w') := fun W j hj hb => by
    obtain ⟨q, hq, e1, e2⟩ := HF.out.wh j hj
    rw [e1, show pn L (J.getD j 0) = pn L q from e2]
    exact where_yes q (hL.bel hb) hC hq
  have hA1 : 1 ≤ (J.map (ad L)).length := by
    rw [List.length_map]
    cases J with
    | nil => have := hJ.head; cases this
    | cons z J => simp
  have hA2 : (J.map (ad L)).length ≤ 65 := by
    rw [List.length_map]
    have := hJ.len
    omega
  have hol := own_lt (L := L) (by omega) id
  obtain ⟨n, hn⟩ : ∃ n, n = L.length := ⟨_, rfl⟩
  have h1 : Hid (∀ W, Below w.heap.size w W → Calls Try.prog 14 #[v, .int .i64 (r : Int)] W fun e w' => (∃ a c X, e = .returned (.tuple #[.slice a n c, .int .i64 0]) ∧ LiesT w' (.slice a n c) X ∧ tabsOf X = setL L r) ∧ Below W.heap.size W w') := fun W hb =>
    (Settled_yes r (hL.bel hb) hw hC hr h8).mono fun e w' ⟨a, b⟩ => ⟨st_form hn a, b⟩
  have h2 : Hid (∀ W, Below w.heap.size w W → Calls Try.prog 18 #[v, idv id] W fun e w' => e = .returned (.tuple #[.int .i64 (ownN L id : Nat), .int .i64 0]) ∧ Below W.heap.size W w') := fun W hb => Cr.Owner_yes id (hL.bel hb) hw hid hC
  have h3 : Hid (∀ W, Below w.heap.size w W → Calls Try.prog 19 #[v, .int .i64 (ownN L id : Nat)] W fun e w' => e = .returned (.tuple #[idv (pn L (goalN L id)), idv (pn L (ownN L id)), .int .i64 0]) ∧ Below W.heap.size W w') := fun W hb => Cr.Arc_yes _ (hL.bel hb) hw hC hol
  have h4 : Hid (∀ w1, Calls Try.prog 12 #[] w1 fun e w' => e = .returned (.bool true) ∧ Below w1.heap.size w1 w') := fun w1 => walked_any w1
  obtain ⟨bb, oo, c, rfl, hcc, hrr, hlb⟩ := hL.some (by omega)
  have HR := Lib.hid hrr
  have hyi : Hid (L[i]? = some (L.getD i (0, 0))) := by
    show _ = _
    rw [List.getD_eq_getElem?_getD, List.getElem?_eq_getElem hi]; rfl
  have hai : (L.getD i (0, 0)).1 = ad L i := rfl
  have HAI := Lib.hid hai
  rw [← hn] at hn16 hi hol h1 h2 h3 hWh ⊢
  clear hL hw hC hn hwk hJ hrr hcc hai
  generalize hP : (fun j => pn L (J.getD j 0)) = P at *
  have hWh2 : Hid (∀ W j, j < (J.map (ad L)).length → Below w.heap.size w W → Calls Try.prog 20 #[.slice (some ⟨bb, oo, none⟩) n c, .int .i64 ((J.map (ad L)).getD j 0)] W fun e w' => e = .returned (.tuple #[idv (P j), .bool true]) ∧ Below W.heap.size W w') := fun W j hj hb => by
    have := hWh.out W j hj hb
    rw [← hP]
    exact this
  clear hWh hP
  generalize J.map (ad L) = A at *
  generalize L.getD (ownN L id) (0, 0) = en at *
  generalize ad L i = x0 at *
  generalize pn L (ownN L id) = po at *
  generalize pn L (goalN L id) = γ at *
  generalize ownN L id = oa at *
  have d1 : decide ((100 : Int) < (n : Int)) = false := decide_eq_false (by omega)
  have d2 : decide ((i : Int) < 0) = false := decide_eq_false (by omega)
  have d3 : decide ((n : Int) ≤ (i : Int)) = false := decide_eq_false (by omega)
  have d4 : decide (n ≤ i) = false := decide_eq_false (by omega)
  have bk : (i : Int) < (n : Int) := by omega
  have bz : (0 : Int) ≤ (i : Int) := by omega
  rw [show idv id = .agg (row (dig 20 id)) from rfl]
  go_enter Try.func6, Try.ntmps6
  go_upto_region 1 with (fail)
  have i1 := At.new w id
  have B1 := (Below.refl w.heap.size w).alloc (Nat.le_refl _) (.cells (row (dig 20 id)) 24)
  generalize hg : w.heap.size = g at *
  generalize w.alloc _ = w1 at *
  go_upto_region 4 with (go_at_call 14; (with_reducible refine (h1.out _ B1).mono ?_); rintro e w2 ⟨⟨ta, tc, X, rfl, hX, hT⟩, k2⟩)
  have B2 := belTo hg B1 k2
  have i2 := At.below i1 k2
  have r2 : w2.rangeAt g 0 (row (dig 20 id)).toList := blk_range i2
  have HX := Lib.hid hX
  have HT := Lib.hid hT
  clear hX hT k2
  go_upto_region 7 with (first
    | (refine p_midI rfl _ rfl g 0 rfl id r2 ?_)
    | (go_at_call 18; (with_reducible refine (h2.out _ B2).mono ?_); rintro e w3 ⟨rfl, k3⟩))
  have B3 := belTo hg B2 k3
  have i3 := At.below i2 k3
  have HX3 := Lib.hid (HX.out.bel k3)
  clear k3 HX r2 i2 i1
  go_upto_region 8 with (first
    | (go_at_call 19; (with_reducible refine (h3.out _ B3).mono ?_); rintro e w4 ⟨rfl, k4⟩; have T0 := Cr.Two.made w4)
    | (refine wpList_store_id rfl _ _ rfl w4.heap.size (dig 20 γ) rfl rfl _ T0.one (dig_length _ _) (dig_length _ _) ?_; have T1 := T0.put1 γ)
    | (refine wpList_store_id rfl _ _ rfl (w4.heap.size + 1) (dig 20 po) rfl rfl _ T1.two (dig_length _ _) (dig_length _ _) ?_; have T2 := T1.put2 po))
  (try simp only [Act.put])
  have K5 := k4.trans (T2.bel.mono k4.size)
  have B5 := belTo hg B3 K5
  have i5 := At.below i3 K5
  have HX5 := Lib.hid (HX3.out.bel K5)
  have g5 := T2.one
  clear T0 T1 T2 k4 K5 B1 B2 B3 HX3 i3
  rw [row_zero]
  generalize World.setRow _ _ _ = w5 at *
  generalize w4.heap.size = qg at *
  have HC := hWk.out _ _ _ HX5.out HT.out
  have r5 : w5.rangeAt g 0 (row (dig 20 id)).toList := blk_range i5
  have l5 := i5.lt
  have HL5 := Lib.hid (range_bel HR.out B5 hlb)
  have hl5 : bb < w5.heap.size := by have := B5.size; omega
  have HS : Hid (∀ wx, Below w5.heap.size w5 wx → wx.cell? ⟨bb, oo + i * 21, none⟩ = some (.int .i64 x0) ∧ wx.rangeAt g 0 (row (dig 20 id)).toList) := fun wx hb => ⟨by
      have h := row_peer (range_bel HL5.out hb hl5) hyi.out
      have h2 := h 0 (.int .i64 (L.getD i (0, 0)).1) rfl
      rw [HAI.out] at h2
      exact h2, range_bel r5 hb l5⟩
  clear h1 h2 h3 hWk
  go_cut [16, 17] from 67 (fun v u wx => CaR w5 A en v u wx)
  case first => as_aux_lemma =>
    refine wp_region_held_drew (S := (fun w9 => w9.cell? ⟨bb, oo + i * 21, none⟩ = some (.int .i64 x0) ∧ w9.rangeAt g 0 (row (dig 20 id)).toList)) (by kernel_rfl) ?_ (fun hHeld => ?_)
    · exact HS.out _ (drew_bel w5)
    have b0 : Below w5.heap.size w5 w5.drew := drew_bel w5
    generalize World.drew w5 = w0 at *
    refine wpAnyH_take (i := 0) (v := ?_) rfl (by kernel_rfl) (by kernel_rfl) (by kernel_rfl) (fun _ _ _ h => h) (Or.inl ⟨by rfl, ?_⟩) (by assumption) ?_
    rotate_left
    · intro w9 hSw
      (try dsimp only at hSw)
      go_simp
      (try with_reducible rfl)
    (try simp only [Act.put]); (try simp only [List.setIfInBounds_toArray]); (try simp only [List.set_cons_succ]); (try simp only [List.set_cons_zero])
    iterate 1
      (try dsimp only [List.getElem_toArray, List.getElem_cons_succ, List.getElem_cons_zero])
      (try simp only [Act.put]); (try simp only [List.setIfInBounds_toArray]); (try simp only [List.set_cons_succ]); (try simp only [List.set_cons_zero])
    refine wpAnyH_take (i := 1) (v := ?_) rfl (by kernel_rfl) (by kernel_rfl) (by kernel_rfl) (fun _ _ _ h => h) (Or.inl ⟨by rfl, ?_⟩) (by assumption) ?_
    rotate_left
    · intro w9 hSw
      (try dsimp only at hSw)
      go_simp
      (try with_reducible rfl)
    (try simp only [Act.put]); (try simp only [List.setIfInBounds_toArray]); (try simp only [List.set_cons_succ]); (try simp only [List.set_cons_zero])
    iterate 1
      (try dsimp only [List.getElem_toArray, List.getElem_cons_succ, List.getElem_cons_zero])
      (try simp only [Act.put]); (try simp only [List.setIfInBounds_toArray]); (try simp only [List.set_cons_succ]); (try simp only [List.set_cons_zero])
    refine wpAnyH_take (i := 2) (v := ?_) rfl (by kernel_rfl) (by kernel_rfl) (by kernel_rfl) (fun _ _ _ h => h) (Or.inl ⟨by rfl, ?_⟩) (by assumption) ?_
    rotate_left
    · intro w9 hSw
      (try dsimp only at hSw)
      go_simp
      (try with_reducible rfl)
    (try simp only [Act.put]); (try simp only [List.setIfInBounds_toArray]); (try simp only [List.set_cons_succ]); (try simp only [List.set_cons_zero])
    iterate 1
      (try dsimp only [List.getElem_toArray, List.getElem_cons_succ, List.getElem_cons_zero])
      (try simp only [Act.put]); (try simp only [List.setIfInBounds_toArray]); (try simp only [List.set_cons_succ]); (try simp only [List.set_cons_zero])
    refine wpAnyH_take (i := 3) (v := ?_) rfl (by kernel_rfl) (by kernel_rfl) (by kernel_rfl) (fun _ _ _ h => h) (Or.inl ⟨by rfl, ?_⟩) (by assumption) ?_
    rotate_left
    · intro w9 hSw
      (try dsimp only at hSw)
      go_simp
      (try with_reducible rfl)
    (try simp only [Act.put]); (try simp only [List.setIfInBounds_toArray]); (try simp only [List.set_cons_succ]); (try simp only [List.set_cons_zero])
    iterate 1
      (try dsimp only [List.getElem_toArray, List.getElem_cons_succ, List.getElem_cons_zero])
      (try simp only [Act.put]); (try simp only [List.setIfInBounds_toArray]); (try simp only [List.set_cons_succ]); (try simp only [List.set_cons_zero])
    refine wpAnyH_take (i := 4) (v := ?_) rfl (by kernel_rfl) (by kernel_rfl) (by kernel_rfl) (fun _ _ _ h => h) (Or.inl ⟨by rfl, ?_⟩) (by assumption) ?_
    rotate_left
    · intro w9 hSw
      (try dsimp only at hSw)
      go_simp
      (try with_reducible rfl)
    (try simp only [Act.put]); (try simp only [List.setIfInBounds_toArray]); (try simp only [List.set_cons_succ]); (try simp only [List.set_cons_zero])
    iterate 1
      (try dsimp only [List.getElem_toArray, List.getElem_cons_succ, List.getElem_cons_zero])
      (try simp only [Act.put]); (try simp only [List.setIfInBounds_toArray]); (try simp only [List.set_cons_succ]); (try simp only [List.set_cons_zero])
    refine wpAnyH_take (i := 5) (v := ?_) rfl (by kernel_rfl) (by kernel_rfl) (by kernel_rfl) (fun _ _ _ h => h) (Or.inl ⟨by rfl, ?_⟩) (by assumption) ?_
    rotate_left
    · intro w9 hSw
      (try dsimp only at hSw)
      have c5 := hSw.1
      go_simp
      (try with_reducible rfl)
    (try simp only [Act.put]); (try simp only [List.setIfInBounds_toArray]); (try simp only [List.set_cons_succ]); (try simp only [List.set_cons_zero])
    iterate 1
      (try dsimp only [List.getElem_toArray, List.getElem_cons_succ, List.getElem_cons_zero])
      (try simp only [Act.put]); (try simp only [List.setIfInBounds_toArray]); (try simp only [List.set_cons_succ]); (try simp only [List.set_cons_zero])
    refine wpAnyH_take (i := 6) (oi := { dst := some 74, op := Op.load 24 (Operand.tmp 7), type := 24, pos := "law.go:88", after := #[], guard := none }) (v := (idv id)) rfl (by kernel_rfl) (by kernel_rfl) (by kernel_rfl) (fun _ _ _ h => h) (y_midI (by rfl) (.tmp 7) rfl g 0 rfl id (fun _ h => h.2)) (by assumption) ?_
    (try simp only [Act.put]); (try simp only [List.setIfInBounds_toArray]); (try simp only [List.set_cons_succ]); (try simp only [List.set_cons_zero])
    iterate 1
      (try dsimp only [List.getElem_toArray, List.getElem_cons_succ, List.getElem_cons_zero])
      (try simp only [Act.put]); (try simp only [List.setIfInBounds_toArray]); (try simp only [List.set_cons_succ]); (try simp only [List.set_cons_zero])
    refine wpAnyH_ready (rs := [7, 11]) (by kernel_rfl) (by simp) ?_
    refine AllReadyH.cons rfl (fun K hK => ?_) ?_
    · go_simp
      go_wp2_with (go_at_call 10; (with_reducible refine (HC.out _ b0).mono ?_); rintro e w1 ⟨⟨a9, c9, rfl, o9⟩, k1⟩)
      have b1 := b0.trans (k1.mono b0.size)
      have ap9 : ∀ k, (Value.slice a9 A.length c9).ownBlock = some k → k ≠ w1.heap.size := fun k hk => Nat.ne_of_lt (o9.lt k hk).2
      refine hK.out _ _ ?_ (fun hHeld => ?_)
      · exact HS.out _ b1
      clear hK K
      (try simp only [Act.put]); (try simp only [List.setIfInBounds_toArray]); (try simp only [List.set_cons_succ]); (try simp only [List.set_cons_zero])
      iterate 1
        (try dsimp only [List.getElem_toArray, List.getElem_cons_succ, List.getElem_cons_zero])
        (try simp only [Act.put]); (try simp only [List.setIfInBounds_toArray]); (try simp only [List.set_cons_succ]); (try simp only [List.set_cons_zero])
      refine wpAnyH_take (i := 8) (v := ?_) rfl (by kernel_rfl) (by kernel_rfl) (by kernel_rfl) (fun _ _ _ h => h) (Or.inl ⟨by rfl, ?_⟩) (by assumption) ?_
      rotate_left
      · intro w9 hSw
        (try dsimp only at hSw)
        go_simp
        (try with_reducible rfl)
      (try simp only [Act.put]); (try simp only [List.setIfInBounds_toArray]); (try simp only [List.set_cons_succ]); (try simp only [List.set_cons_zero])
      iterate 1
        (try dsimp only [List.getElem_toArray, List.getElem_cons_succ, List.getElem_cons_zero])
        (try simp only [Act.put]); (try simp only [List.setIfInBounds_toArray]); (try simp only [List.set_cons_succ]); (try simp only [List.set_cons_zero])
      refine wpAnyH_take (i := 9) (v := ?_) rfl (by kernel_rfl) (by kernel_rfl) (by kernel_rfl) (fun _ _ _ h => h) (Or.inl ⟨by rfl, ?_⟩) (by assumption) ?_
      rotate_left
      · intro w9 hSw
        (try dsimp only at hSw)
        go_simp
        (try with_reducible rfl)
      (try simp only [Act.put]); (try simp only [List.setIfInBounds_toArray]); (try simp only [List.set_cons_succ]); (try simp only [List.set_cons_zero])
      iterate 1
        (try dsimp only [List.getElem_toArray, List.getElem_cons_succ, List.getElem_cons_zero])
        (try simp only [Act.put]); (try simp only [List.setIfInBounds_toArray]); (try simp only [List.set_cons_succ]); (try simp only [List.set_cons_zero])
      refine wpAnyH_take (i := 10) (v := ?_) rfl (by kernel_rfl) (by kernel_rfl) (by kernel_rfl) (fun _ _ _ h => h) (Or.inl ⟨by rfl, ?_⟩) (by assumption) ?_
      rotate_left
      · intro w9 hSw
        (try dsimp only at hSw)
        go_simp
        (try with_reducible rfl)
      (try simp only [Act.put]); (try simp only [List.setIfInBounds_toArray]); (try simp only [List.set_cons_succ]); (try simp only [List.set_cons_zero])
      iterate 1
        (try dsimp only [List.getElem_toArray, List.getElem_cons_succ, List.getElem_cons_zero])
        (try simp only [Act.put]); (try simp only [List.setIfInBounds_toArray]); (try simp only [List.set_cons_succ]); (try simp only [List.set_cons_zero])
      refine wpAnyH_ready (rs := [11]) (by kernel_rfl) (by simp) ?_
      refine AllReadyH.cons rfl (fun K hK => ?_) ?_
      rotate_left
      · exact AllReadyH.nil
      go_simp
      have x2 := RB.new w1 nilS (0, 0)
      have b2 := b1.alloc b1.size (.cells (rtA nilS (0, 0)) 30)
      have l2 := b1.size
      have o9 := own_bel o9 ((Below.refl w1.heap.size w1).alloc (Nat.le_refl _) (.cells (rtA nilS (0, 0)) 30))
      refine hK.out _ _ ?_ (fun hHeld => ?_)
      · (try rw [route_zero]); exact HS.out _ b2
      clear hK K
      try rw [route_zero] at hHeld
      (try simp only [Act.put]); (try simp only [List.setIfInBounds_toArray]); (try simp only [List.set_cons_succ]); (try simp only [List.set_cons_zero])
      try rw [route_zero]
      generalize w1.heap.size = gp at *
      generalize w1.alloc _ = w2 at *
      iterate 1
        (try dsimp only [List.getElem_toArray, List.getElem_cons_succ, List.getElem_cons_zero])
        (try simp only [Act.put]); (try simp only [List.setIfInBounds_toArray]); (try simp only [List.set_cons_succ]); (try simp only [List.set_cons_zero])
      refine wpAnyH_ready (rs := [12]) (by kernel_rfl) (by simp) ?_
      refine AllReadyH.cons rfl (fun K hK => ?_) ?_
      rotate_left
      · exact AllReadyH.nil
      rw [if_pos (by rfl)]
      have b9 := bel_setRow b2 l2 (rtA (Value.slice a9 A.length c9) en)
      have x9 := x2.set (Value.slice a9 A.length c9) en
      have o9 := own_keep o9 (fun k hk => Go.setRow_other _ _ k (rtA (Value.slice a9 A.length c9) en) (ap9 k hk))
      refine wp_store_row 30 _ _ rfl gp (rtA (Value.slice a9 A.length c9) en) rfl rfl 30 (rtA nilS (0, 0)) x2 (by rw [rtA_size]; exact sizeR) (by rw [rtA_size, rtA_size]) (rtA_one en rfl) ?_
      refine hK.out _ _ ?_ (fun hHeld => ?_)
      · exact HS.out _ b9
      clear hK K
      (try simp only [Act.put]); (try simp only [List.setIfInBounds_toArray]); (try simp only [List.set_cons_succ]); (try simp only [List.set_cons_zero])
      generalize w2.setRow gp _ = w9 at *
      iterate 1
        (try dsimp only [List.getElem_toArray, List.getElem_cons_succ, List.getElem_cons_zero])
        (try simp only [Act.put]); (try simp only [List.setIfInBounds_toArray]); (try simp only [List.set_cons_succ]); (try simp only [List.set_cons_zero])
      refine wpAnyH_take (i := 13) (v := ?_) rfl (by kernel_rfl) (by kernel_rfl) (by kernel_rfl) (fun _ _ _ h => h) (Or.inl ⟨by rfl, ?_⟩) (by assumption) ?_
      rotate_left
      · intro w9 hSw
        (try dsimp only at hSw)
        go_simp
        (try with_reducible rfl)
      (try simp only [Act.put]); (try simp only [List.setIfInBounds_toArray]); (try simp only [List.set_cons_succ]); (try simp only [List.set_cons_zero])
      iterate 1
        (try dsimp only [List.getElem_toArray, List.getElem_cons_succ, List.getElem_cons_zero])
        (try simp only [Act.put]); (try simp only [List.setIfInBounds_toArray]); (try simp only [List.set_cons_succ]); (try simp only [List.set_cons_zero])
      refine wpAnyH_done (by kernel_rfl) ?_ _
      go_wp2
      go_meet
      exact CaR.mk b9 x9 (nums_own o9) l2
    refine AllReadyH.cons rfl (fun K hK => ?_) ?_
    · go_simp
      have x2 := RB.new w0 nilS (0, 0)
      have b1 := b0.alloc b0.size (.cells (rtA nilS (0, 0)) 30)
      have l2 := b0.size
      refine hK.out _ _ ?_ (fun hHeld => ?_)
      · (try rw [route_zero]); exact HS.out _ b1
      clear hK K
      try rw [route_zero] at hHeld
      (try simp only [Act.put]); (try simp only [List.setIfInBounds_toArray]); (try simp only [List.set_cons_succ]); (try simp only [List.set_cons_zero])
      try rw [route_zero]
      generalize w0.heap.size = gp at *
      generalize w0.alloc _ = w1 at *
      iterate 1
        (try dsimp only [List.getElem_toArray, List.getElem_cons_succ, List.getElem_cons_zero])
        (try simp only [Act.put]); (try simp only [List.setIfInBounds_toArray]); (try simp only [List.set_cons_succ]); (try simp only [List.set_cons_zero])
      refine wpAnyH_ready (rs := [7]) (by kernel_rfl) (by simp) ?_
      refine AllReadyH.cons rfl (fun K hK => ?_) ?_
      rotate_left
      · exact AllReadyH.nil
      go_simp
      go_wp2_with (go_at_call 10; (with_reducible refine (HC.out _ b1).mono ?_); rintro e w2 ⟨⟨a9, c9, rfl, o9⟩, k1⟩)
      have b2 := b1.trans (k1.mono b1.size)
      have ap9 : ∀ k, (Value.slice a9 A.length c9).ownBlock = some k → k ≠ gp := fun k hk e => by have h1 := (o9.lt k hk).1; have h2 := x2.lt; omega
      have x2 := x2.bel k1
      refine hK.out _ _ ?_ (fun hHeld => ?_)
      · exact HS.out _ b2
      clear hK K
      (try simp only [Act.put]); (try simp only [List.setIfInBounds_toArray]); (try simp only [List.set_cons_succ]); (try simp only [List.set_cons_zero])
      iterate 1
        (try dsimp only [List.getElem_toArray, List.getElem_cons_succ, List.getElem_cons_zero])
        (try simp only [Act.put]); (try simp only [List.setIfInBounds_toArray]); (try simp only [List.set_cons_succ]); (try simp only [List.set_cons_zero])
      refine wpAnyH_take (i := 8) (v := ?_) rfl (by kernel_rfl) (by kernel_rfl) (by kernel_rfl) (fun _ _ _ h => h) (Or.inl ⟨by rfl, ?_⟩) (by assumption) ?_
      rotate_left
      · intro w9 hSw
        (try dsimp only at hSw)
        go_simp
        (try with_reducible rfl)
      (try simp only [Act.put]); (try simp only [List.setIfInBounds_toArray]); (try simp only [List.set_cons_succ]); (try simp only [List.set_cons_zero])
      iterate 1
        (try dsimp only [List.getElem_toArray, List.getElem_cons_succ, List.getElem_cons_zero])
        (try simp only [Act.put]); (try simp only [List.setIfInBounds_toArray]); (try simp only [List.set_cons_succ]); (try simp only [List.set_cons_zero])
      refine wpAnyH_take (i := 9) (v := ?_) rfl (by kernel_rfl) (by kernel_rfl) (by kernel_rfl) (fun _ _ _ h => h) (Or.inl ⟨by rfl, ?_⟩) (by assumption) ?_
      rotate_left
      · intro w9 hSw
        (try dsimp only at hSw)
        go_simp
        (try with_reducible rfl)
      (try simp only [Act.put]); (try simp only [List.setIfInBounds_toArray]); (try simp only [List.set_cons_succ]); (try simp only [List.set_cons_zero])
      iterate 1
        (try dsimp only [List.getElem_toArray, List.getElem_cons_succ, List.getElem_cons_zero])
        (try simp only [Act.put]); (try simp only [List.setIfInBounds_toArray]); (try simp only [List.set_cons_succ]); (try simp only [List.set_cons_zero])
      refine wpAnyH_take (i := 10) (v := ?_) rfl (by kernel_rfl) (by kernel_rfl) (by kernel_rfl) (fun _ _ _ h => h) (Or.inl ⟨by rfl, ?_⟩) (by assumption) ?_
      rotate_left
      · intro w9 hSw
        (try dsimp only at hSw)
        go_simp
        (try with_reducible rfl)
      (try simp only [Act.put]); (try simp only [List.setIfInBounds_toArray]); (try simp only [List.set_cons_succ]); (try simp only [List.set_cons_zero])
      iterate 1
        (try dsimp only [List.getElem_toArray, List.getElem_cons_succ, List.getElem_cons_zero])
        (try simp only [Act.put]); (try simp only [List.setIfInBounds_toArray]); (try simp only [List.set_cons_succ]); (try simp only [List.set_cons_zero])
      refine wpAnyH_ready (rs := [12]) (by kernel_rfl) (by simp) ?_
      refine AllReadyH.cons rfl (fun K hK => ?_) ?_
      rotate_left
      · exact AllReadyH.nil
      rw [if_pos (by rfl)]
      have b9 := bel_setRow b2 l2 (rtA (Value.slice a9 A.length c9) en)
      have x9 := x2.set (Value.slice a9 A.length c9) en
      have o9 := own_keep o9 (fun k hk => Go.setRow_other _ _ k (rtA (Value.slice a9 A.length c9) en) (ap9 k hk))
      refine wp_store_row 30 _ _ rfl gp (rtA (Value.slice a9 A.length c9) en) rfl rfl 30 (rtA nilS (0, 0)) x2 (by rw [rtA_size]; exact sizeR) (by rw [rtA_size, rtA_size]) (rtA_one en rfl) ?_
      refine hK.out _ _ ?_ (fun hHeld => ?_)
      · exact HS.out _ b9
      clear hK K
      (try simp only [Act.put]); (try simp only [List.setIfInBounds_toArray]); (try simp only [List.set_cons_succ]); (try simp only [List.set_cons_zero])
      generalize w2.setRow gp _ = w9 at *
      iterate 1
        (try dsimp only [List.getElem_toArray, List.getElem_cons_succ, List.getElem_cons_zero])
        (try simp only [Act.put]); (try simp only [List.setIfInBounds_toArray]); (try simp only [List.set_cons_succ]); (try simp only [List.set_cons_zero])
      refine wpAnyH_take (i := 13) (v := ?_) rfl (by kernel_rfl) (by kernel_rfl) (by kernel_rfl) (fun _ _ _ h => h) (Or.inl ⟨by rfl, ?_⟩) (by assumption) ?_
      rotate_left
      · intro w9 hSw
        (try dsimp only at hSw)
        go_simp
        (try with_reducible rfl)
      (try simp only [Act.put]); (try simp only [List.setIfInBounds_toArray]); (try simp only [List.set_cons_succ]); (try simp only [List.set_cons_zero])
      iterate 1
        (try dsimp only [List.getElem_toArray, List.getElem_cons_succ, List.getElem_cons_zero])
        (try simp only [Act.put]); (try simp only [List.setIfInBounds_toArray]); (try simp only [List.set_cons_succ]); (try simp only [List.set_cons_zero])
      refine wpAnyH_done (by kernel_rfl) ?_ _
      go_wp2
      go_meet
      exact CaR.mk b9 x9 (nums_own o9) l2
    exact AllReadyH.nil
  case rest =>
    obtain ⟨gp, ha, hc, rfl, rfl, k6, Q6, N6, l6⟩ := hcut
    obtain ⟨b1, o1, c1, e1, r6, l1⟩ := N6.some (by omega)
    simp only [Value.slice.injEq] at e1
    obtain ⟨rfl, en1, rfl⟩ := e1
    have p0 := Q6.ch
    have lgp := Q6.lt
    have G6 : Blk wc qg (row (dig 20 γ)) 24 := At.below g5 k6
    have B6 := belTo hg B5 k6
    have hWh6 : Hid (∀ W j, j < A.length → Below wc.heap.size wc W → Calls Try.prog 20 #[.slice (some ⟨bb, oo, none⟩) n c, .int .i64 (A.getD j 0)] W fun e w' => e = .returned (.tuple #[idv (P j), .bool true]) ∧ Below W.heap.size W w') := fun W j hj hb => hWh2.out W j hj (by (try rw [hg]); exact belTo hg B6 hb)
    have HW : Hid (∀ wx, Below wc.heap.size wc wx → wx.cell? ⟨gp, 0, none⟩ = some (.slice (some ⟨b1, o1, none⟩) A.length hc) ∧ Blk wx qg (row (dig 20 γ)) 24 ∧ wx.rangeAt b1 o1 (ints A)) := fun wx hb => ⟨(Q6.bel hb).ch, G6.below hb G6.lt, range_bel r6 hb l1⟩
    have B6' := Lib.hid B6
    have HAL := Lib.hid hA1
    have HA2' := Lib.hid hA2
    obtain ⟨m, hm⟩ : ∃ m, m = A.length := ⟨_, rfl⟩
    have HM := Lib.hid hm
    have m0 : ((m : Int) == 0) = false := by simp; omega
    have m0' : (m == 0) = false := by simp; omega
    rw [← hm] at p0 HW
    clear N6 Q6 en1 HC HX5 HT HL5 HS B5 i5 r5 k6 g5 G6 r6 B6 hWh2 hm HR
    have hm1 : 1 ≤ m := by have := HAL.out; have := HM.out; omega
    have hm2 : m ≤ 65 := by have := HA2'.out; have := HM.out; omega
    clear hA1 hA2
    generalize hgc : wc.heap.size = gc at *
    go_upto_region 12 with (fail)
    (try clear d1)
    (try clear d2)
    (try clear d3)
    (try clear d4)
    (try clear bk)
    (try clear bz)
    (try clear m0)
    (try clear m0')
    (try clear hid)
    (try clear hr)
    (try clear h8)
    (try clear hi)
    (try clear hn16)
    (try clear hol)
    (try clear hlb)
    (try clear l5)
    (try clear hl5)
    (try clear hyi)
    (try clear HAI)
    (try clear lgp)
    go_loopw [18] (fun iv wr => ∃ k : Nat, iv = .int .i64 (k : Int) ∧ 1 ≤ k ∧ k ≤ m ∧ Below gc wc wr) (fun iv _ => m - (intOf iv).toNat)
    case atStart => exact ⟨1, rfl, Nat.le_refl _, hm1, Below.refl _ _⟩
    case round =>
      obtain ⟨k, rfl, hk1, hk, hB⟩ := hrel
      obtain ⟨q, hq⟩ : ∃ q, k = q + 1 := ⟨k - 1, by omega⟩
      have HQ := Lib.hid hq
      have HB := Lib.hid hB
      have s1 : IntKind.i64.wrap ((k : Int) - 1) = (q : Int) := by rw [IntWalk.i64_in _ (by omega)]; omega
      have c0 := (HW.out wr hB).1
      by_cases hlt : k < m
      · have hf := HF.out.half q (by have := HM.out; omega)
        rw [← hq] at hf
        have bk1 : (k : Int) < (m : Int) := by omega
        have bk2 : (0 : Int) ≤ (k : Int) := by omega
        have bq1 : (q : Int) < (m : Int) := by omega
        have bq2 : (0 : Int) ≤ (q : Int) := by omega
        have cq : wr.cell? ⟨b1, o1 + q, none⟩ = some (.int .i64 (A.getD q 0)) := nums_cell (HW.out wr hB).2.2 (by have := HM.out; omega)
        have h1 := hWh6.out wr q (by have := HM.out; omega) hB
        have h2 : Hid (∀ W, Below gc wc W → Calls Try.prog 20 #[.slice (some ⟨bb, oo, none⟩) n c, .int .i64 (A.getD k 0)] W fun e w' => e = .returned (.tuple #[idv (P k), .bool true]) ∧ Below W.heap.size W w') := fun W hb => hWh6.out W k (by have := HM.out; omega) hb
        have ck : Hid (∀ W, Below gc wc W → W.cell? ⟨b1, o1 + k, none⟩ = some (.int .i64 (A.getD k 0))) := fun W hb => nums_cell (HW.out W hb).2.2 (by have := HM.out; omega)
        obtain ⟨f1, f2, f3⟩ := hf
        clear hq hB
        generalize A.getD q 0 = xq at *
        generalize A.getD k 0 = xk at *
        generalize P q = a at *
        generalize P k = b at *
        have hMn : Hid (∀ W x y, Calls Try.prog 21 #[idv x, idv y] W fun e w' => e = .returned (idv (sub x y)) ∧ Below W.heap.size W w') := fun W x y => minus_all x y W
        have hPl : Hid (∀ W x y, Calls Try.prog 22 #[idv x, idv y] W fun e w' => e = .returned (idv (x + y)) ∧ Below W.heap.size W w') := fun W x y => plus_any x y W
        have hLs : Hid (∀ W x y z, lessB x y = z → Calls Try.prog 23 #[idv x, idv y] W fun e w' => e = .returned (.bool z) ∧ Below W.heap.size W w') := fun W x y z h => by rw [← h]; exact less_all x y W
        have F1 := Lib.hid f1
        have F2 := Lib.hid f2
        have F3 := Lib.hid f3
        clear f1 f2 f3
        go_upto_region 15 with (go_big_may; first
          | (go_at_call 20; (with_reducible refine h1.mono ?_); rintro e y1 ⟨rfl, k1⟩)
          | ((with_reducible show wpList _ _ _ (Oper.mk _ (Op.store _ _ _) _ _ _ _ :: _) _ _); refine wpList_store_new rfl rfl _ _ rfl a rfl rfl ?_))
        (try simp only [Act.put])
        have A1 := At.new y1 a
        have kb := (k1.trans ((Below.refl y1.heap.size y1).alloc (Nat.le_refl _) (.cells (row (dig 20 a)) 24) |>.mono k1.size))
        have HB1 := Lib.hid (belTo hgc HB.out kb)
        clear h1 cq k1 kb c0
        generalize y1.heap.size = q19 at *
        generalize y1.alloc _ = z1 at *
        have c1 := (HW.out z1 HB1.out).1
        have ck1 := ck.out z1 HB1.out
        go_upto_region 16 with (go_big_may; first
          | (go_at_call 20; (with_reducible refine (h2.out _ HB1.out).mono ?_); rintro e y2 ⟨rfl, k1⟩)
          | ((with_reducible show wpList _ _ _ (Oper.mk _ (Op.store _ _ _) _ _ _ _ :: _) _ _); refine wpList_store_new rfl rfl _ _ rfl b rfl rfl ?_))
        (try simp only [Act.put])
        have A2 := At.new y2 b
        have kb := (k1.trans ((Below.refl y2.heap.size y2).alloc (Nat.le_refl _) (.cells (row (dig 20 b)) 24) |>.mono k1.size))
        have HB2 := Lib.hid (belTo hgc HB1.out kb)
        have A1 := At.below A1 kb
        clear h2 ck ck1 k1 kb c1
        generalize y2.heap.size = q21 at *
        generalize y2.alloc _ = z2 at *
        have ra : z2.rangeAt q19 0 (row (dig 20 a)).toList := blk_range A1
        have rg : z2.rangeAt qg 0 (row (dig 20 γ)).toList := blk_range (HW.out z2 HB2.out).2.1
        go_upto_region 19 with (go_big_may; first
          | (refine p_midI rfl _ rfl qg 0 rfl γ rg ?_)
          | (refine p_midI rfl _ rfl q19 0 rfl a ra ?_)
          | (go_at_call 21; (with_reducible refine (hMn.out _ _ _).mono ?_); rintro e y3 ⟨rfl, k1⟩)
          | ((with_reducible show wpList _ _ _ (Oper.mk _ (Op.store _ _ _) _ _ _ _ :: _) _ _); refine wpList_store_new rfl rfl _ _ rfl (sub γ a) rfl rfl ?_))
        (try simp only [Act.put])
        have A3 := At.new y3 (sub γ a)
        have kb := (k1.trans ((Below.refl y3.heap.size y3).alloc (Nat.le_refl _) (.cells (row (dig 20 (sub γ a))) 24) |>.mono k1.size))
        have HB3 := Lib.hid (belTo hgc HB2.out kb)
        have A2 := At.below A2 kb
        clear ra rg k1 kb A1
        generalize y3.heap.size = q23 at *
        generalize y3.alloc _ = z3 at *
        have rb : z3.rangeAt q21 0 (row (dig 20 b)).toList := blk_range A2
        have rg : z3.rangeAt qg 0 (row (dig 20 γ)).toList := blk_range (HW.out z3 HB3.out).2.1
        go_upto_region 20 with (go_big_may; first
          | (refine p_midI rfl _ rfl qg 0 rfl γ rg ?_)
          | (refine p_midI rfl _ rfl q21 0 rfl b rb ?_)
          | (go_at_call 21; (with_reducible refine (hMn.out _ _ _).mono ?_); rintro e y4 ⟨rfl, k1⟩)
          | ((with_reducible show wpList _ _ _ (Oper.mk _ (Op.store _ _ _) _ _ _ _ :: _) _ _); refine wpList_store_new rfl rfl _ _ rfl (sub γ b) rfl rfl ?_))
        (try simp only [Act.put])
        have A4 := At.new y4 (sub γ b)
        have kb := (k1.trans ((Below.refl y4.heap.size y4).alloc (Nat.le_refl _) (.cells (row (dig 20 (sub γ b))) 24) |>.mono k1.size))
        have HB4 := Lib.hid (belTo hgc HB3.out kb)
        have A3 := At.below A3 kb
        clear rb rg k1 kb A2
        generalize y4.heap.size = q24 at *
        generalize y4.alloc _ = z4 at *
        generalize sub γ a = fa at *
        generalize sub γ b = fb at *
        have rn : z4.rangeAt q24 0 (row (dig 20 fb)).toList := blk_range A4
        go_upto_region 21 with (go_big_may; first
          | (refine p_midI rfl _ rfl q24 0 rfl fb rn ?_)
          | (go_at_call 22; (with_reducible refine (hPl.out _ _ _).mono ?_); rintro e y5 ⟨rfl, k1⟩)
          | ((with_reducible show wpList _ _ _ (Oper.mk _ (Op.store _ _ _) _ _ _ _ :: _) _ _); refine wpList_store_new rfl rfl _ _ rfl (fb + fb) rfl rfl ?_))
        (try simp only [Act.put])
        have A5 := At.new y5 (fb + fb)
        have kb := (k1.trans ((Below.refl y5.heap.size y5).alloc (Nat.le_refl _) (.cells (row (dig 20 (fb + fb))) 24) |>.mono k1.size))
        have HB5 := Lib.hid (belTo hgc HB4.out kb)
        have A3 := At.below A3 kb
        have A4 := At.below A4 kb
        clear rn k1 kb
        generalize y5.heap.size = q25 at *
        generalize y5.alloc _ = z5 at *
        generalize fb + fb = fc at *
        have rf5 : z5.rangeAt q23 0 (row (dig 20 fa)).toList := blk_range A3
        have rn5 : z5.rangeAt q24 0 (row (dig 20 fb)).toList := blk_range A4
        have rt5 : z5.rangeAt q25 0 (row (dig 20 fc)).toList := blk_range A5
        have HA3 := Lib.hid (blk_range A3)
        go_wp2_with (first
          | (refine p_midI rfl _ rfl q24 0 rfl fb rn5 ?_)
          | (refine p_midI rfl _ rfl q23 0 rfl fa rf5 ?_)
          | (go_guarded; refine o_midI _ rfl q23 0 rfl fa rf6 ?_; simp only [Act.put, List.setIfInBounds_toArray, List.set_cons_succ, List.set_cons_zero])
          | (go_guarded; refine o_midI _ rfl q25 0 rfl fc rt6 ?_; simp only [Act.put, List.setIfInBounds_toArray, List.set_cons_succ, List.set_cons_zero])
          | (go_guarded; refine o_midI _ rfl q25 0 rfl fc rt7 ?_; simp only [Act.put, List.setIfInBounds_toArray, List.set_cons_succ, List.set_cons_zero])
          | (go_guarded; refine o_midI _ rfl q24 0 rfl fb rn7 ?_; simp only [Act.put, List.setIfInBounds_toArray, List.set_cons_succ, List.set_cons_zero])
          | (go_at_call 23; (with_reducible refine (hLs.out _ fb fa _ F1.out).mono ?_); rintro e y6 ⟨rfl, k6⟩; have rf6 : y6.rangeAt q23 0 (row (dig 20 fa)).toList := blk_range (At.below A3 k6); have rt6 : y6.rangeAt q25 0 (row (dig 20 fc)).toList := blk_range (At.below A5 k6))
          | (go_at_call 23; (with_reducible refine (hLs.out _ fa fc _ F2.out).mono ?_); rintro e y7 ⟨rfl, k7⟩; have rt7 : y7.rangeAt q25 0 (row (dig 20 fc)).toList := blk_range (At.below (At.below A5 k6) k7); have rn7 : y7.rangeAt q24 0 (row (dig 20 fb)).toList := blk_range (At.below (At.below A4 k6) k7))
          | (go_at_call 23; (with_reducible refine (hLs.out _ fc fb _ F3.out).mono ?_); rintro e y8 ⟨rfl, k8⟩))
        exact ⟨⟨k + 1, by go_num, by omega, by omega, belTo hgc (belTo hgc (belTo hgc HB5.out k6) k7) k8⟩, by simp [intOf]; omega⟩
      · obtain rfl : m = k := by omega
        have cq : wr.cell? ⟨b1, o1 + q, none⟩ = some (.int .i64 (A.getD q 0)) := nums_cell (HW.out wr hB).2.2 (by have := HM.out; omega)
        have h1 := hWh6.out wr q (by have := HM.out; omega) hB
        rw [HF.out.last q (by have := HM.out; omega)] at h1
        have bq1 : (q : Int) < (m : Int) := by omega
        have bq2 : (0 : Int) ≤ (q : Int) := by omega
        have eg := eqB_self γ
        clear hq hB
        generalize A.getD q 0 = xq at *
        go_upto_region 24 with (go_big_may; first
          | (go_at_call 20; (with_reducible refine h1.mono ?_); rintro e y1 ⟨rfl, k1⟩)
          | ((with_reducible show wpList _ _ _ (Oper.mk _ (Op.store _ _ _) _ _ _ _ :: _) _ _); refine wpList_store_new rfl rfl _ _ rfl γ rfl rfl ?_))
        (try simp only [Act.put])
        have A1 := At.new y1 γ
        have kb := (k1.trans ((Below.refl y1.heap.size y1).alloc (Nat.le_refl _) (.cells (row (dig 20 γ)) 24) |>.mono k1.size))
        have HB1 := Lib.hid (belTo hgc HB.out kb)
        clear h1 cq k1 kb c0
        generalize y1.heap.size = q26 at *
        generalize y1.alloc _ = z1 at *
        go_wp2_with (first
          | (go_at_call 12; (with_reducible refine (h4.out _).mono ?_); rintro e y2 ⟨rfl, k2⟩; have ra : y2.rangeAt q26 0 (row (dig 20 γ)).toList := blk_range (At.below A1 k2); have HB2 := Lib.hid (belTo hgc HB1.out k2); have rg : y2.rangeAt qg 0 (row (dig 20 γ)).toList := blk_range (HW.out y2 HB2.out).2.1)
          | (go_guarded; refine o_midI _ rfl q26 0 rfl γ ra ?_; simp only [Act.put, List.setIfInBounds_toArray, List.set_cons_succ, List.set_cons_zero])
          | (go_guarded; refine o_midI _ rfl qg 0 rfl γ rg ?_; simp only [Act.put, List.setIfInBounds_toArray, List.set_cons_succ, List.set_cons_zero])
          | (go_guarded; refine o_eql _ _ rfl γ γ rfl rfl eg ?_; simp only [Act.put, List.setIfInBounds_toArray, List.set_cons_succ, List.set_cons_zero]))
        go_ret
        exact ⟨rfl, by (try rw [hg]); exact belTo hg B6'.out (by rw [hgc]; exact HB2.out)⟩
theorem walk {w : World} {v : Value} {L : List Pe} (hL : Lies w v L) (hw : Wf L) (r : Int) (_ : -9223372036854775808 ≤ r ∧ r ≤ 9223372036854775807) (i : Int) (_ : -9223372036854775808 ≤ i ∧ i ≤ 9223372036854775807) (id : Nat) (hid : id < M) :
    Calls Try.prog 6 #[v, .int .i64 r, .int .i64 i, idv id] w fun e w' => e = .returned (.bool true) ∧ Below w.heap.size w w' := by
  by_cases hn : L.length ≤ 100
  · cases hok : isB L && okS r
    · exact walk_no r i id hid hL hw hn hok
    · rw [Bool.and_eq_true] at hok
      have hC : Circ L := of_decide_eq_true hok.1
      have h2 := hok.2
      unfold okS at h2
      rw [Bool.and_eq_true, decide_eq_true_eq, decide_eq_true_eq] at h2
      obtain ⟨m, rfl⟩ : ∃ m : Nat, r = (m : Int) := ⟨r.toNat, by omega⟩
      by_cases hi : 0 ≤ i ∧ i < (L.length : Int)
      · obtain ⟨q, rfl⟩ : ∃ q : Nat, i = (q : Int) := ⟨i.toNat, by omega⟩
        exact walk_in m q id hid hL hw hC (by omega) (by omega) (by omega)
      · exact walk_off m i id hid hL hw hC (by omega) (by omega) (by omega)
  · obtain ⟨a, c, rfl⟩ := hL.form
    have d1 : decide ((100 : Int) < (L.length : Int)) = true := decide_eq_true (by omega)
    have d2 : (100 : Int) < (L.length : Int) := by omega
    clear hL hw
    rw [show idv id = .agg (row (dig 20 id)) from rfl]
    go_enter Try.func6, Try.ntmps6
    go_upto_region 1 with (fail)
    have i1 := At.new w id
    have B1 := (Below.refl w.heap.size w).alloc (Nat.le_refl _) (.cells (row (dig 20 id)) 24)
    generalize hg : w.heap.size = g at *
    generalize w.alloc _ = w1 at *
    go_wp2
    go_ret
    exact ⟨rfl, by (try rw [hg]); exact B1⟩
set_option maxRecDepth 100000 in
theorem lifted (os : Os) (started : os.Started) (H : Type) (enc : TypeId × Value → H) :
    ReturnsInHanded {} Try.checked os 6 .any (Rows.walkHalvesSpec.pre6 enc Try.prog Try.f6 Rows.walkHalvesRow.domain false) (Rows.walkHalvesSpec.post enc Try.prog Try.f6 false true false false) := by
  refine returnsInHanded_of_change (C := Try.checked) own started (by kernel_rfl) Try.func6
    (ChangeSpec.witness6 (enc := enc) (C := Try.checked) false ⟨#[], #[.slice none 0 0, .int .i64 0, .int .i64 0, .agg #[.int .u8 0, .int .u8 0, .int .u8 0, .int .u8 0, .int .u8 0, .int .u8 0, .int .u8 0, .int .u8 0, .int .u8 0, .int .u8 0, .int .u8 0, .int .u8 0, .int .u8 0, .int .u8 0, .int .u8 0, .int .u8 0, .int .u8 0, .int .u8 0, .int .u8 0, .int .u8 0]], []⟩ 8 (by kernel_rfl) (by kernel_rfl) (by kernel_rfl) (by kernel_rfl)) ?_
  intro W base args ds gs before hval0 hW hcnd _
  have hval : ∀ (j : Nat) t v, Try.f6.params[j]? = some t → args[j]? = some v → Value.okWide Try.prog W .any base t v := hval0
  have hW' := hW
  obtain ⟨p, q, hA0, hV, rfl, hfz, hnd⟩ := hW
  have hA : DataW.TrodAll enc Try.prog W 0 (fun _ => true) true Try.f6.params.toList args.toList ds p := hA0
  rw [Try.params6] at hA hval
  obtain ⟨v0, vs0, d0, ds0, p0, q0, hargs, rfl, rfl, h0, r0⟩ := trodAll_cons hA
  obtain ⟨v1, vs1, d1, ds1, p1, q1, rfl, rfl, rfl, h1, r1⟩ := trodAll_cons r0
  obtain ⟨v2, vs2, d2, ds2, p2, q2, rfl, rfl, rfl, h2, r2⟩ := trodAll_cons r1
  obtain ⟨v3, vs3, d3, ds3, p3, q3, rfl, rfl, rfl, h3, r3⟩ := trodAll_cons r2
  obtain ⟨rfl, rfl, rfl⟩ := trodAll_nil r3
  obtain rfl : args = #[v0, v1, v2, v3] := by cases args; simp_all
  obtain ⟨rfl, rfl⟩ := trodVars_none hV
  have k0 := h0
  have lt0 : ∀ x ∈ p0, x.block < W.heap.size := by obtain ⟨m, hm⟩ := k0; exact DataW.trod_lt m _ _ _ hm
  obtain ⟨L0, ls0, wf0⟩ := open_peers (hval 0 37 v0 rfl rfl) h0
  have k1 := h1
  have lt1 : ∀ x ∈ p1, x.block < W.heap.size := by obtain ⟨m, hm⟩ := k1; exact DataW.trod_lt m _ _ _ hm
  obtain ⟨n1, bd1, rfl⟩ := open_i64 (hval 1 3 v1 rfl rfl) h1
  have k2 := h2
  have lt2 : ∀ x ∈ p2, x.block < W.heap.size := by obtain ⟨m, hm⟩ := k2; exact DataW.trod_lt m _ _ _ hm
  obtain ⟨n2, bd2, rfl⟩ := open_i64 (hval 2 3 v2 rfl rfl) h2
  have k3 := h3
  have lt3 : ∀ x ∈ p3, x.block < W.heap.size := by obtain ⟨m, hm⟩ := k3; exact DataW.trod_lt m _ _ _ hm
  obtain ⟨n3, il3, rfl⟩ := open_id (hval 3 24 v3 rfl rfl) h3
  clear hA0 hval0
  refine (walk ls0 wf0 n1 bd1 n2 bd2 n3 il3).mono fun e W' ⟨he, bel⟩ => ?_
  subst he
  exact ⟨_, rfl, _, _, _, [], _, [], hW', trodAll_mk1 (shut_bool Try.underlying4 _), (trodAll_cons_mk (Below.trod laidOut (by kernel_rfl) (of_decide_eq_true (by kernel_rfl)) k0 bel lt0) (trodAll_cons_mk (Below.trod laidOut (by kernel_rfl) (of_decide_eq_true (by kernel_rfl)) k1 bel lt1) (trodAll_cons_mk (Below.trod laidOut (by kernel_rfl) (of_decide_eq_true (by kernel_rfl)) k2 bel lt2) (trodAll_cons_mk (Below.trod laidOut (by kernel_rfl) (of_decide_eq_true (by kernel_rfl)) k3 bel lt3) trodAll_mk0)))), rfl, bel.frame _, fun h => by cases h⟩

theorem proved : Rows.WalkHalvesSaid :=
  OpenClaim.holds_of_wide 6 Try.f6 rfl rfl rfl rfl rfl rfl rfl ⟨rfl, rfl, rfl, rfl, rfl⟩ rfl rfl rfl rfl rfl (by kernel_rfl) Try.func6 (by kernel_rfl)
    (of_decide_eq_true (by kernel_rfl)) (by unfold Func.isWrapper; first | (rw [if_pos (by decide +kernel)]; kernel_rfl) | (rw [if_neg (by decide +kernel)]; exact ⟨rfl, rfl⟩))
    (fun os started H enc _ => lifted os started H enc)
end Go.Proofs.Ytfajfmcabpmchaa.HalvesLaw
