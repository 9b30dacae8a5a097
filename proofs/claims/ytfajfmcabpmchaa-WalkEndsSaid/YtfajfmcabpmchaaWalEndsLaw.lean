/- WalkEnds: for all peers, every two numbers and every place the call returns true: more than a hundred peers are let go; in settled tables a walk ends at the owner of the place from wherever, with no more hops than there are other peers, and its first hop is where it begins. -/
import Derived.Test.YtfajfmcabpmchaaWalFin
namespace Go.Proofs.Ytfajfmcabpmchaa.EndsLaw
set_option maxRecDepth 100000
open Go Go.ChangeShapes Go.WideShapes Go.ChangeAt Go.RowKit Go.Sort

set_option maxHeartbeats 4000000 in
theorem walk_no {w : World} {v : Value} {L : List Pe} (r i : Int) (id : Nat) (hid : id < M) (hL : Lies w v L) (hw : Wf L) (hn : L.length ≤ 100) (hok : (isB L && okS r) = false) : Calls Try.prog 5 #[v, .int .i64 r, .int .i64 i, idv id] w fun e w' => e = .returned (.bool true) ∧ Below w.heap.size w w' := by
  have h1 : Hid (∀ W, Below w.heap.size w W → Calls Try.prog 14 #[v, .int .i64 r] W fun e w' => e = .returned (.tuple #[nilS, .int .i64 1]) ∧ Below W.heap.size W w') := fun W hb => by
    have := Settled_any r (hL.bel hb) hw (by omega)
    rw [hok] at this
    exact this.mono fun e w' ⟨a, b⟩ => ⟨st_none a, b⟩
  obtain ⟨oa, of, h2⟩ := owner_any id w hL hw (by omega) hid
  have h4 : Hid (∀ w1, Calls Try.prog 12 #[] w1 fun e w' => e = .returned (.bool true) ∧ Below w1.heap.size w1 w') := fun w1 => walked_any w1
  obtain ⟨a, c, rfl⟩ := hL.form
  have d1 : decide ((100 : Int) < (L.length : Int)) = false := decide_eq_false (by omega)
  clear hL hw hok hn
  generalize L.length = n at *
  rw [show idv id = .agg (row (dig 20 id)) from rfl]
  go_enter Try.func5, Try.ntmps5
  go_upto_region 1 with (fail)
  have i1 := At.new w id
  have B1 := (Below.refl w.heap.size w).alloc (Nat.le_refl _) (.cells (row (dig 20 id)) 24)
  generalize hg : w.heap.size = g at *
  generalize w.alloc _ = w1 at *
  go_upto_region 4 with (go_at_call 14; (with_reducible refine (h1.out _ B1).mono ?_); rintro e w2 ⟨rfl, k2⟩)
  have B2 := belTo hg B1 k2
  have i2 := At.below i1 k2
  have r2 : w2.rangeAt g 0 (row (dig 20 id)).toList := blk_range i2
  go_wp2_with (first
    | (refine p_midI rfl _ rfl g 0 rfl id r2 ?_)
    | (go_at_call 18; (with_reducible refine (h2.out _ B2).mono ?_); rintro e w3 ⟨rfl, k3⟩; have B3 := belTo hg B2 k3)
    | (go_at_call 12; (with_reducible refine (h4.out _).mono ?_); rintro e w4 ⟨rfl, k4⟩; have B4 := belTo hg B3 k4))
  go_ret
  exact ⟨rfl, by (try rw [hg]); exact B4⟩
set_option maxHeartbeats 4000000 in
theorem walk_off {w : World} {v : Value} {L : List Pe} (r : Nat) (i : Int) (id : Nat) (hid : id < M) (hL : Lies w v L) (hw : Wf L) (hC : Circ L) (hr : 1 ≤ r) (h8 : r ≤ 8) (hi : i < 0 ∨ (¬ i < 0 ∧ (L.length : Int) ≤ i)) : Calls Try.prog 5 #[v, .int .i64 (r : Int), .int .i64 i, idv id] w fun e w' => e = .returned (.bool true) ∧ Below w.heap.size w w' := by
  have hn16 := hC.1
  obtain ⟨n, hn⟩ : ∃ n, n = L.length := ⟨_, rfl⟩
  have h1 : Hid (∀ W, Below w.heap.size w W → Calls Try.prog 14 #[v, .int .i64 (r : Int)] W fun e w' => (∃ a c X, e = .returned (.tuple #[.slice a n c, .int .i64 0]) ∧ LiesT w' (.slice a n c) X ∧ tabsOf X = setL L r) ∧ Below W.heap.size W w') := fun W hb =>
    (Settled_yes r (hL.bel hb) hw hC hr h8).mono fun e w' ⟨a, b⟩ => ⟨st_form hn a, b⟩
  have h2 : Hid (∀ W, Below w.heap.size w W → Calls Try.prog 18 #[v, idv id] W fun e w' => e = .returned (.tuple #[.int .i64 (ownN L id : Nat), .int .i64 0]) ∧ Below W.heap.size W w') := fun W hb => Cr.Owner_yes id (hL.bel hb) hw hid hC
  have h4 : Hid (∀ w1, Calls Try.prog 12 #[] w1 fun e w' => e = .returned (.bool true) ∧ Below w1.heap.size w1 w') := fun w1 => walked_any w1
  obtain ⟨a, c, rfl⟩ := hL.form
  rw [← hn] at hn16 hi h1 h2 ⊢
  have d1 : decide ((100 : Int) < (n : Int)) = false := decide_eq_false (by omega)
  clear hL hw hC hn
  have HI := Lib.hid hi
  clear hi
  generalize ownN L id = oa at *
  rw [show idv id = .agg (row (dig 20 id)) from rfl]
  go_enter Try.func5, Try.ntmps5
  go_upto_region 1 with (fail)
  have i1 := At.new w id
  have B1 := (Below.refl w.heap.size w).alloc (Nat.le_refl _) (.cells (row (dig 20 id)) 24)
  generalize hg : w.heap.size = g at *
  generalize w.alloc _ = w1 at *
  go_upto_region 4 with (go_at_call 14; (with_reducible refine (h1.out _ B1).mono ?_); rintro e w2 ⟨⟨ta, tc, X, rfl, hX, hT⟩, k2⟩; clear hX hT)
  have B2 := belTo hg B1 k2
  have i2 := At.below i1 k2
  have r2 : w2.rangeAt g 0 (row (dig 20 id)).toList := blk_range i2
  rcases HI.out with h | ⟨h5, h⟩
  · have d2 := decide_eq_true h
    go_wp2_with (first
      | (refine p_midI rfl _ rfl g 0 rfl id r2 ?_)
      | (go_at_call 18; (with_reducible refine (h2.out _ B2).mono ?_); rintro e w3 ⟨rfl, k3⟩; have B3 := belTo hg B2 k3)
      | (go_at_call 12; (with_reducible refine (h4.out _).mono ?_); rintro e w4 ⟨rfl, k4⟩; have B4 := belTo hg B3 k4))
    go_ret
    exact ⟨rfl, by (try rw [hg]); exact B4⟩
  · have d2 : decide (i < 0) = false := decide_eq_false (by omega)
    have d3 := decide_eq_true h
    go_wp2_with (first
      | (refine p_midI rfl _ rfl g 0 rfl id r2 ?_)
      | (go_at_call 18; (with_reducible refine (h2.out _ B2).mono ?_); rintro e w3 ⟨rfl, k3⟩; have B3 := belTo hg B2 k3)
      | (go_at_call 12; (with_reducible refine (h4.out _).mono ?_); rintro e w4 ⟨rfl, k4⟩; have B4 := belTo hg B3 k4))
    go_ret
    exact ⟨rfl, by (try rw [hg]); exact B4⟩
set_option maxHeartbeats 8000000 in
theorem walk_in {w : World} {v : Value} {L : List Pe} (r i : Nat) (id : Nat) (hid : id < M) (hL : Lies w v L) (hw : Wf L) (hC : Circ L) (hr : 1 ≤ r) (h8 : r ≤ 8) (hi : i < L.length) : Calls Try.prog 5 #[v, .int .i64 (r : Int), .int .i64 (i : Int), idv id] w fun e w' => e = .returned (.bool true) ∧ Below w.heap.size w w' := by
  have hn16 := hC.1
  obtain ⟨J, hJ, hwk⟩ := walk_set (r := r) (n := L.length - 1) hC hw hid hr h8 hi (Nat.le_refl _) (by omega)
  have hWk : Hid (∀ W va X, LiesT W va X → tabsOf X = setL L r → Hid (∀ W', Below W.heap.size W W' → Calls Try.prog 10 #[va, .int .i64 (ad L i), idv id, .int .i64 ((L.length - 1 : Nat) : Int)] W' fun e w' => (∃ a c, e = .returned (.tuple #[.agg (rtA (.slice a (J.map (ad L)).length c) (L.getD (ownN L id) (0, 0))), .int .i64 0]) ∧ w'.ownsRow W'.heap.size 3 1 (.slice a (J.map (ad L)).length c) (J.map (ad L)).length (ints (J.map (ad L)))) ∧ Below W'.heap.size W' w')) := fun W va X hX hT => walk_settled hX hT hC h8 hi hwk
  have hA0 : (J.map (ad L)).getD 0 0 = ad L i := by
    have := hJ.head
    cases J with
    | nil => cases this
    | cons z J =>
      rw [List.head?_cons, Option.some.injEq] at this
      rw [this]; rfl
  have hA1 : 1 ≤ (J.map (ad L)).length := by
    rw [List.length_map]
    cases J with
    | nil => have := hJ.head; cases this
    | cons z J => simp
  have hA2 : (J.map (ad L)).length ≤ L.length := by
    rw [List.length_map]
    have := hJ.len
    omega
  have hol := own_lt (L := L) (by omega) id
  obtain ⟨n, hn⟩ : ∃ n, n = L.length := ⟨_, rfl⟩
  have h1 : Hid (∀ W, Below w.heap.size w W → Calls Try.prog 14 #[v, .int .i64 (r : Int)] W fun e w' => (∃ a c X, e = .returned (.tuple #[.slice a n c, .int .i64 0]) ∧ LiesT w' (.slice a n c) X ∧ tabsOf X = setL L r) ∧ Below W.heap.size W w') := fun W hb =>
    (Settled_yes r (hL.bel hb) hw hC hr h8).mono fun e w' ⟨a, b⟩ => ⟨st_form hn a, b⟩
  have h2 : Hid (∀ W, Below w.heap.size w W → Calls Try.prog 18 #[v, idv id] W fun e w' => e = .returned (.tuple #[.int .i64 (ownN L id : Nat), .int .i64 0]) ∧ Below W.heap.size W w') := fun W hb => Cr.Owner_yes id (hL.bel hb) hw hid hC
  have h4 : Hid (∀ w1, Calls Try.prog 12 #[] w1 fun e w' => e = .returned (.bool true) ∧ Below w1.heap.size w1 w') := fun w1 => walked_any w1
  obtain ⟨bb, oo, c, rfl, hcc, hrr, hlb⟩ := hL.some (by omega)
  have HR := Lib.hid hrr
  have hyo : Hid (L[ownN L id]? = some (L.getD (ownN L id) (0, 0))) := by
    show _ = _
    rw [List.getD_eq_getElem?_getD, List.getElem?_eq_getElem hol]; rfl
  have hyi : Hid (L[i]? = some (L.getD i (0, 0))) := by
    show _ = _
    rw [List.getD_eq_getElem?_getD, List.getElem?_eq_getElem hi]; rfl
  have hai : (L.getD i (0, 0)).1 = ad L i := rfl
  have HAI := Lib.hid hai
  rw [show ((L.length - 1 : Nat) : Int) = (L.length : Int) - 1 by omega] at hWk
  rw [← hn] at hn16 hi hA2 hol h1 h2 hWk ⊢
  clear hL hw hC hn hwk hJ hrr hcc hai
  have HA0 := Lib.hid hA0
  clear hA0
  generalize J.map (ad L) = A at *
  generalize L.getD (ownN L id) (0, 0) = en at *
  generalize ad L i = x0 at *
  generalize ownN L id = oa at *
  have d1 : decide ((100 : Int) < (n : Int)) = false := decide_eq_false (by omega)
  have d2 : decide ((i : Int) < 0) = false := decide_eq_false (by omega)
  have d3 : decide ((n : Int) ≤ (i : Int)) = false := decide_eq_false (by omega)
  have d4 : decide (n ≤ i) = false := decide_eq_false (by omega)
  have bk : (i : Int) < (n : Int) := by omega
  have bz : (0 : Int) ≤ (i : Int) := by omega
  have ok_ : (oa : Int) < (n : Int) := by omega
  have oz : (0 : Int) ≤ (oa : Int) := by omega
  have s1 : IntKind.i64.wrap ((n : Int) - 1) = (n : Int) - 1 := IntWalk.i64_in _ (by omega)
  rw [show idv id = .agg (row (dig 20 id)) from rfl]
  go_enter Try.func5, Try.ntmps5
  go_upto_region 1 with (fail)
  have i1 := At.new w id
  have B1 := (Below.refl w.heap.size w).alloc (Nat.le_refl _) (.cells (row (dig 20 id)) 24)
  generalize hg : w.heap.size = g at *
  generalize w.alloc _ = w1 at *
  go_upto_region 4 with (go_at_call 14; (with_reducible refine (h1.out _ B1).mono ?_); rintro e w2 ⟨⟨ta, tc, X, rfl, hX, hT⟩, k2⟩)
  have B2 := belTo hg B1 k2
  have i2 := At.below i1 k2
  have r2 : w2.rangeAt g 0 (row (dig 20 id)).toList := blk_range i2
  have HX := Lib.hid hX
  have HT := Lib.hid hT
  clear hX hT k2
  go_upto_region 7 with (first
    | (refine p_midI rfl _ rfl g 0 rfl id r2 ?_)
    | (go_at_call 18; (with_reducible refine (h2.out _ B2).mono ?_); rintro e w3 ⟨rfl, k3⟩))
  have B3 := belTo hg B2 k3
  have HC := hWk.out _ _ _ (HX.out.bel k3) HT.out
  have i3 := At.below i2 k3
  have r3 : w3.rangeAt g 0 (row (dig 20 id)).toList := blk_range i3
  have l3 := i3.lt
  have HL3 := Lib.hid (range_bel HR.out B3 hlb)
  have hl3 : bb < w3.heap.size := by have := B3.size; omega
  have HS : Hid (∀ wx, Below w3.heap.size w3 wx → wx.cell? ⟨bb, oo + i * 21, none⟩ = some (.int .i64 x0) ∧ wx.rangeAt g 0 (row (dig 20 id)).toList) := fun wx hb => ⟨by
      have h := row_peer (range_bel HL3.out hb hl3) hyi.out
      have h2 := h 0 (.int .i64 (L.getD i (0, 0)).1) rfl
      rw [HAI.out] at h2
      exact h2, range_bel r3 hb l3⟩
  clear h1 h2 hWk k3
  go_cut [13, 14] from 56 (fun v u wx => CaR w3 A en v u wx)
  case first => as_aux_lemma =>
    refine wp_region_held_drew (S := (fun w9 => w9.cell? ⟨bb, oo + i * 21, none⟩ = some (.int .i64 x0) ∧ w9.rangeAt g 0 (row (dig 20 id)).toList)) (by kernel_rfl) ?_ (fun hHeld => ?_)
    · exact HS.out _ (drew_bel w3)
    have b0 : Below w3.heap.size w3 w3.drew := drew_bel w3
    generalize World.drew w3 = w0 at *
    refine wpAnyH_take (i := 0) (v := ?_) rfl (by kernel_rfl) (by kernel_rfl) (by kernel_rfl) (fun _ _ _ h => h) (Or.inl ⟨by rfl, ?_⟩) (by assumption) ?_
    rotate_left
    · intro w9 hSw
      (try dsimp only at hSw)
      go_simp
      (try with_reducible rfl)
    (try simp only [Act.put]); (try simp only [List.setIfInBounds_toArray]); (try simp only [List.set_cons_succ]); (try simp only [List.set_cons_zero])
    iterate 1
      (try dsimp only [List.getElem_toArray, List.getElem_cons_succ, List.getElem_cons_zero])
      (try simp only [Act.put]); (try simp only [List.setIfInBounds_toArray]); (try simp only [List.set_cons_succ]); (try simp only [List.set_cons_zero])
    refine wpAnyH_take (i := 1) (v := ?_) rfl (by kernel_rfl) (by kernel_rfl) (by kernel_rfl) (fun _ _ _ h => h) (Or.inl ⟨by rfl, ?_⟩) (by assumption) ?_
    rotate_left
    · intro w9 hSw
      (try dsimp only at hSw)
      go_simp
      (try with_reducible rfl)
    (try simp only [Act.put]); (try simp only [List.setIfInBounds_toArray]); (try simp only [List.set_cons_succ]); (try simp only [List.set_cons_zero])
    iterate 1
      (try dsimp only [List.getElem_toArray, List.getElem_cons_succ, List.getElem_cons_zero])
      (try simp only [Act.put]); (try simp only [List.setIfInBounds_toArray]); (try simp only [List.set_cons_succ]); (try simp only [List.set_cons_zero])
    refine wpAnyH_take (i := 2) (v := ?_) rfl (by kernel_rfl) (by kernel_rfl) (by kernel_rfl) (fun _ _ _ h => h) (Or.inl ⟨by rfl, ?_⟩) (by assumption) ?_
    rotate_left
    · intro w9 hSw
      (try dsimp only at hSw)
      go_simp
      (try with_reducible rfl)
    (try simp only [Act.put]); (try simp only [List.setIfInBounds_toArray]); (try simp only [List.set_cons_succ]); (try simp only [List.set_cons_zero])
    iterate 1
      (try dsimp only [List.getElem_toArray, List.getElem_cons_succ, List.getElem_cons_zero])
      (try simp only [Act.put]); (try simp only [List.setIfInBounds_toArray]); (try simp only [List.set_cons_succ]); (try simp only [List.set_cons_zero])
    refine wpAnyH_take (i := 3) (v := ?_) rfl (by kernel_rfl) (by kernel_rfl) (by kernel_rfl) (fun _ _ _ h => h) (Or.inl ⟨by rfl, ?_⟩) (by assumption) ?_
    rotate_left
    · intro w9 hSw
      (try dsimp only at hSw)
      go_simp
      (try with_reducible rfl)
    (try simp only [Act.put]); (try simp only [List.setIfInBounds_toArray]); (try simp only [List.set_cons_succ]); (try simp only [List.set_cons_zero])
    iterate 1
      (try dsimp only [List.getElem_toArray, List.getElem_cons_succ, List.getElem_cons_zero])
      (try simp only [Act.put]); (try simp only [List.setIfInBounds_toArray]); (try simp only [List.set_cons_succ]); (try simp only [List.set_cons_zero])
    refine wpAnyH_take (i := 4) (v := ?_) rfl (by kernel_rfl) (by kernel_rfl) (by kernel_rfl) (fun _ _ _ h => h) (Or.inl ⟨by rfl, ?_⟩) (by assumption) ?_
    rotate_left
    · intro w9 hSw
      (try dsimp only at hSw)
      go_simp
      (try with_reducible rfl)
    (try simp only [Act.put]); (try simp only [List.setIfInBounds_toArray]); (try simp only [List.set_cons_succ]); (try simp only [List.set_cons_zero])
    iterate 1
      (try dsimp only [List.getElem_toArray, List.getElem_cons_succ, List.getElem_cons_zero])
      (try simp only [Act.put]); (try simp only [List.setIfInBounds_toArray]); (try simp only [List.set_cons_succ]); (try simp only [List.set_cons_zero])
    refine wpAnyH_take (i := 5) (v := ?_) rfl (by kernel_rfl) (by kernel_rfl) (by kernel_rfl) (fun _ _ _ h => h) (Or.inl ⟨by rfl, ?_⟩) (by assumption) ?_
    rotate_left
    · intro w9 hSw
      (try dsimp only at hSw)
      have c5 := hSw.1
      go_simp
      (try with_reducible rfl)
    (try simp only [Act.put]); (try simp only [List.setIfInBounds_toArray]); (try simp only [List.set_cons_succ]); (try simp only [List.set_cons_zero])
    iterate 1
      (try dsimp only [List.getElem_toArray, List.getElem_cons_succ, List.getElem_cons_zero])
      (try simp only [Act.put]); (try simp only [List.setIfInBounds_toArray]); (try simp only [List.set_cons_succ]); (try simp only [List.set_cons_zero])
    refine wpAnyH_take (i := 6) (oi := { dst := some 63, op := Op.load 24 (Operand.tmp 7), type := 24, pos := "law.go:63", after := #[], guard := none }) (v := (idv id)) rfl (by kernel_rfl) (by kernel_rfl) (by kernel_rfl) (fun _ _ _ h => h) (y_midI (by rfl) (.tmp 7) rfl g 0 rfl id (fun _ h => h.2)) (by assumption) ?_
    (try simp only [Act.put]); (try simp only [List.setIfInBounds_toArray]); (try simp only [List.set_cons_succ]); (try simp only [List.set_cons_zero])
    iterate 1
      (try dsimp only [List.getElem_toArray, List.getElem_cons_succ, List.getElem_cons_zero])
      (try simp only [Act.put]); (try simp only [List.setIfInBounds_toArray]); (try simp only [List.set_cons_succ]); (try simp only [List.set_cons_zero])
    refine wpAnyH_take (i := 7) (v := ?_) rfl (by kernel_rfl) (by kernel_rfl) (by kernel_rfl) (fun _ _ _ h => h) (Or.inl ⟨by rfl, ?_⟩) (by assumption) ?_
    rotate_left
    · intro w9 hSw
      (try dsimp only at hSw)
      go_simp
      (try with_reducible rfl)
    (try simp only [Act.put]); (try simp only [List.setIfInBounds_toArray]); (try simp only [List.set_cons_succ]); (try simp only [List.set_cons_zero])
    iterate 1
      (try dsimp only [List.getElem_toArray, List.getElem_cons_succ, List.getElem_cons_zero])
      (try simp only [Act.put]); (try simp only [List.setIfInBounds_toArray]); (try simp only [List.set_cons_succ]); (try simp only [List.set_cons_zero])
    refine wpAnyH_take (i := 8) (v := ?_) rfl (by kernel_rfl) (by kernel_rfl) (by kernel_rfl) (fun _ _ _ h => h) (Or.inl ⟨by rfl, ?_⟩) (by assumption) ?_
    rotate_left
    · intro w9 hSw
      (try dsimp only at hSw)
      go_simp
      (try with_reducible rfl)
    (try simp only [Act.put]); (try simp only [List.setIfInBounds_toArray]); (try simp only [List.set_cons_succ]); (try simp only [List.set_cons_zero])
    iterate 1
      (try dsimp only [List.getElem_toArray, List.getElem_cons_succ, List.getElem_cons_zero])
      (try simp only [Act.put]); (try simp only [List.setIfInBounds_toArray]); (try simp only [List.set_cons_succ]); (try simp only [List.set_cons_zero])
    refine wpAnyH_take (i := 9) (v := ?_) rfl (by kernel_rfl) (by kernel_rfl) (by kernel_rfl) (fun _ _ _ h => h) (Or.inl ⟨by rfl, ?_⟩) (by assumption) ?_
    rotate_left
    · intro w9 hSw
      (try dsimp only at hSw)
      go_simp
      (try with_reducible rfl)
    (try simp only [Act.put]); (try simp only [List.setIfInBounds_toArray]); (try simp only [List.set_cons_succ]); (try simp only [List.set_cons_zero])
    iterate 1
      (try dsimp only [List.getElem_toArray, List.getElem_cons_succ, List.getElem_cons_zero])
      (try simp only [Act.put]); (try simp only [List.setIfInBounds_toArray]); (try simp only [List.set_cons_succ]); (try simp only [List.set_cons_zero])
    refine wpAnyH_ready (rs := [10, 14]) (by kernel_rfl) (by simp) ?_
    refine AllReadyH.cons rfl (fun K hK => ?_) ?_
    · go_simp
      go_wp2_with (go_at_call 10; (with_reducible refine (HC.out _ b0).mono ?_); rintro e w1 ⟨⟨a9, c9, rfl, o9⟩, k1⟩)
      have b1 := b0.trans (k1.mono b0.size)
      have ap9 : ∀ k, (Value.slice a9 A.length c9).ownBlock = some k → k ≠ w1.heap.size := fun k hk => Nat.ne_of_lt (o9.lt k hk).2
      refine hK.out _ _ ?_ (fun hHeld => ?_)
      · exact HS.out _ b1
      clear hK K
      (try simp only [Act.put]); (try simp only [List.setIfInBounds_toArray]); (try simp only [List.set_cons_succ]); (try simp only [List.set_cons_zero])
      iterate 1
        (try dsimp only [List.getElem_toArray, List.getElem_cons_succ, List.getElem_cons_zero])
        (try simp only [Act.put]); (try simp only [List.setIfInBounds_toArray]); (try simp only [List.set_cons_succ]); (try simp only [List.set_cons_zero])
      refine wpAnyH_take (i := 11) (v := ?_) rfl (by kernel_rfl) (by kernel_rfl) (by kernel_rfl) (fun _ _ _ h => h) (Or.inl ⟨by rfl, ?_⟩) (by assumption) ?_
      rotate_left
      · intro w9 hSw
        (try dsimp only at hSw)
        go_simp
        (try with_reducible rfl)
      (try simp only [Act.put]); (try simp only [List.setIfInBounds_toArray]); (try simp only [List.set_cons_succ]); (try simp only [List.set_cons_zero])
      iterate 1
        (try dsimp only [List.getElem_toArray, List.getElem_cons_succ, List.getElem_cons_zero])
        (try simp only [Act.put]); (try simp only [List.setIfInBounds_toArray]); (try simp only [List.set_cons_succ]); (try simp only [List.set_cons_zero])
      refine wpAnyH_take (i := 12) (v := ?_) rfl (by kernel_rfl) (by kernel_rfl) (by kernel_rfl) (fun _ _ _ h => h) (Or.inl ⟨by rfl, ?_⟩) (by assumption) ?_
      rotate_left
      · intro w9 hSw
        (try dsimp only at hSw)
        go_simp
        (try with_reducible rfl)
      (try simp only [Act.put]); (try simp only [List.setIfInBounds_toArray]); (try simp only [List.set_cons_succ]); (try simp only [List.set_cons_zero])
      iterate 1
        (try dsimp only [List.getElem_toArray, List.getElem_cons_succ, List.getElem_cons_zero])
        (try simp only [Act.put]); (try simp only [List.setIfInBounds_toArray]); (try simp only [List.set_cons_succ]); (try simp only [List.set_cons_zero])
      refine wpAnyH_take (i := 13) (v := ?_) rfl (by kernel_rfl) (by kernel_rfl) (by kernel_rfl) (fun _ _ _ h => h) (Or.inl ⟨by rfl, ?_⟩) (by assumption) ?_
      rotate_left
      · intro w9 hSw
        (try dsimp only at hSw)
        go_simp
        (try with_reducible rfl)
      (try simp only [Act.put]); (try simp only [List.setIfInBounds_toArray]); (try simp only [List.set_cons_succ]); (try simp only [List.set_cons_zero])
      iterate 1
        (try dsimp only [List.getElem_toArray, List.getElem_cons_succ, List.getElem_cons_zero])
        (try simp only [Act.put]); (try simp only [List.setIfInBounds_toArray]); (try simp only [List.set_cons_succ]); (try simp only [List.set_cons_zero])
      refine wpAnyH_ready (rs := [14]) (by kernel_rfl) (by simp) ?_
      refine AllReadyH.cons rfl (fun K hK => ?_) ?_
      rotate_left
      · exact AllReadyH.nil
      go_simp
      have x2 := RB.new w1 nilS (0, 0)
      have b2 := b1.alloc b1.size (.cells (rtA nilS (0, 0)) 30)
      have l2 := b1.size
      have o9 := own_bel o9 ((Below.refl w1.heap.size w1).alloc (Nat.le_refl _) (.cells (rtA nilS (0, 0)) 30))
      refine hK.out _ _ ?_ (fun hHeld => ?_)
      · (try rw [route_zero]); exact HS.out _ b2
      clear hK K
      try rw [route_zero] at hHeld
      (try simp only [Act.put]); (try simp only [List.setIfInBounds_toArray]); (try simp only [List.set_cons_succ]); (try simp only [List.set_cons_zero])
      try rw [route_zero]
      generalize w1.heap.size = gp at *
      generalize w1.alloc _ = w2 at *
      iterate 1
        (try dsimp only [List.getElem_toArray, List.getElem_cons_succ, List.getElem_cons_zero])
        (try simp only [Act.put]); (try simp only [List.setIfInBounds_toArray]); (try simp only [List.set_cons_succ]); (try simp only [List.set_cons_zero])
      refine wpAnyH_ready (rs := [15]) (by kernel_rfl) (by simp) ?_
      refine AllReadyH.cons rfl (fun K hK => ?_) ?_
      rotate_left
      · exact AllReadyH.nil
      rw [if_pos (by rfl)]
      have b9 := bel_setRow b2 l2 (rtA (Value.slice a9 A.length c9) en)
      have x9 := x2.set (Value.slice a9 A.length c9) en
      have o9 := own_keep o9 (fun k hk => Go.setRow_other _ _ k (rtA (Value.slice a9 A.length c9) en) (ap9 k hk))
      refine wp_store_row 30 _ _ rfl gp (rtA (Value.slice a9 A.length c9) en) rfl rfl 30 (rtA nilS (0, 0)) x2 (by rw [rtA_size]; exact sizeR) (by rw [rtA_size, rtA_size]) (rtA_one en rfl) ?_
      refine hK.out _ _ ?_ (fun hHeld => ?_)
      · exact HS.out _ b9
      clear hK K
      (try simp only [Act.put]); (try simp only [List.setIfInBounds_toArray]); (try simp only [List.set_cons_succ]); (try simp only [List.set_cons_zero])
      generalize w2.setRow gp _ = w9 at *
      iterate 1
        (try dsimp only [List.getElem_toArray, List.getElem_cons_succ, List.getElem_cons_zero])
        (try simp only [Act.put]); (try simp only [List.setIfInBounds_toArray]); (try simp only [List.set_cons_succ]); (try simp only [List.set_cons_zero])
      refine wpAnyH_take (i := 16) (v := ?_) rfl (by kernel_rfl) (by kernel_rfl) (by kernel_rfl) (fun _ _ _ h => h) (Or.inl ⟨by rfl, ?_⟩) (by assumption) ?_
      rotate_left
      · intro w9 hSw
        (try dsimp only at hSw)
        go_simp
        (try with_reducible rfl)
      (try simp only [Act.put]); (try simp only [List.setIfInBounds_toArray]); (try simp only [List.set_cons_succ]); (try simp only [List.set_cons_zero])
      iterate 1
        (try dsimp only [List.getElem_toArray, List.getElem_cons_succ, List.getElem_cons_zero])
        (try simp only [Act.put]); (try simp only [List.setIfInBounds_toArray]); (try simp only [List.set_cons_succ]); (try simp only [List.set_cons_zero])
      refine wpAnyH_done (by kernel_rfl) ?_ _
      go_wp2
      go_meet
      exact CaR.mk b9 x9 (nums_own o9) l2
    refine AllReadyH.cons rfl (fun K hK => ?_) ?_
    · go_simp
      have x2 := RB.new w0 nilS (0, 0)
      have b1 := b0.alloc b0.size (.cells (rtA nilS (0, 0)) 30)
      have l2 := b0.size
      refine hK.out _ _ ?_ (fun hHeld => ?_)
      · (try rw [route_zero]); exact HS.out _ b1
      clear hK K
      try rw [route_zero] at hHeld
      (try simp only [Act.put]); (try simp only [List.setIfInBounds_toArray]); (try simp only [List.set_cons_succ]); (try simp only [List.set_cons_zero])
      try rw [route_zero]
      generalize w0.heap.size = gp at *
      generalize w0.alloc _ = w1 at *
      iterate 1
        (try dsimp only [List.getElem_toArray, List.getElem_cons_succ, List.getElem_cons_zero])
        (try simp only [Act.put]); (try simp only [List.setIfInBounds_toArray]); (try simp only [List.set_cons_succ]); (try simp only [List.set_cons_zero])
      refine wpAnyH_ready (rs := [10]) (by kernel_rfl) (by simp) ?_
      refine AllReadyH.cons rfl (fun K hK => ?_) ?_
      rotate_left
      · exact AllReadyH.nil
      go_simp
      go_wp2_with (go_at_call 10; (with_reducible refine (HC.out _ b1).mono ?_); rintro e w2 ⟨⟨a9, c9, rfl, o9⟩, k1⟩)
      have b2 := b1.trans (k1.mono b1.size)
      have ap9 : ∀ k, (Value.slice a9 A.length c9).ownBlock = some k → k ≠ gp := fun k hk e => by have h1 := (o9.lt k hk).1; have h2 := x2.lt; omega
      have x2 := x2.bel k1
      refine hK.out _ _ ?_ (fun hHeld => ?_)
      · exact HS.out _ b2
      clear hK K
      (try simp only [Act.put]); (try simp only [List.setIfInBounds_toArray]); (try simp only [List.set_cons_succ]); (try simp only [List.set_cons_zero])
      iterate 1
        (try dsimp only [List.getElem_toArray, List.getElem_cons_succ, List.getElem_cons_zero])
        (try simp only [Act.put]); (try simp only [List.setIfInBounds_toArray]); (try simp only [List.set_cons_succ]); (try simp only [List.set_cons_zero])
      refine wpAnyH_take (i := 11) (v := ?_) rfl (by kernel_rfl) (by kernel_rfl) (by kernel_rfl) (fun _ _ _ h => h) (Or.inl ⟨by rfl, ?_⟩) (by assumption) ?_
      rotate_left
      · intro w9 hSw
        (try dsimp only at hSw)
        go_simp
        (try with_reducible rfl)
      (try simp only [Act.put]); (try simp only [List.setIfInBounds_toArray]); (try simp only [List.set_cons_succ]); (try simp only [List.set_cons_zero])
      iterate 1
        (try dsimp only [List.getElem_toArray, List.getElem_cons_succ, List.getElem_cons_zero])
        (try simp only [Act.put]); (try simp only [List.setIfInBounds_toArray]); (try simp only [List.set_cons_succ]); (try simp only [List.set_cons_zero])
      refine wpAnyH_take (i := 12) (v := ?_) rfl (by kernel_rfl) (by kernel_rfl) (by kernel_rfl) (fun _ _ _ h => h) (Or.inl ⟨by rfl, ?_⟩) (by assumption) ?_
      rotate_left
      · intro w9 hSw
        (try dsimp only at hSw)
        go_simp
        (try with_reducible rfl)
      (try simp only [Act.put]); (try simp only [List.setIfInBounds_toArray]); (try simp only [List.set_cons_succ]); (try simp only [List.set_cons_zero])
      iterate 1
        (try dsimp only [List.getElem_toArray, List.getElem_cons_succ, List.getElem_cons_zero])
        (try simp only [Act.put]); (try simp only [List.setIfInBounds_toArray]); (try simp only [List.set_cons_succ]); (try simp only [List.set_cons_zero])
      refine wpAnyH_take (i := 13) (v := ?_) rfl (by kernel_rfl) (by kernel_rfl) (by kernel_rfl) (fun _ _ _ h => h) (Or.inl ⟨by rfl, ?_⟩) (by assumption) ?_
      rotate_left
      · intro w9 hSw
        (try dsimp only at hSw)
        go_simp
        (try with_reducible rfl)
      (try simp only [Act.put]); (try simp only [List.setIfInBounds_toArray]); (try simp only [List.set_cons_succ]); (try simp only [List.set_cons_zero])
      iterate 1
        (try dsimp only [List.getElem_toArray, List.getElem_cons_succ, List.getElem_cons_zero])
        (try simp only [Act.put]); (try simp only [List.setIfInBounds_toArray]); (try simp only [List.set_cons_succ]); (try simp only [List.set_cons_zero])
      refine wpAnyH_ready (rs := [15]) (by kernel_rfl) (by simp) ?_
      refine AllReadyH.cons rfl (fun K hK => ?_) ?_
      rotate_left
      · exact AllReadyH.nil
      rw [if_pos (by rfl)]
      have b9 := bel_setRow b2 l2 (rtA (Value.slice a9 A.length c9) en)
      have x9 := x2.set (Value.slice a9 A.length c9) en
      have o9 := own_keep o9 (fun k hk => Go.setRow_other _ _ k (rtA (Value.slice a9 A.length c9) en) (ap9 k hk))
      refine wp_store_row 30 _ _ rfl gp (rtA (Value.slice a9 A.length c9) en) rfl rfl 30 (rtA nilS (0, 0)) x2 (by rw [rtA_size]; exact sizeR) (by rw [rtA_size, rtA_size]) (rtA_one en rfl) ?_
      refine hK.out _ _ ?_ (fun hHeld => ?_)
      · exact HS.out _ b9
      clear hK K
      (try simp only [Act.put]); (try simp only [List.setIfInBounds_toArray]); (try simp only [List.set_cons_succ]); (try simp only [List.set_cons_zero])
      generalize w2.setRow gp _ = w9 at *
      iterate 1
        (try dsimp only [List.getElem_toArray, List.getElem_cons_succ, List.getElem_cons_zero])
        (try simp only [Act.put]); (try simp only [List.setIfInBounds_toArray]); (try simp only [List.set_cons_succ]); (try simp only [List.set_cons_zero])
      refine wpAnyH_take (i := 16) (v := ?_) rfl (by kernel_rfl) (by kernel_rfl) (by kernel_rfl) (fun _ _ _ h => h) (Or.inl ⟨by rfl, ?_⟩) (by assumption) ?_
      rotate_left
      · intro w9 hSw
        (try dsimp only at hSw)
        go_simp
        (try with_reducible rfl)
      (try simp only [Act.put]); (try simp only [List.setIfInBounds_toArray]); (try simp only [List.set_cons_succ]); (try simp only [List.set_cons_zero])
      iterate 1
        (try dsimp only [List.getElem_toArray, List.getElem_cons_succ, List.getElem_cons_zero])
        (try simp only [Act.put]); (try simp only [List.setIfInBounds_toArray]); (try simp only [List.set_cons_succ]); (try simp only [List.set_cons_zero])
      refine wpAnyH_done (by kernel_rfl) ?_ _
      go_wp2
      go_meet
      exact CaR.mk b9 x9 (nums_own o9) l2
    exact AllReadyH.nil
  case rest =>
    obtain ⟨gp, ha, hc, rfl, rfl, k4, Q4, N4, l4⟩ := hcut
    obtain ⟨b1, o1, c1, e1, r1, l1⟩ := N4.some (by omega)
    simp only [Value.slice.injEq] at e1
    obtain ⟨rfl, en1, rfl⟩ := e1
    have p0 := Q4.ch
    have lgp := Q4.lt
    have lbb : bb < wc.heap.size := Nat.lt_of_lt_of_le hl3 k4.size
    have p1 := Q4.pe
    have po : wc.rangeAt bb (oo + oa * 21) (peC en) := row_peer (range_bel HL3.out k4 hl3) hyo.out
    have ci := (HS.out _ k4).1
    have ch : wc.cell? ⟨b1, o1, none⟩ = some (.int .i64 x0) := by
      have h := nums_cell r1 (i := 0) (by omega)
      rw [HA0.out] at h
      exact h
    have ch2 : wc.cell? ⟨b1, o1 + 0, none⟩ = some (.int .i64 x0) := ch
    have es := eqP_self en
    have ex : (x0 == x0) = true := by simp
    have f1 : decide ((1 : Int) ≤ (A.length : Int)) = true := decide_eq_true (by omega)
    have f2 : decide ((A.length : Int) ≤ (n : Int)) = true := decide_eq_true (by omega)
    have f2n : decide (A.length ≤ n) = true := decide_eq_true (by omega)
    have f1n : decide (1 ≤ A.length) = true := decide_eq_true (by omega)
    have f1m : decide (0 < A.length) = true := decide_eq_true (by omega)
    have f3 : (0 : Int) < (A.length : Int) := by omega
    have HW : GivesW wc 12 #[] (.bool true) := fun wx _ => walked_any wx
    have HW2 := Lib.hid HW
    have HB4 := Lib.hid (belTo hg B3 k4)
    clear HW N4 Q4 k4 en1 HC HX HT HL3 HS B3 B2 B1
    go_upto_region 8 with (fail)
    refine wp_region_quiet_below (by kernel_rfl) (by kernel_rfl) ?_
    repeat (first
      | go_big_quiet_skip
      | (go_big_quiet_want
         first
         | (first | (refine q_midP _ rfl gp 1 rfl en p1 ?_) | (refine q_midP _ rfl bb (oo + oa * 21) rfl en po ?_) | (refine q_eqlP _ _ rfl en en rfl rfl es ?_) | (refine q_cellS _ rfl gp 0 rfl _ p0 lgp ?_) | (refine q_cellN _ rfl b1 o1 rfl _ ch l1 ?_) | (refine q_cellN _ rfl bb (oo + i * 21) rfl _ ci lbb ?_)
            simp only [Act.put, List.setIfInBounds_toArray, List.set_cons_succ, List.set_cons_zero]
            go_big_quiet_on)
         | (go_big_quiet_op
            first | go_big_quiet_on | go_big_quiet_call (with_reducible exact HW2.out.grown _ _))))
    refine wpQuiet_nil ?_
    intro w5 hw'
    have hb2 := quiet_end hw'
    clear hw'
    have HB5 := Lib.hid (belTo hg HB4.out hb2)
    clear hb2
    go_wp2
    go_ret
    exact ⟨rfl, by (try rw [hg]); exact HB5.out⟩
theorem walk {w : World} {v : Value} {L : List Pe} (hL : Lies w v L) (hw : Wf L) (r : Int) (_ : -9223372036854775808 ≤ r ∧ r ≤ 9223372036854775807) (i : Int) (_ : -9223372036854775808 ≤ i ∧ i ≤ 9223372036854775807) (id : Nat) (hid : id < M) :
    Calls Try.prog 5 #[v, .int .i64 r, .int .i64 i, idv id] w fun e w' => e = .returned (.bool true) ∧ Below w.heap.size w w' := by
  by_cases hn : L.length ≤ 100
  · cases hok : isB L && okS r
    · exact walk_no r i id hid hL hw hn hok
    · rw [Bool.and_eq_true] at hok
      have hC : Circ L := of_decide_eq_true hok.1
      have h2 := hok.2
      unfold okS at h2
      rw [Bool.and_eq_true, decide_eq_true_eq, decide_eq_true_eq] at h2
      obtain ⟨m, rfl⟩ : ∃ m : Nat, r = (m : Int) := ⟨r.toNat, by omega⟩
      by_cases hi : 0 ≤ i ∧ i < (L.length : Int)
      · obtain ⟨q, rfl⟩ : ∃ q : Nat, i = (q : Int) := ⟨i.toNat, by omega⟩
        exact walk_in m q id hid hL hw hC (by omega) (by omega) (by omega)
      · exact walk_off m i id hid hL hw hC (by omega) (by omega) (by omega)
  · obtain ⟨a, c, rfl⟩ := hL.form
    have d1 : decide ((100 : Int) < (L.length : Int)) = true := decide_eq_true (by omega)
    have d2 : (100 : Int) < (L.length : Int) := by omega
    clear hL hw
    rw [show idv id = .agg (row (dig 20 id)) from rfl]
    go_enter Try.func5, Try.ntmps5
    go_upto_region 1 with (fail)
    have i1 := At.new w id
    have B1 := (Below.refl w.heap.size w).alloc (Nat.le_refl _) (.cells (row (dig 20 id)) 24)
    generalize hg : w.heap.size = g at *
    generalize w.alloc _ = w1 at *
    go_wp2
    go_ret
    exact ⟨rfl, by (try rw [hg]); exact B1⟩
set_option maxRecDepth 100000 in
theorem lifted (os : Os) (started : os.Started) (H : Type) (enc : TypeId × Value → H) :
    ReturnsInHanded {} Try.checked os 5 .any (Rows.walkEndsSpec.pre6 enc Try.prog Try.f5 Rows.walkEndsRow.domain false) (Rows.walkEndsSpec.post enc Try.prog Try.f5 false true false false) := by
  refine returnsInHanded_of_change (C := Try.checked) own started (by kernel_rfl) Try.func5
    (ChangeSpec.witness6 (enc := enc) (C := Try.checked) false ⟨#[], #[.slice none 0 0, .int .i64 0, .int .i64 0, .agg #[.int .u8 0, .int .u8 0, .int .u8 0, .int .u8 0, .int .u8 0, .int .u8 0, .int .u8 0, .int .u8 0, .int .u8 0, .int .u8 0, .int .u8 0, .int .u8 0, .int .u8 0, .int .u8 0, .int .u8 0, .int .u8 0, .int .u8 0, .int .u8 0, .int .u8 0, .int .u8 0]], []⟩ 8 (by kernel_rfl) (by kernel_rfl) (by kernel_rfl) (by kernel_rfl)) ?_
  intro W base args ds gs before hval0 hW hcnd _
  have hval : ∀ (j : Nat) t v, Try.f5.params[j]? = some t → args[j]? = some v → Value.okWide Try.prog W .any base t v := hval0
  have hW' := hW
  obtain ⟨p, q, hA0, hV, rfl, hfz, hnd⟩ := hW
  have hA : DataW.TrodAll enc Try.prog W 0 (fun _ => true) true Try.f5.params.toList args.toList ds p := hA0
  rw [Try.params5] at hA hval
  obtain ⟨v0, vs0, d0, ds0, p0, q0, hargs, rfl, rfl, h0, r0⟩ := trodAll_cons hA
  obtain ⟨v1, vs1, d1, ds1, p1, q1, rfl, rfl, rfl, h1, r1⟩ := trodAll_cons r0
  obtain ⟨v2, vs2, d2, ds2, p2, q2, rfl, rfl, rfl, h2, r2⟩ := trodAll_cons r1
  obtain ⟨v3, vs3, d3, ds3, p3, q3, rfl, rfl, rfl, h3, r3⟩ := trodAll_cons r2
  obtain ⟨rfl, rfl, rfl⟩ := trodAll_nil r3
  obtain rfl : args = #[v0, v1, v2, v3] := by cases args; simp_all
  obtain ⟨rfl, rfl⟩ := trodVars_none hV
  have k0 := h0
  have lt0 : ∀ x ∈ p0, x.block < W.heap.size := by obtain ⟨m, hm⟩ := k0; exact DataW.trod_lt m _ _ _ hm
  obtain ⟨L0, ls0, wf0⟩ := open_peers (hval 0 37 v0 rfl rfl) h0
  have k1 := h1
  have lt1 : ∀ x ∈ p1, x.block < W.heap.size := by obtain ⟨m, hm⟩ := k1; exact DataW.trod_lt m _ _ _ hm
  obtain ⟨n1, bd1, rfl⟩ := open_i64 (hval 1 3 v1 rfl rfl) h1
  have k2 := h2
  have lt2 : ∀ x ∈ p2, x.block < W.heap.size := by obtain ⟨m, hm⟩ := k2; exact DataW.trod_lt m _ _ _ hm
  obtain ⟨n2, bd2, rfl⟩ := open_i64 (hval 2 3 v2 rfl rfl) h2
  have k3 := h3
  have lt3 : ∀ x ∈ p3, x.block < W.heap.size := by obtain ⟨m, hm⟩ := k3; exact DataW.trod_lt m _ _ _ hm
  obtain ⟨n3, il3, rfl⟩ := open_id (hval 3 24 v3 rfl rfl) h3
  clear hA0 hval0
  refine (walk ls0 wf0 n1 bd1 n2 bd2 n3 il3).mono fun e W' ⟨he, bel⟩ => ?_
  subst he
  exact ⟨_, rfl, _, _, _, [], _, [], hW', trodAll_mk1 (shut_bool Try.underlying4 _), (trodAll_cons_mk (Below.trod laidOut (by kernel_rfl) (of_decide_eq_true (by kernel_rfl)) k0 bel lt0) (trodAll_cons_mk (Below.trod laidOut (by kernel_rfl) (of_decide_eq_true (by kernel_rfl)) k1 bel lt1) (trodAll_cons_mk (Below.trod laidOut (by kernel_rfl) (of_decide_eq_true (by kernel_rfl)) k2 bel lt2) (trodAll_cons_mk (Below.trod laidOut (by kernel_rfl) (of_decide_eq_true (by kernel_rfl)) k3 bel lt3) trodAll_mk0)))), rfl, bel.frame _, fun h => by cases h⟩

theorem proved : Rows.WalkEndsSaid :=
  OpenClaim.holds_of_wide 5 Try.f5 rfl rfl rfl rfl rfl rfl rfl ⟨rfl, rfl, rfl, rfl, rfl⟩ rfl rfl rfl rfl rfl (by kernel_rfl) Try.func5 (by kernel_rfl)
    (of_decide_eq_true (by kernel_rfl)) (by unfold Func.isWrapper; first | (rw [if_pos (by decide +kernel)]; kernel_rfl) | (rw [if_neg (by decide +kernel)]; exact ⟨rfl, rfl⟩))
    (fun os started H enc _ => lifted os started H enc)
end Go.Proofs.Ytfajfmcabpmchaa.EndsLaw
