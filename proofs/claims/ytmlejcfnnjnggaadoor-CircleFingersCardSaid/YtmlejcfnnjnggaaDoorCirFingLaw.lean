/- CircleFingers: for all peers and any place the call returns true: each finger is the peer that is the nearest one, clockwise, from where it begins. No condition but that the package variables read as the program's text lays them. -/
import Derived.Test.YtmlejcfnnjnggaaDoorCirOpen
namespace Go.Proofs.YtmlejcfnnjnggaaDoor.FingLaw
set_option maxRecDepth 100000
open Go Go.ChangeShapes Go.WideShapes Go.ChangeAt Go.RowKit Go.Sort

set_option maxHeartbeats 2000000 in
theorem walk_long {w : World} {v : Value} {L : List Pe} (i : Int) (hL : Lies w v L) (h : 100 < L.length) : Calls Tryd.prog 7 #[v, .int .i64 i] w fun e w' => e = .returned (.bool true) ∧ Below w.heap.size w w' := by
  obtain ⟨a, c, rfl⟩ := hL.form
  clear hL
  generalize L.length = n at *
  have d1 : decide ((100 : Int) < (n : Int)) = true := decide_eq_true (by omega)
  go_enter Tryd.func7, Tryd.ntmps7
  go_wp2
  go_ret
  exact ⟨rfl, Below.refl _ _⟩
set_option maxHeartbeats 4000000 in
theorem walk_no {w : World} {v : Value} {L : List Pe} (i : Int) (hG : Glob w) (hL : Lies w v L) (hw : Wf L) (hp : plB L i = false) (h : L.length ≤ 100) : Calls Tryd.prog 7 #[v, .int .i64 i] w fun e w' => e = .returned (.bool true) ∧ Below w.heap.size w w' := by
  have L0 := hL
  obtain ⟨a, c, rfl⟩ := hL.form
  have HO := Lib.hid (Fingers_no i L0 hw (by omega) hp)
  have HR : Hid (∀ w1, Below w.heap.size w w1 → Calls Tryd.prog 10 #[] w1 fun e w' => e = .returned (.bool true) ∧ Below w1.heap.size w1 w') := fun w1 hb => rounded_any w1 (hG.later hb)
  have d1 : decide ((100 : Int) < (L.length : Int)) = false := decide_eq_false (by omega)
  clear hL hw hG hp h L0
  generalize L.length = n at *
  go_enter Tryd.func7, Tryd.ntmps7
  go_wp2_with (first
    | (go_at_call 18; (with_reducible refine HO.out.mono ?_); rintro e w1 ⟨rfl, b1⟩)
    | (go_at_call 10; (with_reducible refine (HR.out _ b1).mono ?_); rintro e w2 ⟨rfl, k2⟩; have b2 := step b1 k2))
  go_ret
  exact ⟨rfl, b2⟩
theorem fingers_form {w : World} {v : Value} {L : List Pe} (k : Nat) (hL : Lies w v L) (hw : Wf L) (hC : Circ L) (hk : k < L.length) :
    Calls Tryd.prog 18 #[v, .int .i64 (k : Int)] w fun e w' => ∃ g f c, e = .returned (.tuple #[.slice (some ⟨g, f, none⟩) 160 c, .int .i64 0]) ∧ (∀ q, q < 160 → w'.cell? ⟨g, f + q, none⟩ = some (.int .i64 ((ownN L ((pn L k + 2 ^ q) % M) : Nat) : Int))) ∧ g < w'.heap.size ∧ Below w.heap.size w w' := by
  refine (Fingers_yes k hL hw hC hk).mono ?_
  rintro e w' ⟨u, rfl, h, b⟩
  obtain ⟨g, f, c, rfl, hr, hg⟩ := (own_nums h).some (by rw [fingN_len]; omega)
  rw [fingN_len]
  refine ⟨g, f, c, rfl, fun q hq => hr q _ ?_, hg, b⟩
  unfold ints fingN
  simp [hq]
set_option maxHeartbeats 40000000 in
theorem walk_yes {w : World} {v : Value} {L : List Pe} (i : Nat) (hG : Glob w) (hL : Lies w v L) (hw : Wf L) (hC : Circ L) (hi : i < L.length) : Calls Tryd.prog 7 #[v, .int .i64 (i : Int)] w fun e w' => e = .returned (.bool true) ∧ Below w.heap.size w w' := by
  obtain ⟨b, o, c, rfl, hc, hr, hb0⟩ := hL.some hC.pos.1
  have HO := Lib.hid (fingers_form i hL hw hC hi)
  have HR : Hid (∀ w1, Below w.heap.size w w1 → Calls Tryd.prog 10 #[] w1 fun e w' => e = .returned (.bool true) ∧ Below w1.heap.size w1 w') := fun w1 hb => rounded_any w1 (hG.later hb)
  have HP : Hid (∀ (q : Nat) (w1 : World), q < L.length → Below w.heap.size w w1 → w1.rangeAt b (o + q * 21 + 1) (row (dig 20 (pn L q))).toList) := fun q w1 hq hb => range_bel (pe_id (row_peer hr (at_get hq))) hb hb0
  have HNear : Hid (∀ (t j : Nat), t < M → j < L.length → lessB (sub (pn L j) t) (sub (pn L (ownN L t)) t) = false) := fun t j ht hj => own_near hC hw ht hj
  have HLt : Hid (∀ t, ownN L t < L.length) := own_lt hC.pos.1
  have h16 := hC.1.2
  clear hL hw hG hC hr hc
  have d1 : decide ((100 : Int) < (L.length : Int)) = false := decide_eq_false (by omega)
  have d2 : decide ((i : Int) < 0) = false := decide_eq_false (by omega)
  have d3 : decide ((L.length : Int) ≤ (i : Int)) = false := decide_eq_false (by omega)
  have hi' : (i : Int) < (L.length : Int) := by omega
  have hi0 : (0 : Int) ≤ (i : Int) := by omega
  generalize L.length = n at *
  go_enter Tryd.func7, Tryd.ntmps7
  go_wp2_with (first
    | (go_at_call 18; (with_reducible refine HO.out.mono ?_); rintro e w1 ⟨fg, fo, fc, rfl, hf, hfg, b1⟩; have HFc := Lib.hid hf; clear hf))
  have HB1 := Lib.hid b1
  clear b1 HO
  go_loopw [7] (fun k wr => ∃ q : Nat, q ≤ 160 ∧ k = .int .i64 (q : Int) ∧ Below w1.heap.size w1 wr) (fun k _ => 160 - (intOf k).toNat)
  case atStart => exact ⟨0, by omega, rfl, Below.refl _ _⟩
  case round =>
    obtain ⟨q, hq, rfl, hbr⟩ := hrel
    have HBo1 := Lib.hid hbr
    have HBo := Lib.hid (step HB1.out hbr)
    have hbwr : b < wr.heap.size := by have := HBo.out.size; omega
    have hfgr : fg < wr.heap.size := by have := hbr.size; omega
    clear hbr
    by_cases hlt : q < 160
    rotate_left
    · have hq' : ¬ ((q : Int) < 160) := by omega
      have dq : decide ((q : Int) < 160) = false := decide_eq_false hq'
      go_wp2_with (go_at_call 10; (with_reducible refine (HR.out _ HBo.out).mono ?_); rintro e w2 ⟨rfl, k2⟩)
      go_ret
      exact ⟨rfl, step HBo.out k2⟩
    · have hq' : (q : Int) < 160 := by omega
      have HPw := Lib.hid (fun w1 => power_yes q w1 hlt)
      obtain ⟨sq, hsq⟩ : ∃ sq, sq = (pn L i + 2 ^ q) % M := ⟨_, rfl⟩
      obtain ⟨z, hz⟩ : ∃ z, z = ownN L sq := ⟨_, rfl⟩
      have hzn : z < n := by rw [hz]; exact HLt.out sq
      have HN2 : Hid (∀ j, j < n → lessB (sub (pn L j) sq) (sub (pn L z) sq) = false) := fun j hj => by
        rw [hz]; exact HNear.out sq j (by rw [hsq]; exact Nat.mod_lt _ M_pos) hj
      have cq := HFc.out q hlt
      rw [← hsq, ← hz] at cq
      have cr : wr.cell? ⟨fg, fo + q, none⟩ = some (.int .i64 (z : Int)) := cell_keep hfg cq HBo1.out
      have HPl : Hid (∀ w1, Calls Tryd.prog 25 #[idv (pn L i), idv (2 ^ q)] w1 fun e w' => e = .returned (idv sq) ∧ Below w1.heap.size w1 w') := fun w1 => by
        rw [show idv sq = idv (pn L i + 2 ^ q) by rw [hsq, idv_mod]]
        exact plus_any (pn L i) (2 ^ q) w1
      have rir := HP.out i wr hi HBo.out
      have rzr := HP.out z wr hzn HBo.out
      clear cq hsq hz
      generalize pn L i = x at *
      generalize hy : pn L z = y at *
      have d5 : decide ((z : Int) < 0) = false := decide_eq_false (by omega)
      have d6 : decide ((n : Int) ≤ (z : Int)) = false := decide_eq_false (by omega)
      have hzn' : (z : Int) < (n : Int) := by omega
      go_upto_region 12 with (first
        | (go_at_call 24; (with_reducible refine (HPw.out _).mono ?_); rintro e w2 ⟨rfl, hb2⟩)
        | (refine wpList_store_new rfl rfl _ _ rfl (2 ^ q) rfl rfl ?_))
      (try simp only [Act.put])
      have B2 : Below wr.heap.size wr (w2.alloc (.cells (row (dig 20 (2 ^ q))) 32)) := hb2.alloc hb2.size _
      have I2 := At.new w2 (2 ^ q)
      generalize hW : w2.alloc _ = W at *
      clear hW hb2 HPw
      generalize w2.heap.size = g8 at *
      have c12 := cell_keep hfgr cr B2
      have r1 := range_bel rir B2 hbwr
      have rzW := range_bel rzr B2 hbwr
      have r2 : W.rangeAt g8 0 (row (dig 20 (2 ^ q))).toList := blk_range I2
      have hg8 := I2.lt
      have hbW : b < W.heap.size := by have := B2.size; omega
      have hfgW : fg < W.heap.size := by have := B2.size; omega
      have HBW := Lib.hid B2
      clear B2 I2 cr rir rzr
      go_upto_region 14 with (fail)
      refine wp_region_held_drew (S := (fun w9 => w9.rangeAt b (o + i * 21 + 1) (row (dig 20 x)).toList ∧ w9.rangeAt g8 0 (row (dig 20 (2 ^ q))).toList)) (by kernel_rfl) ?_ (fun hHeld => ?_)
      · exact ⟨r1, r2⟩
      have hX : Below W.heap.size W W.drew := drew_bel W
      generalize W.drew = W1 at *
      refine wpAnyH_take (i := 0) (v := ?_) rfl (by kernel_rfl) (by kernel_rfl) (by kernel_rfl) (fun _ _ _ h => h) (Or.inl ⟨by rfl, ?_⟩) (by assumption) ?_
      rotate_left
      · intro w9 hSw
        (try dsimp only at hSw)
        go_simp
        (try with_reducible rfl)
      (try simp only [Act.put]); (try simp only [List.setIfInBounds_toArray]); (try simp only [List.set_cons_succ]); (try simp only [List.set_cons_zero])
      refine wpAnyH_take (i := 1) (v := ?_) rfl (by kernel_rfl) (by kernel_rfl) (by kernel_rfl) (fun _ _ _ h => h) (Or.inl ⟨by rfl, ?_⟩) (by assumption) ?_
      rotate_left
      · intro w9 hSw
        (try dsimp only at hSw)
        go_simp
        (try with_reducible rfl)
      (try simp only [Act.put]); (try simp only [List.setIfInBounds_toArray]); (try simp only [List.set_cons_succ]); (try simp only [List.set_cons_zero])
      refine wpAnyH_take (i := 2) (v := ?_) rfl (by kernel_rfl) (by kernel_rfl) (by kernel_rfl) (fun _ _ _ h => h) (Or.inl ⟨by rfl, ?_⟩) (by assumption) ?_
      rotate_left
      · intro w9 hSw
        (try dsimp only at hSw)
        go_simp
        (try with_reducible rfl)
      (try simp only [Act.put]); (try simp only [List.setIfInBounds_toArray]); (try simp only [List.set_cons_succ]); (try simp only [List.set_cons_zero])
      refine wpAnyH_take (i := 3) (v := ?_) rfl (by kernel_rfl) (by kernel_rfl) (by kernel_rfl) (fun _ _ _ h => h) (Or.inl ⟨by rfl, ?_⟩) (by assumption) ?_
      rotate_left
      · intro w9 hSw
        (try dsimp only at hSw)
        go_simp
        (try with_reducible rfl)
      (try simp only [Act.put]); (try simp only [List.setIfInBounds_toArray]); (try simp only [List.set_cons_succ]); (try simp only [List.set_cons_zero])
      iterate 4
        (try dsimp only [List.getElem_toArray, List.getElem_cons_succ, List.getElem_cons_zero])
        (try simp only [Act.put]); (try simp only [List.setIfInBounds_toArray]); (try simp only [List.set_cons_succ]); (try simp only [List.set_cons_zero])
      refine wpAnyH_take (i := 4) (oi := { dst := some 76, op := .load 32 (.tmp 75), type := 32, pos := "law.go:113", after := #[{ on := 3, ground := .data }], guard := none }) (v := idv x) rfl (by kernel_rfl) (by kernel_rfl) (by kernel_rfl) (fun _ _ _ h => h) (y_midI (by rfl) (.tmp 75) rfl b (o + i * 21 + 1) rfl x (fun _ h => h.1)) (by assumption) ?_
      (try simp only [Act.put]); (try simp only [List.setIfInBounds_toArray]); (try simp only [List.set_cons_succ]); (try simp only [List.set_cons_zero])
      refine wpAnyH_take (i := 5) (oi := { dst := some 77, op := .load 32 (.tmp 8), type := 32, pos := "law.go:113", after := #[], guard := none }) (v := idv (2 ^ q)) rfl (by kernel_rfl) (by kernel_rfl) (by kernel_rfl) (fun _ _ _ h => h) (y_midI (by rfl) (.tmp 8) rfl g8 0 rfl (2 ^ q) (fun _ h => h.2)) (by assumption) ?_
      (try simp only [Act.put]); (try simp only [List.setIfInBounds_toArray]); (try simp only [List.set_cons_succ]); (try simp only [List.set_cons_zero])
      refine wpAnyH_ready (rs := [6, 7]) (by kernel_rfl) (by simp) ?_
      refine AllReadyH.cons rfl (fun K hK => ?_) ?_
      · go_simp
        go_wp2_with (go_at_call 25; (with_reducible refine (HPl.out _).mono ?_); rintro e w3 ⟨rfl, hb3⟩; have hX3 := step hX hb3)
        refine hK.out _ _ ?_ (fun hHeld => ?_)
        · exact ⟨range_bel r1 hX3 hbW, range_bel r2 hX3 hg8⟩
        clear hK K
        (try simp only [Act.put]); (try simp only [List.setIfInBounds_toArray]); (try simp only [List.set_cons_succ]); (try simp only [List.set_cons_zero])
        refine wpAnyH_ready (rs := [7]) (by kernel_rfl) (by simp) ?_
        refine AllReadyH.cons rfl (fun K hK => ?_) ?_
        rotate_left
        · exact AllReadyH.nil
        go_simp
        skip
        refine hK.out _ _ ?_ (fun hHeld => ?_)
        · exact ⟨range_bel r1 (hX3.alloc hX3.size _) hbW, range_bel r2 (hX3.alloc hX3.size _) hg8⟩
        clear hK K
        (try simp only [Act.put]); (try simp only [List.setIfInBounds_toArray]); (try simp only [List.set_cons_succ]); (try simp only [List.set_cons_zero])
        clear hHeld
        rw [row_zero]
        have Z := At.new w3 0
        refine wpAnyH_ready (rs := [8]) (by kernel_rfl) (by simp) ?_
        refine AllReadyH.cons rfl (fun K hK => ?_) ?_
        rotate_left
        · exact AllReadyH.nil
        rw [if_pos (by rfl)]
        refine wp_store_row 32 _ _ rfl w3.heap.size (row (dig 20 sq)) rfl rfl 32 (row (dig 20 0)) Z (by rw [row_size, dig_length]; exact Tryd.info23) (by rw [row_size, row_size, dig_length, dig_length]) (row_one _) ?_
        refine hK.out _ _ ?_ (fun hHeld => ?_)
        · exact ⟨range_bel r1 (bel_setRow (hX3.alloc hX3.size _) hX3.size _) hbW, range_bel r2 (bel_setRow (hX3.alloc hX3.size _) hX3.size _) hg8⟩
        clear hK K
        (try simp only [Act.put]); (try simp only [List.setIfInBounds_toArray]); (try simp only [List.set_cons_succ]); (try simp only [List.set_cons_zero])
        iterate 2
          (try dsimp only [List.getElem_toArray, List.getElem_cons_succ, List.getElem_cons_zero])
          (try simp only [Act.put]); (try simp only [List.setIfInBounds_toArray]); (try simp only [List.set_cons_succ]); (try simp only [List.set_cons_zero])
        refine wpAnyH_done (by kernel_rfl) ?_ _
        have X : At _ w3.heap.size sq := Blk.setRow Z _
        have BW : Below W.heap.size W ((w3.alloc (.cells (row (dig 20 0)) 32)).setRow w3.heap.size (row (dig 20 sq))) := bel_setRow (hX3.alloc hX3.size _) hX3.size _
        clear hHeld hX hX3 hb3 Z
        generalize (w3.alloc _).setRow _ _ = V at *
        generalize w3.heap.size = g at *
        clear r1 r2 hg8
        have X10 := X
        have B14 := step HBW.out BW
        have cz := cell_keep hfgW c12 BW
        have rz := range_bel rzW BW hbW
        have r10 : V.rangeAt g 0 (row (dig 20 sq)).toList := blk_range X10
        have hg10 := X10.lt
        have hbV : b < V.heap.size := by have := BW.size; omega
        have hfgV : fg < V.heap.size := by have := BW.size; omega
        clear X BW c12 rzW
        go_upto_region 15 with (fail)
        generalize hV : V = V14 at *
        clear hV
        generalize g = g10 at *
        have HX10 := Lib.hid X10
        have HN1 := Lib.hid (fun w1 => minus_all y sq w1)
        clear X10
        refine wp_region_held_drew (S := (fun w9 => w9.cell? ⟨fg, fo + q, none⟩ = some (.int .i64 (z : Int)) ∧ w9.rangeAt b (o + z * 21 + 1) (row (dig 20 y)).toList ∧ w9.rangeAt g10 0 (row (dig 20 sq)).toList)) (by kernel_rfl) ?_ (fun hHeld => ?_)
        · exact ⟨cz, rz, r10⟩
        have hX : Below V14.heap.size V14 V14.drew := drew_bel V14
        generalize V14.drew = W1 at *
        refine wpAnyH_take (i := 0) (v := ?_) rfl (by kernel_rfl) (by kernel_rfl) (by kernel_rfl) (fun _ _ _ h => h) (Or.inl ⟨by rfl, ?_⟩) (by assumption) ?_
        rotate_left
        · intro w9 hSw
          (try dsimp only at hSw)
          go_simp
          (try with_reducible rfl)
        (try simp only [Act.put]); (try simp only [List.setIfInBounds_toArray]); (try simp only [List.set_cons_succ]); (try simp only [List.set_cons_zero])
        refine wpAnyH_take (i := 1) (v := ?_) rfl (by kernel_rfl) (by kernel_rfl) (by kernel_rfl) (fun _ _ _ h => h) (Or.inl ⟨by rfl, ?_⟩) (by assumption) ?_
        rotate_left
        · intro w9 hSw
          (try dsimp only at hSw)
          go_simp
          (try with_reducible rfl)
        (try simp only [Act.put]); (try simp only [List.setIfInBounds_toArray]); (try simp only [List.set_cons_succ]); (try simp only [List.set_cons_zero])
        refine wpAnyH_take (i := 2) (v := ?_) rfl (by kernel_rfl) (by kernel_rfl) (by kernel_rfl) (fun _ _ _ h => h) (Or.inl ⟨by rfl, ?_⟩) (by assumption) ?_
        rotate_left
        · intro w9 hSw
          (try dsimp only at hSw)
          go_simp
          (try with_reducible rfl)
        (try simp only [Act.put]); (try simp only [List.setIfInBounds_toArray]); (try simp only [List.set_cons_succ]); (try simp only [List.set_cons_zero])
        refine wpAnyH_take (i := 3) (v := ?_) rfl (by kernel_rfl) (by kernel_rfl) (by kernel_rfl) (fun _ _ _ h => h) (Or.inl ⟨by rfl, ?_⟩) (by assumption) ?_
        rotate_left
        · intro w9 hSw
          (try dsimp only at hSw)
          go_simp
          (try with_reducible rfl)
        (try simp only [Act.put]); (try simp only [List.setIfInBounds_toArray]); (try simp only [List.set_cons_succ]); (try simp only [List.set_cons_zero])
        iterate 4
          (try dsimp only [List.getElem_toArray, List.getElem_cons_succ, List.getElem_cons_zero])
          (try simp only [Act.put]); (try simp only [List.setIfInBounds_toArray]); (try simp only [List.set_cons_succ]); (try simp only [List.set_cons_zero])
        refine wpAnyH_take (i := 4) (v := ?_) rfl (by kernel_rfl) (by kernel_rfl) (by kernel_rfl) (fun _ _ _ h => h) (Or.inl ⟨by rfl, ?_⟩) (by assumption) ?_
        rotate_left
        · intro w9 hSw
          obtain ⟨hSc, -, -⟩ := hSw
          go_simp
          (try with_reducible rfl)
        (try simp only [Act.put]); (try simp only [List.setIfInBounds_toArray]); (try simp only [List.set_cons_succ]); (try simp only [List.set_cons_zero])
        refine wpAnyH_take (i := 5) (v := ?_) rfl (by kernel_rfl) (by kernel_rfl) (by kernel_rfl) (fun _ _ _ h => h) (Or.inl ⟨by rfl, ?_⟩) (by assumption) ?_
        rotate_left
        · intro w9 hSw
          (try dsimp only at hSw)
          go_simp
          (try with_reducible rfl)
        (try simp only [Act.put]); (try simp only [List.setIfInBounds_toArray]); (try simp only [List.set_cons_succ]); (try simp only [List.set_cons_zero])
        refine wpAnyH_take (i := 6) (v := ?_) rfl (by kernel_rfl) (by kernel_rfl) (by kernel_rfl) (fun _ _ _ h => h) (Or.inl ⟨by rfl, ?_⟩) (by assumption) ?_
        rotate_left
        · intro w9 hSw
          (try dsimp only at hSw)
          go_simp
          (try with_reducible rfl)
        (try simp only [Act.put]); (try simp only [List.setIfInBounds_toArray]); (try simp only [List.set_cons_succ]); (try simp only [List.set_cons_zero])
        iterate 7
          (try dsimp only [List.getElem_toArray, List.getElem_cons_succ, List.getElem_cons_zero])
          (try simp only [Act.put]); (try simp only [List.setIfInBounds_toArray]); (try simp only [List.set_cons_succ]); (try simp only [List.set_cons_zero])
        refine wpAnyH_take (i := 7) (oi := { dst := some 86, op := .load 32 (.tmp 85), type := 32, pos := "law.go:114", after := #[{ on := 6, ground := .data }], guard := none }) (v := idv y) rfl (by kernel_rfl) (by kernel_rfl) (by kernel_rfl) (fun _ _ _ h => h) (y_midI (by rfl) (.tmp 85) rfl b (o + z * 21 + 1) rfl y (fun _ h => h.2.1)) (by assumption) ?_
        (try simp only [Act.put]); (try simp only [List.setIfInBounds_toArray]); (try simp only [List.set_cons_succ]); (try simp only [List.set_cons_zero])
        refine wpAnyH_take (i := 8) (oi := { dst := some 87, op := .load 32 (.tmp 10), type := 32, pos := "law.go:114", after := #[], guard := none }) (v := idv sq) rfl (by kernel_rfl) (by kernel_rfl) (by kernel_rfl) (fun _ _ _ h => h) (y_midI (by rfl) (.tmp 10) rfl g10 0 rfl sq (fun _ h => h.2.2)) (by assumption) ?_
        (try simp only [Act.put]); (try simp only [List.setIfInBounds_toArray]); (try simp only [List.set_cons_succ]); (try simp only [List.set_cons_zero])
        refine wpAnyH_ready (rs := [9, 10]) (by kernel_rfl) (by simp) ?_
        refine AllReadyH.cons rfl (fun K hK => ?_) ?_
        · go_simp
          go_wp2_with (go_at_call 26; (with_reducible refine (HN1.out _).mono ?_); rintro e w3 ⟨rfl, hb3⟩; have hX3 := step hX hb3)
          refine hK.out _ _ ?_ (fun hHeld => ?_)
          · exact ⟨cell_keep hfgV cz hX3, range_bel rz hX3 hbV, range_bel r10 hX3 hg10⟩
          clear hK K
          (try simp only [Act.put]); (try simp only [List.setIfInBounds_toArray]); (try simp only [List.set_cons_succ]); (try simp only [List.set_cons_zero])
          refine wpAnyH_ready (rs := [10]) (by kernel_rfl) (by simp) ?_
          refine AllReadyH.cons rfl (fun K hK => ?_) ?_
          rotate_left
          · exact AllReadyH.nil
          go_simp
          skip
          refine hK.out _ _ ?_ (fun hHeld => ?_)
          · exact ⟨cell_keep hfgV cz (hX3.alloc hX3.size _), range_bel rz (hX3.alloc hX3.size _) hbV, range_bel r10 (hX3.alloc hX3.size _) hg10⟩
          clear hK K
          (try simp only [Act.put]); (try simp only [List.setIfInBounds_toArray]); (try simp only [List.set_cons_succ]); (try simp only [List.set_cons_zero])
          clear hHeld
          rw [row_zero]
          have Z := At.new w3 0
          refine wpAnyH_ready (rs := [11]) (by kernel_rfl) (by simp) ?_
          refine AllReadyH.cons rfl (fun K hK => ?_) ?_
          rotate_left
          · exact AllReadyH.nil
          rw [if_pos (by rfl)]
          refine wp_store_row 32 _ _ rfl w3.heap.size (row (dig 20 (sub y sq))) rfl rfl 32 (row (dig 20 0)) Z (by rw [row_size, dig_length]; exact Tryd.info23) (by rw [row_size, row_size, dig_length, dig_length]) (row_one _) ?_
          refine hK.out _ _ ?_ (fun hHeld => ?_)
          · exact ⟨cell_keep hfgV cz (bel_setRow (hX3.alloc hX3.size _) hX3.size _), range_bel rz (bel_setRow (hX3.alloc hX3.size _) hX3.size _) hbV, range_bel r10 (bel_setRow (hX3.alloc hX3.size _) hX3.size _) hg10⟩
          clear hK K
          (try simp only [Act.put]); (try simp only [List.setIfInBounds_toArray]); (try simp only [List.set_cons_succ]); (try simp only [List.set_cons_zero])
          iterate 2
            (try dsimp only [List.getElem_toArray, List.getElem_cons_succ, List.getElem_cons_zero])
            (try simp only [Act.put]); (try simp only [List.setIfInBounds_toArray]); (try simp only [List.set_cons_succ]); (try simp only [List.set_cons_zero])
          refine wpAnyH_done (by kernel_rfl) ?_ _
          have X : At _ w3.heap.size (sub y sq) := Blk.setRow Z _
          have BW : Below V14.heap.size V14 ((w3.alloc (.cells (row (dig 20 0)) 32)).setRow w3.heap.size (row (dig 20 (sub y sq)))) := bel_setRow (hX3.alloc hX3.size _) hX3.size _
          clear hHeld hX hX3 hb3 Z
          generalize (w3.alloc _).setRow _ _ = V at *
          generalize w3.heap.size = g at *
          have X10 := HX10.out
          have c14 := cz
          clear cz r10
          have X11 := X
          have B15 := step B14 BW
          have X10b := X10.below BW
          clear X BW X10 rz c14 HN1
          generalize hV15 : V = V15 at *
          clear hV15
          generalize g = g11 at *
          have HX10 := Lib.hid X10b
          have HX11 := Lib.hid X11
          have HB15 := Lib.hid B15
          clear X10b X11 B15 B14
          generalize wr = wo at *
          go_wp2
          go_loopw [12] (fun k wr => ∃ p : Nat, p ≤ n ∧ k = .int .i64 (p : Int) ∧ Below V15.heap.size V15 wr) (fun k _ => n - (intOf k).toNat)
          case atStart => exact ⟨0, by omega, rfl, Below.refl _ _⟩
          case round =>
            obtain ⟨p, hp, rfl, hb⟩ := hrel
            have i10 := HX10.out.below hb
            have i11 := HX11.out.below hb
            have hbz := step HB15.out hb
            by_cases hpn : p < n
            · have rp := HP.out p _ hpn (step HBo.out hbz)
              have HM1 := fun w1 => minus_all (pn L p) sq w1
              have HL1 : ∀ w1, Calls Tryd.prog 27 #[idv (sub (pn L p) sq), idv (sub y sq)] w1 fun e w' => e = .returned (.bool false) ∧ Below w1.heap.size w1 w' := fun w1 => by
                have := less_all (sub (pn L p) sq) (sub y sq) w1
                rwa [HN2.out p hpn] at this
              have hpn' : (p : Int) < (n : Int) := by omega
              generalize sub (pn L p) sq = far1 at *
              generalize sub y sq = far at *
              generalize pn L p = xp at *
              go_upto_region 19 with (fail)
              refine wp_region_quiet_below (by kernel_rfl) (by kernel_rfl) ?_
              repeat (first
                | go_big_quiet_skip
                | (go_big_quiet_want
                   first
                   | (first
                        | (refine q_midI _ rfl _ _ rfl xp (by with_reducible exact rp) ?_)
                        | (refine q_at _ rfl _ sq rfl i10 ?_)
                        | (refine q_at _ rfl _ far rfl i11 ?_)
                      simp only [Act.put, List.setIfInBounds_toArray, List.set_cons_succ, List.set_cons_zero]
                      go_big_quiet_on)
                   | (go_big_quiet_op
                      first | go_big_quiet_on | go_big_quiet_call (first | with_reducible exact Calls.regrown_of (HM1 _) | with_reducible exact Calls.regrown_of (HL1 _)))))
              refine wpQuiet_nil ?_
              intro w5 hw'
              have b7 := step hb (quiet_end hw')
              clear hw'
              go_wp2
              exact ⟨⟨p + 1, by omega, by go_num, b7⟩, by simp only [intOf]; omega⟩
            · have hpn' : ¬ ((p : Int) < (n : Int)) := by omega
              have dp : decide ((p : Int) < (n : Int)) = false := decide_eq_false hpn'
              have HBZ := Lib.hid (step HBo1.out hbz)
              clear i10 i11 hbz hb
              go_wp2
              exact ⟨⟨q + 1, by omega, by go_num, HBZ.out⟩, by simp only [intOf]; omega⟩
        refine AllReadyH.cons rfl (fun K hK => ?_) ?_
        rotate_left
        · exact AllReadyH.nil
        go_simp
        refine hK.out _ _ ?_ (fun hHeld => ?_)
        · exact ⟨cell_keep hfgV cz (hX.alloc hX.size _), range_bel rz (hX.alloc hX.size _) hbV, range_bel r10 (hX.alloc hX.size _) hg10⟩
        clear hK K
        (try simp only [Act.put]); (try simp only [List.setIfInBounds_toArray]); (try simp only [List.set_cons_succ]); (try simp only [List.set_cons_zero])
        clear hHeld
        rw [row_zero]
        have Z := At.new W1 0
        have hX1 := hX.alloc hX.size (.cells (row (dig 20 0)) 32)
        refine wpAnyH_ready (rs := [9]) (by kernel_rfl) (by simp) ?_
        refine AllReadyH.cons rfl (fun K hK => ?_) ?_
        rotate_left
        · exact AllReadyH.nil
        go_simp
        go_wp2_with (go_at_call 26; (with_reducible refine (HN1.out _).mono ?_); rintro e w3 ⟨rfl, hb3⟩; have hX3 := step hX1 hb3)
        refine hK.out _ _ ?_ (fun hHeld => ?_)
        · exact ⟨cell_keep hfgV cz hX3, range_bel rz hX3 hbV, range_bel r10 hX3 hg10⟩
        clear hK K
        (try simp only [Act.put]); (try simp only [List.setIfInBounds_toArray]); (try simp only [List.set_cons_succ]); (try simp only [List.set_cons_zero])
        have Z2 := Z.below hb3
        refine wpAnyH_ready (rs := [11]) (by kernel_rfl) (by simp) ?_
        refine AllReadyH.cons rfl (fun K hK => ?_) ?_
        rotate_left
        · exact AllReadyH.nil
        rw [if_pos (by rfl)]
        refine wp_store_row 32 _ _ rfl W1.heap.size (row (dig 20 (sub y sq))) rfl rfl 32 (row (dig 20 0)) Z2 (by rw [row_size, dig_length]; exact Tryd.info23) (by rw [row_size, row_size, dig_length, dig_length]) (row_one _) ?_
        refine hK.out _ _ ?_ (fun hHeld => ?_)
        · exact ⟨cell_keep hfgV cz (bel_setRow hX3 hX.size _), range_bel rz (bel_setRow hX3 hX.size _) hbV, range_bel r10 (bel_setRow hX3 hX.size _) hg10⟩
        clear hK K
        (try simp only [Act.put]); (try simp only [List.setIfInBounds_toArray]); (try simp only [List.set_cons_succ]); (try simp only [List.set_cons_zero])
        iterate 2
          (try dsimp only [List.getElem_toArray, List.getElem_cons_succ, List.getElem_cons_zero])
          (try simp only [Act.put]); (try simp only [List.setIfInBounds_toArray]); (try simp only [List.set_cons_succ]); (try simp only [List.set_cons_zero])
        refine wpAnyH_done (by kernel_rfl) ?_ _
        have X : At _ W1.heap.size (sub y sq) := Blk.setRow Z2 _
        have BW : Below V14.heap.size V14 (w3.setRow W1.heap.size (row (dig 20 (sub y sq)))) := bel_setRow hX3 hX.size _
        clear hHeld hX hX1 hX3 hb3 Z Z2
        generalize World.setRow _ _ _ = V at *
        generalize W1.heap.size = g at *
        have X10 := HX10.out
        have c14 := cz
        clear cz r10
        have X11 := X
        have B15 := step B14 BW
        have X10b := X10.below BW
        clear X BW X10 rz c14 HN1
        generalize hV15 : V = V15 at *
        clear hV15
        generalize g = g11 at *
        have HX10 := Lib.hid X10b
        have HX11 := Lib.hid X11
        have HB15 := Lib.hid B15
        clear X10b X11 B15 B14
        generalize wr = wo at *
        go_wp2
        go_loopw [12] (fun k wr => ∃ p : Nat, p ≤ n ∧ k = .int .i64 (p : Int) ∧ Below V15.heap.size V15 wr) (fun k _ => n - (intOf k).toNat)
        case atStart => exact ⟨0, by omega, rfl, Below.refl _ _⟩
        case round =>
          obtain ⟨p, hp, rfl, hb⟩ := hrel
          have i10 := HX10.out.below hb
          have i11 := HX11.out.below hb
          have hbz := step HB15.out hb
          by_cases hpn : p < n
          · have rp := HP.out p _ hpn (step HBo.out hbz)
            have HM1 := fun w1 => minus_all (pn L p) sq w1
            have HL1 : ∀ w1, Calls Tryd.prog 27 #[idv (sub (pn L p) sq), idv (sub y sq)] w1 fun e w' => e = .returned (.bool false) ∧ Below w1.heap.size w1 w' := fun w1 => by
              have := less_all (sub (pn L p) sq) (sub y sq) w1
              rwa [HN2.out p hpn] at this
            have hpn' : (p : Int) < (n : Int) := by omega
            generalize sub (pn L p) sq = far1 at *
            generalize sub y sq = far at *
            generalize pn L p = xp at *
            go_upto_region 19 with (fail)
            refine wp_region_quiet_below (by kernel_rfl) (by kernel_rfl) ?_
            repeat (first
              | go_big_quiet_skip
              | (go_big_quiet_want
                 first
                 | (first
                      | (refine q_midI _ rfl _ _ rfl xp (by with_reducible exact rp) ?_)
                      | (refine q_at _ rfl _ sq rfl i10 ?_)
                      | (refine q_at _ rfl _ far rfl i11 ?_)
                    simp only [Act.put, List.setIfInBounds_toArray, List.set_cons_succ, List.set_cons_zero]
                    go_big_quiet_on)
                 | (go_big_quiet_op
                    first | go_big_quiet_on | go_big_quiet_call (first | with_reducible exact Calls.regrown_of (HM1 _) | with_reducible exact Calls.regrown_of (HL1 _)))))
            refine wpQuiet_nil ?_
            intro w5 hw'
            have b7 := step hb (quiet_end hw')
            clear hw'
            go_wp2
            exact ⟨⟨p + 1, by omega, by go_num, b7⟩, by simp only [intOf]; omega⟩
          · have hpn' : ¬ ((p : Int) < (n : Int)) := by omega
            have dp : decide ((p : Int) < (n : Int)) = false := decide_eq_false hpn'
            have HBZ := Lib.hid (step HBo1.out hbz)
            clear i10 i11 hbz hb
            go_wp2
            exact ⟨⟨q + 1, by omega, by go_num, HBZ.out⟩, by simp only [intOf]; omega⟩
      refine AllReadyH.cons rfl (fun K hK => ?_) ?_
      rotate_left
      · exact AllReadyH.nil
      go_simp
      refine hK.out _ _ ?_ (fun hHeld => ?_)
      · exact ⟨range_bel r1 (hX.alloc hX.size _) hbW, range_bel r2 (hX.alloc hX.size _) hg8⟩
      clear hK K
      (try simp only [Act.put]); (try simp only [List.setIfInBounds_toArray]); (try simp only [List.set_cons_succ]); (try simp only [List.set_cons_zero])
      clear hHeld
      rw [row_zero]
      have Z := At.new W1 0
      have hX1 := hX.alloc hX.size (.cells (row (dig 20 0)) 32)
      refine wpAnyH_ready (rs := [6]) (by kernel_rfl) (by simp) ?_
      refine AllReadyH.cons rfl (fun K hK => ?_) ?_
      rotate_left
      · exact AllReadyH.nil
      go_simp
      go_wp2_with (go_at_call 25; (with_reducible refine (HPl.out _).mono ?_); rintro e w3 ⟨rfl, hb3⟩; have hX3 := step hX1 hb3)
      refine hK.out _ _ ?_ (fun hHeld => ?_)
      · exact ⟨range_bel r1 hX3 hbW, range_bel r2 hX3 hg8⟩
      clear hK K
      (try simp only [Act.put]); (try simp only [List.setIfInBounds_toArray]); (try simp only [List.set_cons_succ]); (try simp only [List.set_cons_zero])
      have Z2 := Z.below hb3
      refine wpAnyH_ready (rs := [8]) (by kernel_rfl) (by simp) ?_
      refine AllReadyH.cons rfl (fun K hK => ?_) ?_
      rotate_left
      · exact AllReadyH.nil
      rw [if_pos (by rfl)]
      refine wp_store_row 32 _ _ rfl W1.heap.size (row (dig 20 sq)) rfl rfl 32 (row (dig 20 0)) Z2 (by rw [row_size, dig_length]; exact Tryd.info23) (by rw [row_size, row_size, dig_length, dig_length]) (row_one _) ?_
      refine hK.out _ _ ?_ (fun hHeld => ?_)
      · exact ⟨range_bel r1 (bel_setRow hX3 hX.size _) hbW, range_bel r2 (bel_setRow hX3 hX.size _) hg8⟩
      clear hK K
      (try simp only [Act.put]); (try simp only [List.setIfInBounds_toArray]); (try simp only [List.set_cons_succ]); (try simp only [List.set_cons_zero])
      iterate 2
        (try dsimp only [List.getElem_toArray, List.getElem_cons_succ, List.getElem_cons_zero])
        (try simp only [Act.put]); (try simp only [List.setIfInBounds_toArray]); (try simp only [List.set_cons_succ]); (try simp only [List.set_cons_zero])
      refine wpAnyH_done (by kernel_rfl) ?_ _
      have X : At _ W1.heap.size sq := Blk.setRow Z2 _
      have BW : Below W.heap.size W (w3.setRow W1.heap.size (row (dig 20 sq))) := bel_setRow hX3 hX.size _
      clear hHeld hX hX1 hX3 hb3 Z Z2
      generalize World.setRow _ _ _ = V at *
      generalize W1.heap.size = g at *
      clear r1 r2 hg8
      have X10 := X
      have B14 := step HBW.out BW
      have cz := cell_keep hfgW c12 BW
      have rz := range_bel rzW BW hbW
      have r10 : V.rangeAt g 0 (row (dig 20 sq)).toList := blk_range X10
      have hg10 := X10.lt
      have hbV : b < V.heap.size := by have := BW.size; omega
      have hfgV : fg < V.heap.size := by have := BW.size; omega
      clear X BW c12 rzW
      go_upto_region 15 with (fail)
      generalize hV : V = V14 at *
      clear hV
      generalize g = g10 at *
      have HX10 := Lib.hid X10
      have HN1 := Lib.hid (fun w1 => minus_all y sq w1)
      clear X10
      refine wp_region_held_drew (S := (fun w9 => w9.cell? ⟨fg, fo + q, none⟩ = some (.int .i64 (z : Int)) ∧ w9.rangeAt b (o + z * 21 + 1) (row (dig 20 y)).toList ∧ w9.rangeAt g10 0 (row (dig 20 sq)).toList)) (by kernel_rfl) ?_ (fun hHeld => ?_)
      · exact ⟨cz, rz, r10⟩
      have hX : Below V14.heap.size V14 V14.drew := drew_bel V14
      generalize V14.drew = W1 at *
      refine wpAnyH_take (i := 0) (v := ?_) rfl (by kernel_rfl) (by kernel_rfl) (by kernel_rfl) (fun _ _ _ h => h) (Or.inl ⟨by rfl, ?_⟩) (by assumption) ?_
      rotate_left
      · intro w9 hSw
        (try dsimp only at hSw)
        go_simp
        (try with_reducible rfl)
      (try simp only [Act.put]); (try simp only [List.setIfInBounds_toArray]); (try simp only [List.set_cons_succ]); (try simp only [List.set_cons_zero])
      refine wpAnyH_take (i := 1) (v := ?_) rfl (by kernel_rfl) (by kernel_rfl) (by kernel_rfl) (fun _ _ _ h => h) (Or.inl ⟨by rfl, ?_⟩) (by assumption) ?_
      rotate_left
      · intro w9 hSw
        (try dsimp only at hSw)
        go_simp
        (try with_reducible rfl)
      (try simp only [Act.put]); (try simp only [List.setIfInBounds_toArray]); (try simp only [List.set_cons_succ]); (try simp only [List.set_cons_zero])
      refine wpAnyH_take (i := 2) (v := ?_) rfl (by kernel_rfl) (by kernel_rfl) (by kernel_rfl) (fun _ _ _ h => h) (Or.inl ⟨by rfl, ?_⟩) (by assumption) ?_
      rotate_left
      · intro w9 hSw
        (try dsimp only at hSw)
        go_simp
        (try with_reducible rfl)
      (try simp only [Act.put]); (try simp only [List.setIfInBounds_toArray]); (try simp only [List.set_cons_succ]); (try simp only [List.set_cons_zero])
      refine wpAnyH_take (i := 3) (v := ?_) rfl (by kernel_rfl) (by kernel_rfl) (by kernel_rfl) (fun _ _ _ h => h) (Or.inl ⟨by rfl, ?_⟩) (by assumption) ?_
      rotate_left
      · intro w9 hSw
        (try dsimp only at hSw)
        go_simp
        (try with_reducible rfl)
      (try simp only [Act.put]); (try simp only [List.setIfInBounds_toArray]); (try simp only [List.set_cons_succ]); (try simp only [List.set_cons_zero])
      iterate 4
        (try dsimp only [List.getElem_toArray, List.getElem_cons_succ, List.getElem_cons_zero])
        (try simp only [Act.put]); (try simp only [List.setIfInBounds_toArray]); (try simp only [List.set_cons_succ]); (try simp only [List.set_cons_zero])
      refine wpAnyH_take (i := 4) (v := ?_) rfl (by kernel_rfl) (by kernel_rfl) (by kernel_rfl) (fun _ _ _ h => h) (Or.inl ⟨by rfl, ?_⟩) (by assumption) ?_
      rotate_left
      · intro w9 hSw
        obtain ⟨hSc, -, -⟩ := hSw
        go_simp
        (try with_reducible rfl)
      (try simp only [Act.put]); (try simp only [List.setIfInBounds_toArray]); (try simp only [List.set_cons_succ]); (try simp only [List.set_cons_zero])
      refine wpAnyH_take (i := 5) (v := ?_) rfl (by kernel_rfl) (by kernel_rfl) (by kernel_rfl) (fun _ _ _ h => h) (Or.inl ⟨by rfl, ?_⟩) (by assumption) ?_
      rotate_left
      · intro w9 hSw
        (try dsimp only at hSw)
        go_simp
        (try with_reducible rfl)
      (try simp only [Act.put]); (try simp only [List.setIfInBounds_toArray]); (try simp only [List.set_cons_succ]); (try simp only [List.set_cons_zero])
      refine wpAnyH_take (i := 6) (v := ?_) rfl (by kernel_rfl) (by kernel_rfl) (by kernel_rfl) (fun _ _ _ h => h) (Or.inl ⟨by rfl, ?_⟩) (by assumption) ?_
      rotate_left
      · intro w9 hSw
        (try dsimp only at hSw)
        go_simp
        (try with_reducible rfl)
      (try simp only [Act.put]); (try simp only [List.setIfInBounds_toArray]); (try simp only [List.set_cons_succ]); (try simp only [List.set_cons_zero])
      iterate 7
        (try dsimp only [List.getElem_toArray, List.getElem_cons_succ, List.getElem_cons_zero])
        (try simp only [Act.put]); (try simp only [List.setIfInBounds_toArray]); (try simp only [List.set_cons_succ]); (try simp only [List.set_cons_zero])
      refine wpAnyH_take (i := 7) (oi := { dst := some 86, op := .load 32 (.tmp 85), type := 32, pos := "law.go:114", after := #[{ on := 6, ground := .data }], guard := none }) (v := idv y) rfl (by kernel_rfl) (by kernel_rfl) (by kernel_rfl) (fun _ _ _ h => h) (y_midI (by rfl) (.tmp 85) rfl b (o + z * 21 + 1) rfl y (fun _ h => h.2.1)) (by assumption) ?_
      (try simp only [Act.put]); (try simp only [List.setIfInBounds_toArray]); (try simp only [List.set_cons_succ]); (try simp only [List.set_cons_zero])
      refine wpAnyH_take (i := 8) (oi := { dst := some 87, op := .load 32 (.tmp 10), type := 32, pos := "law.go:114", after := #[], guard := none }) (v := idv sq) rfl (by kernel_rfl) (by kernel_rfl) (by kernel_rfl) (fun _ _ _ h => h) (y_midI (by rfl) (.tmp 10) rfl g10 0 rfl sq (fun _ h => h.2.2)) (by assumption) ?_
      (try simp only [Act.put]); (try simp only [List.setIfInBounds_toArray]); (try simp only [List.set_cons_succ]); (try simp only [List.set_cons_zero])
      refine wpAnyH_ready (rs := [9, 10]) (by kernel_rfl) (by simp) ?_
      refine AllReadyH.cons rfl (fun K hK => ?_) ?_
      · go_simp
        go_wp2_with (go_at_call 26; (with_reducible refine (HN1.out _).mono ?_); rintro e w3 ⟨rfl, hb3⟩; have hX3 := step hX hb3)
        refine hK.out _ _ ?_ (fun hHeld => ?_)
        · exact ⟨cell_keep hfgV cz hX3, range_bel rz hX3 hbV, range_bel r10 hX3 hg10⟩
        clear hK K
        (try simp only [Act.put]); (try simp only [List.setIfInBounds_toArray]); (try simp only [List.set_cons_succ]); (try simp only [List.set_cons_zero])
        refine wpAnyH_ready (rs := [10]) (by kernel_rfl) (by simp) ?_
        refine AllReadyH.cons rfl (fun K hK => ?_) ?_
        rotate_left
        · exact AllReadyH.nil
        go_simp
        skip
        refine hK.out _ _ ?_ (fun hHeld => ?_)
        · exact ⟨cell_keep hfgV cz (hX3.alloc hX3.size _), range_bel rz (hX3.alloc hX3.size _) hbV, range_bel r10 (hX3.alloc hX3.size _) hg10⟩
        clear hK K
        (try simp only [Act.put]); (try simp only [List.setIfInBounds_toArray]); (try simp only [List.set_cons_succ]); (try simp only [List.set_cons_zero])
        clear hHeld
        rw [row_zero]
        have Z := At.new w3 0
        refine wpAnyH_ready (rs := [11]) (by kernel_rfl) (by simp) ?_
        refine AllReadyH.cons rfl (fun K hK => ?_) ?_
        rotate_left
        · exact AllReadyH.nil
        rw [if_pos (by rfl)]
        refine wp_store_row 32 _ _ rfl w3.heap.size (row (dig 20 (sub y sq))) rfl rfl 32 (row (dig 20 0)) Z (by rw [row_size, dig_length]; exact Tryd.info23) (by rw [row_size, row_size, dig_length, dig_length]) (row_one _) ?_
        refine hK.out _ _ ?_ (fun hHeld => ?_)
        · exact ⟨cell_keep hfgV cz (bel_setRow (hX3.alloc hX3.size _) hX3.size _), range_bel rz (bel_setRow (hX3.alloc hX3.size _) hX3.size _) hbV, range_bel r10 (bel_setRow (hX3.alloc hX3.size _) hX3.size _) hg10⟩
        clear hK K
        (try simp only [Act.put]); (try simp only [List.setIfInBounds_toArray]); (try simp only [List.set_cons_succ]); (try simp only [List.set_cons_zero])
        iterate 2
          (try dsimp only [List.getElem_toArray, List.getElem_cons_succ, List.getElem_cons_zero])
          (try simp only [Act.put]); (try simp only [List.setIfInBounds_toArray]); (try simp only [List.set_cons_succ]); (try simp only [List.set_cons_zero])
        refine wpAnyH_done (by kernel_rfl) ?_ _
        have X : At _ w3.heap.size (sub y sq) := Blk.setRow Z _
        have BW : Below V14.heap.size V14 ((w3.alloc (.cells (row (dig 20 0)) 32)).setRow w3.heap.size (row (dig 20 (sub y sq)))) := bel_setRow (hX3.alloc hX3.size _) hX3.size _
        clear hHeld hX hX3 hb3 Z
        generalize (w3.alloc _).setRow _ _ = V at *
        generalize w3.heap.size = g at *
        have X10 := HX10.out
        have c14 := cz
        clear cz r10
        have X11 := X
        have B15 := step B14 BW
        have X10b := X10.below BW
        clear X BW X10 rz c14 HN1
        generalize hV15 : V = V15 at *
        clear hV15
        generalize g = g11 at *
        have HX10 := Lib.hid X10b
        have HX11 := Lib.hid X11
        have HB15 := Lib.hid B15
        clear X10b X11 B15 B14
        generalize wr = wo at *
        go_wp2
        go_loopw [12] (fun k wr => ∃ p : Nat, p ≤ n ∧ k = .int .i64 (p : Int) ∧ Below V15.heap.size V15 wr) (fun k _ => n - (intOf k).toNat)
        case atStart => exact ⟨0, by omega, rfl, Below.refl _ _⟩
        case round =>
          obtain ⟨p, hp, rfl, hb⟩ := hrel
          have i10 := HX10.out.below hb
          have i11 := HX11.out.below hb
          have hbz := step HB15.out hb
          by_cases hpn : p < n
          · have rp := HP.out p _ hpn (step HBo.out hbz)
            have HM1 := fun w1 => minus_all (pn L p) sq w1
            have HL1 : ∀ w1, Calls Tryd.prog 27 #[idv (sub (pn L p) sq), idv (sub y sq)] w1 fun e w' => e = .returned (.bool false) ∧ Below w1.heap.size w1 w' := fun w1 => by
              have := less_all (sub (pn L p) sq) (sub y sq) w1
              rwa [HN2.out p hpn] at this
            have hpn' : (p : Int) < (n : Int) := by omega
            generalize sub (pn L p) sq = far1 at *
            generalize sub y sq = far at *
            generalize pn L p = xp at *
            go_upto_region 19 with (fail)
            refine wp_region_quiet_below (by kernel_rfl) (by kernel_rfl) ?_
            repeat (first
              | go_big_quiet_skip
              | (go_big_quiet_want
                 first
                 | (first
                      | (refine q_midI _ rfl _ _ rfl xp (by with_reducible exact rp) ?_)
                      | (refine q_at _ rfl _ sq rfl i10 ?_)
                      | (refine q_at _ rfl _ far rfl i11 ?_)
                    simp only [Act.put, List.setIfInBounds_toArray, List.set_cons_succ, List.set_cons_zero]
                    go_big_quiet_on)
                 | (go_big_quiet_op
                    first | go_big_quiet_on | go_big_quiet_call (first | with_reducible exact Calls.regrown_of (HM1 _) | with_reducible exact Calls.regrown_of (HL1 _)))))
            refine wpQuiet_nil ?_
            intro w5 hw'
            have b7 := step hb (quiet_end hw')
            clear hw'
            go_wp2
            exact ⟨⟨p + 1, by omega, by go_num, b7⟩, by simp only [intOf]; omega⟩
          · have hpn' : ¬ ((p : Int) < (n : Int)) := by omega
            have dp : decide ((p : Int) < (n : Int)) = false := decide_eq_false hpn'
            have HBZ := Lib.hid (step HBo1.out hbz)
            clear i10 i11 hbz hb
            go_wp2
            exact ⟨⟨q + 1, by omega, by go_num, HBZ.out⟩, by simp only [intOf]; omega⟩
      refine AllReadyH.cons rfl (fun K hK => ?_) ?_
      rotate_left
      · exact AllReadyH.nil
      go_simp
      refine hK.out _ _ ?_ (fun hHeld => ?_)
      · exact ⟨cell_keep hfgV cz (hX.alloc hX.size _), range_bel rz (hX.alloc hX.size _) hbV, range_bel r10 (hX.alloc hX.size _) hg10⟩
      clear hK K
      (try simp only [Act.put]); (try simp only [List.setIfInBounds_toArray]); (try simp only [List.set_cons_succ]); (try simp only [List.set_cons_zero])
      clear hHeld
      rw [row_zero]
      have Z := At.new W1 0
      have hX1 := hX.alloc hX.size (.cells (row (dig 20 0)) 32)
      refine wpAnyH_ready (rs := [9]) (by kernel_rfl) (by simp) ?_
      refine AllReadyH.cons rfl (fun K hK => ?_) ?_
      rotate_left
      · exact AllReadyH.nil
      go_simp
      go_wp2_with (go_at_call 26; (with_reducible refine (HN1.out _).mono ?_); rintro e w3 ⟨rfl, hb3⟩; have hX3 := step hX1 hb3)
      refine hK.out _ _ ?_ (fun hHeld => ?_)
      · exact ⟨cell_keep hfgV cz hX3, range_bel rz hX3 hbV, range_bel r10 hX3 hg10⟩
      clear hK K
      (try simp only [Act.put]); (try simp only [List.setIfInBounds_toArray]); (try simp only [List.set_cons_succ]); (try simp only [List.set_cons_zero])
      have Z2 := Z.below hb3
      refine wpAnyH_ready (rs := [11]) (by kernel_rfl) (by simp) ?_
      refine AllReadyH.cons rfl (fun K hK => ?_) ?_
      rotate_left
      · exact AllReadyH.nil
      rw [if_pos (by rfl)]
      refine wp_store_row 32 _ _ rfl W1.heap.size (row (dig 20 (sub y sq))) rfl rfl 32 (row (dig 20 0)) Z2 (by rw [row_size, dig_length]; exact Tryd.info23) (by rw [row_size, row_size, dig_length, dig_length]) (row_one _) ?_
      refine hK.out _ _ ?_ (fun hHeld => ?_)
      · exact ⟨cell_keep hfgV cz (bel_setRow hX3 hX.size _), range_bel rz (bel_setRow hX3 hX.size _) hbV, range_bel r10 (bel_setRow hX3 hX.size _) hg10⟩
      clear hK K
      (try simp only [Act.put]); (try simp only [List.setIfInBounds_toArray]); (try simp only [List.set_cons_succ]); (try simp only [List.set_cons_zero])
      iterate 2
        (try dsimp only [List.getElem_toArray, List.getElem_cons_succ, List.getElem_cons_zero])
        (try simp only [Act.put]); (try simp only [List.setIfInBounds_toArray]); (try simp only [List.set_cons_succ]); (try simp only [List.set_cons_zero])
      refine wpAnyH_done (by kernel_rfl) ?_ _
      have X : At _ W1.heap.size (sub y sq) := Blk.setRow Z2 _
      have BW : Below V14.heap.size V14 (w3.setRow W1.heap.size (row (dig 20 (sub y sq)))) := bel_setRow hX3 hX.size _
      clear hHeld hX hX1 hX3 hb3 Z Z2
      generalize World.setRow _ _ _ = V at *
      generalize W1.heap.size = g at *
      have X10 := HX10.out
      have c14 := cz
      clear cz r10
      have X11 := X
      have B15 := step B14 BW
      have X10b := X10.below BW
      clear X BW X10 rz c14 HN1
      generalize hV15 : V = V15 at *
      clear hV15
      generalize g = g11 at *
      have HX10 := Lib.hid X10b
      have HX11 := Lib.hid X11
      have HB15 := Lib.hid B15
      clear X10b X11 B15 B14
      generalize wr = wo at *
      go_wp2
      go_loopw [12] (fun k wr => ∃ p : Nat, p ≤ n ∧ k = .int .i64 (p : Int) ∧ Below V15.heap.size V15 wr) (fun k _ => n - (intOf k).toNat)
      case atStart => exact ⟨0, by omega, rfl, Below.refl _ _⟩
      case round =>
        obtain ⟨p, hp, rfl, hb⟩ := hrel
        have i10 := HX10.out.below hb
        have i11 := HX11.out.below hb
        have hbz := step HB15.out hb
        by_cases hpn : p < n
        · have rp := HP.out p _ hpn (step HBo.out hbz)
          have HM1 := fun w1 => minus_all (pn L p) sq w1
          have HL1 : ∀ w1, Calls Tryd.prog 27 #[idv (sub (pn L p) sq), idv (sub y sq)] w1 fun e w' => e = .returned (.bool false) ∧ Below w1.heap.size w1 w' := fun w1 => by
            have := less_all (sub (pn L p) sq) (sub y sq) w1
            rwa [HN2.out p hpn] at this
          have hpn' : (p : Int) < (n : Int) := by omega
          generalize sub (pn L p) sq = far1 at *
          generalize sub y sq = far at *
          generalize pn L p = xp at *
          go_upto_region 19 with (fail)
          refine wp_region_quiet_below (by kernel_rfl) (by kernel_rfl) ?_
          repeat (first
            | go_big_quiet_skip
            | (go_big_quiet_want
               first
               | (first
                    | (refine q_midI _ rfl _ _ rfl xp (by with_reducible exact rp) ?_)
                    | (refine q_at _ rfl _ sq rfl i10 ?_)
                    | (refine q_at _ rfl _ far rfl i11 ?_)
                  simp only [Act.put, List.setIfInBounds_toArray, List.set_cons_succ, List.set_cons_zero]
                  go_big_quiet_on)
               | (go_big_quiet_op
                  first | go_big_quiet_on | go_big_quiet_call (first | with_reducible exact Calls.regrown_of (HM1 _) | with_reducible exact Calls.regrown_of (HL1 _)))))
          refine wpQuiet_nil ?_
          intro w5 hw'
          have b7 := step hb (quiet_end hw')
          clear hw'
          go_wp2
          exact ⟨⟨p + 1, by omega, by go_num, b7⟩, by simp only [intOf]; omega⟩
        · have hpn' : ¬ ((p : Int) < (n : Int)) := by omega
          have dp : decide ((p : Int) < (n : Int)) = false := decide_eq_false hpn'
          have HBZ := Lib.hid (step HBo1.out hbz)
          clear i10 i11 hbz hb
          go_wp2
          exact ⟨⟨q + 1, by omega, by go_num, HBZ.out⟩, by simp only [intOf]; omega⟩
theorem walk {w : World} (hG : Glob w) {v : Value} {L : List Pe} (hL : Lies w v L) (hw : Wf L) (i : Int) (_ : -9223372036854775808 ≤ i ∧ i ≤ 9223372036854775807) :
    Calls Tryd.prog 7 #[v, .int .i64 i] w fun e w' => e = .returned (.bool true) ∧ Below w.heap.size w w' := by
  by_cases h : L.length ≤ 100
  · cases hp : plB L i
    · exact walk_no i hG hL hw hp h
    · obtain ⟨k, rfl, hk, hC⟩ := plB_yes hp
      exact walk_yes k hG hL hw hC hk
  · exact walk_long i hL (by omega)

set_option maxRecDepth 100000 in
theorem lifted (os : Os) (started : os.Started) (H : Type) (enc : TypeId × Value → H) :
    ReturnsInHanded {} Tryd.checked os 7 .any (fun w args => (Rows.circleFingersSpec.pre enc Tryd.prog Tryd.f7 [] false w args ∧ laidMetH Tryd.prog LD w) ∧ sizedMet enc Tryd.prog Tryd.f7 (OpenSpec.ofChange Rows.circleFingersSpec) false w args)
      (Rows.circleFingersSpec.post enc Tryd.prog Tryd.f7 false true false false) := by
  refine returnsInHanded_of_change_and (C := Tryd.checked) (X := fun w _ => laidMetH Tryd.prog LD w) (fun _ _ _ hh h => h.of_heap hh) own started (by kernel_rfl) Tryd.func7
    (ChangeSpec.witness_shaped (enc := enc) (C := Tryd.checked) (os := os) (X := fun w _ => laidMetH Tryd.prog LD w) false (World.doorLaid Tryd.prog 31 os) #[.slice none 0 0, .int .i64 0] 8 rfl (World.shaped_of_RefB (by kernel_rfl) (by kernel_rfl)) (by kernel_rfl) (by kernel_rfl) (by kernel_rfl) (door_met os _)) ?_
  intro W base args ds gs before hval0 hW _ _ hL _
  have hval : ∀ (j : Nat) t v, Tryd.f7.params[j]? = some t → args[j]? = some v → Value.okWide Tryd.prog W .any base t v := hval0
  have hW' := hW
  obtain ⟨p, q, hA0, hV, rfl, hfz, hnd⟩ := hW
  have hA : DataW.TrodAll enc Tryd.prog W 0 (fun _ => true) true Tryd.f7.params.toList args.toList ds p := hA0
  rw [Tryd.params7] at hA hval
  obtain ⟨v0, vs0, d0, ds0, p0, q0, hargs, rfl, rfl, h0, r0⟩ := trodAll_cons hA
  obtain ⟨v1, vs1, d1, ds1, p1, q1, rfl, rfl, rfl, h1, r1⟩ := trodAll_cons r0
  obtain ⟨rfl, rfl, rfl⟩ := trodAll_nil r1
  obtain rfl : args = #[v0, v1] := by cases args; simp_all
  obtain ⟨rfl, rfl⟩ := trodVars_none hV
  have k0 := h0
  have lt0 : ∀ x ∈ p0, x.block < W.heap.size := by obtain ⟨m, hm⟩ := k0; exact DataW.trod_lt m _ _ _ hm
  obtain ⟨L0, ls0, wf0⟩ := open_peers (hval 0 23 v0 rfl rfl) h0
  have k1 := h1
  have lt1 : ∀ x ∈ p1, x.block < W.heap.size := by obtain ⟨m, hm⟩ := k1; exact DataW.trod_lt m _ _ _ hm
  obtain ⟨n1, bd1, rfl⟩ := open_i64 (hval 1 3 v1 rfl rfl) h1
  have hG := glob_of_laid hL
  clear hA0 hval0
  refine (walk hG ls0 wf0 n1 bd1).mono fun e W' ⟨he, bel⟩ => ?_
  subst he
  exact ⟨_, rfl, _, _, _, [], _, [], hW', trodAll_mk1 (shut_bool Tryd.underlying4 _), (trodAll_cons_mk (Below.trod laidOut (by kernel_rfl) (of_decide_eq_true (by kernel_rfl)) k0 bel lt0) (trodAll_cons_mk (Below.trod laidOut (by kernel_rfl) (of_decide_eq_true (by kernel_rfl)) k1 bel lt1) trodAll_mk0)), rfl, bel.frame _, fun h => by cases h⟩

theorem proved : Rows.CircleFingersSaid :=
  OpenClaim.holds_of_wide 7 Tryd.f7 rfl rfl rfl rfl rfl rfl rfl ⟨rfl, rfl, rfl, rfl, rfl⟩ rfl rfl rfl rfl rfl (by kernel_rfl) Tryd.func7 (by kernel_rfl)
    (of_decide_eq_true (by kernel_rfl)) (by unfold Func.isWrapper; first | (rw [if_pos (by decide +kernel)]; kernel_rfl) | (rw [if_neg (by decide +kernel)]; exact ⟨rfl, rfl⟩))
    (fun os started H enc _ => lifted os started H enc)
theorem card : Rows.CircleFingersCardSaid :=
  Claim7.holds_tied_plain_at .later [] [.data, .data, .data] true _ false
    proved (fun _ h => by cases h) (by kernel_rfl) (fun _ h => by cases h) circleFingers_row_tie rfl ⟨rfl, rfl⟩ (by kernel_rfl) rfl
    (fun f fn hf hfn => by
      obtain rfl : f = 7 := Option.some.inj ((show Tryd.prog.funcNamed Rows.circleFingersRow.func = some 7 by kernel_rfl).symm.trans hf) |>.symm
      obtain rfl : fn = Tryd.f7 := (Option.some.inj (Tryd.func7.symm.trans hfn)).symm
      exact ⟨by kernel_rfl, fun j t ht => by
        rw [Tryd.params7] at ht
        have hm : t ∈ [23, 3] := by simpa using Array.mem_of_getElem? ht
        have hall : ([23, 3].all fun u => !Tryd.prog.wantsStandIn u) = true := by kernel_rfl
        exact (show Tryd.prog.wantsStandIn t = false by simpa using List.all_eq_true.1 hall t hm)⟩)
    (by kernel_rfl)

end Go.Proofs.YtmlejcfnnjnggaaDoor.FingLaw
