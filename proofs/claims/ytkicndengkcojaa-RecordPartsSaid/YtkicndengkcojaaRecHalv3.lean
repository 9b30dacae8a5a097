/- A record halved: Halves, where it is done. -/
import Derived.Test.YtkicndengkcojaaRecHalv2
namespace Go.Proofs.Ytkicndengkcojaa
set_option maxRecDepth 100000
open Go Go.RowKit Go.Sort

set_option maxHeartbeats 8000000 in
theorem halvc_ok {r : Rc} {n : Int} {b : Nat} {a : Option Addr} {c : Nat} {w : World} {g j : Nat} (hg : Blk w g (recC r (.slice a r.items.length c)) 27) (hj : Blk w j (labc n b) 25) (hT : Told w (.slice a r.items.length c) r.items) (hW : r.Wf) (hl : r.items.length ≤ 1000000) (hn : -9223372036854775808 ≤ n ∧ n ≤ 9223372036854775807) (hb : b < 18446744073709551616) {nn c0 c1 : Nat} {K0 K1 : List It} (hr : isR r = true) (hq : isB n b = true) (hs : ¬ (covL r.items n b).length < r.items.length) (hk : r.kind = 1 ∨ r.kind = 3) (hnn : n = (nn : Int)) (h64 : nn < 64) (h0 : chB nn b 0 = c0) (h1 : chB nn b 1 = c1) (hK0 : covL r.items ((nn : Int) + 1) c0 = K0) (hK1 : covL r.items ((nn : Int) + 1) c1 = K1) :
    Calls Try.prog 64 #[.pointer (some ⟨g, 0, none⟩), .pointer (some ⟨j, 0, none⟩)] w fun e w' => ∃ u v, e = .returned (.agg (two (leafR K0 ((nn : Int) + 1) c1) u (leafR K1 r.nl r.nb) v)) ∧ Told w' u K0 ∧ Told w' v K1 ∧ Below w.heap.size w w' := by
  have hgw := hg.lt
  have hjw := hj.lt
  go_enter Try.func64, Try.ntmps64
  go_upto_region 1 with (fail)
  rw [zero_two]
  have Z0 := Blk.new w (two zeroR (.slice none 0 0) zeroR (.slice none 0 0)) 90
  have B0 := (Below.refl w.heap.size w).alloc (Nat.le_refl _) (.cells (two zeroR (.slice none 0 0) zeroR (.slice none 0 0)) 90)
  replace hg := hg.below B0 hg.lt
  replace hj := hj.below B0 hj.lt
  replace hT := hT.bel B0
  generalize w.alloc _ = W at *
  have HI := Lib.hid (is_any hT hW hl)
  have HJ : Gives Try.prog 51 #[.agg (labc n b)] (.bool (isB n b)) := fun w => isL_any n b w hn.1 hn.2 hb
  rw [hr] at HI
  rw [hq] at HJ
  have hlow0 : lowB nn b = true := by subst hnn; exact isB_low hq
  have HFF := Lib.hid hnn
  clear hr hq hnn
  go_upto_region 2 with (first
    | (refine p_loadR rfl _ rfl g rfl r _ hg ?_)
    | (go_at_call 15; (with_reducible refine HI.out.mono ?_); rintro e w1 ⟨rfl, hb1⟩; have hj1 := hj.below hb1 hj.lt)
    | (go_guarded; refine o_loadL _ rfl j rfl n b hj1 ?_)
    | (go_at_call 51; (with_reducible refine (HJ.calls _).mono ?_); rintro e w2 ⟨rfl, hb2⟩)
    | (go_at_call 34; (with_reducible refine (pass_1 _).mono ?_); rintro e w3 ⟨rfl, rfl⟩))
  have hb12 := rstep hb1 hb2
  have hg2 := hg.below hb12 hg.lt
  have hj2 := hj.below hb12 hj.lt
  have Z2 := Z0.below hb12 Z0.lt
  have B2 := rstep B0 hb12
  have T2 := hT.bel hb12
  have HKEY : Hid (∀ x ∈ r.items, x.1 < 18446744073709551616) := hW.key
  clear hT hW HI HJ hb1 hb2 hb12 hj1 hg hj Z0 B0
  have HC := Lib.hid (fun w3 (hb3 : Below w2.heap.size w2 w3) => cov_any (T2.bel hb3) hl HKEY.out n b hn hb)
  obtain ⟨m, hm⟩ : ∃ m, m = (covL r.items n b).length := ⟨_, rfl⟩
  have HC2 : Hid (∀ w3, Below w2.heap.size w2 w3 → Calls Try.prog 65 #[.slice a r.items.length c, .agg (labc n b)] w3 fun e w' => (∃ q1 q2, e = .returned (.slice q1 m q2)) ∧ Below w3.heap.size w3 w') := by
    intro w3 hb3
    refine (HC.out w3 hb3).mono ?_
    rintro e w' ⟨v, he, hT, hbb⟩
    obtain ⟨q1, q2, rfl⟩ := told_shape hT
    exact ⟨⟨q1, q2, by rw [hm]; exact he⟩, hbb⟩
  rw [← hm] at hs
  have hd : decide (m < r.items.length) = false := decide_eq_false hs
  have c1 : w2.cell? ⟨g, 1, none⟩ = some (.slice a r.items.length c) := hg2.cell 1
  have HT2 := Lib.hid T2
  clear hs hm HC T2
  have e0 : w2.cell? ⟨j, 0, none⟩ = some (.int .i64 n) := lab0 hj2
  have e1 : w2.cell? ⟨j, 1, none⟩ = some (.int .u64 (b : Int)) := lab1 hj2
  unfold labc at HC2
  refine wp_region_held_drew (S := (fun w4 => w4.cell? ⟨g, 1, none⟩ = some (.slice a r.items.length c) ∧ w4.cell? ⟨j, 0, none⟩ = some (.int .i64 n) ∧ w4.cell? ⟨j, 1, none⟩ = some (.int .u64 (b : Int)) ∧ Below w2.heap.size w2 w4)) (by kernel_rfl) ?_ (fun hHeld => ?_)
  · exact ⟨c1, e0, e1, rdrew _⟩
  refine wpAnyH_take (i := 0) (v := ?_) rfl (by kernel_rfl) (by kernel_rfl) (by kernel_rfl) (fun _ _ _ h => h) (Or.inl ⟨by rfl, ?_⟩) (by assumption) ?_
  rotate_left
  · intro w9 hSw
    (try dsimp only at hSw)
    go_simp
    (try with_reducible rfl)
  (try simp only [Act.put]); (try simp only [List.setIfInBounds_toArray]); (try simp only [List.set_cons_succ]); (try simp only [List.set_cons_zero])
  refine wpAnyH_take (i := 1) (v := ?_) rfl (by kernel_rfl) (by kernel_rfl) (by kernel_rfl) (fun _ _ _ h => h) (Or.inl ⟨by rfl, ?_⟩) (by assumption) ?_
  rotate_left
  · intro w9 hSw
    (try dsimp only at hSw)
    go_simp
    (try with_reducible rfl)
  (try simp only [Act.put]); (try simp only [List.setIfInBounds_toArray]); (try simp only [List.set_cons_succ]); (try simp only [List.set_cons_zero])
  refine wpAnyH_take (i := 2) (v := ?_) rfl (by kernel_rfl) (by kernel_rfl) (by kernel_rfl) (fun _ _ _ h => h) (Or.inl ⟨by rfl, ?_⟩) (by assumption) ?_
  rotate_left
  · intro w9 hSw
    (try dsimp only at hSw)
    go_simp
    (try with_reducible rfl)
  (try simp only [Act.put]); (try simp only [List.setIfInBounds_toArray]); (try simp only [List.set_cons_succ]); (try simp only [List.set_cons_zero])
  refine wpAnyH_take (i := 5) (v := ?_) rfl (by kernel_rfl) (by kernel_rfl) (by kernel_rfl) (fun _ _ _ h => h) (Or.inl ⟨by rfl, ?_⟩) (by assumption) ?_
  rotate_left
  · intro w9 hSw
    (try dsimp only at hSw)
    go_simp
    (try with_reducible rfl)
  (try simp only [Act.put]); (try simp only [List.setIfInBounds_toArray]); (try simp only [List.set_cons_succ]); (try simp only [List.set_cons_zero])
  refine wpAnyH_take (i := 6) (v := ?_) rfl (by kernel_rfl) (by kernel_rfl) (by kernel_rfl) (fun _ _ _ h => h) (Or.inl ⟨by rfl, ?_⟩) (by assumption) ?_
  rotate_left
  · intro w9 hSw
    (try dsimp only at hSw)
    go_simp
    (try with_reducible rfl)
  (try simp only [Act.put]); (try simp only [List.setIfInBounds_toArray]); (try simp only [List.set_cons_succ]); (try simp only [List.set_cons_zero])
  refine wpAnyH_take (i := 7) (v := ?_) rfl (by kernel_rfl) (by kernel_rfl) (by kernel_rfl) (fun _ _ _ h => h) (Or.inl ⟨by rfl, ?_⟩) (by assumption) ?_
  rotate_left
  · intro w9 hSw
    (try dsimp only at hSw)
    go_simp
    (try with_reducible rfl)
  (try simp only [Act.put]); (try simp only [List.setIfInBounds_toArray]); (try simp only [List.set_cons_succ]); (try simp only [List.set_cons_zero])
  refine wpAnyH_ready (rs := [3]) (by kernel_rfl) (by simp) ?_
  refine AllReadyH.cons rfl (fun K hK => ?_) ?_
  rotate_left
  · exact AllReadyH.nil
  go_simp
  go_wp2_with (go_at_call 65; (with_reducible refine (HC2.out _ hHeld.2.2.2).mono ?_); rintro e w3 ⟨⟨q1, q2, rfl⟩, hb3⟩)
  refine hK.out _ _ ?_ (fun hHeld => ?_)
  · exact ⟨(hg2.below (rstep hHeld.2.2.2 hb3) hg2.lt).cell 1, lab0 (hj2.below (rstep hHeld.2.2.2 hb3) hj2.lt), lab1 (hj2.below (rstep hHeld.2.2.2 hb3) hj2.lt), rstep hHeld.2.2.2 hb3⟩
  clear hK K
  (try simp only [Act.put]); (try simp only [List.setIfInBounds_toArray]); (try simp only [List.set_cons_succ]); (try simp only [List.set_cons_zero])
  refine wpAnyH_take (i := 4) (v := ?_) rfl (by kernel_rfl) (by kernel_rfl) (by kernel_rfl) (fun _ _ _ h => h) (Or.inl ⟨by rfl, ?_⟩) (by assumption) ?_
  rotate_left
  · intro w9 hSw
    (try dsimp only at hSw)
    go_simp
    (try with_reducible rfl)
  (try simp only [Act.put]); (try simp only [List.setIfInBounds_toArray]); (try simp only [List.set_cons_succ]); (try simp only [List.set_cons_zero])
  refine wpAnyH_take (i := 8) (v := ?_) rfl (by kernel_rfl) (by kernel_rfl) (by kernel_rfl) (fun _ _ _ h => h) (Or.inl ⟨by rfl, ?_⟩) (by assumption) ?_
  rotate_left
  · intro w9 hSw
    (try dsimp only at hSw)
    go_simp
    (try with_reducible rfl)
  (try simp only [Act.put]); (try simp only [List.setIfInBounds_toArray]); (try simp only [List.set_cons_succ]); (try simp only [List.set_cons_zero])
  refine wpAnyH_ready (rs := [9]) (by kernel_rfl) (by simp) ?_
  refine AllReadyH.cons rfl (fun K hK => ?_) ?_
  rotate_left
  · exact AllReadyH.nil
  go_simp
  go_wp2_with (go_at_call 34; (with_reducible refine (pass_1 _).mono ?_); rintro e w4 ⟨rfl, rfl⟩)
  refine hK.out _ _ ?_ (fun hHeld => ?_)
  · exact hHeld
  clear hK K
  (try simp only [Act.put]); (try simp only [List.setIfInBounds_toArray]); (try simp only [List.set_cons_succ]); (try simp only [List.set_cons_zero])
  refine wpAnyH_done (by kernel_rfl) ?_ _
  have hb23 : Below w2.heap.size w2 w3 := hHeld.2.2.2
  have hg3 := hg2.below hb23 hg2.lt
  have hj3 := hj2.below hb23 hj2.lt
  have Z3 := Z2.below hb23 Z2.lt
  have B3 := rstep B2 hb23
  have HT3 := Lib.hid (HT2.out.bel hb23)
  have hs3 := B3.size
  clear hHeld hb3 hb23 hg2 hj2 Z2 B2 HT2 c1 e0 e1 HC2 hd
  go_upto_region 3 with (fail)
  have c0 : w3.cell? ⟨g, 0, none⟩ = some (.int .i64 r.kind) := hg3.cell 0
  go_cut [] from 24 to 32 (fun wx => wx = w3)
  case first =>
    rcases hk with hk | hk
    all_goals
      rw [hk] at c0
      go_wp2_with (go_at_call 34; (with_reducible refine (pass_13 _).mono ?_); rintro e w5 ⟨rfl, rfl⟩)
      go_meet
      exact rfl
  case rest =>
    replace hcut := hcut.symm
    subst hcut
    clear c0 hk
    go_upto_region 4 with (fail)
    have hnn := HFF.out
    clear HFF
    subst hnn
    have HCH0 : Gives Try.prog 29 #[.agg #[.int .i64 (nn : Int), .int .u64 (b : Int)], .int .i64 0] (.tuple #[.agg #[.int .i64 ((nn : Int) + 1), .int .u64 (c0 : Int)], .int .i64 0]) := h0 ▸ child_bits nn b 0 h64 hb hlow0 (by omega)
    have HCH1 : Gives Try.prog 29 #[.agg #[.int .i64 (nn : Int), .int .u64 (b : Int)], .int .i64 1] (.tuple #[.agg #[.int .i64 ((nn : Int) + 1), .int .u64 (c1 : Int)], .int .i64 0]) := h1 ▸ child_bits nn b 1 h64 hb hlow0 (by omega)
    have HM0 : Gives Try.prog 66 #[.agg #[.int .i64 ((nn : Int) + 1), .int .u64 (c0 : Int)], .int .i64 0] (.agg #[.int .i64 ((nn : Int) + 1), .int .u64 (c0 : Int)]) := mustL_ok _ _
    have HM1 : Gives Try.prog 66 #[.agg #[.int .i64 ((nn : Int) + 1), .int .u64 (c1 : Int)], .int .i64 0] (.agg #[.int .i64 ((nn : Int) + 1), .int .u64 (c1 : Int)]) := mustL_ok _ _
    have hc0 : c0 < 18446744073709551616 := h0 ▸ chB_lt h64 hb hlow0
    have hc1 : c1 < 18446744073709551616 := h1 ▸ chB_lt h64 hb hlow0
    clear hlow0 hn hb h0 h1
    go_cut [3, 4] from 33 to 42 (fun v3 v4 wx => TwoL w3 wx ((nn : Int) + 1) c0 c1 v3 v4)
    case first =>
      refine wp_region_held_drew (S := (fun w4 => w4.cell? ⟨j, 0, none⟩ = some (.int .i64 (nn : Int)) ∧ w4.cell? ⟨j, 1, none⟩ = some (.int .u64 (b : Int)))) (by kernel_rfl) ?_ (fun hHeld => ?_)
      · exact ⟨lab0 (hj3.below (rdrew _) hj3.lt), lab1 (hj3.below (rdrew _) hj3.lt)⟩
      have hB := rdrew w3
      have hjl := hj3.lt
      replace hj3 := hj3.below hB hj3.lt
      generalize hy0 : w3.drew = y0 at *
      clear hy0
      refine wpAnyH_take (i := 0) (v := ?_) rfl (by kernel_rfl) (by kernel_rfl) (by kernel_rfl) (fun _ _ _ h => h) (Or.inl ⟨by rfl, ?_⟩) (by assumption) ?_
      rotate_left
      · intro w9 hSw
        (try dsimp only at hSw)
        go_simp
        (try with_reducible rfl)
      (try simp only [Act.put]); (try simp only [List.setIfInBounds_toArray]); (try simp only [List.set_cons_succ]); (try simp only [List.set_cons_zero])
      refine wpAnyH_take (i := 5) (v := ?_) rfl (by kernel_rfl) (by kernel_rfl) (by kernel_rfl) (fun _ _ _ h => h) (Or.inl ⟨by rfl, ?_⟩) (by assumption) ?_
      rotate_left
      · intro w9 hSw
        (try dsimp only at hSw)
        go_simp
        (try with_reducible rfl)
      (try simp only [Act.put]); (try simp only [List.setIfInBounds_toArray]); (try simp only [List.set_cons_succ]); (try simp only [List.set_cons_zero])
      refine wpAnyH_ready (rs := [1, 10, 11]) (by kernel_rfl) (by simp) ?_
      refine AllReadyH.cons rfl (fun K hK => ?_) ?_
      · go_simp
        go_wp2_with (go_at_call 29; (with_reducible refine (HCH0.calls _).mono ?_); rintro e y27 ⟨rfl, hbk⟩)
        refine hK.out _ _ ?_ (fun hHeld => ?_)
        · exact ⟨lab0 (hj3.below hbk hj3.lt), lab1 (hj3.below hbk hj3.lt)⟩
        clear hK K
        (try simp only [Act.put]); (try simp only [List.setIfInBounds_toArray]); (try simp only [List.set_cons_succ]); (try simp only [List.set_cons_zero])
        replace hj3 := hj3.below hbk hj3.lt
        replace hB := rstep hB hbk
        clear hbk
        refine wpAnyH_take (i := 2) (v := ?_) rfl (by kernel_rfl) (by kernel_rfl) (by kernel_rfl) (fun _ _ _ h => h) (Or.inl ⟨by rfl, ?_⟩) (by assumption) ?_
        rotate_left
        · intro w9 hSw
          (try dsimp only at hSw)
          go_simp
          (try with_reducible rfl)
        (try simp only [Act.put]); (try simp only [List.setIfInBounds_toArray]); (try simp only [List.set_cons_succ]); (try simp only [List.set_cons_zero])
        refine wpAnyH_take (i := 3) (v := ?_) rfl (by kernel_rfl) (by kernel_rfl) (by kernel_rfl) (fun _ _ _ h => h) (Or.inl ⟨by rfl, ?_⟩) (by assumption) ?_
        rotate_left
        · intro w9 hSw
          (try dsimp only at hSw)
          go_simp
          (try with_reducible rfl)
        (try simp only [Act.put]); (try simp only [List.setIfInBounds_toArray]); (try simp only [List.set_cons_succ]); (try simp only [List.set_cons_zero])
        refine wpAnyH_ready (rs := [4, 10, 11]) (by kernel_rfl) (by simp) ?_
        refine AllReadyH.cons rfl (fun K hK => ?_) ?_
        · go_simp
          go_wp2_with (go_at_call 66; (with_reducible refine (HM0.calls _).mono ?_); rintro e y28 ⟨rfl, hbk⟩)
          refine hK.out _ _ ?_ (fun hHeld => ?_)
          · exact ⟨lab0 (hj3.below hbk hj3.lt), lab1 (hj3.below hbk hj3.lt)⟩
          clear hK K
          (try simp only [Act.put]); (try simp only [List.setIfInBounds_toArray]); (try simp only [List.set_cons_succ]); (try simp only [List.set_cons_zero])
          replace hj3 := hj3.below hbk hj3.lt
          replace hB := rstep hB hbk
          clear hbk
          refine wpAnyH_ready (rs := [6, 10, 11]) (by kernel_rfl) (by simp) ?_
          refine AllReadyH.cons rfl (fun K hK => ?_) ?_
          · go_simp
            go_wp2_with (go_at_call 29; (with_reducible refine (HCH1.calls _).mono ?_); rintro e y29 ⟨rfl, hbk⟩)
            refine hK.out _ _ ?_ (fun hHeld => ?_)
            · exact ⟨lab0 (hj3.below hbk hj3.lt), lab1 (hj3.below hbk hj3.lt)⟩
            clear hK K
            (try simp only [Act.put]); (try simp only [List.setIfInBounds_toArray]); (try simp only [List.set_cons_succ]); (try simp only [List.set_cons_zero])
            replace hj3 := hj3.below hbk hj3.lt
            replace hB := rstep hB hbk
            clear hbk
            refine wpAnyH_take (i := 7) (v := ?_) rfl (by kernel_rfl) (by kernel_rfl) (by kernel_rfl) (fun _ _ _ h => h) (Or.inl ⟨by rfl, ?_⟩) (by assumption) ?_
            rotate_left
            · intro w9 hSw
              (try dsimp only at hSw)
              go_simp
              (try with_reducible rfl)
            (try simp only [Act.put]); (try simp only [List.setIfInBounds_toArray]); (try simp only [List.set_cons_succ]); (try simp only [List.set_cons_zero])
            refine wpAnyH_take (i := 8) (v := ?_) rfl (by kernel_rfl) (by kernel_rfl) (by kernel_rfl) (fun _ _ _ h => h) (Or.inl ⟨by rfl, ?_⟩) (by assumption) ?_
            rotate_left
            · intro w9 hSw
              (try dsimp only at hSw)
              go_simp
              (try with_reducible rfl)
            (try simp only [Act.put]); (try simp only [List.setIfInBounds_toArray]); (try simp only [List.set_cons_succ]); (try simp only [List.set_cons_zero])
            refine wpAnyH_ready (rs := [9, 10, 11]) (by kernel_rfl) (by simp) ?_
            refine AllReadyH.cons rfl (fun K hK => ?_) ?_
            · go_simp
              go_wp2_with (go_at_call 66; (with_reducible refine (HM1.calls _).mono ?_); rintro e y30 ⟨rfl, hbk⟩)
              refine hK.out _ _ ?_ (fun hHeld => ?_)
              · exact ⟨lab0 (hj3.below hbk hj3.lt), lab1 (hj3.below hbk hj3.lt)⟩
              clear hK K
              (try simp only [Act.put]); (try simp only [List.setIfInBounds_toArray]); (try simp only [List.set_cons_succ]); (try simp only [List.set_cons_zero])
              replace hj3 := hj3.below hbk hj3.lt
              replace hB := rstep hB hbk
              clear hbk
              refine wpAnyH_ready (rs := [10, 11]) (by kernel_rfl) (by simp) ?_
              refine AllReadyH.cons rfl (fun K hK => ?_) ?_
              · go_simp
                refine hK.out _ _ ?_ (fun hHeld => ?_)
                · exact ⟨lab0 (hj3.alloc _), lab1 (hj3.alloc _)⟩
                clear hK K
                (try simp only [Act.put]); (try simp only [List.setIfInBounds_toArray]); (try simp only [List.set_cons_succ]); (try simp only [List.set_cons_zero])
                have X3 := Blk.new y30 (labc 0 0) 25
                have g3 := hB.size
                replace hj3 := hj3.alloc (.cells (labc 0 0) 25)
                replace hB := hB.alloc hB.size (.cells (labc 0 0) 25)
                try rw [lab00]
                try rw [lab00] at hHeld
                generalize hx3 : y30.heap.size = x3 at *
                generalize y30.alloc _ = y31 at *
                clear hx3
                refine wpAnyH_ready (rs := [11]) (by kernel_rfl) (by simp) ?_
                refine AllReadyH.cons rfl (fun K hK => ?_) ?_
                · go_simp
                  refine hK.out _ _ ?_ (fun hHeld => ?_)
                  · exact ⟨lab0 (hj3.alloc _), lab1 (hj3.alloc _)⟩
                  clear hK K
                  (try simp only [Act.put]); (try simp only [List.setIfInBounds_toArray]); (try simp only [List.set_cons_succ]); (try simp only [List.set_cons_zero])
                  have X4 := Blk.new y31 (labc 0 0) 25
                  have g4 := hB.size
                  have hl3 := X3.lt
                  replace hj3 := hj3.alloc (.cells (labc 0 0) 25)
                  replace hB := hB.alloc hB.size (.cells (labc 0 0) 25)
                  replace X3 := X3.alloc (.cells (labc 0 0) 25)
                  try rw [lab00]
                  try rw [lab00] at hHeld
                  generalize hx4 : y31.heap.size = x4 at *
                  generalize y31.alloc _ = y32 at *
                  have hne : x3 ≠ x4 := by omega
                  clear hl3
                  clear hx4
                  refine wpAnyH_ready (rs := [12]) (by kernel_rfl) (by simp) ?_
                  refine AllReadyH.cons rfl (fun K hK => ?_) ?_
                  rotate_left
                  · exact AllReadyH.nil
                  rw [if_pos (by rfl)]
                  refine wp_store_row 25 _ _ rfl x3 (labc ((nn : Int) + 1) c0) rfl rfl 25 (labc 0 0) X3 infoLab rfl (lab_all _ _) ?_
                  refine hK.out _ _ ?_ (fun hHeld => ?_)
                  · exact ⟨lab0 (hj3.setRow_other _ _ (by omega)), lab1 (hj3.setRow_other _ _ (by omega))⟩
                  clear hK K
                  (try simp only [Act.put]); (try simp only [List.setIfInBounds_toArray]); (try simp only [List.set_cons_succ]); (try simp only [List.set_cons_zero])
                  replace hj3 := hj3.setRow_other x3 (labc ((nn : Int) + 1) c0) (by omega)
                  replace hB := bel_setRow hB (show w3.heap.size ≤ x3 by omega) (labc ((nn : Int) + 1) c0)
                  replace X4 := X4.setRow_other x3 (labc ((nn : Int) + 1) c0) hne.symm
                  replace X3 := X3.setRow (labc ((nn : Int) + 1) c0)
                  clear hHeld
                  refine wpAnyH_ready (rs := [13]) (by kernel_rfl) (by simp) ?_
                  refine AllReadyH.cons rfl (fun K hK => ?_) ?_
                  rotate_left
                  · exact AllReadyH.nil
                  rw [if_pos (by rfl)]
                  refine wp_store_row 25 _ _ rfl x4 (labc ((nn : Int) + 1) c1) rfl rfl 25 (labc 0 0) X4 infoLab rfl (lab_all _ _) ?_
                  refine hK.out _ _ ?_ (fun hHeld => ?_)
                  · exact ⟨lab0 (hj3.setRow_other _ _ (by omega)), lab1 (hj3.setRow_other _ _ (by omega))⟩
                  clear hK K
                  (try simp only [Act.put]); (try simp only [List.setIfInBounds_toArray]); (try simp only [List.set_cons_succ]); (try simp only [List.set_cons_zero])
                  replace hj3 := hj3.setRow_other x4 (labc ((nn : Int) + 1) c1) (by omega)
                  replace hB := bel_setRow hB (show w3.heap.size ≤ x4 by omega) (labc ((nn : Int) + 1) c1)
                  replace X3 := X3.setRow_other x4 (labc ((nn : Int) + 1) c1) hne
                  replace X4 := X4.setRow (labc ((nn : Int) + 1) c1)
                  clear hHeld
                  refine wpAnyH_done (by kernel_rfl) ?_ _
                  go_wp2
                  go_meet
                  exact ⟨⟨x3, x4, rfl, rfl, X3, X4, g3, g4, hB⟩⟩
                exact AllReadyH.nil
              refine AllReadyH.cons rfl (fun K hK => ?_) ?_
              · go_simp
                refine hK.out _ _ ?_ (fun hHeld => ?_)
                · exact ⟨lab0 (hj3.alloc _), lab1 (hj3.alloc _)⟩
                clear hK K
                (try simp only [Act.put]); (try simp only [List.setIfInBounds_toArray]); (try simp only [List.set_cons_succ]); (try simp only [List.set_cons_zero])
                have X4 := Blk.new y30 (labc 0 0) 25
                have g4 := hB.size
                replace hj3 := hj3.alloc (.cells (labc 0 0) 25)
                replace hB := hB.alloc hB.size (.cells (labc 0 0) 25)
                try rw [lab00]
                try rw [lab00] at hHeld
                generalize hx4 : y30.heap.size = x4 at *
                generalize y30.alloc _ = y33 at *
                clear hx4
                refine wpAnyH_ready (rs := [10]) (by kernel_rfl) (by simp) ?_
                refine AllReadyH.cons rfl (fun K hK => ?_) ?_
                · go_simp
                  refine hK.out _ _ ?_ (fun hHeld => ?_)
                  · exact ⟨lab0 (hj3.alloc _), lab1 (hj3.alloc _)⟩
                  clear hK K
                  (try simp only [Act.put]); (try simp only [List.setIfInBounds_toArray]); (try simp only [List.set_cons_succ]); (try simp only [List.set_cons_zero])
                  have X3 := Blk.new y33 (labc 0 0) 25
                  have g3 := hB.size
                  have hl4 := X4.lt
                  replace hj3 := hj3.alloc (.cells (labc 0 0) 25)
                  replace hB := hB.alloc hB.size (.cells (labc 0 0) 25)
                  replace X4 := X4.alloc (.cells (labc 0 0) 25)
                  try rw [lab00]
                  try rw [lab00] at hHeld
                  generalize hx3 : y33.heap.size = x3 at *
                  generalize y33.alloc _ = y34 at *
                  have hne : x3 ≠ x4 := by omega
                  clear hl4
                  clear hx3
                  refine wpAnyH_ready (rs := [12]) (by kernel_rfl) (by simp) ?_
                  refine AllReadyH.cons rfl (fun K hK => ?_) ?_
                  rotate_left
                  · exact AllReadyH.nil
                  rw [if_pos (by rfl)]
                  refine wp_store_row 25 _ _ rfl x3 (labc ((nn : Int) + 1) c0) rfl rfl 25 (labc 0 0) X3 infoLab rfl (lab_all _ _) ?_
                  refine hK.out _ _ ?_ (fun hHeld => ?_)
                  · exact ⟨lab0 (hj3.setRow_other _ _ (by omega)), lab1 (hj3.setRow_other _ _ (by omega))⟩
                  clear hK K
                  (try simp only [Act.put]); (try simp only [List.setIfInBounds_toArray]); (try simp only [List.set_cons_succ]); (try simp only [List.set_cons_zero])
                  replace hj3 := hj3.setRow_other x3 (labc ((nn : Int) + 1) c0) (by omega)
                  replace hB := bel_setRow hB (show w3.heap.size ≤ x3 by omega) (labc ((nn : Int) + 1) c0)
                  replace X4 := X4.setRow_other x3 (labc ((nn : Int) + 1) c0) hne.symm
                  replace X3 := X3.setRow (labc ((nn : Int) + 1) c0)
                  clear hHeld
                  refine wpAnyH_ready (rs := [13]) (by kernel_rfl) (by simp) ?_
                  refine AllReadyH.cons rfl (fun K hK => ?_) ?_
                  rotate_left
                  · exact AllReadyH.nil
                  rw [if_pos (by rfl)]
                  refine wp_store_row 25 _ _ rfl x4 (labc ((nn : Int) + 1) c1) rfl rfl 25 (labc 0 0) X4 infoLab rfl (lab_all _ _) ?_
                  refine hK.out _ _ ?_ (fun hHeld => ?_)
                  · exact ⟨lab0 (hj3.setRow_other _ _ (by omega)), lab1 (hj3.setRow_other _ _ (by omega))⟩
                  clear hK K
                  (try simp only [Act.put]); (try simp only [List.setIfInBounds_toArray]); (try simp only [List.set_cons_succ]); (try simp only [List.set_cons_zero])
                  replace hj3 := hj3.setRow_other x4 (labc ((nn : Int) + 1) c1) (by omega)
                  replace hB := bel_setRow hB (show w3.heap.size ≤ x4 by omega) (labc ((nn : Int) + 1) c1)
                  replace X3 := X3.setRow_other x4 (labc ((nn : Int) + 1) c1) hne
                  replace X4 := X4.setRow (labc ((nn : Int) + 1) c1)
                  clear hHeld
                  refine wpAnyH_done (by kernel_rfl) ?_ _
                  go_wp2
                  go_meet
                  exact ⟨⟨x3, x4, rfl, rfl, X3, X4, g3, g4, hB⟩⟩
                exact AllReadyH.nil
              exact AllReadyH.nil
            refine AllReadyH.cons rfl (fun K hK => ?_) ?_
            · go_simp
              refine hK.out _ _ ?_ (fun hHeld => ?_)
              · exact ⟨lab0 (hj3.alloc _), lab1 (hj3.alloc _)⟩
              clear hK K
              (try simp only [Act.put]); (try simp only [List.setIfInBounds_toArray]); (try simp only [List.set_cons_succ]); (try simp only [List.set_cons_zero])
              have X3 := Blk.new y29 (labc 0 0) 25
              have g3 := hB.size
              replace hj3 := hj3.alloc (.cells (labc 0 0) 25)
              replace hB := hB.alloc hB.size (.cells (labc 0 0) 25)
              try rw [lab00]
              try rw [lab00] at hHeld
              generalize hx3 : y29.heap.size = x3 at *
              generalize y29.alloc _ = y35 at *
              clear hx3
              refine wpAnyH_ready (rs := [9, 11]) (by kernel_rfl) (by simp) ?_
              refine AllReadyH.cons rfl (fun K hK => ?_) ?_
              · go_simp
                go_wp2_with (go_at_call 66; (with_reducible refine (HM1.calls _).mono ?_); rintro e y36 ⟨rfl, hbk⟩)
                refine hK.out _ _ ?_ (fun hHeld => ?_)
                · exact ⟨lab0 (hj3.below hbk hj3.lt), lab1 (hj3.below hbk hj3.lt)⟩
                clear hK K
                (try simp only [Act.put]); (try simp only [List.setIfInBounds_toArray]); (try simp only [List.set_cons_succ]); (try simp only [List.set_cons_zero])
                replace hj3 := hj3.below hbk hj3.lt
                replace hB := rstep hB hbk
                replace X3 := X3.below hbk X3.lt
                clear hbk
                refine wpAnyH_ready (rs := [11]) (by kernel_rfl) (by simp) ?_
                refine AllReadyH.cons rfl (fun K hK => ?_) ?_
                · go_simp
                  refine hK.out _ _ ?_ (fun hHeld => ?_)
                  · exact ⟨lab0 (hj3.alloc _), lab1 (hj3.alloc _)⟩
                  clear hK K
                  (try simp only [Act.put]); (try simp only [List.setIfInBounds_toArray]); (try simp only [List.set_cons_succ]); (try simp only [List.set_cons_zero])
                  have X4 := Blk.new y36 (labc 0 0) 25
                  have g4 := hB.size
                  have hl3 := X3.lt
                  replace hj3 := hj3.alloc (.cells (labc 0 0) 25)
                  replace hB := hB.alloc hB.size (.cells (labc 0 0) 25)
                  replace X3 := X3.alloc (.cells (labc 0 0) 25)
                  try rw [lab00]
                  try rw [lab00] at hHeld
                  generalize hx4 : y36.heap.size = x4 at *
                  generalize y36.alloc _ = y37 at *
                  have hne : x3 ≠ x4 := by omega
                  clear hl3
                  clear hx4
                  refine wpAnyH_ready (rs := [12]) (by kernel_rfl) (by simp) ?_
                  refine AllReadyH.cons rfl (fun K hK => ?_) ?_
                  rotate_left
                  · exact AllReadyH.nil
                  rw [if_pos (by rfl)]
                  refine wp_store_row 25 _ _ rfl x3 (labc ((nn : Int) + 1) c0) rfl rfl 25 (labc 0 0) X3 infoLab rfl (lab_all _ _) ?_
                  refine hK.out _ _ ?_ (fun hHeld => ?_)
                  · exact ⟨lab0 (hj3.setRow_other _ _ (by omega)), lab1 (hj3.setRow_other _ _ (by omega))⟩
                  clear hK K
                  (try simp only [Act.put]); (try simp only [List.setIfInBounds_toArray]); (try simp only [List.set_cons_succ]); (try simp only [List.set_cons_zero])
                  replace hj3 := hj3.setRow_other x3 (labc ((nn : Int) + 1) c0) (by omega)
                  replace hB := bel_setRow hB (show w3.heap.size ≤ x3 by omega) (labc ((nn : Int) + 1) c0)
                  replace X4 := X4.setRow_other x3 (labc ((nn : Int) + 1) c0) hne.symm
                  replace X3 := X3.setRow (labc ((nn : Int) + 1) c0)
                  clear hHeld
                  refine wpAnyH_ready (rs := [13]) (by kernel_rfl) (by simp) ?_
                  refine AllReadyH.cons rfl (fun K hK => ?_) ?_
                  rotate_left
                  · exact AllReadyH.nil
                  rw [if_pos (by rfl)]
                  refine wp_store_row 25 _ _ rfl x4 (labc ((nn : Int) + 1) c1) rfl rfl 25 (labc 0 0) X4 infoLab rfl (lab_all _ _) ?_
                  refine hK.out _ _ ?_ (fun hHeld => ?_)
                  · exact ⟨lab0 (hj3.setRow_other _ _ (by omega)), lab1 (hj3.setRow_other _ _ (by omega))⟩
                  clear hK K
                  (try simp only [Act.put]); (try simp only [List.setIfInBounds_toArray]); (try simp only [List.set_cons_succ]); (try simp only [List.set_cons_zero])
                  replace hj3 := hj3.setRow_other x4 (labc ((nn : Int) + 1) c1) (by omega)
                  replace hB := bel_setRow hB (show w3.heap.size ≤ x4 by omega) (labc ((nn : Int) + 1) c1)
                  replace X3 := X3.setRow_other x4 (labc ((nn : Int) + 1) c1) hne
                  replace X4 := X4.setRow (labc ((nn : Int) + 1) c1)
                  clear hHeld
                  refine wpAnyH_done (by kernel_rfl) ?_ _
                  go_wp2
                  go_meet
                  exact ⟨⟨x3, x4, rfl, rfl, X3, X4, g3, g4, hB⟩⟩
                exact AllReadyH.nil
              refine AllReadyH.cons rfl (fun K hK => ?_) ?_
              · go_simp
                refine hK.out _ _ ?_ (fun hHeld => ?_)
                · exact ⟨lab0 (hj3.alloc _), lab1 (hj3.alloc _)⟩
                clear hK K
                (try simp only [Act.put]); (try simp only [List.setIfInBounds_toArray]); (try simp only [List.set_cons_succ]); (try simp only [List.set_cons_zero])
                have X4 := Blk.new y35 (labc 0 0) 25
                have g4 := hB.size
                have hl3 := X3.lt
                replace hj3 := hj3.alloc (.cells (labc 0 0) 25)
                replace hB := hB.alloc hB.size (.cells (labc 0 0) 25)
                replace X3 := X3.alloc (.cells (labc 0 0) 25)
                try rw [lab00]
                try rw [lab00] at hHeld
                generalize hx4 : y35.heap.size = x4 at *
                generalize y35.alloc _ = y38 at *
                have hne : x3 ≠ x4 := by omega
                clear hl3
                clear hx4
                refine wpAnyH_ready (rs := [9]) (by kernel_rfl) (by simp) ?_
                refine AllReadyH.cons rfl (fun K hK => ?_) ?_
                · go_simp
                  go_wp2_with (go_at_call 66; (with_reducible refine (HM1.calls _).mono ?_); rintro e y39 ⟨rfl, hbk⟩)
                  refine hK.out _ _ ?_ (fun hHeld => ?_)
                  · exact ⟨lab0 (hj3.below hbk hj3.lt), lab1 (hj3.below hbk hj3.lt)⟩
                  clear hK K
                  (try simp only [Act.put]); (try simp only [List.setIfInBounds_toArray]); (try simp only [List.set_cons_succ]); (try simp only [List.set_cons_zero])
                  replace hj3 := hj3.below hbk hj3.lt
                  replace hB := rstep hB hbk
                  replace X3 := X3.below hbk X3.lt
                  replace X4 := X4.below hbk X4.lt
                  clear hbk
                  refine wpAnyH_ready (rs := [12]) (by kernel_rfl) (by simp) ?_
                  refine AllReadyH.cons rfl (fun K hK => ?_) ?_
                  rotate_left
                  · exact AllReadyH.nil
                  rw [if_pos (by rfl)]
                  refine wp_store_row 25 _ _ rfl x3 (labc ((nn : Int) + 1) c0) rfl rfl 25 (labc 0 0) X3 infoLab rfl (lab_all _ _) ?_
                  refine hK.out _ _ ?_ (fun hHeld => ?_)
                  · exact ⟨lab0 (hj3.setRow_other _ _ (by omega)), lab1 (hj3.setRow_other _ _ (by omega))⟩
                  clear hK K
                  (try simp only [Act.put]); (try simp only [List.setIfInBounds_toArray]); (try simp only [List.set_cons_succ]); (try simp only [List.set_cons_zero])
                  replace hj3 := hj3.setRow_other x3 (labc ((nn : Int) + 1) c0) (by omega)
                  replace hB := bel_setRow hB (show w3.heap.size ≤ x3 by omega) (labc ((nn : Int) + 1) c0)
                  replace X4 := X4.setRow_other x3 (labc ((nn : Int) + 1) c0) hne.symm
                  replace X3 := X3.setRow (labc ((nn : Int) + 1) c0)
                  clear hHeld
                  refine wpAnyH_ready (rs := [13]) (by kernel_rfl) (by simp) ?_
                  refine AllReadyH.cons rfl (fun K hK => ?_) ?_
                  rotate_left
                  · exact AllReadyH.nil
                  rw [if_pos (by rfl)]
                  refine wp_store_row 25 _ _ rfl x4 (labc ((nn : Int) + 1) c1) rfl rfl 25 (labc 0 0) X4 infoLab rfl (lab_all _ _) ?_
                  refine hK.out _ _ ?_ (fun hHeld => ?_)
                  · exact ⟨lab0 (hj3.setRow_other _ _ (by omega)), lab1 (hj3.setRow_other _ _ (by omega))⟩
                  clear hK K
                  (try simp only [Act.put]); (try simp only [List.setIfInBounds_toArray]); (try simp only [List.set_cons_succ]); (try simp only [List.set_cons_zero])
                  replace hj3 := hj3.setRow_other x4 (labc ((nn : Int) + 1) c1) (by omega)
                  replace hB := bel_setRow hB (show w3.heap.size ≤ x4 by omega) (labc ((nn : Int) + 1) c1)
                  replace X3 := X3.setRow_other x4 (labc ((nn : Int) + 1) c1) hne
                  replace X4 := X4.setRow (labc ((nn : Int) + 1) c1)
                  clear hHeld
                  refine wpAnyH_done (by kernel_rfl) ?_ _
                  go_wp2
                  go_meet
                  exact ⟨⟨x3, x4, rfl, rfl, X3, X4, g3, g4, hB⟩⟩
                exact AllReadyH.nil
              exact AllReadyH.nil
            refine AllReadyH.cons rfl (fun K hK => ?_) ?_
            · go_simp
              refine hK.out _ _ ?_ (fun hHeld => ?_)
              · exact ⟨lab0 (hj3.alloc _), lab1 (hj3.alloc _)⟩
              clear hK K
              (try simp only [Act.put]); (try simp only [List.setIfInBounds_toArray]); (try simp only [List.set_cons_succ]); (try simp only [List.set_cons_zero])
              have X4 := Blk.new y29 (labc 0 0) 25
              have g4 := hB.size
              replace hj3 := hj3.alloc (.cells (labc 0 0) 25)
              replace hB := hB.alloc hB.size (.cells (labc 0 0) 25)
              try rw [lab00]
              try rw [lab00] at hHeld
              generalize hx4 : y29.heap.size = x4 at *
              generalize y29.alloc _ = y40 at *
              clear hx4
              refine wpAnyH_ready (rs := [9, 10]) (by kernel_rfl) (by simp) ?_
              refine AllReadyH.cons rfl (fun K hK => ?_) ?_
              · go_simp
                go_wp2_with (go_at_call 66; (with_reducible refine (HM1.calls _).mono ?_); rintro e y41 ⟨rfl, hbk⟩)
                refine hK.out _ _ ?_ (fun hHeld => ?_)
                · exact ⟨lab0 (hj3.below hbk hj3.lt), lab1 (hj3.below hbk hj3.lt)⟩
                clear hK K
                (try simp only [Act.put]); (try simp only [List.setIfInBounds_toArray]); (try simp only [List.set_cons_succ]); (try simp only [List.set_cons_zero])
                replace hj3 := hj3.below hbk hj3.lt
                replace hB := rstep hB hbk
                replace X4 := X4.below hbk X4.lt
                clear hbk
                refine wpAnyH_ready (rs := [10]) (by kernel_rfl) (by simp) ?_
                refine AllReadyH.cons rfl (fun K hK => ?_) ?_
                · go_simp
                  refine hK.out _ _ ?_ (fun hHeld => ?_)
                  · exact ⟨lab0 (hj3.alloc _), lab1 (hj3.alloc _)⟩
                  clear hK K
                  (try simp only [Act.put]); (try simp only [List.setIfInBounds_toArray]); (try simp only [List.set_cons_succ]); (try simp only [List.set_cons_zero])
                  have X3 := Blk.new y41 (labc 0 0) 25
                  have g3 := hB.size
                  have hl4 := X4.lt
                  replace hj3 := hj3.alloc (.cells (labc 0 0) 25)
                  replace hB := hB.alloc hB.size (.cells (labc 0 0) 25)
                  replace X4 := X4.alloc (.cells (labc 0 0) 25)
                  try rw [lab00]
                  try rw [lab00] at hHeld
                  generalize hx3 : y41.heap.size = x3 at *
                  generalize y41.alloc _ = y42 at *
                  have hne : x3 ≠ x4 := by omega
                  clear hl4
                  clear hx3
                  refine wpAnyH_ready (rs := [12]) (by kernel_rfl) (by simp) ?_
                  refine AllReadyH.cons rfl (fun K hK => ?_) ?_
                  rotate_left
                  · exact AllReadyH.nil
                  rw [if_pos (by rfl)]
                  refine wp_store_row 25 _ _ rfl x3 (labc ((nn : Int) + 1) c0) rfl rfl 25 (labc 0 0) X3 infoLab rfl (lab_all _ _) ?_
                  refine hK.out _ _ ?_ (fun hHeld => ?_)
                  · exact ⟨lab0 (hj3.setRow_other _ _ (by omega)), lab1 (hj3.setRow_other _ _ (by omega))⟩
                  clear hK K
                  (try simp only [Act.put]); (try simp only [List.setIfInBounds_toArray]); (try simp only [List.set_cons_succ]); (try simp only [List.set_cons_zero])
                  replace hj3 := hj3.setRow_other x3 (labc ((nn : Int) + 1) c0) (by omega)
                  replace hB := bel_setRow hB (show w3.heap.size ≤ x3 by omega) (labc ((nn : Int) + 1) c0)
                  replace X4 := X4.setRow_other x3 (labc ((nn : Int) + 1) c0) hne.symm
                  replace X3 := X3.setRow (labc ((nn : Int) + 1) c0)
                  clear hHeld
                  refine wpAnyH_ready (rs := [13]) (by kernel_rfl) (by simp) ?_
                  refine AllReadyH.cons rfl (fun K hK => ?_) ?_
                  rotate_left
                  · exact AllReadyH.nil
                  rw [if_pos (by rfl)]
                  refine wp_store_row 25 _ _ rfl x4 (labc ((nn : Int) + 1) c1) rfl rfl 25 (labc 0 0) X4 infoLab rfl (lab_all _ _) ?_
                  refine hK.out _ _ ?_ (fun hHeld => ?_)
                  · exact ⟨lab0 (hj3.setRow_other _ _ (by omega)), lab1 (hj3.setRow_other _ _ (by omega))⟩
                  clear hK K
                  (try simp only [Act.put]); (try simp only [List.setIfInBounds_toArray]); (try simp only [List.set_cons_succ]); (try simp only [List.set_cons_zero])
                  replace hj3 := hj3.setRow_other x4 (labc ((nn : Int) + 1) c1) (by omega)
                  replace hB := bel_setRow hB (show w3.heap.size ≤ x4 by omega) (labc ((nn : Int) + 1) c1)
                  replace X3 := X3.setRow_other x4 (labc ((nn : Int) + 1) c1) hne
                  replace X4 := X4.setRow (labc ((nn : Int) + 1) c1)
                  clear hHeld
                  refine wpAnyH_done (by kernel_rfl) ?_ _
                  go_wp2
                  go_meet
                  exact ⟨⟨x3, x4, rfl, rfl, X3, X4, g3, g4, hB⟩⟩
                exact AllReadyH.nil
              refine AllReadyH.cons rfl (fun K hK => ?_) ?_
              · go_simp
                refine hK.out _ _ ?_ (fun hHeld => ?_)
                · exact ⟨lab0 (hj3.alloc _), lab1 (hj3.alloc _)⟩
                clear hK K
                (try simp only [Act.put]); (try simp only [List.setIfInBounds_toArray]); (try simp only [List.set_cons_succ]); (try simp only [List.set_cons_zero])
                have X3 := Blk.new y40 (labc 0 0) 25
                have g3 := hB.size
                have hl4 := X4.lt
                replace hj3 := hj3.alloc (.cells (labc 0 0) 25)
                replace hB := hB.alloc hB.size (.cells (labc 0 0) 25)
                replace X4 := X4.alloc (.cells (labc 0 0) 25)
                try rw [lab00]
                try rw [lab00] at hHeld
                generalize hx3 : y40.heap.size = x3 at *
                generalize y40.alloc _ = y43 at *
                have hne : x3 ≠ x4 := by omega
                clear hl4
                clear hx3
                refine wpAnyH_ready (rs := [9]) (by kernel_rfl) (by simp) ?_
                refine AllReadyH.cons rfl (fun K hK => ?_) ?_
                · go_simp
                  go_wp2_with (go_at_call 66; (with_reducible refine (HM1.calls _).mono ?_); rintro e y44 ⟨rfl, hbk⟩)
                  refine hK.out _ _ ?_ (fun hHeld => ?_)
                  · exact ⟨lab0 (hj3.below hbk hj3.lt), lab1 (hj3.below hbk hj3.lt)⟩
                  clear hK K
                  (try simp only [Act.put]); (try simp only [List.setIfInBounds_toArray]); (try simp only [List.set_cons_succ]); (try simp only [List.set_cons_zero])
                  replace hj3 := hj3.below hbk hj3.lt
                  replace hB := rstep hB hbk
                  replace X3 := X3.below hbk X3.lt
                  replace X4 := X4.below hbk X4.lt
                  clear hbk
                  refine wpAnyH_ready (rs := [12]) (by kernel_rfl) (by simp) ?_
                  refine AllReadyH.cons rfl (fun K hK => ?_) ?_
                  rotate_left
                  · exact AllReadyH.nil
                  rw [if_pos (by rfl)]
                  refine wp_store_row 25 _ _ rfl x3 (labc ((nn : Int) + 1) c0) rfl rfl 25 (labc 0 0) X3 infoLab rfl (lab_all _ _) ?_
                  refine hK.out _ _ ?_ (fun hHeld => ?_)
                  · exact ⟨lab0 (hj3.setRow_other _ _ (by omega)), lab1 (hj3.setRow_other _ _ (by omega))⟩
                  clear hK K
                  (try simp only [Act.put]); (try simp only [List.setIfInBounds_toArray]); (try simp only [List.set_cons_succ]); (try simp only [List.set_cons_zero])
                  replace hj3 := hj3.setRow_other x3 (labc ((nn : Int) + 1) c0) (by omega)
                  replace hB := bel_setRow hB (show w3.heap.size ≤ x3 by omega) (labc ((nn : Int) + 1) c0)
                  replace X4 := X4.setRow_other x3 (labc ((nn : Int) + 1) c0) hne.symm
                  replace X3 := X3.setRow (labc ((nn : Int) + 1) c0)
                  clear hHeld
                  refine wpAnyH_ready (rs := [13]) (by kernel_rfl) (by simp) ?_
                  refine AllReadyH.cons rfl (fun K hK => ?_) ?_
                  rotate_left
                  · exact AllReadyH.nil
                  rw [if_pos (by rfl)]
                  refine wp_store_row 25 _ _ rfl x4 (labc ((nn : Int) + 1) c1) rfl rfl 25 (labc 0 0) X4 infoLab rfl (lab_all _ _) ?_
                  refine hK.out _ _ ?_ (fun hHeld => ?_)
                  · exact ⟨lab0 (hj3.setRow_other _ _ (by omega)), lab1 (hj3.setRow_other _ _ (by omega))⟩
                  clear hK K
                  (try simp only [Act.put]); (try simp only [List.setIfInBounds_toArray]); (try simp only [List.set_cons_succ]); (try simp only [List.set_cons_zero])
                  replace hj3 := hj3.setRow_other x4 (labc ((nn : Int) + 1) c1) (by omega)
                  replace hB := bel_setRow hB (show w3.heap.size ≤ x4 by omega) (labc ((nn : Int) + 1) c1)
                  replace X3 := X3.setRow_other x4 (labc ((nn : Int) + 1) c1) hne
                  replace X4 := X4.setRow (labc ((nn : Int) + 1) c1)
                  clear hHeld
                  refine wpAnyH_done (by kernel_rfl) ?_ _
                  go_wp2
                  go_meet
                  exact ⟨⟨x3, x4, rfl, rfl, X3, X4, g3, g4, hB⟩⟩
                exact AllReadyH.nil
              exact AllReadyH.nil
            exact AllReadyH.nil
          refine AllReadyH.cons rfl (fun K hK => ?_) ?_
          · go_simp
            refine hK.out _ _ ?_ (fun hHeld => ?_)
            · exact ⟨lab0 (hj3.alloc _), lab1 (hj3.alloc _)⟩
            clear hK K
            (try simp only [Act.put]); (try simp only [List.setIfInBounds_toArray]); (try simp only [List.set_cons_succ]); (try simp only [List.set_cons_zero])
            have X3 := Blk.new y28 (labc 0 0) 25
            have g3 := hB.size
            replace hj3 := hj3.alloc (.cells (labc 0 0) 25)
            replace hB := hB.alloc hB.size (.cells (labc 0 0) 25)
            try rw [lab00]
            try rw [lab00] at hHeld
            generalize hx3 : y28.heap.size = x3 at *
            generalize y28.alloc _ = y45 at *
            clear hx3
            refine wpAnyH_ready (rs := [6, 11]) (by kernel_rfl) (by simp) ?_
            refine AllReadyH.cons rfl (fun K hK => ?_) ?_
            · go_simp
              go_wp2_with (go_at_call 29; (with_reducible refine (HCH1.calls _).mono ?_); rintro e y46 ⟨rfl, hbk⟩)
              refine hK.out _ _ ?_ (fun hHeld => ?_)
              · exact ⟨lab0 (hj3.below hbk hj3.lt), lab1 (hj3.below hbk hj3.lt)⟩
              clear hK K
              (try simp only [Act.put]); (try simp only [List.setIfInBounds_toArray]); (try simp only [List.set_cons_succ]); (try simp only [List.set_cons_zero])
              replace hj3 := hj3.below hbk hj3.lt
              replace hB := rstep hB hbk
              replace X3 := X3.below hbk X3.lt
              clear hbk
              refine wpAnyH_take (i := 7) (v := ?_) rfl (by kernel_rfl) (by kernel_rfl) (by kernel_rfl) (fun _ _ _ h => h) (Or.inl ⟨by rfl, ?_⟩) (by assumption) ?_
              rotate_left
              · intro w9 hSw
                (try dsimp only at hSw)
                go_simp
                (try with_reducible rfl)
              (try simp only [Act.put]); (try simp only [List.setIfInBounds_toArray]); (try simp only [List.set_cons_succ]); (try simp only [List.set_cons_zero])
              refine wpAnyH_take (i := 8) (v := ?_) rfl (by kernel_rfl) (by kernel_rfl) (by kernel_rfl) (fun _ _ _ h => h) (Or.inl ⟨by rfl, ?_⟩) (by assumption) ?_
              rotate_left
              · intro w9 hSw
                (try dsimp only at hSw)
                go_simp
                (try with_reducible rfl)
              (try simp only [Act.put]); (try simp only [List.setIfInBounds_toArray]); (try simp only [List.set_cons_succ]); (try simp only [List.set_cons_zero])
              refine wpAnyH_ready (rs := [9, 11]) (by kernel_rfl) (by simp) ?_
              refine AllReadyH.cons rfl (fun K hK => ?_) ?_
              · go_simp
                go_wp2_with (go_at_call 66; (with_reducible refine (HM1.calls _).mono ?_); rintro e y47 ⟨rfl, hbk⟩)
                refine hK.out _ _ ?_ (fun hHeld => ?_)
                · exact ⟨lab0 (hj3.below hbk hj3.lt), lab1 (hj3.below hbk hj3.lt)⟩
                clear hK K
                (try simp only [Act.put]); (try simp only [List.setIfInBounds_toArray]); (try simp only [List.set_cons_succ]); (try simp only [List.set_cons_zero])
                replace hj3 := hj3.below hbk hj3.lt
                replace hB := rstep hB hbk
                replace X3 := X3.below hbk X3.lt
                clear hbk
                refine wpAnyH_ready (rs := [11]) (by kernel_rfl) (by simp) ?_
                refine AllReadyH.cons rfl (fun K hK => ?_) ?_
                · go_simp
                  refine hK.out _ _ ?_ (fun hHeld => ?_)
                  · exact ⟨lab0 (hj3.alloc _), lab1 (hj3.alloc _)⟩
                  clear hK K
                  (try simp only [Act.put]); (try simp only [List.setIfInBounds_toArray]); (try simp only [List.set_cons_succ]); (try simp only [List.set_cons_zero])
                  have X4 := Blk.new y47 (labc 0 0) 25
                  have g4 := hB.size
                  have hl3 := X3.lt
                  replace hj3 := hj3.alloc (.cells (labc 0 0) 25)
                  replace hB := hB.alloc hB.size (.cells (labc 0 0) 25)
                  replace X3 := X3.alloc (.cells (labc 0 0) 25)
                  try rw [lab00]
                  try rw [lab00] at hHeld
                  generalize hx4 : y47.heap.size = x4 at *
                  generalize y47.alloc _ = y48 at *
                  have hne : x3 ≠ x4 := by omega
                  clear hl3
                  clear hx4
                  refine wpAnyH_ready (rs := [12]) (by kernel_rfl) (by simp) ?_
                  refine AllReadyH.cons rfl (fun K hK => ?_) ?_
                  rotate_left
                  · exact AllReadyH.nil
                  rw [if_pos (by rfl)]
                  refine wp_store_row 25 _ _ rfl x3 (labc ((nn : Int) + 1) c0) rfl rfl 25 (labc 0 0) X3 infoLab rfl (lab_all _ _) ?_
                  refine hK.out _ _ ?_ (fun hHeld => ?_)
                  · exact ⟨lab0 (hj3.setRow_other _ _ (by omega)), lab1 (hj3.setRow_other _ _ (by omega))⟩
                  clear hK K
                  (try simp only [Act.put]); (try simp only [List.setIfInBounds_toArray]); (try simp only [List.set_cons_succ]); (try simp only [List.set_cons_zero])
                  replace hj3 := hj3.setRow_other x3 (labc ((nn : Int) + 1) c0) (by omega)
                  replace hB := bel_setRow hB (show w3.heap.size ≤ x3 by omega) (labc ((nn : Int) + 1) c0)
                  replace X4 := X4.setRow_other x3 (labc ((nn : Int) + 1) c0) hne.symm
                  replace X3 := X3.setRow (labc ((nn : Int) + 1) c0)
                  clear hHeld
                  refine wpAnyH_ready (rs := [13]) (by kernel_rfl) (by simp) ?_
                  refine AllReadyH.cons rfl (fun K hK => ?_) ?_
                  rotate_left
                  · exact AllReadyH.nil
                  rw [if_pos (by rfl)]
                  refine wp_store_row 25 _ _ rfl x4 (labc ((nn : Int) + 1) c1) rfl rfl 25 (labc 0 0) X4 infoLab rfl (lab_all _ _) ?_
                  refine hK.out _ _ ?_ (fun hHeld => ?_)
                  · exact ⟨lab0 (hj3.setRow_other _ _ (by omega)), lab1 (hj3.setRow_other _ _ (by omega))⟩
                  clear hK K
                  (try simp only [Act.put]); (try simp only [List.setIfInBounds_toArray]); (try simp only [List.set_cons_succ]); (try simp only [List.set_cons_zero])
                  replace hj3 := hj3.setRow_other x4 (labc ((nn : Int) + 1) c1) (by omega)
                  replace hB := bel_setRow hB (show w3.heap.size ≤ x4 by omega) (labc ((nn : Int) + 1) c1)
                  replace X3 := X3.setRow_other x4 (labc ((nn : Int) + 1) c1) hne
                  replace X4 := X4.setRow (labc ((nn : Int) + 1) c1)
                  clear hHeld
                  refine wpAnyH_done (by kernel_rfl) ?_ _
                  go_wp2
                  go_meet
                  exact ⟨⟨x3, x4, rfl, rfl, X3, X4, g3, g4, hB⟩⟩
                exact AllReadyH.nil
              refine AllReadyH.cons rfl (fun K hK => ?_) ?_
              · go_simp
                refine hK.out _ _ ?_ (fun hHeld => ?_)
                · exact ⟨lab0 (hj3.alloc _), lab1 (hj3.alloc _)⟩
                clear hK K
                (try simp only [Act.put]); (try simp only [List.setIfInBounds_toArray]); (try simp only [List.set_cons_succ]); (try simp only [List.set_cons_zero])
                have X4 := Blk.new y46 (labc 0 0) 25
                have g4 := hB.size
                have hl3 := X3.lt
                replace hj3 := hj3.alloc (.cells (labc 0 0) 25)
                replace hB := hB.alloc hB.size (.cells (labc 0 0) 25)
                replace X3 := X3.alloc (.cells (labc 0 0) 25)
                try rw [lab00]
                try rw [lab00] at hHeld
                generalize hx4 : y46.heap.size = x4 at *
                generalize y46.alloc _ = y49 at *
                have hne : x3 ≠ x4 := by omega
                clear hl3
                clear hx4
                refine wpAnyH_ready (rs := [9]) (by kernel_rfl) (by simp) ?_
                refine AllReadyH.cons rfl (fun K hK => ?_) ?_
                · go_simp
                  go_wp2_with (go_at_call 66; (with_reducible refine (HM1.calls _).mono ?_); rintro e y50 ⟨rfl, hbk⟩)
                  refine hK.out _ _ ?_ (fun hHeld => ?_)
                  · exact ⟨lab0 (hj3.below hbk hj3.lt), lab1 (hj3.below hbk hj3.lt)⟩
                  clear hK K
                  (try simp only [Act.put]); (try simp only [List.setIfInBounds_toArray]); (try simp only [List.set_cons_succ]); (try simp only [List.set_cons_zero])
                  replace hj3 := hj3.below hbk hj3.lt
                  replace hB := rstep hB hbk
                  replace X3 := X3.below hbk X3.lt
                  replace X4 := X4.below hbk X4.lt
                  clear hbk
                  refine wpAnyH_ready (rs := [12]) (by kernel_rfl) (by simp) ?_
                  refine AllReadyH.cons rfl (fun K hK => ?_) ?_
                  rotate_left
                  · exact AllReadyH.nil
                  rw [if_pos (by rfl)]
                  refine wp_store_row 25 _ _ rfl x3 (labc ((nn : Int) + 1) c0) rfl rfl 25 (labc 0 0) X3 infoLab rfl (lab_all _ _) ?_
                  refine hK.out _ _ ?_ (fun hHeld => ?_)
                  · exact ⟨lab0 (hj3.setRow_other _ _ (by omega)), lab1 (hj3.setRow_other _ _ (by omega))⟩
                  clear hK K
                  (try simp only [Act.put]); (try simp only [List.setIfInBounds_toArray]); (try simp only [List.set_cons_succ]); (try simp only [List.set_cons_zero])
                  replace hj3 := hj3.setRow_other x3 (labc ((nn : Int) + 1) c0) (by omega)
                  replace hB := bel_setRow hB (show w3.heap.size ≤ x3 by omega) (labc ((nn : Int) + 1) c0)
                  replace X4 := X4.setRow_other x3 (labc ((nn : Int) + 1) c0) hne.symm
                  replace X3 := X3.setRow (labc ((nn : Int) + 1) c0)
                  clear hHeld
                  refine wpAnyH_ready (rs := [13]) (by kernel_rfl) (by simp) ?_
                  refine AllReadyH.cons rfl (fun K hK => ?_) ?_
                  rotate_left
                  · exact AllReadyH.nil
                  rw [if_pos (by rfl)]
                  refine wp_store_row 25 _ _ rfl x4 (labc ((nn : Int) + 1) c1) rfl rfl 25 (labc 0 0) X4 infoLab rfl (lab_all _ _) ?_
                  refine hK.out _ _ ?_ (fun hHeld => ?_)
                  · exact ⟨lab0 (hj3.setRow_other _ _ (by omega)), lab1 (hj3.setRow_other _ _ (by omega))⟩
                  clear hK K
                  (try simp only [Act.put]); (try simp only [List.setIfInBounds_toArray]); (try simp only [List.set_cons_succ]); (try simp only [List.set_cons_zero])
                  replace hj3 := hj3.setRow_other x4 (labc ((nn : Int) + 1) c1) (by omega)
                  replace hB := bel_setRow hB (show w3.heap.size ≤ x4 by omega) (labc ((nn : Int) + 1) c1)
                  replace X3 := X3.setRow_other x4 (labc ((nn : Int) + 1) c1) hne
                  replace X4 := X4.setRow (labc ((nn : Int) + 1) c1)
                  clear hHeld
                  refine wpAnyH_done (by kernel_rfl) ?_ _
                  go_wp2
                  go_meet
                  exact ⟨⟨x3, x4, rfl, rfl, X3, X4, g3, g4, hB⟩⟩
                exact AllReadyH.nil
              exact AllReadyH.nil
            refine AllReadyH.cons rfl (fun K hK => ?_) ?_
            · go_simp
              refine hK.out _ _ ?_ (fun hHeld => ?_)
              · exact ⟨lab0 (hj3.alloc _), lab1 (hj3.alloc _)⟩
              clear hK K
              (try simp only [Act.put]); (try simp only [List.setIfInBounds_toArray]); (try simp only [List.set_cons_succ]); (try simp only [List.set_cons_zero])
              have X4 := Blk.new y45 (labc 0 0) 25
              have g4 := hB.size
              have hl3 := X3.lt
              replace hj3 := hj3.alloc (.cells (labc 0 0) 25)
              replace hB := hB.alloc hB.size (.cells (labc 0 0) 25)
              replace X3 := X3.alloc (.cells (labc 0 0) 25)
              try rw [lab00]
              try rw [lab00] at hHeld
              generalize hx4 : y45.heap.size = x4 at *
              generalize y45.alloc _ = y51 at *
              have hne : x3 ≠ x4 := by omega
              clear hl3
              clear hx4
              refine wpAnyH_ready (rs := [6]) (by kernel_rfl) (by simp) ?_
              refine AllReadyH.cons rfl (fun K hK => ?_) ?_
              · go_simp
                go_wp2_with (go_at_call 29; (with_reducible refine (HCH1.calls _).mono ?_); rintro e y52 ⟨rfl, hbk⟩)
                refine hK.out _ _ ?_ (fun hHeld => ?_)
                · exact ⟨lab0 (hj3.below hbk hj3.lt), lab1 (hj3.below hbk hj3.lt)⟩
                clear hK K
                (try simp only [Act.put]); (try simp only [List.setIfInBounds_toArray]); (try simp only [List.set_cons_succ]); (try simp only [List.set_cons_zero])
                replace hj3 := hj3.below hbk hj3.lt
                replace hB := rstep hB hbk
                replace X3 := X3.below hbk X3.lt
                replace X4 := X4.below hbk X4.lt
                clear hbk
                refine wpAnyH_take (i := 7) (v := ?_) rfl (by kernel_rfl) (by kernel_rfl) (by kernel_rfl) (fun _ _ _ h => h) (Or.inl ⟨by rfl, ?_⟩) (by assumption) ?_
                rotate_left
                · intro w9 hSw
                  (try dsimp only at hSw)
                  go_simp
                  (try with_reducible rfl)
                (try simp only [Act.put]); (try simp only [List.setIfInBounds_toArray]); (try simp only [List.set_cons_succ]); (try simp only [List.set_cons_zero])
                refine wpAnyH_take (i := 8) (v := ?_) rfl (by kernel_rfl) (by kernel_rfl) (by kernel_rfl) (fun _ _ _ h => h) (Or.inl ⟨by rfl, ?_⟩) (by assumption) ?_
                rotate_left
                · intro w9 hSw
                  (try dsimp only at hSw)
                  go_simp
                  (try with_reducible rfl)
                (try simp only [Act.put]); (try simp only [List.setIfInBounds_toArray]); (try simp only [List.set_cons_succ]); (try simp only [List.set_cons_zero])
                refine wpAnyH_ready (rs := [9]) (by kernel_rfl) (by simp) ?_
                refine AllReadyH.cons rfl (fun K hK => ?_) ?_
                · go_simp
                  go_wp2_with (go_at_call 66; (with_reducible refine (HM1.calls _).mono ?_); rintro e y53 ⟨rfl, hbk⟩)
                  refine hK.out _ _ ?_ (fun hHeld => ?_)
                  · exact ⟨lab0 (hj3.below hbk hj3.lt), lab1 (hj3.below hbk hj3.lt)⟩
                  clear hK K
                  (try simp only [Act.put]); (try simp only [List.setIfInBounds_toArray]); (try simp only [List.set_cons_succ]); (try simp only [List.set_cons_zero])
                  replace hj3 := hj3.below hbk hj3.lt
                  replace hB := rstep hB hbk
                  replace X3 := X3.below hbk X3.lt
                  replace X4 := X4.below hbk X4.lt
                  clear hbk
                  refine wpAnyH_ready (rs := [12]) (by kernel_rfl) (by simp) ?_
                  refine AllReadyH.cons rfl (fun K hK => ?_) ?_
                  rotate_left
                  · exact AllReadyH.nil
                  rw [if_pos (by rfl)]
                  refine wp_store_row 25 _ _ rfl x3 (labc ((nn : Int) + 1) c0) rfl rfl 25 (labc 0 0) X3 infoLab rfl (lab_all _ _) ?_
                  refine hK.out _ _ ?_ (fun hHeld => ?_)
                  · exact ⟨lab0 (hj3.setRow_other _ _ (by omega)), lab1 (hj3.setRow_other _ _ (by omega))⟩
                  clear hK K
                  (try simp only [Act.put]); (try simp only [List.setIfInBounds_toArray]); (try simp only [List.set_cons_succ]); (try simp only [List.set_cons_zero])
                  replace hj3 := hj3.setRow_other x3 (labc ((nn : Int) + 1) c0) (by omega)
                  replace hB := bel_setRow hB (show w3.heap.size ≤ x3 by omega) (labc ((nn : Int) + 1) c0)
                  replace X4 := X4.setRow_other x3 (labc ((nn : Int) + 1) c0) hne.symm
                  replace X3 := X3.setRow (labc ((nn : Int) + 1) c0)
                  clear hHeld
                  refine wpAnyH_ready (rs := [13]) (by kernel_rfl) (by simp) ?_
                  refine AllReadyH.cons rfl (fun K hK => ?_) ?_
                  rotate_left
                  · exact AllReadyH.nil
                  rw [if_pos (by rfl)]
                  refine wp_store_row 25 _ _ rfl x4 (labc ((nn : Int) + 1) c1) rfl rfl 25 (labc 0 0) X4 infoLab rfl (lab_all _ _) ?_
                  refine hK.out _ _ ?_ (fun hHeld => ?_)
                  · exact ⟨lab0 (hj3.setRow_other _ _ (by omega)), lab1 (hj3.setRow_other _ _ (by omega))⟩
                  clear hK K
                  (try simp only [Act.put]); (try simp only [List.setIfInBounds_toArray]); (try simp only [List.set_cons_succ]); (try simp only [List.set_cons_zero])
                  replace hj3 := hj3.setRow_other x4 (labc ((nn : Int) + 1) c1) (by omega)
                  replace hB := bel_setRow hB (show w3.heap.size ≤ x4 by omega) (labc ((nn : Int) + 1) c1)
                  replace X3 := X3.setRow_other x4 (labc ((nn : Int) + 1) c1) hne
                  replace X4 := X4.setRow (labc ((nn : Int) + 1) c1)
                  clear hHeld
                  refine wpAnyH_done (by kernel_rfl) ?_ _
                  go_wp2
                  go_meet
                  exact ⟨⟨x3, x4, rfl, rfl, X3, X4, g3, g4, hB⟩⟩
                exact AllReadyH.nil
              exact AllReadyH.nil
            exact AllReadyH.nil
          refine AllReadyH.cons rfl (fun K hK => ?_) ?_
          · go_simp
            refine hK.out _ _ ?_ (fun hHeld => ?_)
            · exact ⟨lab0 (hj3.alloc _), lab1 (hj3.alloc _)⟩
            clear hK K
            (try simp only [Act.put]); (try simp only [List.setIfInBounds_toArray]); (try simp only [List.set_cons_succ]); (try simp only [List.set_cons_zero])
            have X4 := Blk.new y28 (labc 0 0) 25
            have g4 := hB.size
            replace hj3 := hj3.alloc (.cells (labc 0 0) 25)
            replace hB := hB.alloc hB.size (.cells (labc 0 0) 25)
            try rw [lab00]
            try rw [lab00] at hHeld
            generalize hx4 : y28.heap.size = x4 at *
            generalize y28.alloc _ = y54 at *
            clear hx4
            refine wpAnyH_ready (rs := [6, 10]) (by kernel_rfl) (by simp) ?_
            refine AllReadyH.cons rfl (fun K hK => ?_) ?_
            · go_simp
              go_wp2_with (go_at_call 29; (with_reducible refine (HCH1.calls _).mono ?_); rintro e y55 ⟨rfl, hbk⟩)
              refine hK.out _ _ ?_ (fun hHeld => ?_)
              · exact ⟨lab0 (hj3.below hbk hj3.lt), lab1 (hj3.below hbk hj3.lt)⟩
              clear hK K
              (try simp only [Act.put]); (try simp only [List.setIfInBounds_toArray]); (try simp only [List.set_cons_succ]); (try simp only [List.set_cons_zero])
              replace hj3 := hj3.below hbk hj3.lt
              replace hB := rstep hB hbk
              replace X4 := X4.below hbk X4.lt
              clear hbk
              refine wpAnyH_take (i := 7) (v := ?_) rfl (by kernel_rfl) (by kernel_rfl) (by kernel_rfl) (fun _ _ _ h => h) (Or.inl ⟨by rfl, ?_⟩) (by assumption) ?_
              rotate_left
              · intro w9 hSw
                (try dsimp only at hSw)
                go_simp
                (try with_reducible rfl)
              (try simp only [Act.put]); (try simp only [List.setIfInBounds_toArray]); (try simp only [List.set_cons_succ]); (try simp only [List.set_cons_zero])
              refine wpAnyH_take (i := 8) (v := ?_) rfl (by kernel_rfl) (by kernel_rfl) (by kernel_rfl) (fun _ _ _ h => h) (Or.inl ⟨by rfl, ?_⟩) (by assumption) ?_
              rotate_left
              · intro w9 hSw
                (try dsimp only at hSw)
                go_simp
                (try with_reducible rfl)
              (try simp only [Act.put]); (try simp only [List.setIfInBounds_toArray]); (try simp only [List.set_cons_succ]); (try simp only [List.set_cons_zero])
              refine wpAnyH_ready (rs := [9, 10]) (by kernel_rfl) (by simp) ?_
              refine AllReadyH.cons rfl (fun K hK => ?_) ?_
              · go_simp
                go_wp2_with (go_at_call 66; (with_reducible refine (HM1.calls _).mono ?_); rintro e y56 ⟨rfl, hbk⟩)
                refine hK.out _ _ ?_ (fun hHeld => ?_)
                · exact ⟨lab0 (hj3.below hbk hj3.lt), lab1 (hj3.below hbk hj3.lt)⟩
                clear hK K
                (try simp only [Act.put]); (try simp only [List.setIfInBounds_toArray]); (try simp only [List.set_cons_succ]); (try simp only [List.set_cons_zero])
                replace hj3 := hj3.below hbk hj3.lt
                replace hB := rstep hB hbk
                replace X4 := X4.below hbk X4.lt
                clear hbk
                refine wpAnyH_ready (rs := [10]) (by kernel_rfl) (by simp) ?_
                refine AllReadyH.cons rfl (fun K hK => ?_) ?_
                · go_simp
                  refine hK.out _ _ ?_ (fun hHeld => ?_)
                  · exact ⟨lab0 (hj3.alloc _), lab1 (hj3.alloc _)⟩
                  clear hK K
                  (try simp only [Act.put]); (try simp only [List.setIfInBounds_toArray]); (try simp only [List.set_cons_succ]); (try simp only [List.set_cons_zero])
                  have X3 := Blk.new y56 (labc 0 0) 25
                  have g3 := hB.size
                  have hl4 := X4.lt
                  replace hj3 := hj3.alloc (.cells (labc 0 0) 25)
                  replace hB := hB.alloc hB.size (.cells (labc 0 0) 25)
                  replace X4 := X4.alloc (.cells (labc 0 0) 25)
                  try rw [lab00]
                  try rw [lab00] at hHeld
                  generalize hx3 : y56.heap.size = x3 at *
                  generalize y56.alloc _ = y57 at *
                  have hne : x3 ≠ x4 := by omega
                  clear hl4
                  clear hx3
                  refine wpAnyH_ready (rs := [12]) (by kernel_rfl) (by simp) ?_
                  refine AllReadyH.cons rfl (fun K hK => ?_) ?_
                  rotate_left
                  · exact AllReadyH.nil
                  rw [if_pos (by rfl)]
                  refine wp_store_row 25 _ _ rfl x3 (labc ((nn : Int) + 1) c0) rfl rfl 25 (labc 0 0) X3 infoLab rfl (lab_all _ _) ?_
                  refine hK.out _ _ ?_ (fun hHeld => ?_)
                  · exact ⟨lab0 (hj3.setRow_other _ _ (by omega)), lab1 (hj3.setRow_other _ _ (by omega))⟩
                  clear hK K
                  (try simp only [Act.put]); (try simp only [List.setIfInBounds_toArray]); (try simp only [List.set_cons_succ]); (try simp only [List.set_cons_zero])
                  replace hj3 := hj3.setRow_other x3 (labc ((nn : Int) + 1) c0) (by omega)
                  replace hB := bel_setRow hB (show w3.heap.size ≤ x3 by omega) (labc ((nn : Int) + 1) c0)
                  replace X4 := X4.setRow_other x3 (labc ((nn : Int) + 1) c0) hne.symm
                  replace X3 := X3.setRow (labc ((nn : Int) + 1) c0)
                  clear hHeld
                  refine wpAnyH_ready (rs := [13]) (by kernel_rfl) (by simp) ?_
                  refine AllReadyH.cons rfl (fun K hK => ?_) ?_
                  rotate_left
                  · exact AllReadyH.nil
                  rw [if_pos (by rfl)]
                  refine wp_store_row 25 _ _ rfl x4 (labc ((nn : Int) + 1) c1) rfl rfl 25 (labc 0 0) X4 infoLab rfl (lab_all _ _) ?_
                  refine hK.out _ _ ?_ (fun hHeld => ?_)
                  · exact ⟨lab0 (hj3.setRow_other _ _ (by omega)), lab1 (hj3.setRow_other _ _ (by omega))⟩
                  clear hK K
                  (try simp only [Act.put]); (try simp only [List.setIfInBounds_toArray]); (try simp only [List.set_cons_succ]); (try simp only [List.set_cons_zero])
                  replace hj3 := hj3.setRow_other x4 (labc ((nn : Int) + 1) c1) (by omega)
                  replace hB := bel_setRow hB (show w3.heap.size ≤ x4 by omega) (labc ((nn : Int) + 1) c1)
                  replace X3 := X3.setRow_other x4 (labc ((nn : Int) + 1) c1) hne
                  replace X4 := X4.setRow (labc ((nn : Int) + 1) c1)
                  clear hHeld
                  refine wpAnyH_done (by kernel_rfl) ?_ _
                  go_wp2
                  go_meet
                  exact ⟨⟨x3, x4, rfl, rfl, X3, X4, g3, g4, hB⟩⟩
                exact AllReadyH.nil
              refine AllReadyH.cons rfl (fun K hK => ?_) ?_
              · go_simp
                refine hK.out _ _ ?_ (fun hHeld => ?_)
                · exact ⟨lab0 (hj3.alloc _), lab1 (hj3.alloc _)⟩
                clear hK K
                (try simp only [Act.put]); (try simp only [List.setIfInBounds_toArray]); (try simp only [List.set_cons_succ]); (try simp only [List.set_cons_zero])
                have X3 := Blk.new y55 (labc 0 0) 25
                have g3 := hB.size
                have hl4 := X4.lt
                replace hj3 := hj3.alloc (.cells (labc 0 0) 25)
                replace hB := hB.alloc hB.size (.cells (labc 0 0) 25)
                replace X4 := X4.alloc (.cells (labc 0 0) 25)
                try rw [lab00]
                try rw [lab00] at hHeld
                generalize hx3 : y55.heap.size = x3 at *
                generalize y55.alloc _ = y58 at *
                have hne : x3 ≠ x4 := by omega
                clear hl4
                clear hx3
                refine wpAnyH_ready (rs := [9]) (by kernel_rfl) (by simp) ?_
                refine AllReadyH.cons rfl (fun K hK => ?_) ?_
                · go_simp
                  go_wp2_with (go_at_call 66; (with_reducible refine (HM1.calls _).mono ?_); rintro e y59 ⟨rfl, hbk⟩)
                  refine hK.out _ _ ?_ (fun hHeld => ?_)
                  · exact ⟨lab0 (hj3.below hbk hj3.lt), lab1 (hj3.below hbk hj3.lt)⟩
                  clear hK K
                  (try simp only [Act.put]); (try simp only [List.setIfInBounds_toArray]); (try simp only [List.set_cons_succ]); (try simp only [List.set_cons_zero])
                  replace hj3 := hj3.below hbk hj3.lt
                  replace hB := rstep hB hbk
                  replace X3 := X3.below hbk X3.lt
                  replace X4 := X4.below hbk X4.lt
                  clear hbk
                  refine wpAnyH_ready (rs := [12]) (by kernel_rfl) (by simp) ?_
                  refine AllReadyH.cons rfl (fun K hK => ?_) ?_
                  rotate_left
                  · exact AllReadyH.nil
                  rw [if_pos (by rfl)]
                  refine wp_store_row 25 _ _ rfl x3 (labc ((nn : Int) + 1) c0) rfl rfl 25 (labc 0 0) X3 infoLab rfl (lab_all _ _) ?_
                  refine hK.out _ _ ?_ (fun hHeld => ?_)
                  · exact ⟨lab0 (hj3.setRow_other _ _ (by omega)), lab1 (hj3.setRow_other _ _ (by omega))⟩
                  clear hK K
                  (try simp only [Act.put]); (try simp only [List.setIfInBounds_toArray]); (try simp only [List.set_cons_succ]); (try simp only [List.set_cons_zero])
                  replace hj3 := hj3.setRow_other x3 (labc ((nn : Int) + 1) c0) (by omega)
                  replace hB := bel_setRow hB (show w3.heap.size ≤ x3 by omega) (labc ((nn : Int) + 1) c0)
                  replace X4 := X4.setRow_other x3 (labc ((nn : Int) + 1) c0) hne.symm
                  replace X3 := X3.setRow (labc ((nn : Int) + 1) c0)
                  clear hHeld
                  refine wpAnyH_ready (rs := [13]) (by kernel_rfl) (by simp) ?_
                  refine AllReadyH.cons rfl (fun K hK => ?_) ?_
                  rotate_left
                  · exact AllReadyH.nil
                  rw [if_pos (by rfl)]
                  refine wp_store_row 25 _ _ rfl x4 (labc ((nn : Int) + 1) c1) rfl rfl 25 (labc 0 0) X4 infoLab rfl (lab_all _ _) ?_
                  refine hK.out _ _ ?_ (fun hHeld => ?_)
                  · exact ⟨lab0 (hj3.setRow_other _ _ (by omega)), lab1 (hj3.setRow_other _ _ (by omega))⟩
                  clear hK K
                  (try simp only [Act.put]); (try simp only [List.setIfInBounds_toArray]); (try simp only [List.set_cons_succ]); (try simp only [List.set_cons_zero])
                  replace hj3 := hj3.setRow_other x4 (labc ((nn : Int) + 1) c1) (by omega)
                  replace hB := bel_setRow hB (show w3.heap.size ≤ x4 by omega) (labc ((nn : Int) + 1) c1)
                  replace X3 := X3.setRow_other x4 (labc ((nn : Int) + 1) c1) hne
                  replace X4 := X4.setRow (labc ((nn : Int) + 1) c1)
                  clear hHeld
                  refine wpAnyH_done (by kernel_rfl) ?_ _
                  go_wp2
                  go_meet
                  exact ⟨⟨x3, x4, rfl, rfl, X3, X4, g3, g4, hB⟩⟩
                exact AllReadyH.nil
              exact AllReadyH.nil
            refine AllReadyH.cons rfl (fun K hK => ?_) ?_
            · go_simp
              refine hK.out _ _ ?_ (fun hHeld => ?_)
              · exact ⟨lab0 (hj3.alloc _), lab1 (hj3.alloc _)⟩
              clear hK K
              (try simp only [Act.put]); (try simp only [List.setIfInBounds_toArray]); (try simp only [List.set_cons_succ]); (try simp only [List.set_cons_zero])
              have X3 := Blk.new y54 (labc 0 0) 25
              have g3 := hB.size
              have hl4 := X4.lt
              replace hj3 := hj3.alloc (.cells (labc 0 0) 25)
              replace hB := hB.alloc hB.size (.cells (labc 0 0) 25)
              replace X4 := X4.alloc (.cells (labc 0 0) 25)
              try rw [lab00]
              try rw [lab00] at hHeld
              generalize hx3 : y54.heap.size = x3 at *
              generalize y54.alloc _ = y60 at *
              have hne : x3 ≠ x4 := by omega
              clear hl4
              clear hx3
              refine wpAnyH_ready (rs := [6]) (by kernel_rfl) (by simp) ?_
              refine AllReadyH.cons rfl (fun K hK => ?_) ?_
              · go_simp
                go_wp2_with (go_at_call 29; (with_reducible refine (HCH1.calls _).mono ?_); rintro e y61 ⟨rfl, hbk⟩)
                refine hK.out _ _ ?_ (fun hHeld => ?_)
                · exact ⟨lab0 (hj3.below hbk hj3.lt), lab1 (hj3.below hbk hj3.lt)⟩
                clear hK K
                (try simp only [Act.put]); (try simp only [List.setIfInBounds_toArray]); (try simp only [List.set_cons_succ]); (try simp only [List.set_cons_zero])
                replace hj3 := hj3.below hbk hj3.lt
                replace hB := rstep hB hbk
                replace X3 := X3.below hbk X3.lt
                replace X4 := X4.below hbk X4.lt
                clear hbk
                refine wpAnyH_take (i := 7) (v := ?_) rfl (by kernel_rfl) (by kernel_rfl) (by kernel_rfl) (fun _ _ _ h => h) (Or.inl ⟨by rfl, ?_⟩) (by assumption) ?_
                rotate_left
                · intro w9 hSw
                  (try dsimp only at hSw)
                  go_simp
                  (try with_reducible rfl)
                (try simp only [Act.put]); (try simp only [List.setIfInBounds_toArray]); (try simp only [List.set_cons_succ]); (try simp only [List.set_cons_zero])
                refine wpAnyH_take (i := 8) (v := ?_) rfl (by kernel_rfl) (by kernel_rfl) (by kernel_rfl) (fun _ _ _ h => h) (Or.inl ⟨by rfl, ?_⟩) (by assumption) ?_
                rotate_left
                · intro w9 hSw
                  (try dsimp only at hSw)
                  go_simp
                  (try with_reducible rfl)
                (try simp only [Act.put]); (try simp only [List.setIfInBounds_toArray]); (try simp only [List.set_cons_succ]); (try simp only [List.set_cons_zero])
                refine wpAnyH_ready (rs := [9]) (by kernel_rfl) (by simp) ?_
                refine AllReadyH.cons rfl (fun K hK => ?_) ?_
                · go_simp
                  go_wp2_with (go_at_call 66; (with_reducible refine (HM1.calls _).mono ?_); rintro e y62 ⟨rfl, hbk⟩)
                  refine hK.out _ _ ?_ (fun hHeld => ?_)
                  · exact ⟨lab0 (hj3.below hbk hj3.lt), lab1 (hj3.below hbk hj3.lt)⟩
                  clear hK K
                  (try simp only [Act.put]); (try simp only [List.setIfInBounds_toArray]); (try simp only [List.set_cons_succ]); (try simp only [List.set_cons_zero])
                  replace hj3 := hj3.below hbk hj3.lt
                  replace hB := rstep hB hbk
                  replace X3 := X3.below hbk X3.lt
                  replace X4 := X4.below hbk X4.lt
                  clear hbk
                  refine wpAnyH_ready (rs := [12]) (by kernel_rfl) (by simp) ?_
                  refine AllReadyH.cons rfl (fun K hK => ?_) ?_
                  rotate_left
                  · exact AllReadyH.nil
                  rw [if_pos (by rfl)]
                  refine wp_store_row 25 _ _ rfl x3 (labc ((nn : Int) + 1) c0) rfl rfl 25 (labc 0 0) X3 infoLab rfl (lab_all _ _) ?_
                  refine hK.out _ _ ?_ (fun hHeld => ?_)
                  · exact ⟨lab0 (hj3.setRow_other _ _ (by omega)), lab1 (hj3.setRow_other _ _ (by omega))⟩
                  clear hK K
                  (try simp only [Act.put]); (try simp only [List.setIfInBounds_toArray]); (try simp only [List.set_cons_succ]); (try simp only [List.set_cons_zero])
                  replace hj3 := hj3.setRow_other x3 (labc ((nn : Int) + 1) c0) (by omega)
                  replace hB := bel_setRow hB (show w3.heap.size ≤ x3 by omega) (labc ((nn : Int) + 1) c0)
                  replace X4 := X4.setRow_other x3 (labc ((nn : Int) + 1) c0) hne.symm
                  replace X3 := X3.setRow (labc ((nn : Int) + 1) c0)
                  clear hHeld
                  refine wpAnyH_ready (rs := [13]) (by kernel_rfl) (by simp) ?_
                  refine AllReadyH.cons rfl (fun K hK => ?_) ?_
                  rotate_left
                  · exact AllReadyH.nil
                  rw [if_pos (by rfl)]
                  refine wp_store_row 25 _ _ rfl x4 (labc ((nn : Int) + 1) c1) rfl rfl 25 (labc 0 0) X4 infoLab rfl (lab_all _ _) ?_
                  refine hK.out _ _ ?_ (fun hHeld => ?_)
                  · exact ⟨lab0 (hj3.setRow_other _ _ (by omega)), lab1 (hj3.setRow_other _ _ (by omega))⟩
                  clear hK K
                  (try simp only [Act.put]); (try simp only [List.setIfInBounds_toArray]); (try simp only [List.set_cons_succ]); (try simp only [List.set_cons_zero])
                  replace hj3 := hj3.setRow_other x4 (labc ((nn : Int) + 1) c1) (by omega)
                  replace hB := bel_setRow hB (show w3.heap.size ≤ x4 by omega) (labc ((nn : Int) + 1) c1)
                  replace X3 := X3.setRow_other x4 (labc ((nn : Int) + 1) c1) hne
                  replace X4 := X4.setRow (labc ((nn : Int) + 1) c1)
                  clear hHeld
                  refine wpAnyH_done (by kernel_rfl) ?_ _
                  go_wp2
                  go_meet
                  exact ⟨⟨x3, x4, rfl, rfl, X3, X4, g3, g4, hB⟩⟩
                exact AllReadyH.nil
              exact AllReadyH.nil
            exact AllReadyH.nil
          exact AllReadyH.nil
        refine AllReadyH.cons rfl (fun K hK => ?_) ?_
        · go_simp
          refine hK.out _ _ ?_ (fun hHeld => ?_)
          · exact ⟨lab0 (hj3.alloc _), lab1 (hj3.alloc _)⟩
          clear hK K
          (try simp only [Act.put]); (try simp only [List.setIfInBounds_toArray]); (try simp only [List.set_cons_succ]); (try simp only [List.set_cons_zero])
          have X3 := Blk.new y27 (labc 0 0) 25
          have g3 := hB.size
          replace hj3 := hj3.alloc (.cells (labc 0 0) 25)
          replace hB := hB.alloc hB.size (.cells (labc 0 0) 25)
          try rw [lab00]
          try rw [lab00] at hHeld
          generalize hx3 : y27.heap.size = x3 at *
          generalize y27.alloc _ = y63 at *
          clear hx3
          refine wpAnyH_ready (rs := [4, 11]) (by kernel_rfl) (by simp) ?_
          refine AllReadyH.cons rfl (fun K hK => ?_) ?_
          · go_simp
            go_wp2_with (go_at_call 66; (with_reducible refine (HM0.calls _).mono ?_); rintro e y64 ⟨rfl, hbk⟩)
            refine hK.out _ _ ?_ (fun hHeld => ?_)
            · exact ⟨lab0 (hj3.below hbk hj3.lt), lab1 (hj3.below hbk hj3.lt)⟩
            clear hK K
            (try simp only [Act.put]); (try simp only [List.setIfInBounds_toArray]); (try simp only [List.set_cons_succ]); (try simp only [List.set_cons_zero])
            replace hj3 := hj3.below hbk hj3.lt
            replace hB := rstep hB hbk
            replace X3 := X3.below hbk X3.lt
            clear hbk
            refine wpAnyH_ready (rs := [6, 11]) (by kernel_rfl) (by simp) ?_
            refine AllReadyH.cons rfl (fun K hK => ?_) ?_
            · go_simp
              go_wp2_with (go_at_call 29; (with_reducible refine (HCH1.calls _).mono ?_); rintro e y65 ⟨rfl, hbk⟩)
              refine hK.out _ _ ?_ (fun hHeld => ?_)
              · exact ⟨lab0 (hj3.below hbk hj3.lt), lab1 (hj3.below hbk hj3.lt)⟩
              clear hK K
              (try simp only [Act.put]); (try simp only [List.setIfInBounds_toArray]); (try simp only [List.set_cons_succ]); (try simp only [List.set_cons_zero])
              replace hj3 := hj3.below hbk hj3.lt
              replace hB := rstep hB hbk
              replace X3 := X3.below hbk X3.lt
              clear hbk
              refine wpAnyH_take (i := 7) (v := ?_) rfl (by kernel_rfl) (by kernel_rfl) (by kernel_rfl) (fun _ _ _ h => h) (Or.inl ⟨by rfl, ?_⟩) (by assumption) ?_
              rotate_left
              · intro w9 hSw
                (try dsimp only at hSw)
                go_simp
                (try with_reducible rfl)
              (try simp only [Act.put]); (try simp only [List.setIfInBounds_toArray]); (try simp only [List.set_cons_succ]); (try simp only [List.set_cons_zero])
              refine wpAnyH_take (i := 8) (v := ?_) rfl (by kernel_rfl) (by kernel_rfl) (by kernel_rfl) (fun _ _ _ h => h) (Or.inl ⟨by rfl, ?_⟩) (by assumption) ?_
              rotate_left
              · intro w9 hSw
                (try dsimp only at hSw)
                go_simp
                (try with_reducible rfl)
              (try simp only [Act.put]); (try simp only [List.setIfInBounds_toArray]); (try simp only [List.set_cons_succ]); (try simp only [List.set_cons_zero])
              refine wpAnyH_ready (rs := [9, 11]) (by kernel_rfl) (by simp) ?_
              refine AllReadyH.cons rfl (fun K hK => ?_) ?_
              · go_simp
                go_wp2_with (go_at_call 66; (with_reducible refine (HM1.calls _).mono ?_); rintro e y66 ⟨rfl, hbk⟩)
                refine hK.out _ _ ?_ (fun hHeld => ?_)
                · exact ⟨lab0 (hj3.below hbk hj3.lt), lab1 (hj3.below hbk hj3.lt)⟩
                clear hK K
                (try simp only [Act.put]); (try simp only [List.setIfInBounds_toArray]); (try simp only [List.set_cons_succ]); (try simp only [List.set_cons_zero])
                replace hj3 := hj3.below hbk hj3.lt
                replace hB := rstep hB hbk
                replace X3 := X3.below hbk X3.lt
                clear hbk
                refine wpAnyH_ready (rs := [11]) (by kernel_rfl) (by simp) ?_
                refine AllReadyH.cons rfl (fun K hK => ?_) ?_
                · go_simp
                  refine hK.out _ _ ?_ (fun hHeld => ?_)
                  · exact ⟨lab0 (hj3.alloc _), lab1 (hj3.alloc _)⟩
                  clear hK K
                  (try simp only [Act.put]); (try simp only [List.setIfInBounds_toArray]); (try simp only [List.set_cons_succ]); (try simp only [List.set_cons_zero])
                  have X4 := Blk.new y66 (labc 0 0) 25
                  have g4 := hB.size
                  have hl3 := X3.lt
                  replace hj3 := hj3.alloc (.cells (labc 0 0) 25)
                  replace hB := hB.alloc hB.size (.cells (labc 0 0) 25)
                  replace X3 := X3.alloc (.cells (labc 0 0) 25)
                  try rw [lab00]
                  try rw [lab00] at hHeld
                  generalize hx4 : y66.heap.size = x4 at *
                  generalize y66.alloc _ = y67 at *
                  have hne : x3 ≠ x4 := by omega
                  clear hl3
                  clear hx4
                  refine wpAnyH_ready (rs := [12]) (by kernel_rfl) (by simp) ?_
                  refine AllReadyH.cons rfl (fun K hK => ?_) ?_
                  rotate_left
                  · exact AllReadyH.nil
                  rw [if_pos (by rfl)]
                  refine wp_store_row 25 _ _ rfl x3 (labc ((nn : Int) + 1) c0) rfl rfl 25 (labc 0 0) X3 infoLab rfl (lab_all _ _) ?_
                  refine hK.out _ _ ?_ (fun hHeld => ?_)
                  · exact ⟨lab0 (hj3.setRow_other _ _ (by omega)), lab1 (hj3.setRow_other _ _ (by omega))⟩
                  clear hK K
                  (try simp only [Act.put]); (try simp only [List.setIfInBounds_toArray]); (try simp only [List.set_cons_succ]); (try simp only [List.set_cons_zero])
                  replace hj3 := hj3.setRow_other x3 (labc ((nn : Int) + 1) c0) (by omega)
                  replace hB := bel_setRow hB (show w3.heap.size ≤ x3 by omega) (labc ((nn : Int) + 1) c0)
                  replace X4 := X4.setRow_other x3 (labc ((nn : Int) + 1) c0) hne.symm
                  replace X3 := X3.setRow (labc ((nn : Int) + 1) c0)
                  clear hHeld
                  refine wpAnyH_ready (rs := [13]) (by kernel_rfl) (by simp) ?_
                  refine AllReadyH.cons rfl (fun K hK => ?_) ?_
                  rotate_left
                  · exact AllReadyH.nil
                  rw [if_pos (by rfl)]
                  refine wp_store_row 25 _ _ rfl x4 (labc ((nn : Int) + 1) c1) rfl rfl 25 (labc 0 0) X4 infoLab rfl (lab_all _ _) ?_
                  refine hK.out _ _ ?_ (fun hHeld => ?_)
                  · exact ⟨lab0 (hj3.setRow_other _ _ (by omega)), lab1 (hj3.setRow_other _ _ (by omega))⟩
                  clear hK K
                  (try simp only [Act.put]); (try simp only [List.setIfInBounds_toArray]); (try simp only [List.set_cons_succ]); (try simp only [List.set_cons_zero])
                  replace hj3 := hj3.setRow_other x4 (labc ((nn : Int) + 1) c1) (by omega)
                  replace hB := bel_setRow hB (show w3.heap.size ≤ x4 by omega) (labc ((nn : Int) + 1) c1)
                  replace X3 := X3.setRow_other x4 (labc ((nn : Int) + 1) c1) hne
                  replace X4 := X4.setRow (labc ((nn : Int) + 1) c1)
                  clear hHeld
                  refine wpAnyH_done (by kernel_rfl) ?_ _
                  go_wp2
                  go_meet
                  exact ⟨⟨x3, x4, rfl, rfl, X3, X4, g3, g4, hB⟩⟩
                exact AllReadyH.nil
              refine AllReadyH.cons rfl (fun K hK => ?_) ?_
              · go_simp
                refine hK.out _ _ ?_ (fun hHeld => ?_)
                · exact ⟨lab0 (hj3.alloc _), lab1 (hj3.alloc _)⟩
                clear hK K
                (try simp only [Act.put]); (try simp only [List.setIfInBounds_toArray]); (try simp only [List.set_cons_succ]); (try simp only [List.set_cons_zero])
                have X4 := Blk.new y65 (labc 0 0) 25
                have g4 := hB.size
                have hl3 := X3.lt
                replace hj3 := hj3.alloc (.cells (labc 0 0) 25)
                replace hB := hB.alloc hB.size (.cells (labc 0 0) 25)
                replace X3 := X3.alloc (.cells (labc 0 0) 25)
                try rw [lab00]
                try rw [lab00] at hHeld
                generalize hx4 : y65.heap.size = x4 at *
                generalize y65.alloc _ = y68 at *
                have hne : x3 ≠ x4 := by omega
                clear hl3
                clear hx4
                refine wpAnyH_ready (rs := [9]) (by kernel_rfl) (by simp) ?_
                refine AllReadyH.cons rfl (fun K hK => ?_) ?_
                · go_simp
                  go_wp2_with (go_at_call 66; (with_reducible refine (HM1.calls _).mono ?_); rintro e y69 ⟨rfl, hbk⟩)
                  refine hK.out _ _ ?_ (fun hHeld => ?_)
                  · exact ⟨lab0 (hj3.below hbk hj3.lt), lab1 (hj3.below hbk hj3.lt)⟩
                  clear hK K
                  (try simp only [Act.put]); (try simp only [List.setIfInBounds_toArray]); (try simp only [List.set_cons_succ]); (try simp only [List.set_cons_zero])
                  replace hj3 := hj3.below hbk hj3.lt
                  replace hB := rstep hB hbk
                  replace X3 := X3.below hbk X3.lt
                  replace X4 := X4.below hbk X4.lt
                  clear hbk
                  refine wpAnyH_ready (rs := [12]) (by kernel_rfl) (by simp) ?_
                  refine AllReadyH.cons rfl (fun K hK => ?_) ?_
                  rotate_left
                  · exact AllReadyH.nil
                  rw [if_pos (by rfl)]
                  refine wp_store_row 25 _ _ rfl x3 (labc ((nn : Int) + 1) c0) rfl rfl 25 (labc 0 0) X3 infoLab rfl (lab_all _ _) ?_
                  refine hK.out _ _ ?_ (fun hHeld => ?_)
                  · exact ⟨lab0 (hj3.setRow_other _ _ (by omega)), lab1 (hj3.setRow_other _ _ (by omega))⟩
                  clear hK K
                  (try simp only [Act.put]); (try simp only [List.setIfInBounds_toArray]); (try simp only [List.set_cons_succ]); (try simp only [List.set_cons_zero])
                  replace hj3 := hj3.setRow_other x3 (labc ((nn : Int) + 1) c0) (by omega)
                  replace hB := bel_setRow hB (show w3.heap.size ≤ x3 by omega) (labc ((nn : Int) + 1) c0)
                  replace X4 := X4.setRow_other x3 (labc ((nn : Int) + 1) c0) hne.symm
                  replace X3 := X3.setRow (labc ((nn : Int) + 1) c0)
                  clear hHeld
                  refine wpAnyH_ready (rs := [13]) (by kernel_rfl) (by simp) ?_
                  refine AllReadyH.cons rfl (fun K hK => ?_) ?_
                  rotate_left
                  · exact AllReadyH.nil
                  rw [if_pos (by rfl)]
                  refine wp_store_row 25 _ _ rfl x4 (labc ((nn : Int) + 1) c1) rfl rfl 25 (labc 0 0) X4 infoLab rfl (lab_all _ _) ?_
                  refine hK.out _ _ ?_ (fun hHeld => ?_)
                  · exact ⟨lab0 (hj3.setRow_other _ _ (by omega)), lab1 (hj3.setRow_other _ _ (by omega))⟩
                  clear hK K
                  (try simp only [Act.put]); (try simp only [List.setIfInBounds_toArray]); (try simp only [List.set_cons_succ]); (try simp only [List.set_cons_zero])
                  replace hj3 := hj3.setRow_other x4 (labc ((nn : Int) + 1) c1) (by omega)
                  replace hB := bel_setRow hB (show w3.heap.size ≤ x4 by omega) (labc ((nn : Int) + 1) c1)
                  replace X3 := X3.setRow_other x4 (labc ((nn : Int) + 1) c1) hne
                  replace X4 := X4.setRow (labc ((nn : Int) + 1) c1)
                  clear hHeld
                  refine wpAnyH_done (by kernel_rfl) ?_ _
                  go_wp2
                  go_meet
                  exact ⟨⟨x3, x4, rfl, rfl, X3, X4, g3, g4, hB⟩⟩
                exact AllReadyH.nil
              exact AllReadyH.nil
            refine AllReadyH.cons rfl (fun K hK => ?_) ?_
            · go_simp
              refine hK.out _ _ ?_ (fun hHeld => ?_)
              · exact ⟨lab0 (hj3.alloc _), lab1 (hj3.alloc _)⟩
              clear hK K
              (try simp only [Act.put]); (try simp only [List.setIfInBounds_toArray]); (try simp only [List.set_cons_succ]); (try simp only [List.set_cons_zero])
              have X4 := Blk.new y64 (labc 0 0) 25
              have g4 := hB.size
              have hl3 := X3.lt
              replace hj3 := hj3.alloc (.cells (labc 0 0) 25)
              replace hB := hB.alloc hB.size (.cells (labc 0 0) 25)
              replace X3 := X3.alloc (.cells (labc 0 0) 25)
              try rw [lab00]
              try rw [lab00] at hHeld
              generalize hx4 : y64.heap.size = x4 at *
              generalize y64.alloc _ = y70 at *
              have hne : x3 ≠ x4 := by omega
              clear hl3
              clear hx4
              refine wpAnyH_ready (rs := [6]) (by kernel_rfl) (by simp) ?_
              refine AllReadyH.cons rfl (fun K hK => ?_) ?_
              · go_simp
                go_wp2_with (go_at_call 29; (with_reducible refine (HCH1.calls _).mono ?_); rintro e y71 ⟨rfl, hbk⟩)
                refine hK.out _ _ ?_ (fun hHeld => ?_)
                · exact ⟨lab0 (hj3.below hbk hj3.lt), lab1 (hj3.below hbk hj3.lt)⟩
                clear hK K
                (try simp only [Act.put]); (try simp only [List.setIfInBounds_toArray]); (try simp only [List.set_cons_succ]); (try simp only [List.set_cons_zero])
                replace hj3 := hj3.below hbk hj3.lt
                replace hB := rstep hB hbk
                replace X3 := X3.below hbk X3.lt
                replace X4 := X4.below hbk X4.lt
                clear hbk
                refine wpAnyH_take (i := 7) (v := ?_) rfl (by kernel_rfl) (by kernel_rfl) (by kernel_rfl) (fun _ _ _ h => h) (Or.inl ⟨by rfl, ?_⟩) (by assumption) ?_
                rotate_left
                · intro w9 hSw
                  (try dsimp only at hSw)
                  go_simp
                  (try with_reducible rfl)
                (try simp only [Act.put]); (try simp only [List.setIfInBounds_toArray]); (try simp only [List.set_cons_succ]); (try simp only [List.set_cons_zero])
                refine wpAnyH_take (i := 8) (v := ?_) rfl (by kernel_rfl) (by kernel_rfl) (by kernel_rfl) (fun _ _ _ h => h) (Or.inl ⟨by rfl, ?_⟩) (by assumption) ?_
                rotate_left
                · intro w9 hSw
                  (try dsimp only at hSw)
                  go_simp
                  (try with_reducible rfl)
                (try simp only [Act.put]); (try simp only [List.setIfInBounds_toArray]); (try simp only [List.set_cons_succ]); (try simp only [List.set_cons_zero])
                refine wpAnyH_ready (rs := [9]) (by kernel_rfl) (by simp) ?_
                refine AllReadyH.cons rfl (fun K hK => ?_) ?_
                · go_simp
                  go_wp2_with (go_at_call 66; (with_reducible refine (HM1.calls _).mono ?_); rintro e y72 ⟨rfl, hbk⟩)
                  refine hK.out _ _ ?_ (fun hHeld => ?_)
                  · exact ⟨lab0 (hj3.below hbk hj3.lt), lab1 (hj3.below hbk hj3.lt)⟩
                  clear hK K
                  (try simp only [Act.put]); (try simp only [List.setIfInBounds_toArray]); (try simp only [List.set_cons_succ]); (try simp only [List.set_cons_zero])
                  replace hj3 := hj3.below hbk hj3.lt
                  replace hB := rstep hB hbk
                  replace X3 := X3.below hbk X3.lt
                  replace X4 := X4.below hbk X4.lt
                  clear hbk
                  refine wpAnyH_ready (rs := [12]) (by kernel_rfl) (by simp) ?_
                  refine AllReadyH.cons rfl (fun K hK => ?_) ?_
                  rotate_left
                  · exact AllReadyH.nil
                  rw [if_pos (by rfl)]
                  refine wp_store_row 25 _ _ rfl x3 (labc ((nn : Int) + 1) c0) rfl rfl 25 (labc 0 0) X3 infoLab rfl (lab_all _ _) ?_
                  refine hK.out _ _ ?_ (fun hHeld => ?_)
                  · exact ⟨lab0 (hj3.setRow_other _ _ (by omega)), lab1 (hj3.setRow_other _ _ (by omega))⟩
                  clear hK K
                  (try simp only [Act.put]); (try simp only [List.setIfInBounds_toArray]); (try simp only [List.set_cons_succ]); (try simp only [List.set_cons_zero])
                  replace hj3 := hj3.setRow_other x3 (labc ((nn : Int) + 1) c0) (by omega)
                  replace hB := bel_setRow hB (show w3.heap.size ≤ x3 by omega) (labc ((nn : Int) + 1) c0)
                  replace X4 := X4.setRow_other x3 (labc ((nn : Int) + 1) c0) hne.symm
                  replace X3 := X3.setRow (labc ((nn : Int) + 1) c0)
                  clear hHeld
                  refine wpAnyH_ready (rs := [13]) (by kernel_rfl) (by simp) ?_
                  refine AllReadyH.cons rfl (fun K hK => ?_) ?_
                  rotate_left
                  · exact AllReadyH.nil
                  rw [if_pos (by rfl)]
                  refine wp_store_row 25 _ _ rfl x4 (labc ((nn : Int) + 1) c1) rfl rfl 25 (labc 0 0) X4 infoLab rfl (lab_all _ _) ?_
                  refine hK.out _ _ ?_ (fun hHeld => ?_)
                  · exact ⟨lab0 (hj3.setRow_other _ _ (by omega)), lab1 (hj3.setRow_other _ _ (by omega))⟩
                  clear hK K
                  (try simp only [Act.put]); (try simp only [List.setIfInBounds_toArray]); (try simp only [List.set_cons_succ]); (try simp only [List.set_cons_zero])
                  replace hj3 := hj3.setRow_other x4 (labc ((nn : Int) + 1) c1) (by omega)
                  replace hB := bel_setRow hB (show w3.heap.size ≤ x4 by omega) (labc ((nn : Int) + 1) c1)
                  replace X3 := X3.setRow_other x4 (labc ((nn : Int) + 1) c1) hne
                  replace X4 := X4.setRow (labc ((nn : Int) + 1) c1)
                  clear hHeld
                  refine wpAnyH_done (by kernel_rfl) ?_ _
                  go_wp2
                  go_meet
                  exact ⟨⟨x3, x4, rfl, rfl, X3, X4, g3, g4, hB⟩⟩
                exact AllReadyH.nil
              exact AllReadyH.nil
            exact AllReadyH.nil
          refine AllReadyH.cons rfl (fun K hK => ?_) ?_
          · go_simp
            refine hK.out _ _ ?_ (fun hHeld => ?_)
            · exact ⟨lab0 (hj3.alloc _), lab1 (hj3.alloc _)⟩
            clear hK K
            (try simp only [Act.put]); (try simp only [List.setIfInBounds_toArray]); (try simp only [List.set_cons_succ]); (try simp only [List.set_cons_zero])
            have X4 := Blk.new y63 (labc 0 0) 25
            have g4 := hB.size
            have hl3 := X3.lt
            replace hj3 := hj3.alloc (.cells (labc 0 0) 25)
            replace hB := hB.alloc hB.size (.cells (labc 0 0) 25)
            replace X3 := X3.alloc (.cells (labc 0 0) 25)
            try rw [lab00]
            try rw [lab00] at hHeld
            generalize hx4 : y63.heap.size = x4 at *
            generalize y63.alloc _ = y73 at *
            have hne : x3 ≠ x4 := by omega
            clear hl3
            clear hx4
            refine wpAnyH_ready (rs := [4]) (by kernel_rfl) (by simp) ?_
            refine AllReadyH.cons rfl (fun K hK => ?_) ?_
            · go_simp
              go_wp2_with (go_at_call 66; (with_reducible refine (HM0.calls _).mono ?_); rintro e y74 ⟨rfl, hbk⟩)
              refine hK.out _ _ ?_ (fun hHeld => ?_)
              · exact ⟨lab0 (hj3.below hbk hj3.lt), lab1 (hj3.below hbk hj3.lt)⟩
              clear hK K
              (try simp only [Act.put]); (try simp only [List.setIfInBounds_toArray]); (try simp only [List.set_cons_succ]); (try simp only [List.set_cons_zero])
              replace hj3 := hj3.below hbk hj3.lt
              replace hB := rstep hB hbk
              replace X3 := X3.below hbk X3.lt
              replace X4 := X4.below hbk X4.lt
              clear hbk
              refine wpAnyH_ready (rs := [6]) (by kernel_rfl) (by simp) ?_
              refine AllReadyH.cons rfl (fun K hK => ?_) ?_
              · go_simp
                go_wp2_with (go_at_call 29; (with_reducible refine (HCH1.calls _).mono ?_); rintro e y75 ⟨rfl, hbk⟩)
                refine hK.out _ _ ?_ (fun hHeld => ?_)
                · exact ⟨lab0 (hj3.below hbk hj3.lt), lab1 (hj3.below hbk hj3.lt)⟩
                clear hK K
                (try simp only [Act.put]); (try simp only [List.setIfInBounds_toArray]); (try simp only [List.set_cons_succ]); (try simp only [List.set_cons_zero])
                replace hj3 := hj3.below hbk hj3.lt
                replace hB := rstep hB hbk
                replace X3 := X3.below hbk X3.lt
                replace X4 := X4.below hbk X4.lt
                clear hbk
                refine wpAnyH_take (i := 7) (v := ?_) rfl (by kernel_rfl) (by kernel_rfl) (by kernel_rfl) (fun _ _ _ h => h) (Or.inl ⟨by rfl, ?_⟩) (by assumption) ?_
                rotate_left
                · intro w9 hSw
                  (try dsimp only at hSw)
                  go_simp
                  (try with_reducible rfl)
                (try simp only [Act.put]); (try simp only [List.setIfInBounds_toArray]); (try simp only [List.set_cons_succ]); (try simp only [List.set_cons_zero])
                refine wpAnyH_take (i := 8) (v := ?_) rfl (by kernel_rfl) (by kernel_rfl) (by kernel_rfl) (fun _ _ _ h => h) (Or.inl ⟨by rfl, ?_⟩) (by assumption) ?_
                rotate_left
                · intro w9 hSw
                  (try dsimp only at hSw)
                  go_simp
                  (try with_reducible rfl)
                (try simp only [Act.put]); (try simp only [List.setIfInBounds_toArray]); (try simp only [List.set_cons_succ]); (try simp only [List.set_cons_zero])
                refine wpAnyH_ready (rs := [9]) (by kernel_rfl) (by simp) ?_
                refine AllReadyH.cons rfl (fun K hK => ?_) ?_
                · go_simp
                  go_wp2_with (go_at_call 66; (with_reducible refine (HM1.calls _).mono ?_); rintro e y76 ⟨rfl, hbk⟩)
                  refine hK.out _ _ ?_ (fun hHeld => ?_)
                  · exact ⟨lab0 (hj3.below hbk hj3.lt), lab1 (hj3.below hbk hj3.lt)⟩
                  clear hK K
                  (try simp only [Act.put]); (try simp only [List.setIfInBounds_toArray]); (try simp only [List.set_cons_succ]); (try simp only [List.set_cons_zero])
                  replace hj3 := hj3.below hbk hj3.lt
                  replace hB := rstep hB hbk
                  replace X3 := X3.below hbk X3.lt
                  replace X4 := X4.below hbk X4.lt
                  clear hbk
                  refine wpAnyH_ready (rs := [12]) (by kernel_rfl) (by simp) ?_
                  refine AllReadyH.cons rfl (fun K hK => ?_) ?_
                  rotate_left
                  · exact AllReadyH.nil
                  rw [if_pos (by rfl)]
                  refine wp_store_row 25 _ _ rfl x3 (labc ((nn : Int) + 1) c0) rfl rfl 25 (labc 0 0) X3 infoLab rfl (lab_all _ _) ?_
                  refine hK.out _ _ ?_ (fun hHeld => ?_)
                  · exact ⟨lab0 (hj3.setRow_other _ _ (by omega)), lab1 (hj3.setRow_other _ _ (by omega))⟩
                  clear hK K
                  (try simp only [Act.put]); (try simp only [List.setIfInBounds_toArray]); (try simp only [List.set_cons_succ]); (try simp only [List.set_cons_zero])
                  replace hj3 := hj3.setRow_other x3 (labc ((nn : Int) + 1) c0) (by omega)
                  replace hB := bel_setRow hB (show w3.heap.size ≤ x3 by omega) (labc ((nn : Int) + 1) c0)
                  replace X4 := X4.setRow_other x3 (labc ((nn : Int) + 1) c0) hne.symm
                  replace X3 := X3.setRow (labc ((nn : Int) + 1) c0)
                  clear hHeld
                  refine wpAnyH_ready (rs := [13]) (by kernel_rfl) (by simp) ?_
                  refine AllReadyH.cons rfl (fun K hK => ?_) ?_
                  rotate_left
                  · exact AllReadyH.nil
                  rw [if_pos (by rfl)]
                  refine wp_store_row 25 _ _ rfl x4 (labc ((nn : Int) + 1) c1) rfl rfl 25 (labc 0 0) X4 infoLab rfl (lab_all _ _) ?_
                  refine hK.out _ _ ?_ (fun hHeld => ?_)
                  · exact ⟨lab0 (hj3.setRow_other _ _ (by omega)), lab1 (hj3.setRow_other _ _ (by omega))⟩
                  clear hK K
                  (try simp only [Act.put]); (try simp only [List.setIfInBounds_toArray]); (try simp only [List.set_cons_succ]); (try simp only [List.set_cons_zero])
                  replace hj3 := hj3.setRow_other x4 (labc ((nn : Int) + 1) c1) (by omega)
                  replace hB := bel_setRow hB (show w3.heap.size ≤ x4 by omega) (labc ((nn : Int) + 1) c1)
                  replace X3 := X3.setRow_other x4 (labc ((nn : Int) + 1) c1) hne
                  replace X4 := X4.setRow (labc ((nn : Int) + 1) c1)
                  clear hHeld
                  refine wpAnyH_done (by kernel_rfl) ?_ _
                  go_wp2
                  go_meet
                  exact ⟨⟨x3, x4, rfl, rfl, X3, X4, g3, g4, hB⟩⟩
                exact AllReadyH.nil
              exact AllReadyH.nil
            exact AllReadyH.nil
          exact AllReadyH.nil
        refine AllReadyH.cons rfl (fun K hK => ?_) ?_
        · go_simp
          refine hK.out _ _ ?_ (fun hHeld => ?_)
          · exact ⟨lab0 (hj3.alloc _), lab1 (hj3.alloc _)⟩
          clear hK K
          (try simp only [Act.put]); (try simp only [List.setIfInBounds_toArray]); (try simp only [List.set_cons_succ]); (try simp only [List.set_cons_zero])
          have X4 := Blk.new y27 (labc 0 0) 25
          have g4 := hB.size
          replace hj3 := hj3.alloc (.cells (labc 0 0) 25)
          replace hB := hB.alloc hB.size (.cells (labc 0 0) 25)
          try rw [lab00]
          try rw [lab00] at hHeld
          generalize hx4 : y27.heap.size = x4 at *
          generalize y27.alloc _ = y77 at *
          clear hx4
          refine wpAnyH_ready (rs := [4, 10]) (by kernel_rfl) (by simp) ?_
          refine AllReadyH.cons rfl (fun K hK => ?_) ?_
          · go_simp
            go_wp2_with (go_at_call 66; (with_reducible refine (HM0.calls _).mono ?_); rintro e y78 ⟨rfl, hbk⟩)
            refine hK.out _ _ ?_ (fun hHeld => ?_)
            · exact ⟨lab0 (hj3.below hbk hj3.lt), lab1 (hj3.below hbk hj3.lt)⟩
            clear hK K
            (try simp only [Act.put]); (try simp only [List.setIfInBounds_toArray]); (try simp only [List.set_cons_succ]); (try simp only [List.set_cons_zero])
            replace hj3 := hj3.below hbk hj3.lt
            replace hB := rstep hB hbk
            replace X4 := X4.below hbk X4.lt
            clear hbk
            refine wpAnyH_ready (rs := [6, 10]) (by kernel_rfl) (by simp) ?_
            refine AllReadyH.cons rfl (fun K hK => ?_) ?_
            · go_simp
              go_wp2_with (go_at_call 29; (with_reducible refine (HCH1.calls _).mono ?_); rintro e y79 ⟨rfl, hbk⟩)
              refine hK.out _ _ ?_ (fun hHeld => ?_)
              · exact ⟨lab0 (hj3.below hbk hj3.lt), lab1 (hj3.below hbk hj3.lt)⟩
              clear hK K
              (try simp only [Act.put]); (try simp only [List.setIfInBounds_toArray]); (try simp only [List.set_cons_succ]); (try simp only [List.set_cons_zero])
              replace hj3 := hj3.below hbk hj3.lt
              replace hB := rstep hB hbk
              replace X4 := X4.below hbk X4.lt
              clear hbk
              refine wpAnyH_take (i := 7) (v := ?_) rfl (by kernel_rfl) (by kernel_rfl) (by kernel_rfl) (fun _ _ _ h => h) (Or.inl ⟨by rfl, ?_⟩) (by assumption) ?_
              rotate_left
              · intro w9 hSw
                (try dsimp only at hSw)
                go_simp
                (try with_reducible rfl)
              (try simp only [Act.put]); (try simp only [List.setIfInBounds_toArray]); (try simp only [List.set_cons_succ]); (try simp only [List.set_cons_zero])
              refine wpAnyH_take (i := 8) (v := ?_) rfl (by kernel_rfl) (by kernel_rfl) (by kernel_rfl) (fun _ _ _ h => h) (Or.inl ⟨by rfl, ?_⟩) (by assumption) ?_
              rotate_left
              · intro w9 hSw
                (try dsimp only at hSw)
                go_simp
                (try with_reducible rfl)
              (try simp only [Act.put]); (try simp only [List.setIfInBounds_toArray]); (try simp only [List.set_cons_succ]); (try simp only [List.set_cons_zero])
              refine wpAnyH_ready (rs := [9, 10]) (by kernel_rfl) (by simp) ?_
              refine AllReadyH.cons rfl (fun K hK => ?_) ?_
              · go_simp
                go_wp2_with (go_at_call 66; (with_reducible refine (HM1.calls _).mono ?_); rintro e y80 ⟨rfl, hbk⟩)
                refine hK.out _ _ ?_ (fun hHeld => ?_)
                · exact ⟨lab0 (hj3.below hbk hj3.lt), lab1 (hj3.below hbk hj3.lt)⟩
                clear hK K
                (try simp only [Act.put]); (try simp only [List.setIfInBounds_toArray]); (try simp only [List.set_cons_succ]); (try simp only [List.set_cons_zero])
                replace hj3 := hj3.below hbk hj3.lt
                replace hB := rstep hB hbk
                replace X4 := X4.below hbk X4.lt
                clear hbk
                refine wpAnyH_ready (rs := [10]) (by kernel_rfl) (by simp) ?_
                refine AllReadyH.cons rfl (fun K hK => ?_) ?_
                · go_simp
                  refine hK.out _ _ ?_ (fun hHeld => ?_)
                  · exact ⟨lab0 (hj3.alloc _), lab1 (hj3.alloc _)⟩
                  clear hK K
                  (try simp only [Act.put]); (try simp only [List.setIfInBounds_toArray]); (try simp only [List.set_cons_succ]); (try simp only [List.set_cons_zero])
                  have X3 := Blk.new y80 (labc 0 0) 25
                  have g3 := hB.size
                  have hl4 := X4.lt
                  replace hj3 := hj3.alloc (.cells (labc 0 0) 25)
                  replace hB := hB.alloc hB.size (.cells (labc 0 0) 25)
                  replace X4 := X4.alloc (.cells (labc 0 0) 25)
                  try rw [lab00]
                  try rw [lab00] at hHeld
                  generalize hx3 : y80.heap.size = x3 at *
                  generalize y80.alloc _ = y81 at *
                  have hne : x3 ≠ x4 := by omega
                  clear hl4
                  clear hx3
                  refine wpAnyH_ready (rs := [12]) (by kernel_rfl) (by simp) ?_
                  refine AllReadyH.cons rfl (fun K hK => ?_) ?_
                  rotate_left
                  · exact AllReadyH.nil
                  rw [if_pos (by rfl)]
                  refine wp_store_row 25 _ _ rfl x3 (labc ((nn : Int) + 1) c0) rfl rfl 25 (labc 0 0) X3 infoLab rfl (lab_all _ _) ?_
                  refine hK.out _ _ ?_ (fun hHeld => ?_)
                  · exact ⟨lab0 (hj3.setRow_other _ _ (by omega)), lab1 (hj3.setRow_other _ _ (by omega))⟩
                  clear hK K
                  (try simp only [Act.put]); (try simp only [List.setIfInBounds_toArray]); (try simp only [List.set_cons_succ]); (try simp only [List.set_cons_zero])
                  replace hj3 := hj3.setRow_other x3 (labc ((nn : Int) + 1) c0) (by omega)
                  replace hB := bel_setRow hB (show w3.heap.size ≤ x3 by omega) (labc ((nn : Int) + 1) c0)
                  replace X4 := X4.setRow_other x3 (labc ((nn : Int) + 1) c0) hne.symm
                  replace X3 := X3.setRow (labc ((nn : Int) + 1) c0)
                  clear hHeld
                  refine wpAnyH_ready (rs := [13]) (by kernel_rfl) (by simp) ?_
                  refine AllReadyH.cons rfl (fun K hK => ?_) ?_
                  rotate_left
                  · exact AllReadyH.nil
                  rw [if_pos (by rfl)]
                  refine wp_store_row 25 _ _ rfl x4 (labc ((nn : Int) + 1) c1) rfl rfl 25 (labc 0 0) X4 infoLab rfl (lab_all _ _) ?_
                  refine hK.out _ _ ?_ (fun hHeld => ?_)
                  · exact ⟨lab0 (hj3.setRow_other _ _ (by omega)), lab1 (hj3.setRow_other _ _ (by omega))⟩
                  clear hK K
                  (try simp only [Act.put]); (try simp only [List.setIfInBounds_toArray]); (try simp only [List.set_cons_succ]); (try simp only [List.set_cons_zero])
                  replace hj3 := hj3.setRow_other x4 (labc ((nn : Int) + 1) c1) (by omega)
                  replace hB := bel_setRow hB (show w3.heap.size ≤ x4 by omega) (labc ((nn : Int) + 1) c1)
                  replace X3 := X3.setRow_other x4 (labc ((nn : Int) + 1) c1) hne
                  replace X4 := X4.setRow (labc ((nn : Int) + 1) c1)
                  clear hHeld
                  refine wpAnyH_done (by kernel_rfl) ?_ _
                  go_wp2
                  go_meet
                  exact ⟨⟨x3, x4, rfl, rfl, X3, X4, g3, g4, hB⟩⟩
                exact AllReadyH.nil
              refine AllReadyH.cons rfl (fun K hK => ?_) ?_
              · go_simp
                refine hK.out _ _ ?_ (fun hHeld => ?_)
                · exact ⟨lab0 (hj3.alloc _), lab1 (hj3.alloc _)⟩
                clear hK K
                (try simp only [Act.put]); (try simp only [List.setIfInBounds_toArray]); (try simp only [List.set_cons_succ]); (try simp only [List.set_cons_zero])
                have X3 := Blk.new y79 (labc 0 0) 25
                have g3 := hB.size
                have hl4 := X4.lt
                replace hj3 := hj3.alloc (.cells (labc 0 0) 25)
                replace hB := hB.alloc hB.size (.cells (labc 0 0) 25)
                replace X4 := X4.alloc (.cells (labc 0 0) 25)
                try rw [lab00]
                try rw [lab00] at hHeld
                generalize hx3 : y79.heap.size = x3 at *
                generalize y79.alloc _ = y82 at *
                have hne : x3 ≠ x4 := by omega
                clear hl4
                clear hx3
                refine wpAnyH_ready (rs := [9]) (by kernel_rfl) (by simp) ?_
                refine AllReadyH.cons rfl (fun K hK => ?_) ?_
                · go_simp
                  go_wp2_with (go_at_call 66; (with_reducible refine (HM1.calls _).mono ?_); rintro e y83 ⟨rfl, hbk⟩)
                  refine hK.out _ _ ?_ (fun hHeld => ?_)
                  · exact ⟨lab0 (hj3.below hbk hj3.lt), lab1 (hj3.below hbk hj3.lt)⟩
                  clear hK K
                  (try simp only [Act.put]); (try simp only [List.setIfInBounds_toArray]); (try simp only [List.set_cons_succ]); (try simp only [List.set_cons_zero])
                  replace hj3 := hj3.below hbk hj3.lt
                  replace hB := rstep hB hbk
                  replace X3 := X3.below hbk X3.lt
                  replace X4 := X4.below hbk X4.lt
                  clear hbk
                  refine wpAnyH_ready (rs := [12]) (by kernel_rfl) (by simp) ?_
                  refine AllReadyH.cons rfl (fun K hK => ?_) ?_
                  rotate_left
                  · exact AllReadyH.nil
                  rw [if_pos (by rfl)]
                  refine wp_store_row 25 _ _ rfl x3 (labc ((nn : Int) + 1) c0) rfl rfl 25 (labc 0 0) X3 infoLab rfl (lab_all _ _) ?_
                  refine hK.out _ _ ?_ (fun hHeld => ?_)
                  · exact ⟨lab0 (hj3.setRow_other _ _ (by omega)), lab1 (hj3.setRow_other _ _ (by omega))⟩
                  clear hK K
                  (try simp only [Act.put]); (try simp only [List.setIfInBounds_toArray]); (try simp only [List.set_cons_succ]); (try simp only [List.set_cons_zero])
                  replace hj3 := hj3.setRow_other x3 (labc ((nn : Int) + 1) c0) (by omega)
                  replace hB := bel_setRow hB (show w3.heap.size ≤ x3 by omega) (labc ((nn : Int) + 1) c0)
                  replace X4 := X4.setRow_other x3 (labc ((nn : Int) + 1) c0) hne.symm
                  replace X3 := X3.setRow (labc ((nn : Int) + 1) c0)
                  clear hHeld
                  refine wpAnyH_ready (rs := [13]) (by kernel_rfl) (by simp) ?_
                  refine AllReadyH.cons rfl (fun K hK => ?_) ?_
                  rotate_left
                  · exact AllReadyH.nil
                  rw [if_pos (by rfl)]
                  refine wp_store_row 25 _ _ rfl x4 (labc ((nn : Int) + 1) c1) rfl rfl 25 (labc 0 0) X4 infoLab rfl (lab_all _ _) ?_
                  refine hK.out _ _ ?_ (fun hHeld => ?_)
                  · exact ⟨lab0 (hj3.setRow_other _ _ (by omega)), lab1 (hj3.setRow_other _ _ (by omega))⟩
                  clear hK K
                  (try simp only [Act.put]); (try simp only [List.setIfInBounds_toArray]); (try simp only [List.set_cons_succ]); (try simp only [List.set_cons_zero])
                  replace hj3 := hj3.setRow_other x4 (labc ((nn : Int) + 1) c1) (by omega)
                  replace hB := bel_setRow hB (show w3.heap.size ≤ x4 by omega) (labc ((nn : Int) + 1) c1)
                  replace X3 := X3.setRow_other x4 (labc ((nn : Int) + 1) c1) hne
                  replace X4 := X4.setRow (labc ((nn : Int) + 1) c1)
                  clear hHeld
                  refine wpAnyH_done (by kernel_rfl) ?_ _
                  go_wp2
                  go_meet
                  exact ⟨⟨x3, x4, rfl, rfl, X3, X4, g3, g4, hB⟩⟩
                exact AllReadyH.nil
              exact AllReadyH.nil
            refine AllReadyH.cons rfl (fun K hK => ?_) ?_
            · go_simp
              refine hK.out _ _ ?_ (fun hHeld => ?_)
              · exact ⟨lab0 (hj3.alloc _), lab1 (hj3.alloc _)⟩
              clear hK K
              (try simp only [Act.put]); (try simp only [List.setIfInBounds_toArray]); (try simp only [List.set_cons_succ]); (try simp only [List.set_cons_zero])
              have X3 := Blk.new y78 (labc 0 0) 25
              have g3 := hB.size
              have hl4 := X4.lt
              replace hj3 := hj3.alloc (.cells (labc 0 0) 25)
              replace hB := hB.alloc hB.size (.cells (labc 0 0) 25)
              replace X4 := X4.alloc (.cells (labc 0 0) 25)
              try rw [lab00]
              try rw [lab00] at hHeld
              generalize hx3 : y78.heap.size = x3 at *
              generalize y78.alloc _ = y84 at *
              have hne : x3 ≠ x4 := by omega
              clear hl4
              clear hx3
              refine wpAnyH_ready (rs := [6]) (by kernel_rfl) (by simp) ?_
              refine AllReadyH.cons rfl (fun K hK => ?_) ?_
              · go_simp
                go_wp2_with (go_at_call 29; (with_reducible refine (HCH1.calls _).mono ?_); rintro e y85 ⟨rfl, hbk⟩)
                refine hK.out _ _ ?_ (fun hHeld => ?_)
                · exact ⟨lab0 (hj3.below hbk hj3.lt), lab1 (hj3.below hbk hj3.lt)⟩
                clear hK K
                (try simp only [Act.put]); (try simp only [List.setIfInBounds_toArray]); (try simp only [List.set_cons_succ]); (try simp only [List.set_cons_zero])
                replace hj3 := hj3.below hbk hj3.lt
                replace hB := rstep hB hbk
                replace X3 := X3.below hbk X3.lt
                replace X4 := X4.below hbk X4.lt
                clear hbk
                refine wpAnyH_take (i := 7) (v := ?_) rfl (by kernel_rfl) (by kernel_rfl) (by kernel_rfl) (fun _ _ _ h => h) (Or.inl ⟨by rfl, ?_⟩) (by assumption) ?_
                rotate_left
                · intro w9 hSw
                  (try dsimp only at hSw)
                  go_simp
                  (try with_reducible rfl)
                (try simp only [Act.put]); (try simp only [List.setIfInBounds_toArray]); (try simp only [List.set_cons_succ]); (try simp only [List.set_cons_zero])
                refine wpAnyH_take (i := 8) (v := ?_) rfl (by kernel_rfl) (by kernel_rfl) (by kernel_rfl) (fun _ _ _ h => h) (Or.inl ⟨by rfl, ?_⟩) (by assumption) ?_
                rotate_left
                · intro w9 hSw
                  (try dsimp only at hSw)
                  go_simp
                  (try with_reducible rfl)
                (try simp only [Act.put]); (try simp only [List.setIfInBounds_toArray]); (try simp only [List.set_cons_succ]); (try simp only [List.set_cons_zero])
                refine wpAnyH_ready (rs := [9]) (by kernel_rfl) (by simp) ?_
                refine AllReadyH.cons rfl (fun K hK => ?_) ?_
                · go_simp
                  go_wp2_with (go_at_call 66; (with_reducible refine (HM1.calls _).mono ?_); rintro e y86 ⟨rfl, hbk⟩)
                  refine hK.out _ _ ?_ (fun hHeld => ?_)
                  · exact ⟨lab0 (hj3.below hbk hj3.lt), lab1 (hj3.below hbk hj3.lt)⟩
                  clear hK K
                  (try simp only [Act.put]); (try simp only [List.setIfInBounds_toArray]); (try simp only [List.set_cons_succ]); (try simp only [List.set_cons_zero])
                  replace hj3 := hj3.below hbk hj3.lt
                  replace hB := rstep hB hbk
                  replace X3 := X3.below hbk X3.lt
                  replace X4 := X4.below hbk X4.lt
                  clear hbk
                  refine wpAnyH_ready (rs := [12]) (by kernel_rfl) (by simp) ?_
                  refine AllReadyH.cons rfl (fun K hK => ?_) ?_
                  rotate_left
                  · exact AllReadyH.nil
                  rw [if_pos (by rfl)]
                  refine wp_store_row 25 _ _ rfl x3 (labc ((nn : Int) + 1) c0) rfl rfl 25 (labc 0 0) X3 infoLab rfl (lab_all _ _) ?_
                  refine hK.out _ _ ?_ (fun hHeld => ?_)
                  · exact ⟨lab0 (hj3.setRow_other _ _ (by omega)), lab1 (hj3.setRow_other _ _ (by omega))⟩
                  clear hK K
                  (try simp only [Act.put]); (try simp only [List.setIfInBounds_toArray]); (try simp only [List.set_cons_succ]); (try simp only [List.set_cons_zero])
                  replace hj3 := hj3.setRow_other x3 (labc ((nn : Int) + 1) c0) (by omega)
                  replace hB := bel_setRow hB (show w3.heap.size ≤ x3 by omega) (labc ((nn : Int) + 1) c0)
                  replace X4 := X4.setRow_other x3 (labc ((nn : Int) + 1) c0) hne.symm
                  replace X3 := X3.setRow (labc ((nn : Int) + 1) c0)
                  clear hHeld
                  refine wpAnyH_ready (rs := [13]) (by kernel_rfl) (by simp) ?_
                  refine AllReadyH.cons rfl (fun K hK => ?_) ?_
                  rotate_left
                  · exact AllReadyH.nil
                  rw [if_pos (by rfl)]
                  refine wp_store_row 25 _ _ rfl x4 (labc ((nn : Int) + 1) c1) rfl rfl 25 (labc 0 0) X4 infoLab rfl (lab_all _ _) ?_
                  refine hK.out _ _ ?_ (fun hHeld => ?_)
                  · exact ⟨lab0 (hj3.setRow_other _ _ (by omega)), lab1 (hj3.setRow_other _ _ (by omega))⟩
                  clear hK K
                  (try simp only [Act.put]); (try simp only [List.setIfInBounds_toArray]); (try simp only [List.set_cons_succ]); (try simp only [List.set_cons_zero])
                  replace hj3 := hj3.setRow_other x4 (labc ((nn : Int) + 1) c1) (by omega)
                  replace hB := bel_setRow hB (show w3.heap.size ≤ x4 by omega) (labc ((nn : Int) + 1) c1)
                  replace X3 := X3.setRow_other x4 (labc ((nn : Int) + 1) c1) hne
                  replace X4 := X4.setRow (labc ((nn : Int) + 1) c1)
                  clear hHeld
                  refine wpAnyH_done (by kernel_rfl) ?_ _
                  go_wp2
                  go_meet
                  exact ⟨⟨x3, x4, rfl, rfl, X3, X4, g3, g4, hB⟩⟩
                exact AllReadyH.nil
              exact AllReadyH.nil
            exact AllReadyH.nil
          refine AllReadyH.cons rfl (fun K hK => ?_) ?_
          · go_simp
            refine hK.out _ _ ?_ (fun hHeld => ?_)
            · exact ⟨lab0 (hj3.alloc _), lab1 (hj3.alloc _)⟩
            clear hK K
            (try simp only [Act.put]); (try simp only [List.setIfInBounds_toArray]); (try simp only [List.set_cons_succ]); (try simp only [List.set_cons_zero])
            have X3 := Blk.new y77 (labc 0 0) 25
            have g3 := hB.size
            have hl4 := X4.lt
            replace hj3 := hj3.alloc (.cells (labc 0 0) 25)
            replace hB := hB.alloc hB.size (.cells (labc 0 0) 25)
            replace X4 := X4.alloc (.cells (labc 0 0) 25)
            try rw [lab00]
            try rw [lab00] at hHeld
            generalize hx3 : y77.heap.size = x3 at *
            generalize y77.alloc _ = y87 at *
            have hne : x3 ≠ x4 := by omega
            clear hl4
            clear hx3
            refine wpAnyH_ready (rs := [4]) (by kernel_rfl) (by simp) ?_
            refine AllReadyH.cons rfl (fun K hK => ?_) ?_
            · go_simp
              go_wp2_with (go_at_call 66; (with_reducible refine (HM0.calls _).mono ?_); rintro e y88 ⟨rfl, hbk⟩)
              refine hK.out _ _ ?_ (fun hHeld => ?_)
              · exact ⟨lab0 (hj3.below hbk hj3.lt), lab1 (hj3.below hbk hj3.lt)⟩
              clear hK K
              (try simp only [Act.put]); (try simp only [List.setIfInBounds_toArray]); (try simp only [List.set_cons_succ]); (try simp only [List.set_cons_zero])
              replace hj3 := hj3.below hbk hj3.lt
              replace hB := rstep hB hbk
              replace X3 := X3.below hbk X3.lt
              replace X4 := X4.below hbk X4.lt
              clear hbk
              refine wpAnyH_ready (rs := [6]) (by kernel_rfl) (by simp) ?_
              refine AllReadyH.cons rfl (fun K hK => ?_) ?_
              · go_simp
                go_wp2_with (go_at_call 29; (with_reducible refine (HCH1.calls _).mono ?_); rintro e y89 ⟨rfl, hbk⟩)
                refine hK.out _ _ ?_ (fun hHeld => ?_)
                · exact ⟨lab0 (hj3.below hbk hj3.lt), lab1 (hj3.below hbk hj3.lt)⟩
                clear hK K
                (try simp only [Act.put]); (try simp only [List.setIfInBounds_toArray]); (try simp only [List.set_cons_succ]); (try simp only [List.set_cons_zero])
                replace hj3 := hj3.below hbk hj3.lt
                replace hB := rstep hB hbk
                replace X3 := X3.below hbk X3.lt
                replace X4 := X4.below hbk X4.lt
                clear hbk
                refine wpAnyH_take (i := 7) (v := ?_) rfl (by kernel_rfl) (by kernel_rfl) (by kernel_rfl) (fun _ _ _ h => h) (Or.inl ⟨by rfl, ?_⟩) (by assumption) ?_
                rotate_left
                · intro w9 hSw
                  (try dsimp only at hSw)
                  go_simp
                  (try with_reducible rfl)
                (try simp only [Act.put]); (try simp only [List.setIfInBounds_toArray]); (try simp only [List.set_cons_succ]); (try simp only [List.set_cons_zero])
                refine wpAnyH_take (i := 8) (v := ?_) rfl (by kernel_rfl) (by kernel_rfl) (by kernel_rfl) (fun _ _ _ h => h) (Or.inl ⟨by rfl, ?_⟩) (by assumption) ?_
                rotate_left
                · intro w9 hSw
                  (try dsimp only at hSw)
                  go_simp
                  (try with_reducible rfl)
                (try simp only [Act.put]); (try simp only [List.setIfInBounds_toArray]); (try simp only [List.set_cons_succ]); (try simp only [List.set_cons_zero])
                refine wpAnyH_ready (rs := [9]) (by kernel_rfl) (by simp) ?_
                refine AllReadyH.cons rfl (fun K hK => ?_) ?_
                · go_simp
                  go_wp2_with (go_at_call 66; (with_reducible refine (HM1.calls _).mono ?_); rintro e y90 ⟨rfl, hbk⟩)
                  refine hK.out _ _ ?_ (fun hHeld => ?_)
                  · exact ⟨lab0 (hj3.below hbk hj3.lt), lab1 (hj3.below hbk hj3.lt)⟩
                  clear hK K
                  (try simp only [Act.put]); (try simp only [List.setIfInBounds_toArray]); (try simp only [List.set_cons_succ]); (try simp only [List.set_cons_zero])
                  replace hj3 := hj3.below hbk hj3.lt
                  replace hB := rstep hB hbk
                  replace X3 := X3.below hbk X3.lt
                  replace X4 := X4.below hbk X4.lt
                  clear hbk
                  refine wpAnyH_ready (rs := [12]) (by kernel_rfl) (by simp) ?_
                  refine AllReadyH.cons rfl (fun K hK => ?_) ?_
                  rotate_left
                  · exact AllReadyH.nil
                  rw [if_pos (by rfl)]
                  refine wp_store_row 25 _ _ rfl x3 (labc ((nn : Int) + 1) c0) rfl rfl 25 (labc 0 0) X3 infoLab rfl (lab_all _ _) ?_
                  refine hK.out _ _ ?_ (fun hHeld => ?_)
                  · exact ⟨lab0 (hj3.setRow_other _ _ (by omega)), lab1 (hj3.setRow_other _ _ (by omega))⟩
                  clear hK K
                  (try simp only [Act.put]); (try simp only [List.setIfInBounds_toArray]); (try simp only [List.set_cons_succ]); (try simp only [List.set_cons_zero])
                  replace hj3 := hj3.setRow_other x3 (labc ((nn : Int) + 1) c0) (by omega)
                  replace hB := bel_setRow hB (show w3.heap.size ≤ x3 by omega) (labc ((nn : Int) + 1) c0)
                  replace X4 := X4.setRow_other x3 (labc ((nn : Int) + 1) c0) hne.symm
                  replace X3 := X3.setRow (labc ((nn : Int) + 1) c0)
                  clear hHeld
                  refine wpAnyH_ready (rs := [13]) (by kernel_rfl) (by simp) ?_
                  refine AllReadyH.cons rfl (fun K hK => ?_) ?_
                  rotate_left
                  · exact AllReadyH.nil
                  rw [if_pos (by rfl)]
                  refine wp_store_row 25 _ _ rfl x4 (labc ((nn : Int) + 1) c1) rfl rfl 25 (labc 0 0) X4 infoLab rfl (lab_all _ _) ?_
                  refine hK.out _ _ ?_ (fun hHeld => ?_)
                  · exact ⟨lab0 (hj3.setRow_other _ _ (by omega)), lab1 (hj3.setRow_other _ _ (by omega))⟩
                  clear hK K
                  (try simp only [Act.put]); (try simp only [List.setIfInBounds_toArray]); (try simp only [List.set_cons_succ]); (try simp only [List.set_cons_zero])
                  replace hj3 := hj3.setRow_other x4 (labc ((nn : Int) + 1) c1) (by omega)
                  replace hB := bel_setRow hB (show w3.heap.size ≤ x4 by omega) (labc ((nn : Int) + 1) c1)
                  replace X3 := X3.setRow_other x4 (labc ((nn : Int) + 1) c1) hne
                  replace X4 := X4.setRow (labc ((nn : Int) + 1) c1)
                  clear hHeld
                  refine wpAnyH_done (by kernel_rfl) ?_ _
                  go_wp2
                  go_meet
                  exact ⟨⟨x3, x4, rfl, rfl, X3, X4, g3, g4, hB⟩⟩
                exact AllReadyH.nil
              exact AllReadyH.nil
            exact AllReadyH.nil
          exact AllReadyH.nil
        exact AllReadyH.nil
      refine AllReadyH.cons rfl (fun K hK => ?_) ?_
      · go_simp
        refine hK.out _ _ ?_ (fun hHeld => ?_)
        · exact ⟨lab0 (hj3.alloc _), lab1 (hj3.alloc _)⟩
        clear hK K
        (try simp only [Act.put]); (try simp only [List.setIfInBounds_toArray]); (try simp only [List.set_cons_succ]); (try simp only [List.set_cons_zero])
        have X3 := Blk.new y0 (labc 0 0) 25
        have g3 := hB.size
        replace hj3 := hj3.alloc (.cells (labc 0 0) 25)
        replace hB := hB.alloc hB.size (.cells (labc 0 0) 25)
        try rw [lab00]
        try rw [lab00] at hHeld
        generalize hx3 : y0.heap.size = x3 at *
        generalize y0.alloc _ = y91 at *
        clear hx3
        refine wpAnyH_ready (rs := [1, 11]) (by kernel_rfl) (by simp) ?_
        refine AllReadyH.cons rfl (fun K hK => ?_) ?_
        · go_simp
          go_wp2_with (go_at_call 29; (with_reducible refine (HCH0.calls _).mono ?_); rintro e y92 ⟨rfl, hbk⟩)
          refine hK.out _ _ ?_ (fun hHeld => ?_)
          · exact ⟨lab0 (hj3.below hbk hj3.lt), lab1 (hj3.below hbk hj3.lt)⟩
          clear hK K
          (try simp only [Act.put]); (try simp only [List.setIfInBounds_toArray]); (try simp only [List.set_cons_succ]); (try simp only [List.set_cons_zero])
          replace hj3 := hj3.below hbk hj3.lt
          replace hB := rstep hB hbk
          replace X3 := X3.below hbk X3.lt
          clear hbk
          refine wpAnyH_take (i := 2) (v := ?_) rfl (by kernel_rfl) (by kernel_rfl) (by kernel_rfl) (fun _ _ _ h => h) (Or.inl ⟨by rfl, ?_⟩) (by assumption) ?_
          rotate_left
          · intro w9 hSw
            (try dsimp only at hSw)
            go_simp
            (try with_reducible rfl)
          (try simp only [Act.put]); (try simp only [List.setIfInBounds_toArray]); (try simp only [List.set_cons_succ]); (try simp only [List.set_cons_zero])
          refine wpAnyH_take (i := 3) (v := ?_) rfl (by kernel_rfl) (by kernel_rfl) (by kernel_rfl) (fun _ _ _ h => h) (Or.inl ⟨by rfl, ?_⟩) (by assumption) ?_
          rotate_left
          · intro w9 hSw
            (try dsimp only at hSw)
            go_simp
            (try with_reducible rfl)
          (try simp only [Act.put]); (try simp only [List.setIfInBounds_toArray]); (try simp only [List.set_cons_succ]); (try simp only [List.set_cons_zero])
          refine wpAnyH_ready (rs := [4, 11]) (by kernel_rfl) (by simp) ?_
          refine AllReadyH.cons rfl (fun K hK => ?_) ?_
          · go_simp
            go_wp2_with (go_at_call 66; (with_reducible refine (HM0.calls _).mono ?_); rintro e y93 ⟨rfl, hbk⟩)
            refine hK.out _ _ ?_ (fun hHeld => ?_)
            · exact ⟨lab0 (hj3.below hbk hj3.lt), lab1 (hj3.below hbk hj3.lt)⟩
            clear hK K
            (try simp only [Act.put]); (try simp only [List.setIfInBounds_toArray]); (try simp only [List.set_cons_succ]); (try simp only [List.set_cons_zero])
            replace hj3 := hj3.below hbk hj3.lt
            replace hB := rstep hB hbk
            replace X3 := X3.below hbk X3.lt
            clear hbk
            refine wpAnyH_ready (rs := [6, 11]) (by kernel_rfl) (by simp) ?_
            refine AllReadyH.cons rfl (fun K hK => ?_) ?_
            · go_simp
              go_wp2_with (go_at_call 29; (with_reducible refine (HCH1.calls _).mono ?_); rintro e y94 ⟨rfl, hbk⟩)
              refine hK.out _ _ ?_ (fun hHeld => ?_)
              · exact ⟨lab0 (hj3.below hbk hj3.lt), lab1 (hj3.below hbk hj3.lt)⟩
              clear hK K
              (try simp only [Act.put]); (try simp only [List.setIfInBounds_toArray]); (try simp only [List.set_cons_succ]); (try simp only [List.set_cons_zero])
              replace hj3 := hj3.below hbk hj3.lt
              replace hB := rstep hB hbk
              replace X3 := X3.below hbk X3.lt
              clear hbk
              refine wpAnyH_take (i := 7) (v := ?_) rfl (by kernel_rfl) (by kernel_rfl) (by kernel_rfl) (fun _ _ _ h => h) (Or.inl ⟨by rfl, ?_⟩) (by assumption) ?_
              rotate_left
              · intro w9 hSw
                (try dsimp only at hSw)
                go_simp
                (try with_reducible rfl)
              (try simp only [Act.put]); (try simp only [List.setIfInBounds_toArray]); (try simp only [List.set_cons_succ]); (try simp only [List.set_cons_zero])
              refine wpAnyH_take (i := 8) (v := ?_) rfl (by kernel_rfl) (by kernel_rfl) (by kernel_rfl) (fun _ _ _ h => h) (Or.inl ⟨by rfl, ?_⟩) (by assumption) ?_
              rotate_left
              · intro w9 hSw
                (try dsimp only at hSw)
                go_simp
                (try with_reducible rfl)
              (try simp only [Act.put]); (try simp only [List.setIfInBounds_toArray]); (try simp only [List.set_cons_succ]); (try simp only [List.set_cons_zero])
              refine wpAnyH_ready (rs := [9, 11]) (by kernel_rfl) (by simp) ?_
              refine AllReadyH.cons rfl (fun K hK => ?_) ?_
              · go_simp
                go_wp2_with (go_at_call 66; (with_reducible refine (HM1.calls _).mono ?_); rintro e y95 ⟨rfl, hbk⟩)
                refine hK.out _ _ ?_ (fun hHeld => ?_)
                · exact ⟨lab0 (hj3.below hbk hj3.lt), lab1 (hj3.below hbk hj3.lt)⟩
                clear hK K
                (try simp only [Act.put]); (try simp only [List.setIfInBounds_toArray]); (try simp only [List.set_cons_succ]); (try simp only [List.set_cons_zero])
                replace hj3 := hj3.below hbk hj3.lt
                replace hB := rstep hB hbk
                replace X3 := X3.below hbk X3.lt
                clear hbk
                refine wpAnyH_ready (rs := [11]) (by kernel_rfl) (by simp) ?_
                refine AllReadyH.cons rfl (fun K hK => ?_) ?_
                · go_simp
                  refine hK.out _ _ ?_ (fun hHeld => ?_)
                  · exact ⟨lab0 (hj3.alloc _), lab1 (hj3.alloc _)⟩
                  clear hK K
                  (try simp only [Act.put]); (try simp only [List.setIfInBounds_toArray]); (try simp only [List.set_cons_succ]); (try simp only [List.set_cons_zero])
                  have X4 := Blk.new y95 (labc 0 0) 25
                  have g4 := hB.size
                  have hl3 := X3.lt
                  replace hj3 := hj3.alloc (.cells (labc 0 0) 25)
                  replace hB := hB.alloc hB.size (.cells (labc 0 0) 25)
                  replace X3 := X3.alloc (.cells (labc 0 0) 25)
                  try rw [lab00]
                  try rw [lab00] at hHeld
                  generalize hx4 : y95.heap.size = x4 at *
                  generalize y95.alloc _ = y96 at *
                  have hne : x3 ≠ x4 := by omega
                  clear hl3
                  clear hx4
                  refine wpAnyH_ready (rs := [12]) (by kernel_rfl) (by simp) ?_
                  refine AllReadyH.cons rfl (fun K hK => ?_) ?_
                  rotate_left
                  · exact AllReadyH.nil
                  rw [if_pos (by rfl)]
                  refine wp_store_row 25 _ _ rfl x3 (labc ((nn : Int) + 1) c0) rfl rfl 25 (labc 0 0) X3 infoLab rfl (lab_all _ _) ?_
                  refine hK.out _ _ ?_ (fun hHeld => ?_)
                  · exact ⟨lab0 (hj3.setRow_other _ _ (by omega)), lab1 (hj3.setRow_other _ _ (by omega))⟩
                  clear hK K
                  (try simp only [Act.put]); (try simp only [List.setIfInBounds_toArray]); (try simp only [List.set_cons_succ]); (try simp only [List.set_cons_zero])
                  replace hj3 := hj3.setRow_other x3 (labc ((nn : Int) + 1) c0) (by omega)
                  replace hB := bel_setRow hB (show w3.heap.size ≤ x3 by omega) (labc ((nn : Int) + 1) c0)
                  replace X4 := X4.setRow_other x3 (labc ((nn : Int) + 1) c0) hne.symm
                  replace X3 := X3.setRow (labc ((nn : Int) + 1) c0)
                  clear hHeld
                  refine wpAnyH_ready (rs := [13]) (by kernel_rfl) (by simp) ?_
                  refine AllReadyH.cons rfl (fun K hK => ?_) ?_
                  rotate_left
                  · exact AllReadyH.nil
                  rw [if_pos (by rfl)]
                  refine wp_store_row 25 _ _ rfl x4 (labc ((nn : Int) + 1) c1) rfl rfl 25 (labc 0 0) X4 infoLab rfl (lab_all _ _) ?_
                  refine hK.out _ _ ?_ (fun hHeld => ?_)
                  · exact ⟨lab0 (hj3.setRow_other _ _ (by omega)), lab1 (hj3.setRow_other _ _ (by omega))⟩
                  clear hK K
                  (try simp only [Act.put]); (try simp only [List.setIfInBounds_toArray]); (try simp only [List.set_cons_succ]); (try simp only [List.set_cons_zero])
                  replace hj3 := hj3.setRow_other x4 (labc ((nn : Int) + 1) c1) (by omega)
                  replace hB := bel_setRow hB (show w3.heap.size ≤ x4 by omega) (labc ((nn : Int) + 1) c1)
                  replace X3 := X3.setRow_other x4 (labc ((nn : Int) + 1) c1) hne
                  replace X4 := X4.setRow (labc ((nn : Int) + 1) c1)
                  clear hHeld
                  refine wpAnyH_done (by kernel_rfl) ?_ _
                  go_wp2
                  go_meet
                  exact ⟨⟨x3, x4, rfl, rfl, X3, X4, g3, g4, hB⟩⟩
                exact AllReadyH.nil
              refine AllReadyH.cons rfl (fun K hK => ?_) ?_
              · go_simp
                refine hK.out _ _ ?_ (fun hHeld => ?_)
                · exact ⟨lab0 (hj3.alloc _), lab1 (hj3.alloc _)⟩
                clear hK K
                (try simp only [Act.put]); (try simp only [List.setIfInBounds_toArray]); (try simp only [List.set_cons_succ]); (try simp only [List.set_cons_zero])
                have X4 := Blk.new y94 (labc 0 0) 25
                have g4 := hB.size
                have hl3 := X3.lt
                replace hj3 := hj3.alloc (.cells (labc 0 0) 25)
                replace hB := hB.alloc hB.size (.cells (labc 0 0) 25)
                replace X3 := X3.alloc (.cells (labc 0 0) 25)
                try rw [lab00]
                try rw [lab00] at hHeld
                generalize hx4 : y94.heap.size = x4 at *
                generalize y94.alloc _ = y97 at *
                have hne : x3 ≠ x4 := by omega
                clear hl3
                clear hx4
                refine wpAnyH_ready (rs := [9]) (by kernel_rfl) (by simp) ?_
                refine AllReadyH.cons rfl (fun K hK => ?_) ?_
                · go_simp
                  go_wp2_with (go_at_call 66; (with_reducible refine (HM1.calls _).mono ?_); rintro e y98 ⟨rfl, hbk⟩)
                  refine hK.out _ _ ?_ (fun hHeld => ?_)
                  · exact ⟨lab0 (hj3.below hbk hj3.lt), lab1 (hj3.below hbk hj3.lt)⟩
                  clear hK K
                  (try simp only [Act.put]); (try simp only [List.setIfInBounds_toArray]); (try simp only [List.set_cons_succ]); (try simp only [List.set_cons_zero])
                  replace hj3 := hj3.below hbk hj3.lt
                  replace hB := rstep hB hbk
                  replace X3 := X3.below hbk X3.lt
                  replace X4 := X4.below hbk X4.lt
                  clear hbk
                  refine wpAnyH_ready (rs := [12]) (by kernel_rfl) (by simp) ?_
                  refine AllReadyH.cons rfl (fun K hK => ?_) ?_
                  rotate_left
                  · exact AllReadyH.nil
                  rw [if_pos (by rfl)]
                  refine wp_store_row 25 _ _ rfl x3 (labc ((nn : Int) + 1) c0) rfl rfl 25 (labc 0 0) X3 infoLab rfl (lab_all _ _) ?_
                  refine hK.out _ _ ?_ (fun hHeld => ?_)
                  · exact ⟨lab0 (hj3.setRow_other _ _ (by omega)), lab1 (hj3.setRow_other _ _ (by omega))⟩
                  clear hK K
                  (try simp only [Act.put]); (try simp only [List.setIfInBounds_toArray]); (try simp only [List.set_cons_succ]); (try simp only [List.set_cons_zero])
                  replace hj3 := hj3.setRow_other x3 (labc ((nn : Int) + 1) c0) (by omega)
                  replace hB := bel_setRow hB (show w3.heap.size ≤ x3 by omega) (labc ((nn : Int) + 1) c0)
                  replace X4 := X4.setRow_other x3 (labc ((nn : Int) + 1) c0) hne.symm
                  replace X3 := X3.setRow (labc ((nn : Int) + 1) c0)
                  clear hHeld
                  refine wpAnyH_ready (rs := [13]) (by kernel_rfl) (by simp) ?_
                  refine AllReadyH.cons rfl (fun K hK => ?_) ?_
                  rotate_left
                  · exact AllReadyH.nil
                  rw [if_pos (by rfl)]
                  refine wp_store_row 25 _ _ rfl x4 (labc ((nn : Int) + 1) c1) rfl rfl 25 (labc 0 0) X4 infoLab rfl (lab_all _ _) ?_
                  refine hK.out _ _ ?_ (fun hHeld => ?_)
                  · exact ⟨lab0 (hj3.setRow_other _ _ (by omega)), lab1 (hj3.setRow_other _ _ (by omega))⟩
                  clear hK K
                  (try simp only [Act.put]); (try simp only [List.setIfInBounds_toArray]); (try simp only [List.set_cons_succ]); (try simp only [List.set_cons_zero])
                  replace hj3 := hj3.setRow_other x4 (labc ((nn : Int) + 1) c1) (by omega)
                  replace hB := bel_setRow hB (show w3.heap.size ≤ x4 by omega) (labc ((nn : Int) + 1) c1)
                  replace X3 := X3.setRow_other x4 (labc ((nn : Int) + 1) c1) hne
                  replace X4 := X4.setRow (labc ((nn : Int) + 1) c1)
                  clear hHeld
                  refine wpAnyH_done (by kernel_rfl) ?_ _
                  go_wp2
                  go_meet
                  exact ⟨⟨x3, x4, rfl, rfl, X3, X4, g3, g4, hB⟩⟩
                exact AllReadyH.nil
              exact AllReadyH.nil
            refine AllReadyH.cons rfl (fun K hK => ?_) ?_
            · go_simp
              refine hK.out _ _ ?_ (fun hHeld => ?_)
              · exact ⟨lab0 (hj3.alloc _), lab1 (hj3.alloc _)⟩
              clear hK K
              (try simp only [Act.put]); (try simp only [List.setIfInBounds_toArray]); (try simp only [List.set_cons_succ]); (try simp only [List.set_cons_zero])
              have X4 := Blk.new y93 (labc 0 0) 25
              have g4 := hB.size
              have hl3 := X3.lt
              replace hj3 := hj3.alloc (.cells (labc 0 0) 25)
              replace hB := hB.alloc hB.size (.cells (labc 0 0) 25)
              replace X3 := X3.alloc (.cells (labc 0 0) 25)
              try rw [lab00]
              try rw [lab00] at hHeld
              generalize hx4 : y93.heap.size = x4 at *
              generalize y93.alloc _ = y99 at *
              have hne : x3 ≠ x4 := by omega
              clear hl3
              clear hx4
              refine wpAnyH_ready (rs := [6]) (by kernel_rfl) (by simp) ?_
              refine AllReadyH.cons rfl (fun K hK => ?_) ?_
              · go_simp
                go_wp2_with (go_at_call 29; (with_reducible refine (HCH1.calls _).mono ?_); rintro e y100 ⟨rfl, hbk⟩)
                refine hK.out _ _ ?_ (fun hHeld => ?_)
                · exact ⟨lab0 (hj3.below hbk hj3.lt), lab1 (hj3.below hbk hj3.lt)⟩
                clear hK K
                (try simp only [Act.put]); (try simp only [List.setIfInBounds_toArray]); (try simp only [List.set_cons_succ]); (try simp only [List.set_cons_zero])
                replace hj3 := hj3.below hbk hj3.lt
                replace hB := rstep hB hbk
                replace X3 := X3.below hbk X3.lt
                replace X4 := X4.below hbk X4.lt
                clear hbk
                refine wpAnyH_take (i := 7) (v := ?_) rfl (by kernel_rfl) (by kernel_rfl) (by kernel_rfl) (fun _ _ _ h => h) (Or.inl ⟨by rfl, ?_⟩) (by assumption) ?_
                rotate_left
                · intro w9 hSw
                  (try dsimp only at hSw)
                  go_simp
                  (try with_reducible rfl)
                (try simp only [Act.put]); (try simp only [List.setIfInBounds_toArray]); (try simp only [List.set_cons_succ]); (try simp only [List.set_cons_zero])
                refine wpAnyH_take (i := 8) (v := ?_) rfl (by kernel_rfl) (by kernel_rfl) (by kernel_rfl) (fun _ _ _ h => h) (Or.inl ⟨by rfl, ?_⟩) (by assumption) ?_
                rotate_left
                · intro w9 hSw
                  (try dsimp only at hSw)
                  go_simp
                  (try with_reducible rfl)
                (try simp only [Act.put]); (try simp only [List.setIfInBounds_toArray]); (try simp only [List.set_cons_succ]); (try simp only [List.set_cons_zero])
                refine wpAnyH_ready (rs := [9]) (by kernel_rfl) (by simp) ?_
                refine AllReadyH.cons rfl (fun K hK => ?_) ?_
                · go_simp
                  go_wp2_with (go_at_call 66; (with_reducible refine (HM1.calls _).mono ?_); rintro e y101 ⟨rfl, hbk⟩)
                  refine hK.out _ _ ?_ (fun hHeld => ?_)
                  · exact ⟨lab0 (hj3.below hbk hj3.lt), lab1 (hj3.below hbk hj3.lt)⟩
                  clear hK K
                  (try simp only [Act.put]); (try simp only [List.setIfInBounds_toArray]); (try simp only [List.set_cons_succ]); (try simp only [List.set_cons_zero])
                  replace hj3 := hj3.below hbk hj3.lt
                  replace hB := rstep hB hbk
                  replace X3 := X3.below hbk X3.lt
                  replace X4 := X4.below hbk X4.lt
                  clear hbk
                  refine wpAnyH_ready (rs := [12]) (by kernel_rfl) (by simp) ?_
                  refine AllReadyH.cons rfl (fun K hK => ?_) ?_
                  rotate_left
                  · exact AllReadyH.nil
                  rw [if_pos (by rfl)]
                  refine wp_store_row 25 _ _ rfl x3 (labc ((nn : Int) + 1) c0) rfl rfl 25 (labc 0 0) X3 infoLab rfl (lab_all _ _) ?_
                  refine hK.out _ _ ?_ (fun hHeld => ?_)
                  · exact ⟨lab0 (hj3.setRow_other _ _ (by omega)), lab1 (hj3.setRow_other _ _ (by omega))⟩
                  clear hK K
                  (try simp only [Act.put]); (try simp only [List.setIfInBounds_toArray]); (try simp only [List.set_cons_succ]); (try simp only [List.set_cons_zero])
                  replace hj3 := hj3.setRow_other x3 (labc ((nn : Int) + 1) c0) (by omega)
                  replace hB := bel_setRow hB (show w3.heap.size ≤ x3 by omega) (labc ((nn : Int) + 1) c0)
                  replace X4 := X4.setRow_other x3 (labc ((nn : Int) + 1) c0) hne.symm
                  replace X3 := X3.setRow (labc ((nn : Int) + 1) c0)
                  clear hHeld
                  refine wpAnyH_ready (rs := [13]) (by kernel_rfl) (by simp) ?_
                  refine AllReadyH.cons rfl (fun K hK => ?_) ?_
                  rotate_left
                  · exact AllReadyH.nil
                  rw [if_pos (by rfl)]
                  refine wp_store_row 25 _ _ rfl x4 (labc ((nn : Int) + 1) c1) rfl rfl 25 (labc 0 0) X4 infoLab rfl (lab_all _ _) ?_
                  refine hK.out _ _ ?_ (fun hHeld => ?_)
                  · exact ⟨lab0 (hj3.setRow_other _ _ (by omega)), lab1 (hj3.setRow_other _ _ (by omega))⟩
                  clear hK K
                  (try simp only [Act.put]); (try simp only [List.setIfInBounds_toArray]); (try simp only [List.set_cons_succ]); (try simp only [List.set_cons_zero])
                  replace hj3 := hj3.setRow_other x4 (labc ((nn : Int) + 1) c1) (by omega)
                  replace hB := bel_setRow hB (show w3.heap.size ≤ x4 by omega) (labc ((nn : Int) + 1) c1)
                  replace X3 := X3.setRow_other x4 (labc ((nn : Int) + 1) c1) hne
                  replace X4 := X4.setRow (labc ((nn : Int) + 1) c1)
                  clear hHeld
                  refine wpAnyH_done (by kernel_rfl) ?_ _
                  go_wp2
                  go_meet
                  exact ⟨⟨x3, x4, rfl, rfl, X3, X4, g3, g4, hB⟩⟩
                exact AllReadyH.nil
              exact AllReadyH.nil
            exact AllReadyH.nil
          refine AllReadyH.cons rfl (fun K hK => ?_) ?_
          · go_simp
            refine hK.out _ _ ?_ (fun hHeld => ?_)
            · exact ⟨lab0 (hj3.alloc _), lab1 (hj3.alloc _)⟩
            clear hK K
            (try simp only [Act.put]); (try simp only [List.setIfInBounds_toArray]); (try simp only [List.set_cons_succ]); (try simp only [List.set_cons_zero])
            have X4 := Blk.new y92 (labc 0 0) 25
            have g4 := hB.size
            have hl3 := X3.lt
            replace hj3 := hj3.alloc (.cells (labc 0 0) 25)
            replace hB := hB.alloc hB.size (.cells (labc 0 0) 25)
            replace X3 := X3.alloc (.cells (labc 0 0) 25)
            try rw [lab00]
            try rw [lab00] at hHeld
            generalize hx4 : y92.heap.size = x4 at *
            generalize y92.alloc _ = y102 at *
            have hne : x3 ≠ x4 := by omega
            clear hl3
            clear hx4
            refine wpAnyH_ready (rs := [4]) (by kernel_rfl) (by simp) ?_
            refine AllReadyH.cons rfl (fun K hK => ?_) ?_
            · go_simp
              go_wp2_with (go_at_call 66; (with_reducible refine (HM0.calls _).mono ?_); rintro e y103 ⟨rfl, hbk⟩)
              refine hK.out _ _ ?_ (fun hHeld => ?_)
              · exact ⟨lab0 (hj3.below hbk hj3.lt), lab1 (hj3.below hbk hj3.lt)⟩
              clear hK K
              (try simp only [Act.put]); (try simp only [List.setIfInBounds_toArray]); (try simp only [List.set_cons_succ]); (try simp only [List.set_cons_zero])
              replace hj3 := hj3.below hbk hj3.lt
              replace hB := rstep hB hbk
              replace X3 := X3.below hbk X3.lt
              replace X4 := X4.below hbk X4.lt
              clear hbk
              refine wpAnyH_ready (rs := [6]) (by kernel_rfl) (by simp) ?_
              refine AllReadyH.cons rfl (fun K hK => ?_) ?_
              · go_simp
                go_wp2_with (go_at_call 29; (with_reducible refine (HCH1.calls _).mono ?_); rintro e y104 ⟨rfl, hbk⟩)
                refine hK.out _ _ ?_ (fun hHeld => ?_)
                · exact ⟨lab0 (hj3.below hbk hj3.lt), lab1 (hj3.below hbk hj3.lt)⟩
                clear hK K
                (try simp only [Act.put]); (try simp only [List.setIfInBounds_toArray]); (try simp only [List.set_cons_succ]); (try simp only [List.set_cons_zero])
                replace hj3 := hj3.below hbk hj3.lt
                replace hB := rstep hB hbk
                replace X3 := X3.below hbk X3.lt
                replace X4 := X4.below hbk X4.lt
                clear hbk
                refine wpAnyH_take (i := 7) (v := ?_) rfl (by kernel_rfl) (by kernel_rfl) (by kernel_rfl) (fun _ _ _ h => h) (Or.inl ⟨by rfl, ?_⟩) (by assumption) ?_
                rotate_left
                · intro w9 hSw
                  (try dsimp only at hSw)
                  go_simp
                  (try with_reducible rfl)
                (try simp only [Act.put]); (try simp only [List.setIfInBounds_toArray]); (try simp only [List.set_cons_succ]); (try simp only [List.set_cons_zero])
                refine wpAnyH_take (i := 8) (v := ?_) rfl (by kernel_rfl) (by kernel_rfl) (by kernel_rfl) (fun _ _ _ h => h) (Or.inl ⟨by rfl, ?_⟩) (by assumption) ?_
                rotate_left
                · intro w9 hSw
                  (try dsimp only at hSw)
                  go_simp
                  (try with_reducible rfl)
                (try simp only [Act.put]); (try simp only [List.setIfInBounds_toArray]); (try simp only [List.set_cons_succ]); (try simp only [List.set_cons_zero])
                refine wpAnyH_ready (rs := [9]) (by kernel_rfl) (by simp) ?_
                refine AllReadyH.cons rfl (fun K hK => ?_) ?_
                · go_simp
                  go_wp2_with (go_at_call 66; (with_reducible refine (HM1.calls _).mono ?_); rintro e y105 ⟨rfl, hbk⟩)
                  refine hK.out _ _ ?_ (fun hHeld => ?_)
                  · exact ⟨lab0 (hj3.below hbk hj3.lt), lab1 (hj3.below hbk hj3.lt)⟩
                  clear hK K
                  (try simp only [Act.put]); (try simp only [List.setIfInBounds_toArray]); (try simp only [List.set_cons_succ]); (try simp only [List.set_cons_zero])
                  replace hj3 := hj3.below hbk hj3.lt
                  replace hB := rstep hB hbk
                  replace X3 := X3.below hbk X3.lt
                  replace X4 := X4.below hbk X4.lt
                  clear hbk
                  refine wpAnyH_ready (rs := [12]) (by kernel_rfl) (by simp) ?_
                  refine AllReadyH.cons rfl (fun K hK => ?_) ?_
                  rotate_left
                  · exact AllReadyH.nil
                  rw [if_pos (by rfl)]
                  refine wp_store_row 25 _ _ rfl x3 (labc ((nn : Int) + 1) c0) rfl rfl 25 (labc 0 0) X3 infoLab rfl (lab_all _ _) ?_
                  refine hK.out _ _ ?_ (fun hHeld => ?_)
                  · exact ⟨lab0 (hj3.setRow_other _ _ (by omega)), lab1 (hj3.setRow_other _ _ (by omega))⟩
                  clear hK K
                  (try simp only [Act.put]); (try simp only [List.setIfInBounds_toArray]); (try simp only [List.set_cons_succ]); (try simp only [List.set_cons_zero])
                  replace hj3 := hj3.setRow_other x3 (labc ((nn : Int) + 1) c0) (by omega)
                  replace hB := bel_setRow hB (show w3.heap.size ≤ x3 by omega) (labc ((nn : Int) + 1) c0)
                  replace X4 := X4.setRow_other x3 (labc ((nn : Int) + 1) c0) hne.symm
                  replace X3 := X3.setRow (labc ((nn : Int) + 1) c0)
                  clear hHeld
                  refine wpAnyH_ready (rs := [13]) (by kernel_rfl) (by simp) ?_
                  refine AllReadyH.cons rfl (fun K hK => ?_) ?_
                  rotate_left
                  · exact AllReadyH.nil
                  rw [if_pos (by rfl)]
                  refine wp_store_row 25 _ _ rfl x4 (labc ((nn : Int) + 1) c1) rfl rfl 25 (labc 0 0) X4 infoLab rfl (lab_all _ _) ?_
                  refine hK.out _ _ ?_ (fun hHeld => ?_)
                  · exact ⟨lab0 (hj3.setRow_other _ _ (by omega)), lab1 (hj3.setRow_other _ _ (by omega))⟩
                  clear hK K
                  (try simp only [Act.put]); (try simp only [List.setIfInBounds_toArray]); (try simp only [List.set_cons_succ]); (try simp only [List.set_cons_zero])
                  replace hj3 := hj3.setRow_other x4 (labc ((nn : Int) + 1) c1) (by omega)
                  replace hB := bel_setRow hB (show w3.heap.size ≤ x4 by omega) (labc ((nn : Int) + 1) c1)
                  replace X3 := X3.setRow_other x4 (labc ((nn : Int) + 1) c1) hne
                  replace X4 := X4.setRow (labc ((nn : Int) + 1) c1)
                  clear hHeld
                  refine wpAnyH_done (by kernel_rfl) ?_ _
                  go_wp2
                  go_meet
                  exact ⟨⟨x3, x4, rfl, rfl, X3, X4, g3, g4, hB⟩⟩
                exact AllReadyH.nil
              exact AllReadyH.nil
            exact AllReadyH.nil
          exact AllReadyH.nil
        refine AllReadyH.cons rfl (fun K hK => ?_) ?_
        · go_simp
          refine hK.out _ _ ?_ (fun hHeld => ?_)
          · exact ⟨lab0 (hj3.alloc _), lab1 (hj3.alloc _)⟩
          clear hK K
          (try simp only [Act.put]); (try simp only [List.setIfInBounds_toArray]); (try simp only [List.set_cons_succ]); (try simp only [List.set_cons_zero])
          have X4 := Blk.new y91 (labc 0 0) 25
          have g4 := hB.size
          have hl3 := X3.lt
          replace hj3 := hj3.alloc (.cells (labc 0 0) 25)
          replace hB := hB.alloc hB.size (.cells (labc 0 0) 25)
          replace X3 := X3.alloc (.cells (labc 0 0) 25)
          try rw [lab00]
          try rw [lab00] at hHeld
          generalize hx4 : y91.heap.size = x4 at *
          generalize y91.alloc _ = y106 at *
          have hne : x3 ≠ x4 := by omega
          clear hl3
          clear hx4
          refine wpAnyH_ready (rs := [1]) (by kernel_rfl) (by simp) ?_
          refine AllReadyH.cons rfl (fun K hK => ?_) ?_
          · go_simp
            go_wp2_with (go_at_call 29; (with_reducible refine (HCH0.calls _).mono ?_); rintro e y107 ⟨rfl, hbk⟩)
            refine hK.out _ _ ?_ (fun hHeld => ?_)
            · exact ⟨lab0 (hj3.below hbk hj3.lt), lab1 (hj3.below hbk hj3.lt)⟩
            clear hK K
            (try simp only [Act.put]); (try simp only [List.setIfInBounds_toArray]); (try simp only [List.set_cons_succ]); (try simp only [List.set_cons_zero])
            replace hj3 := hj3.below hbk hj3.lt
            replace hB := rstep hB hbk
            replace X3 := X3.below hbk X3.lt
            replace X4 := X4.below hbk X4.lt
            clear hbk
            refine wpAnyH_take (i := 2) (v := ?_) rfl (by kernel_rfl) (by kernel_rfl) (by kernel_rfl) (fun _ _ _ h => h) (Or.inl ⟨by rfl, ?_⟩) (by assumption) ?_
            rotate_left
            · intro w9 hSw
              (try dsimp only at hSw)
              go_simp
              (try with_reducible rfl)
            (try simp only [Act.put]); (try simp only [List.setIfInBounds_toArray]); (try simp only [List.set_cons_succ]); (try simp only [List.set_cons_zero])
            refine wpAnyH_take (i := 3) (v := ?_) rfl (by kernel_rfl) (by kernel_rfl) (by kernel_rfl) (fun _ _ _ h => h) (Or.inl ⟨by rfl, ?_⟩) (by assumption) ?_
            rotate_left
            · intro w9 hSw
              (try dsimp only at hSw)
              go_simp
              (try with_reducible rfl)
            (try simp only [Act.put]); (try simp only [List.setIfInBounds_toArray]); (try simp only [List.set_cons_succ]); (try simp only [List.set_cons_zero])
            refine wpAnyH_ready (rs := [4]) (by kernel_rfl) (by simp) ?_
            refine AllReadyH.cons rfl (fun K hK => ?_) ?_
            · go_simp
              go_wp2_with (go_at_call 66; (with_reducible refine (HM0.calls _).mono ?_); rintro e y108 ⟨rfl, hbk⟩)
              refine hK.out _ _ ?_ (fun hHeld => ?_)
              · exact ⟨lab0 (hj3.below hbk hj3.lt), lab1 (hj3.below hbk hj3.lt)⟩
              clear hK K
              (try simp only [Act.put]); (try simp only [List.setIfInBounds_toArray]); (try simp only [List.set_cons_succ]); (try simp only [List.set_cons_zero])
              replace hj3 := hj3.below hbk hj3.lt
              replace hB := rstep hB hbk
              replace X3 := X3.below hbk X3.lt
              replace X4 := X4.below hbk X4.lt
              clear hbk
              refine wpAnyH_ready (rs := [6]) (by kernel_rfl) (by simp) ?_
              refine AllReadyH.cons rfl (fun K hK => ?_) ?_
              · go_simp
                go_wp2_with (go_at_call 29; (with_reducible refine (HCH1.calls _).mono ?_); rintro e y109 ⟨rfl, hbk⟩)
                refine hK.out _ _ ?_ (fun hHeld => ?_)
                · exact ⟨lab0 (hj3.below hbk hj3.lt), lab1 (hj3.below hbk hj3.lt)⟩
                clear hK K
                (try simp only [Act.put]); (try simp only [List.setIfInBounds_toArray]); (try simp only [List.set_cons_succ]); (try simp only [List.set_cons_zero])
                replace hj3 := hj3.below hbk hj3.lt
                replace hB := rstep hB hbk
                replace X3 := X3.below hbk X3.lt
                replace X4 := X4.below hbk X4.lt
                clear hbk
                refine wpAnyH_take (i := 7) (v := ?_) rfl (by kernel_rfl) (by kernel_rfl) (by kernel_rfl) (fun _ _ _ h => h) (Or.inl ⟨by rfl, ?_⟩) (by assumption) ?_
                rotate_left
                · intro w9 hSw
                  (try dsimp only at hSw)
                  go_simp
                  (try with_reducible rfl)
                (try simp only [Act.put]); (try simp only [List.setIfInBounds_toArray]); (try simp only [List.set_cons_succ]); (try simp only [List.set_cons_zero])
                refine wpAnyH_take (i := 8) (v := ?_) rfl (by kernel_rfl) (by kernel_rfl) (by kernel_rfl) (fun _ _ _ h => h) (Or.inl ⟨by rfl, ?_⟩) (by assumption) ?_
                rotate_left
                · intro w9 hSw
                  (try dsimp only at hSw)
                  go_simp
                  (try with_reducible rfl)
                (try simp only [Act.put]); (try simp only [List.setIfInBounds_toArray]); (try simp only [List.set_cons_succ]); (try simp only [List.set_cons_zero])
                refine wpAnyH_ready (rs := [9]) (by kernel_rfl) (by simp) ?_
                refine AllReadyH.cons rfl (fun K hK => ?_) ?_
                · go_simp
                  go_wp2_with (go_at_call 66; (with_reducible refine (HM1.calls _).mono ?_); rintro e y110 ⟨rfl, hbk⟩)
                  refine hK.out _ _ ?_ (fun hHeld => ?_)
                  · exact ⟨lab0 (hj3.below hbk hj3.lt), lab1 (hj3.below hbk hj3.lt)⟩
                  clear hK K
                  (try simp only [Act.put]); (try simp only [List.setIfInBounds_toArray]); (try simp only [List.set_cons_succ]); (try simp only [List.set_cons_zero])
                  replace hj3 := hj3.below hbk hj3.lt
                  replace hB := rstep hB hbk
                  replace X3 := X3.below hbk X3.lt
                  replace X4 := X4.below hbk X4.lt
                  clear hbk
                  refine wpAnyH_ready (rs := [12]) (by kernel_rfl) (by simp) ?_
                  refine AllReadyH.cons rfl (fun K hK => ?_) ?_
                  rotate_left
                  · exact AllReadyH.nil
                  rw [if_pos (by rfl)]
                  refine wp_store_row 25 _ _ rfl x3 (labc ((nn : Int) + 1) c0) rfl rfl 25 (labc 0 0) X3 infoLab rfl (lab_all _ _) ?_
                  refine hK.out _ _ ?_ (fun hHeld => ?_)
                  · exact ⟨lab0 (hj3.setRow_other _ _ (by omega)), lab1 (hj3.setRow_other _ _ (by omega))⟩
                  clear hK K
                  (try simp only [Act.put]); (try simp only [List.setIfInBounds_toArray]); (try simp only [List.set_cons_succ]); (try simp only [List.set_cons_zero])
                  replace hj3 := hj3.setRow_other x3 (labc ((nn : Int) + 1) c0) (by omega)
                  replace hB := bel_setRow hB (show w3.heap.size ≤ x3 by omega) (labc ((nn : Int) + 1) c0)
                  replace X4 := X4.setRow_other x3 (labc ((nn : Int) + 1) c0) hne.symm
                  replace X3 := X3.setRow (labc ((nn : Int) + 1) c0)
                  clear hHeld
                  refine wpAnyH_ready (rs := [13]) (by kernel_rfl) (by simp) ?_
                  refine AllReadyH.cons rfl (fun K hK => ?_) ?_
                  rotate_left
                  · exact AllReadyH.nil
                  rw [if_pos (by rfl)]
                  refine wp_store_row 25 _ _ rfl x4 (labc ((nn : Int) + 1) c1) rfl rfl 25 (labc 0 0) X4 infoLab rfl (lab_all _ _) ?_
                  refine hK.out _ _ ?_ (fun hHeld => ?_)
                  · exact ⟨lab0 (hj3.setRow_other _ _ (by omega)), lab1 (hj3.setRow_other _ _ (by omega))⟩
                  clear hK K
                  (try simp only [Act.put]); (try simp only [List.setIfInBounds_toArray]); (try simp only [List.set_cons_succ]); (try simp only [List.set_cons_zero])
                  replace hj3 := hj3.setRow_other x4 (labc ((nn : Int) + 1) c1) (by omega)
                  replace hB := bel_setRow hB (show w3.heap.size ≤ x4 by omega) (labc ((nn : Int) + 1) c1)
                  replace X3 := X3.setRow_other x4 (labc ((nn : Int) + 1) c1) hne
                  replace X4 := X4.setRow (labc ((nn : Int) + 1) c1)
                  clear hHeld
                  refine wpAnyH_done (by kernel_rfl) ?_ _
                  go_wp2
                  go_meet
                  exact ⟨⟨x3, x4, rfl, rfl, X3, X4, g3, g4, hB⟩⟩
                exact AllReadyH.nil
              exact AllReadyH.nil
            exact AllReadyH.nil
          exact AllReadyH.nil
        exact AllReadyH.nil
      refine AllReadyH.cons rfl (fun K hK => ?_) ?_
      · go_simp
        refine hK.out _ _ ?_ (fun hHeld => ?_)
        · exact ⟨lab0 (hj3.alloc _), lab1 (hj3.alloc _)⟩
        clear hK K
        (try simp only [Act.put]); (try simp only [List.setIfInBounds_toArray]); (try simp only [List.set_cons_succ]); (try simp only [List.set_cons_zero])
        have X4 := Blk.new y0 (labc 0 0) 25
        have g4 := hB.size
        replace hj3 := hj3.alloc (.cells (labc 0 0) 25)
        replace hB := hB.alloc hB.size (.cells (labc 0 0) 25)
        try rw [lab00]
        try rw [lab00] at hHeld
        generalize hx4 : y0.heap.size = x4 at *
        generalize y0.alloc _ = y111 at *
        clear hx4
        refine wpAnyH_ready (rs := [1, 10]) (by kernel_rfl) (by simp) ?_
        refine AllReadyH.cons rfl (fun K hK => ?_) ?_
        · go_simp
          go_wp2_with (go_at_call 29; (with_reducible refine (HCH0.calls _).mono ?_); rintro e y112 ⟨rfl, hbk⟩)
          refine hK.out _ _ ?_ (fun hHeld => ?_)
          · exact ⟨lab0 (hj3.below hbk hj3.lt), lab1 (hj3.below hbk hj3.lt)⟩
          clear hK K
          (try simp only [Act.put]); (try simp only [List.setIfInBounds_toArray]); (try simp only [List.set_cons_succ]); (try simp only [List.set_cons_zero])
          replace hj3 := hj3.below hbk hj3.lt
          replace hB := rstep hB hbk
          replace X4 := X4.below hbk X4.lt
          clear hbk
          refine wpAnyH_take (i := 2) (v := ?_) rfl (by kernel_rfl) (by kernel_rfl) (by kernel_rfl) (fun _ _ _ h => h) (Or.inl ⟨by rfl, ?_⟩) (by assumption) ?_
          rotate_left
          · intro w9 hSw
            (try dsimp only at hSw)
            go_simp
            (try with_reducible rfl)
          (try simp only [Act.put]); (try simp only [List.setIfInBounds_toArray]); (try simp only [List.set_cons_succ]); (try simp only [List.set_cons_zero])
          refine wpAnyH_take (i := 3) (v := ?_) rfl (by kernel_rfl) (by kernel_rfl) (by kernel_rfl) (fun _ _ _ h => h) (Or.inl ⟨by rfl, ?_⟩) (by assumption) ?_
          rotate_left
          · intro w9 hSw
            (try dsimp only at hSw)
            go_simp
            (try with_reducible rfl)
          (try simp only [Act.put]); (try simp only [List.setIfInBounds_toArray]); (try simp only [List.set_cons_succ]); (try simp only [List.set_cons_zero])
          refine wpAnyH_ready (rs := [4, 10]) (by kernel_rfl) (by simp) ?_
          refine AllReadyH.cons rfl (fun K hK => ?_) ?_
          · go_simp
            go_wp2_with (go_at_call 66; (with_reducible refine (HM0.calls _).mono ?_); rintro e y113 ⟨rfl, hbk⟩)
            refine hK.out _ _ ?_ (fun hHeld => ?_)
            · exact ⟨lab0 (hj3.below hbk hj3.lt), lab1 (hj3.below hbk hj3.lt)⟩
            clear hK K
            (try simp only [Act.put]); (try simp only [List.setIfInBounds_toArray]); (try simp only [List.set_cons_succ]); (try simp only [List.set_cons_zero])
            replace hj3 := hj3.below hbk hj3.lt
            replace hB := rstep hB hbk
            replace X4 := X4.below hbk X4.lt
            clear hbk
            refine wpAnyH_ready (rs := [6, 10]) (by kernel_rfl) (by simp) ?_
            refine AllReadyH.cons rfl (fun K hK => ?_) ?_
            · go_simp
              go_wp2_with (go_at_call 29; (with_reducible refine (HCH1.calls _).mono ?_); rintro e y114 ⟨rfl, hbk⟩)
              refine hK.out _ _ ?_ (fun hHeld => ?_)
              · exact ⟨lab0 (hj3.below hbk hj3.lt), lab1 (hj3.below hbk hj3.lt)⟩
              clear hK K
              (try simp only [Act.put]); (try simp only [List.setIfInBounds_toArray]); (try simp only [List.set_cons_succ]); (try simp only [List.set_cons_zero])
              replace hj3 := hj3.below hbk hj3.lt
              replace hB := rstep hB hbk
              replace X4 := X4.below hbk X4.lt
              clear hbk
              refine wpAnyH_take (i := 7) (v := ?_) rfl (by kernel_rfl) (by kernel_rfl) (by kernel_rfl) (fun _ _ _ h => h) (Or.inl ⟨by rfl, ?_⟩) (by assumption) ?_
              rotate_left
              · intro w9 hSw
                (try dsimp only at hSw)
                go_simp
                (try with_reducible rfl)
              (try simp only [Act.put]); (try simp only [List.setIfInBounds_toArray]); (try simp only [List.set_cons_succ]); (try simp only [List.set_cons_zero])
              refine wpAnyH_take (i := 8) (v := ?_) rfl (by kernel_rfl) (by kernel_rfl) (by kernel_rfl) (fun _ _ _ h => h) (Or.inl ⟨by rfl, ?_⟩) (by assumption) ?_
              rotate_left
              · intro w9 hSw
                (try dsimp only at hSw)
                go_simp
                (try with_reducible rfl)
              (try simp only [Act.put]); (try simp only [List.setIfInBounds_toArray]); (try simp only [List.set_cons_succ]); (try simp only [List.set_cons_zero])
              refine wpAnyH_ready (rs := [9, 10]) (by kernel_rfl) (by simp) ?_
              refine AllReadyH.cons rfl (fun K hK => ?_) ?_
              · go_simp
                go_wp2_with (go_at_call 66; (with_reducible refine (HM1.calls _).mono ?_); rintro e y115 ⟨rfl, hbk⟩)
                refine hK.out _ _ ?_ (fun hHeld => ?_)
                · exact ⟨lab0 (hj3.below hbk hj3.lt), lab1 (hj3.below hbk hj3.lt)⟩
                clear hK K
                (try simp only [Act.put]); (try simp only [List.setIfInBounds_toArray]); (try simp only [List.set_cons_succ]); (try simp only [List.set_cons_zero])
                replace hj3 := hj3.below hbk hj3.lt
                replace hB := rstep hB hbk
                replace X4 := X4.below hbk X4.lt
                clear hbk
                refine wpAnyH_ready (rs := [10]) (by kernel_rfl) (by simp) ?_
                refine AllReadyH.cons rfl (fun K hK => ?_) ?_
                · go_simp
                  refine hK.out _ _ ?_ (fun hHeld => ?_)
                  · exact ⟨lab0 (hj3.alloc _), lab1 (hj3.alloc _)⟩
                  clear hK K
                  (try simp only [Act.put]); (try simp only [List.setIfInBounds_toArray]); (try simp only [List.set_cons_succ]); (try simp only [List.set_cons_zero])
                  have X3 := Blk.new y115 (labc 0 0) 25
                  have g3 := hB.size
                  have hl4 := X4.lt
                  replace hj3 := hj3.alloc (.cells (labc 0 0) 25)
                  replace hB := hB.alloc hB.size (.cells (labc 0 0) 25)
                  replace X4 := X4.alloc (.cells (labc 0 0) 25)
                  try rw [lab00]
                  try rw [lab00] at hHeld
                  generalize hx3 : y115.heap.size = x3 at *
                  generalize y115.alloc _ = y116 at *
                  have hne : x3 ≠ x4 := by omega
                  clear hl4
                  clear hx3
                  refine wpAnyH_ready (rs := [12]) (by kernel_rfl) (by simp) ?_
                  refine AllReadyH.cons rfl (fun K hK => ?_) ?_
                  rotate_left
                  · exact AllReadyH.nil
                  rw [if_pos (by rfl)]
                  refine wp_store_row 25 _ _ rfl x3 (labc ((nn : Int) + 1) c0) rfl rfl 25 (labc 0 0) X3 infoLab rfl (lab_all _ _) ?_
                  refine hK.out _ _ ?_ (fun hHeld => ?_)
                  · exact ⟨lab0 (hj3.setRow_other _ _ (by omega)), lab1 (hj3.setRow_other _ _ (by omega))⟩
                  clear hK K
                  (try simp only [Act.put]); (try simp only [List.setIfInBounds_toArray]); (try simp only [List.set_cons_succ]); (try simp only [List.set_cons_zero])
                  replace hj3 := hj3.setRow_other x3 (labc ((nn : Int) + 1) c0) (by omega)
                  replace hB := bel_setRow hB (show w3.heap.size ≤ x3 by omega) (labc ((nn : Int) + 1) c0)
                  replace X4 := X4.setRow_other x3 (labc ((nn : Int) + 1) c0) hne.symm
                  replace X3 := X3.setRow (labc ((nn : Int) + 1) c0)
                  clear hHeld
                  refine wpAnyH_ready (rs := [13]) (by kernel_rfl) (by simp) ?_
                  refine AllReadyH.cons rfl (fun K hK => ?_) ?_
                  rotate_left
                  · exact AllReadyH.nil
                  rw [if_pos (by rfl)]
                  refine wp_store_row 25 _ _ rfl x4 (labc ((nn : Int) + 1) c1) rfl rfl 25 (labc 0 0) X4 infoLab rfl (lab_all _ _) ?_
                  refine hK.out _ _ ?_ (fun hHeld => ?_)
                  · exact ⟨lab0 (hj3.setRow_other _ _ (by omega)), lab1 (hj3.setRow_other _ _ (by omega))⟩
                  clear hK K
                  (try simp only [Act.put]); (try simp only [List.setIfInBounds_toArray]); (try simp only [List.set_cons_succ]); (try simp only [List.set_cons_zero])
                  replace hj3 := hj3.setRow_other x4 (labc ((nn : Int) + 1) c1) (by omega)
                  replace hB := bel_setRow hB (show w3.heap.size ≤ x4 by omega) (labc ((nn : Int) + 1) c1)
                  replace X3 := X3.setRow_other x4 (labc ((nn : Int) + 1) c1) hne
                  replace X4 := X4.setRow (labc ((nn : Int) + 1) c1)
                  clear hHeld
                  refine wpAnyH_done (by kernel_rfl) ?_ _
                  go_wp2
                  go_meet
                  exact ⟨⟨x3, x4, rfl, rfl, X3, X4, g3, g4, hB⟩⟩
                exact AllReadyH.nil
              refine AllReadyH.cons rfl (fun K hK => ?_) ?_
              · go_simp
                refine hK.out _ _ ?_ (fun hHeld => ?_)
                · exact ⟨lab0 (hj3.alloc _), lab1 (hj3.alloc _)⟩
                clear hK K
                (try simp only [Act.put]); (try simp only [List.setIfInBounds_toArray]); (try simp only [List.set_cons_succ]); (try simp only [List.set_cons_zero])
                have X3 := Blk.new y114 (labc 0 0) 25
                have g3 := hB.size
                have hl4 := X4.lt
                replace hj3 := hj3.alloc (.cells (labc 0 0) 25)
                replace hB := hB.alloc hB.size (.cells (labc 0 0) 25)
                replace X4 := X4.alloc (.cells (labc 0 0) 25)
                try rw [lab00]
                try rw [lab00] at hHeld
                generalize hx3 : y114.heap.size = x3 at *
                generalize y114.alloc _ = y117 at *
                have hne : x3 ≠ x4 := by omega
                clear hl4
                clear hx3
                refine wpAnyH_ready (rs := [9]) (by kernel_rfl) (by simp) ?_
                refine AllReadyH.cons rfl (fun K hK => ?_) ?_
                · go_simp
                  go_wp2_with (go_at_call 66; (with_reducible refine (HM1.calls _).mono ?_); rintro e y118 ⟨rfl, hbk⟩)
                  refine hK.out _ _ ?_ (fun hHeld => ?_)
                  · exact ⟨lab0 (hj3.below hbk hj3.lt), lab1 (hj3.below hbk hj3.lt)⟩
                  clear hK K
                  (try simp only [Act.put]); (try simp only [List.setIfInBounds_toArray]); (try simp only [List.set_cons_succ]); (try simp only [List.set_cons_zero])
                  replace hj3 := hj3.below hbk hj3.lt
                  replace hB := rstep hB hbk
                  replace X3 := X3.below hbk X3.lt
                  replace X4 := X4.below hbk X4.lt
                  clear hbk
                  refine wpAnyH_ready (rs := [12]) (by kernel_rfl) (by simp) ?_
                  refine AllReadyH.cons rfl (fun K hK => ?_) ?_
                  rotate_left
                  · exact AllReadyH.nil
                  rw [if_pos (by rfl)]
                  refine wp_store_row 25 _ _ rfl x3 (labc ((nn : Int) + 1) c0) rfl rfl 25 (labc 0 0) X3 infoLab rfl (lab_all _ _) ?_
                  refine hK.out _ _ ?_ (fun hHeld => ?_)
                  · exact ⟨lab0 (hj3.setRow_other _ _ (by omega)), lab1 (hj3.setRow_other _ _ (by omega))⟩
                  clear hK K
                  (try simp only [Act.put]); (try simp only [List.setIfInBounds_toArray]); (try simp only [List.set_cons_succ]); (try simp only [List.set_cons_zero])
                  replace hj3 := hj3.setRow_other x3 (labc ((nn : Int) + 1) c0) (by omega)
                  replace hB := bel_setRow hB (show w3.heap.size ≤ x3 by omega) (labc ((nn : Int) + 1) c0)
                  replace X4 := X4.setRow_other x3 (labc ((nn : Int) + 1) c0) hne.symm
                  replace X3 := X3.setRow (labc ((nn : Int) + 1) c0)
                  clear hHeld
                  refine wpAnyH_ready (rs := [13]) (by kernel_rfl) (by simp) ?_
                  refine AllReadyH.cons rfl (fun K hK => ?_) ?_
                  rotate_left
                  · exact AllReadyH.nil
                  rw [if_pos (by rfl)]
                  refine wp_store_row 25 _ _ rfl x4 (labc ((nn : Int) + 1) c1) rfl rfl 25 (labc 0 0) X4 infoLab rfl (lab_all _ _) ?_
                  refine hK.out _ _ ?_ (fun hHeld => ?_)
                  · exact ⟨lab0 (hj3.setRow_other _ _ (by omega)), lab1 (hj3.setRow_other _ _ (by omega))⟩
                  clear hK K
                  (try simp only [Act.put]); (try simp only [List.setIfInBounds_toArray]); (try simp only [List.set_cons_succ]); (try simp only [List.set_cons_zero])
                  replace hj3 := hj3.setRow_other x4 (labc ((nn : Int) + 1) c1) (by omega)
                  replace hB := bel_setRow hB (show w3.heap.size ≤ x4 by omega) (labc ((nn : Int) + 1) c1)
                  replace X3 := X3.setRow_other x4 (labc ((nn : Int) + 1) c1) hne
                  replace X4 := X4.setRow (labc ((nn : Int) + 1) c1)
                  clear hHeld
                  refine wpAnyH_done (by kernel_rfl) ?_ _
                  go_wp2
                  go_meet
                  exact ⟨⟨x3, x4, rfl, rfl, X3, X4, g3, g4, hB⟩⟩
                exact AllReadyH.nil
              exact AllReadyH.nil
            refine AllReadyH.cons rfl (fun K hK => ?_) ?_
            · go_simp
              refine hK.out _ _ ?_ (fun hHeld => ?_)
              · exact ⟨lab0 (hj3.alloc _), lab1 (hj3.alloc _)⟩
              clear hK K
              (try simp only [Act.put]); (try simp only [List.setIfInBounds_toArray]); (try simp only [List.set_cons_succ]); (try simp only [List.set_cons_zero])
              have X3 := Blk.new y113 (labc 0 0) 25
              have g3 := hB.size
              have hl4 := X4.lt
              replace hj3 := hj3.alloc (.cells (labc 0 0) 25)
              replace hB := hB.alloc hB.size (.cells (labc 0 0) 25)
              replace X4 := X4.alloc (.cells (labc 0 0) 25)
              try rw [lab00]
              try rw [lab00] at hHeld
              generalize hx3 : y113.heap.size = x3 at *
              generalize y113.alloc _ = y119 at *
              have hne : x3 ≠ x4 := by omega
              clear hl4
              clear hx3
              refine wpAnyH_ready (rs := [6]) (by kernel_rfl) (by simp) ?_
              refine AllReadyH.cons rfl (fun K hK => ?_) ?_
              · go_simp
                go_wp2_with (go_at_call 29; (with_reducible refine (HCH1.calls _).mono ?_); rintro e y120 ⟨rfl, hbk⟩)
                refine hK.out _ _ ?_ (fun hHeld => ?_)
                · exact ⟨lab0 (hj3.below hbk hj3.lt), lab1 (hj3.below hbk hj3.lt)⟩
                clear hK K
                (try simp only [Act.put]); (try simp only [List.setIfInBounds_toArray]); (try simp only [List.set_cons_succ]); (try simp only [List.set_cons_zero])
                replace hj3 := hj3.below hbk hj3.lt
                replace hB := rstep hB hbk
                replace X3 := X3.below hbk X3.lt
                replace X4 := X4.below hbk X4.lt
                clear hbk
                refine wpAnyH_take (i := 7) (v := ?_) rfl (by kernel_rfl) (by kernel_rfl) (by kernel_rfl) (fun _ _ _ h => h) (Or.inl ⟨by rfl, ?_⟩) (by assumption) ?_
                rotate_left
                · intro w9 hSw
                  (try dsimp only at hSw)
                  go_simp
                  (try with_reducible rfl)
                (try simp only [Act.put]); (try simp only [List.setIfInBounds_toArray]); (try simp only [List.set_cons_succ]); (try simp only [List.set_cons_zero])
                refine wpAnyH_take (i := 8) (v := ?_) rfl (by kernel_rfl) (by kernel_rfl) (by kernel_rfl) (fun _ _ _ h => h) (Or.inl ⟨by rfl, ?_⟩) (by assumption) ?_
                rotate_left
                · intro w9 hSw
                  (try dsimp only at hSw)
                  go_simp
                  (try with_reducible rfl)
                (try simp only [Act.put]); (try simp only [List.setIfInBounds_toArray]); (try simp only [List.set_cons_succ]); (try simp only [List.set_cons_zero])
                refine wpAnyH_ready (rs := [9]) (by kernel_rfl) (by simp) ?_
                refine AllReadyH.cons rfl (fun K hK => ?_) ?_
                · go_simp
                  go_wp2_with (go_at_call 66; (with_reducible refine (HM1.calls _).mono ?_); rintro e y121 ⟨rfl, hbk⟩)
                  refine hK.out _ _ ?_ (fun hHeld => ?_)
                  · exact ⟨lab0 (hj3.below hbk hj3.lt), lab1 (hj3.below hbk hj3.lt)⟩
                  clear hK K
                  (try simp only [Act.put]); (try simp only [List.setIfInBounds_toArray]); (try simp only [List.set_cons_succ]); (try simp only [List.set_cons_zero])
                  replace hj3 := hj3.below hbk hj3.lt
                  replace hB := rstep hB hbk
                  replace X3 := X3.below hbk X3.lt
                  replace X4 := X4.below hbk X4.lt
                  clear hbk
                  refine wpAnyH_ready (rs := [12]) (by kernel_rfl) (by simp) ?_
                  refine AllReadyH.cons rfl (fun K hK => ?_) ?_
                  rotate_left
                  · exact AllReadyH.nil
                  rw [if_pos (by rfl)]
                  refine wp_store_row 25 _ _ rfl x3 (labc ((nn : Int) + 1) c0) rfl rfl 25 (labc 0 0) X3 infoLab rfl (lab_all _ _) ?_
                  refine hK.out _ _ ?_ (fun hHeld => ?_)
                  · exact ⟨lab0 (hj3.setRow_other _ _ (by omega)), lab1 (hj3.setRow_other _ _ (by omega))⟩
                  clear hK K
                  (try simp only [Act.put]); (try simp only [List.setIfInBounds_toArray]); (try simp only [List.set_cons_succ]); (try simp only [List.set_cons_zero])
                  replace hj3 := hj3.setRow_other x3 (labc ((nn : Int) + 1) c0) (by omega)
                  replace hB := bel_setRow hB (show w3.heap.size ≤ x3 by omega) (labc ((nn : Int) + 1) c0)
                  replace X4 := X4.setRow_other x3 (labc ((nn : Int) + 1) c0) hne.symm
                  replace X3 := X3.setRow (labc ((nn : Int) + 1) c0)
                  clear hHeld
                  refine wpAnyH_ready (rs := [13]) (by kernel_rfl) (by simp) ?_
                  refine AllReadyH.cons rfl (fun K hK => ?_) ?_
                  rotate_left
                  · exact AllReadyH.nil
                  rw [if_pos (by rfl)]
                  refine wp_store_row 25 _ _ rfl x4 (labc ((nn : Int) + 1) c1) rfl rfl 25 (labc 0 0) X4 infoLab rfl (lab_all _ _) ?_
                  refine hK.out _ _ ?_ (fun hHeld => ?_)
                  · exact ⟨lab0 (hj3.setRow_other _ _ (by omega)), lab1 (hj3.setRow_other _ _ (by omega))⟩
                  clear hK K
                  (try simp only [Act.put]); (try simp only [List.setIfInBounds_toArray]); (try simp only [List.set_cons_succ]); (try simp only [List.set_cons_zero])
                  replace hj3 := hj3.setRow_other x4 (labc ((nn : Int) + 1) c1) (by omega)
                  replace hB := bel_setRow hB (show w3.heap.size ≤ x4 by omega) (labc ((nn : Int) + 1) c1)
                  replace X3 := X3.setRow_other x4 (labc ((nn : Int) + 1) c1) hne
                  replace X4 := X4.setRow (labc ((nn : Int) + 1) c1)
                  clear hHeld
                  refine wpAnyH_done (by kernel_rfl) ?_ _
                  go_wp2
                  go_meet
                  exact ⟨⟨x3, x4, rfl, rfl, X3, X4, g3, g4, hB⟩⟩
                exact AllReadyH.nil
              exact AllReadyH.nil
            exact AllReadyH.nil
          refine AllReadyH.cons rfl (fun K hK => ?_) ?_
          · go_simp
            refine hK.out _ _ ?_ (fun hHeld => ?_)
            · exact ⟨lab0 (hj3.alloc _), lab1 (hj3.alloc _)⟩
            clear hK K
            (try simp only [Act.put]); (try simp only [List.setIfInBounds_toArray]); (try simp only [List.set_cons_succ]); (try simp only [List.set_cons_zero])
            have X3 := Blk.new y112 (labc 0 0) 25
            have g3 := hB.size
            have hl4 := X4.lt
            replace hj3 := hj3.alloc (.cells (labc 0 0) 25)
            replace hB := hB.alloc hB.size (.cells (labc 0 0) 25)
            replace X4 := X4.alloc (.cells (labc 0 0) 25)
            try rw [lab00]
            try rw [lab00] at hHeld
            generalize hx3 : y112.heap.size = x3 at *
            generalize y112.alloc _ = y122 at *
            have hne : x3 ≠ x4 := by omega
            clear hl4
            clear hx3
            refine wpAnyH_ready (rs := [4]) (by kernel_rfl) (by simp) ?_
            refine AllReadyH.cons rfl (fun K hK => ?_) ?_
            · go_simp
              go_wp2_with (go_at_call 66; (with_reducible refine (HM0.calls _).mono ?_); rintro e y123 ⟨rfl, hbk⟩)
              refine hK.out _ _ ?_ (fun hHeld => ?_)
              · exact ⟨lab0 (hj3.below hbk hj3.lt), lab1 (hj3.below hbk hj3.lt)⟩
              clear hK K
              (try simp only [Act.put]); (try simp only [List.setIfInBounds_toArray]); (try simp only [List.set_cons_succ]); (try simp only [List.set_cons_zero])
              replace hj3 := hj3.below hbk hj3.lt
              replace hB := rstep hB hbk
              replace X3 := X3.below hbk X3.lt
              replace X4 := X4.below hbk X4.lt
              clear hbk
              refine wpAnyH_ready (rs := [6]) (by kernel_rfl) (by simp) ?_
              refine AllReadyH.cons rfl (fun K hK => ?_) ?_
              · go_simp
                go_wp2_with (go_at_call 29; (with_reducible refine (HCH1.calls _).mono ?_); rintro e y124 ⟨rfl, hbk⟩)
                refine hK.out _ _ ?_ (fun hHeld => ?_)
                · exact ⟨lab0 (hj3.below hbk hj3.lt), lab1 (hj3.below hbk hj3.lt)⟩
                clear hK K
                (try simp only [Act.put]); (try simp only [List.setIfInBounds_toArray]); (try simp only [List.set_cons_succ]); (try simp only [List.set_cons_zero])
                replace hj3 := hj3.below hbk hj3.lt
                replace hB := rstep hB hbk
                replace X3 := X3.below hbk X3.lt
                replace X4 := X4.below hbk X4.lt
                clear hbk
                refine wpAnyH_take (i := 7) (v := ?_) rfl (by kernel_rfl) (by kernel_rfl) (by kernel_rfl) (fun _ _ _ h => h) (Or.inl ⟨by rfl, ?_⟩) (by assumption) ?_
                rotate_left
                · intro w9 hSw
                  (try dsimp only at hSw)
                  go_simp
                  (try with_reducible rfl)
                (try simp only [Act.put]); (try simp only [List.setIfInBounds_toArray]); (try simp only [List.set_cons_succ]); (try simp only [List.set_cons_zero])
                refine wpAnyH_take (i := 8) (v := ?_) rfl (by kernel_rfl) (by kernel_rfl) (by kernel_rfl) (fun _ _ _ h => h) (Or.inl ⟨by rfl, ?_⟩) (by assumption) ?_
                rotate_left
                · intro w9 hSw
                  (try dsimp only at hSw)
                  go_simp
                  (try with_reducible rfl)
                (try simp only [Act.put]); (try simp only [List.setIfInBounds_toArray]); (try simp only [List.set_cons_succ]); (try simp only [List.set_cons_zero])
                refine wpAnyH_ready (rs := [9]) (by kernel_rfl) (by simp) ?_
                refine AllReadyH.cons rfl (fun K hK => ?_) ?_
                · go_simp
                  go_wp2_with (go_at_call 66; (with_reducible refine (HM1.calls _).mono ?_); rintro e y125 ⟨rfl, hbk⟩)
                  refine hK.out _ _ ?_ (fun hHeld => ?_)
                  · exact ⟨lab0 (hj3.below hbk hj3.lt), lab1 (hj3.below hbk hj3.lt)⟩
                  clear hK K
                  (try simp only [Act.put]); (try simp only [List.setIfInBounds_toArray]); (try simp only [List.set_cons_succ]); (try simp only [List.set_cons_zero])
                  replace hj3 := hj3.below hbk hj3.lt
                  replace hB := rstep hB hbk
                  replace X3 := X3.below hbk X3.lt
                  replace X4 := X4.below hbk X4.lt
                  clear hbk
                  refine wpAnyH_ready (rs := [12]) (by kernel_rfl) (by simp) ?_
                  refine AllReadyH.cons rfl (fun K hK => ?_) ?_
                  rotate_left
                  · exact AllReadyH.nil
                  rw [if_pos (by rfl)]
                  refine wp_store_row 25 _ _ rfl x3 (labc ((nn : Int) + 1) c0) rfl rfl 25 (labc 0 0) X3 infoLab rfl (lab_all _ _) ?_
                  refine hK.out _ _ ?_ (fun hHeld => ?_)
                  · exact ⟨lab0 (hj3.setRow_other _ _ (by omega)), lab1 (hj3.setRow_other _ _ (by omega))⟩
                  clear hK K
                  (try simp only [Act.put]); (try simp only [List.setIfInBounds_toArray]); (try simp only [List.set_cons_succ]); (try simp only [List.set_cons_zero])
                  replace hj3 := hj3.setRow_other x3 (labc ((nn : Int) + 1) c0) (by omega)
                  replace hB := bel_setRow hB (show w3.heap.size ≤ x3 by omega) (labc ((nn : Int) + 1) c0)
                  replace X4 := X4.setRow_other x3 (labc ((nn : Int) + 1) c0) hne.symm
                  replace X3 := X3.setRow (labc ((nn : Int) + 1) c0)
                  clear hHeld
                  refine wpAnyH_ready (rs := [13]) (by kernel_rfl) (by simp) ?_
                  refine AllReadyH.cons rfl (fun K hK => ?_) ?_
                  rotate_left
                  · exact AllReadyH.nil
                  rw [if_pos (by rfl)]
                  refine wp_store_row 25 _ _ rfl x4 (labc ((nn : Int) + 1) c1) rfl rfl 25 (labc 0 0) X4 infoLab rfl (lab_all _ _) ?_
                  refine hK.out _ _ ?_ (fun hHeld => ?_)
                  · exact ⟨lab0 (hj3.setRow_other _ _ (by omega)), lab1 (hj3.setRow_other _ _ (by omega))⟩
                  clear hK K
                  (try simp only [Act.put]); (try simp only [List.setIfInBounds_toArray]); (try simp only [List.set_cons_succ]); (try simp only [List.set_cons_zero])
                  replace hj3 := hj3.setRow_other x4 (labc ((nn : Int) + 1) c1) (by omega)
                  replace hB := bel_setRow hB (show w3.heap.size ≤ x4 by omega) (labc ((nn : Int) + 1) c1)
                  replace X3 := X3.setRow_other x4 (labc ((nn : Int) + 1) c1) hne
                  replace X4 := X4.setRow (labc ((nn : Int) + 1) c1)
                  clear hHeld
                  refine wpAnyH_done (by kernel_rfl) ?_ _
                  go_wp2
                  go_meet
                  exact ⟨⟨x3, x4, rfl, rfl, X3, X4, g3, g4, hB⟩⟩
                exact AllReadyH.nil
              exact AllReadyH.nil
            exact AllReadyH.nil
          exact AllReadyH.nil
        refine AllReadyH.cons rfl (fun K hK => ?_) ?_
        · go_simp
          refine hK.out _ _ ?_ (fun hHeld => ?_)
          · exact ⟨lab0 (hj3.alloc _), lab1 (hj3.alloc _)⟩
          clear hK K
          (try simp only [Act.put]); (try simp only [List.setIfInBounds_toArray]); (try simp only [List.set_cons_succ]); (try simp only [List.set_cons_zero])
          have X3 := Blk.new y111 (labc 0 0) 25
          have g3 := hB.size
          have hl4 := X4.lt
          replace hj3 := hj3.alloc (.cells (labc 0 0) 25)
          replace hB := hB.alloc hB.size (.cells (labc 0 0) 25)
          replace X4 := X4.alloc (.cells (labc 0 0) 25)
          try rw [lab00]
          try rw [lab00] at hHeld
          generalize hx3 : y111.heap.size = x3 at *
          generalize y111.alloc _ = y126 at *
          have hne : x3 ≠ x4 := by omega
          clear hl4
          clear hx3
          refine wpAnyH_ready (rs := [1]) (by kernel_rfl) (by simp) ?_
          refine AllReadyH.cons rfl (fun K hK => ?_) ?_
          · go_simp
            go_wp2_with (go_at_call 29; (with_reducible refine (HCH0.calls _).mono ?_); rintro e y127 ⟨rfl, hbk⟩)
            refine hK.out _ _ ?_ (fun hHeld => ?_)
            · exact ⟨lab0 (hj3.below hbk hj3.lt), lab1 (hj3.below hbk hj3.lt)⟩
            clear hK K
            (try simp only [Act.put]); (try simp only [List.setIfInBounds_toArray]); (try simp only [List.set_cons_succ]); (try simp only [List.set_cons_zero])
            replace hj3 := hj3.below hbk hj3.lt
            replace hB := rstep hB hbk
            replace X3 := X3.below hbk X3.lt
            replace X4 := X4.below hbk X4.lt
            clear hbk
            refine wpAnyH_take (i := 2) (v := ?_) rfl (by kernel_rfl) (by kernel_rfl) (by kernel_rfl) (fun _ _ _ h => h) (Or.inl ⟨by rfl, ?_⟩) (by assumption) ?_
            rotate_left
            · intro w9 hSw
              (try dsimp only at hSw)
              go_simp
              (try with_reducible rfl)
            (try simp only [Act.put]); (try simp only [List.setIfInBounds_toArray]); (try simp only [List.set_cons_succ]); (try simp only [List.set_cons_zero])
            refine wpAnyH_take (i := 3) (v := ?_) rfl (by kernel_rfl) (by kernel_rfl) (by kernel_rfl) (fun _ _ _ h => h) (Or.inl ⟨by rfl, ?_⟩) (by assumption) ?_
            rotate_left
            · intro w9 hSw
              (try dsimp only at hSw)
              go_simp
              (try with_reducible rfl)
            (try simp only [Act.put]); (try simp only [List.setIfInBounds_toArray]); (try simp only [List.set_cons_succ]); (try simp only [List.set_cons_zero])
            refine wpAnyH_ready (rs := [4]) (by kernel_rfl) (by simp) ?_
            refine AllReadyH.cons rfl (fun K hK => ?_) ?_
            · go_simp
              go_wp2_with (go_at_call 66; (with_reducible refine (HM0.calls _).mono ?_); rintro e y128 ⟨rfl, hbk⟩)
              refine hK.out _ _ ?_ (fun hHeld => ?_)
              · exact ⟨lab0 (hj3.below hbk hj3.lt), lab1 (hj3.below hbk hj3.lt)⟩
              clear hK K
              (try simp only [Act.put]); (try simp only [List.setIfInBounds_toArray]); (try simp only [List.set_cons_succ]); (try simp only [List.set_cons_zero])
              replace hj3 := hj3.below hbk hj3.lt
              replace hB := rstep hB hbk
              replace X3 := X3.below hbk X3.lt
              replace X4 := X4.below hbk X4.lt
              clear hbk
              refine wpAnyH_ready (rs := [6]) (by kernel_rfl) (by simp) ?_
              refine AllReadyH.cons rfl (fun K hK => ?_) ?_
              · go_simp
                go_wp2_with (go_at_call 29; (with_reducible refine (HCH1.calls _).mono ?_); rintro e y129 ⟨rfl, hbk⟩)
                refine hK.out _ _ ?_ (fun hHeld => ?_)
                · exact ⟨lab0 (hj3.below hbk hj3.lt), lab1 (hj3.below hbk hj3.lt)⟩
                clear hK K
                (try simp only [Act.put]); (try simp only [List.setIfInBounds_toArray]); (try simp only [List.set_cons_succ]); (try simp only [List.set_cons_zero])
                replace hj3 := hj3.below hbk hj3.lt
                replace hB := rstep hB hbk
                replace X3 := X3.below hbk X3.lt
                replace X4 := X4.below hbk X4.lt
                clear hbk
                refine wpAnyH_take (i := 7) (v := ?_) rfl (by kernel_rfl) (by kernel_rfl) (by kernel_rfl) (fun _ _ _ h => h) (Or.inl ⟨by rfl, ?_⟩) (by assumption) ?_
                rotate_left
                · intro w9 hSw
                  (try dsimp only at hSw)
                  go_simp
                  (try with_reducible rfl)
                (try simp only [Act.put]); (try simp only [List.setIfInBounds_toArray]); (try simp only [List.set_cons_succ]); (try simp only [List.set_cons_zero])
                refine wpAnyH_take (i := 8) (v := ?_) rfl (by kernel_rfl) (by kernel_rfl) (by kernel_rfl) (fun _ _ _ h => h) (Or.inl ⟨by rfl, ?_⟩) (by assumption) ?_
                rotate_left
                · intro w9 hSw
                  (try dsimp only at hSw)
                  go_simp
                  (try with_reducible rfl)
                (try simp only [Act.put]); (try simp only [List.setIfInBounds_toArray]); (try simp only [List.set_cons_succ]); (try simp only [List.set_cons_zero])
                refine wpAnyH_ready (rs := [9]) (by kernel_rfl) (by simp) ?_
                refine AllReadyH.cons rfl (fun K hK => ?_) ?_
                · go_simp
                  go_wp2_with (go_at_call 66; (with_reducible refine (HM1.calls _).mono ?_); rintro e y130 ⟨rfl, hbk⟩)
                  refine hK.out _ _ ?_ (fun hHeld => ?_)
                  · exact ⟨lab0 (hj3.below hbk hj3.lt), lab1 (hj3.below hbk hj3.lt)⟩
                  clear hK K
                  (try simp only [Act.put]); (try simp only [List.setIfInBounds_toArray]); (try simp only [List.set_cons_succ]); (try simp only [List.set_cons_zero])
                  replace hj3 := hj3.below hbk hj3.lt
                  replace hB := rstep hB hbk
                  replace X3 := X3.below hbk X3.lt
                  replace X4 := X4.below hbk X4.lt
                  clear hbk
                  refine wpAnyH_ready (rs := [12]) (by kernel_rfl) (by simp) ?_
                  refine AllReadyH.cons rfl (fun K hK => ?_) ?_
                  rotate_left
                  · exact AllReadyH.nil
                  rw [if_pos (by rfl)]
                  refine wp_store_row 25 _ _ rfl x3 (labc ((nn : Int) + 1) c0) rfl rfl 25 (labc 0 0) X3 infoLab rfl (lab_all _ _) ?_
                  refine hK.out _ _ ?_ (fun hHeld => ?_)
                  · exact ⟨lab0 (hj3.setRow_other _ _ (by omega)), lab1 (hj3.setRow_other _ _ (by omega))⟩
                  clear hK K
                  (try simp only [Act.put]); (try simp only [List.setIfInBounds_toArray]); (try simp only [List.set_cons_succ]); (try simp only [List.set_cons_zero])
                  replace hj3 := hj3.setRow_other x3 (labc ((nn : Int) + 1) c0) (by omega)
                  replace hB := bel_setRow hB (show w3.heap.size ≤ x3 by omega) (labc ((nn : Int) + 1) c0)
                  replace X4 := X4.setRow_other x3 (labc ((nn : Int) + 1) c0) hne.symm
                  replace X3 := X3.setRow (labc ((nn : Int) + 1) c0)
                  clear hHeld
                  refine wpAnyH_ready (rs := [13]) (by kernel_rfl) (by simp) ?_
                  refine AllReadyH.cons rfl (fun K hK => ?_) ?_
                  rotate_left
                  · exact AllReadyH.nil
                  rw [if_pos (by rfl)]
                  refine wp_store_row 25 _ _ rfl x4 (labc ((nn : Int) + 1) c1) rfl rfl 25 (labc 0 0) X4 infoLab rfl (lab_all _ _) ?_
                  refine hK.out _ _ ?_ (fun hHeld => ?_)
                  · exact ⟨lab0 (hj3.setRow_other _ _ (by omega)), lab1 (hj3.setRow_other _ _ (by omega))⟩
                  clear hK K
                  (try simp only [Act.put]); (try simp only [List.setIfInBounds_toArray]); (try simp only [List.set_cons_succ]); (try simp only [List.set_cons_zero])
                  replace hj3 := hj3.setRow_other x4 (labc ((nn : Int) + 1) c1) (by omega)
                  replace hB := bel_setRow hB (show w3.heap.size ≤ x4 by omega) (labc ((nn : Int) + 1) c1)
                  replace X3 := X3.setRow_other x4 (labc ((nn : Int) + 1) c1) hne
                  replace X4 := X4.setRow (labc ((nn : Int) + 1) c1)
                  clear hHeld
                  refine wpAnyH_done (by kernel_rfl) ?_ _
                  go_wp2
                  go_meet
                  exact ⟨⟨x3, x4, rfl, rfl, X3, X4, g3, g4, hB⟩⟩
                exact AllReadyH.nil
              exact AllReadyH.nil
            exact AllReadyH.nil
          exact AllReadyH.nil
        exact AllReadyH.nil
      exact AllReadyH.nil
    case rest =>
      obtain ⟨x3, x4, rfl, rfl, L3, L4, g3, g4, hBc⟩ := hcut.ex
      have G := hg3.below hBc hg3.lt
      have Z := Z3.below hBc Z3.lt
      have Bc := rstep B3 hBc
      have Tc := HT3.out.bel hBc
      have hzl := Z3.lt
      clear hcut hg3 Z3 B3 HT3 hBc hj3
      have HCa : Hid (∀ W, Below wc.heap.size wc W → Calls Try.prog 65 #[.slice a r.items.length c, .agg #[.int .i64 ((nn : Int) + 1), .int .u64 (c0 : Int)]] W fun e w' => ∃ v, e = .returned v ∧ Told w' v K0 ∧ Below W.heap.size W w') := fun W hb5 => hK0 ▸ cov_any (Tc.bel hb5) hl HKEY.out ((nn : Int) + 1) c0 (by omega) hc0
      have HCb : Hid (∀ W, Below wc.heap.size wc W → Calls Try.prog 65 #[.slice a r.items.length c, .agg #[.int .i64 ((nn : Int) + 1), .int .u64 (c1 : Int)]] W fun e w' => ∃ v, e = .returned v ∧ Told w' v K1 ∧ Below W.heap.size W w') := fun W hb5 => hK1 ▸ cov_any (Tc.bel hb5) hl HKEY.out ((nn : Int) + 1) c1 (by omega) hc1
      clear Tc hl HKEY hc0 hc1
      go_upto_region 5 with (fail)
      refine wp_region_held_drew (S := (fun w4 => w4.cell? ⟨g, 1, none⟩ = some (.slice a r.items.length c) ∧ w4.cell? ⟨g, 2, none⟩ = some (.int .i64 r.nl) ∧ w4.cell? ⟨g, 3, none⟩ = some (.int .u64 (r.nb : Int)) ∧ w4.cell? ⟨x3, 0, none⟩ = some (.int .i64 ((nn : Int) + 1)) ∧ w4.cell? ⟨x3, 1, none⟩ = some (.int .u64 (c0 : Int)) ∧ w4.cell? ⟨x4, 0, none⟩ = some (.int .i64 ((nn : Int) + 1)) ∧ w4.cell? ⟨x4, 1, none⟩ = some (.int .u64 (c1 : Int)))) (by kernel_rfl) ?_ (fun hHeld => ?_)
      · exact ⟨(G.below (rdrew _) G.lt).cell 1, (G.below (rdrew _) G.lt).cell 2, (G.below (rdrew _) G.lt).cell 3, lab0 (L3.below (rdrew _) L3.lt), lab1 (L3.below (rdrew _) L3.lt), lab0 (L4.below (rdrew _) L4.lt), lab1 (L4.below (rdrew _) L4.lt)⟩
      have hB := rdrew wc
      replace G := G.below hB G.lt
      replace L3 := L3.below hB L3.lt
      replace L4 := L4.below hB L4.lt
      replace Z := Z.below hB Z.lt
      generalize hy0 : wc.drew = y0 at *
      clear hy0
      refine wpAnyH_take (i := 0) (v := ?_) rfl (by kernel_rfl) (by kernel_rfl) (by kernel_rfl) (fun _ _ _ h => h) (Or.inl ⟨by rfl, ?_⟩) (by assumption) ?_
      rotate_left
      · intro w9 hSw
        (try dsimp only at hSw)
        go_simp
        (try with_reducible rfl)
      (try simp only [Act.put]); (try simp only [List.setIfInBounds_toArray]); (try simp only [List.set_cons_succ]); (try simp only [List.set_cons_zero])
      refine wpAnyH_take (i := 1) (v := ?_) rfl (by kernel_rfl) (by kernel_rfl) (by kernel_rfl) (fun _ _ _ h => h) (Or.inl ⟨by rfl, ?_⟩) (by assumption) ?_
      rotate_left
      · intro w9 hSw
        (try dsimp only at hSw)
        go_simp
        (try with_reducible rfl)
      (try simp only [Act.put]); (try simp only [List.setIfInBounds_toArray]); (try simp only [List.set_cons_succ]); (try simp only [List.set_cons_zero])
      refine wpAnyH_take (i := 2) (v := ?_) rfl (by kernel_rfl) (by kernel_rfl) (by kernel_rfl) (fun _ _ _ h => h) (Or.inl ⟨by rfl, ?_⟩) (by assumption) ?_
      rotate_left
      · intro w9 hSw
        (try dsimp only at hSw)
        go_simp
        (try with_reducible rfl)
      (try simp only [Act.put]); (try simp only [List.setIfInBounds_toArray]); (try simp only [List.set_cons_succ]); (try simp only [List.set_cons_zero])
      refine wpAnyH_take (i := 4) (v := ?_) rfl (by kernel_rfl) (by kernel_rfl) (by kernel_rfl) (fun _ _ _ h => h) (Or.inl ⟨by rfl, ?_⟩) (by assumption) ?_
      rotate_left
      · intro w9 hSw
        (try dsimp only at hSw)
        go_simp
        (try with_reducible rfl)
      (try simp only [Act.put]); (try simp only [List.setIfInBounds_toArray]); (try simp only [List.set_cons_succ]); (try simp only [List.set_cons_zero])
      refine wpAnyH_take (i := 6) (v := ?_) rfl (by kernel_rfl) (by kernel_rfl) (by kernel_rfl) (fun _ _ _ h => h) (Or.inl ⟨by rfl, ?_⟩) (by assumption) ?_
      rotate_left
      · intro w9 hSw
        (try dsimp only at hSw)
        go_simp
        (try with_reducible rfl)
      (try simp only [Act.put]); (try simp only [List.setIfInBounds_toArray]); (try simp only [List.set_cons_succ]); (try simp only [List.set_cons_zero])
      refine wpAnyH_take (i := 7) (v := ?_) rfl (by kernel_rfl) (by kernel_rfl) (by kernel_rfl) (fun _ _ _ h => h) (Or.inl ⟨by rfl, ?_⟩) (by assumption) ?_
      rotate_left
      · intro w9 hSw
        (try dsimp only at hSw)
        go_simp
        (try with_reducible rfl)
      (try simp only [Act.put]); (try simp only [List.setIfInBounds_toArray]); (try simp only [List.set_cons_succ]); (try simp only [List.set_cons_zero])
      refine wpAnyH_take (i := 8) (v := ?_) rfl (by kernel_rfl) (by kernel_rfl) (by kernel_rfl) (fun _ _ _ h => h) (Or.inl ⟨by rfl, ?_⟩) (by assumption) ?_
      rotate_left
      · intro w9 hSw
        (try dsimp only at hSw)
        go_simp
        (try with_reducible rfl)
      (try simp only [Act.put]); (try simp only [List.setIfInBounds_toArray]); (try simp only [List.set_cons_succ]); (try simp only [List.set_cons_zero])
      refine wpAnyH_take (i := 10) (v := ?_) rfl (by kernel_rfl) (by kernel_rfl) (by kernel_rfl) (fun _ _ _ h => h) (Or.inl ⟨by rfl, ?_⟩) (by assumption) ?_
      rotate_left
      · intro w9 hSw
        (try dsimp only at hSw)
        go_simp
        (try with_reducible rfl)
      (try simp only [Act.put]); (try simp only [List.setIfInBounds_toArray]); (try simp only [List.set_cons_succ]); (try simp only [List.set_cons_zero])
      refine wpAnyH_take (i := 11) (v := ?_) rfl (by kernel_rfl) (by kernel_rfl) (by kernel_rfl) (fun _ _ _ h => h) (Or.inl ⟨by rfl, ?_⟩) (by assumption) ?_
      rotate_left
      · intro w9 hSw
        (try dsimp only at hSw)
        go_simp
        (try with_reducible rfl)
      (try simp only [Act.put]); (try simp only [List.setIfInBounds_toArray]); (try simp only [List.set_cons_succ]); (try simp only [List.set_cons_zero])
      refine wpAnyH_ready (rs := [3]) (by kernel_rfl) (by simp) ?_
      refine AllReadyH.cons rfl (fun K hK => ?_) ?_
      rotate_left
      · exact AllReadyH.nil
      go_simp
      go_wp2_with (go_at_call 65; (with_reducible refine (HCa.out _ hB).mono ?_); rintro e y1 ⟨v1, rfl, U1, hbk⟩; obtain ⟨q1, p1, rfl⟩ := told_shape U1)
      refine hK.out _ _ ?_ (fun hHeld => ?_)
      · exact ⟨(G.below hbk G.lt).cell 1, (G.below hbk G.lt).cell 2, (G.below hbk G.lt).cell 3, lab0 (L3.below hbk L3.lt), lab1 (L3.below hbk L3.lt), lab0 (L4.below hbk L4.lt), lab1 (L4.below hbk L4.lt)⟩
      clear hK K
      (try simp only [Act.put]); (try simp only [List.setIfInBounds_toArray]); (try simp only [List.set_cons_succ]); (try simp only [List.set_cons_zero])
      replace G := G.below hbk G.lt
      replace L3 := L3.below hbk L3.lt
      replace L4 := L4.below hbk L4.lt
      replace Z := Z.below hbk Z.lt
      replace hB := rstep hB hbk
      clear hbk
      have HLa := leaf_open q1 K0.length p1 ((nn : Int) + 1) c1
      refine wpAnyH_ready (rs := [5]) (by kernel_rfl) (by simp) ?_
      refine AllReadyH.cons rfl (fun K hK => ?_) ?_
      rotate_left
      · exact AllReadyH.nil
      go_simp
      go_wp2_with (go_at_call 67; (with_reducible refine (HLa.calls _).mono ?_); rintro e y2 ⟨rfl, hbk⟩)
      refine hK.out _ _ ?_ (fun hHeld => ?_)
      · exact ⟨(G.below hbk G.lt).cell 1, (G.below hbk G.lt).cell 2, (G.below hbk G.lt).cell 3, lab0 (L3.below hbk L3.lt), lab1 (L3.below hbk L3.lt), lab0 (L4.below hbk L4.lt), lab1 (L4.below hbk L4.lt)⟩
      clear hK K
      (try simp only [Act.put]); (try simp only [List.setIfInBounds_toArray]); (try simp only [List.set_cons_succ]); (try simp only [List.set_cons_zero])
      replace G := G.below hbk G.lt
      replace L3 := L3.below hbk L3.lt
      replace L4 := L4.below hbk L4.lt
      replace Z := Z.below hbk Z.lt
      replace hB := rstep hB hbk
      replace U1 := U1.bel hbk
      clear hbk
      refine wpAnyH_ready (rs := [9]) (by kernel_rfl) (by simp) ?_
      refine AllReadyH.cons rfl (fun K hK => ?_) ?_
      rotate_left
      · exact AllReadyH.nil
      go_simp
      go_wp2_with (go_at_call 65; (with_reducible refine (HCb.out _ hB).mono ?_); rintro e y3 ⟨v2, rfl, U2, hbk⟩; obtain ⟨q2, p2, rfl⟩ := told_shape U2)
      refine hK.out _ _ ?_ (fun hHeld => ?_)
      · exact ⟨(G.below hbk G.lt).cell 1, (G.below hbk G.lt).cell 2, (G.below hbk G.lt).cell 3, lab0 (L3.below hbk L3.lt), lab1 (L3.below hbk L3.lt), lab0 (L4.below hbk L4.lt), lab1 (L4.below hbk L4.lt)⟩
      clear hK K
      (try simp only [Act.put]); (try simp only [List.setIfInBounds_toArray]); (try simp only [List.set_cons_succ]); (try simp only [List.set_cons_zero])
      replace G := G.below hbk G.lt
      replace L3 := L3.below hbk L3.lt
      replace L4 := L4.below hbk L4.lt
      replace Z := Z.below hbk Z.lt
      replace hB := rstep hB hbk
      replace U1 := U1.bel hbk
      clear hbk
      have HLb := leaf_open q2 K1.length p2 r.nl r.nb
      refine wpAnyH_ready (rs := [12]) (by kernel_rfl) (by simp) ?_
      refine AllReadyH.cons rfl (fun K hK => ?_) ?_
      rotate_left
      · exact AllReadyH.nil
      go_simp
      go_wp2_with (go_at_call 67; (with_reducible refine (HLb.calls _).mono ?_); rintro e y4 ⟨rfl, hbk⟩)
      refine hK.out _ _ ?_ (fun hHeld => ?_)
      · exact ⟨(G.below hbk G.lt).cell 1, (G.below hbk G.lt).cell 2, (G.below hbk G.lt).cell 3, lab0 (L3.below hbk L3.lt), lab1 (L3.below hbk L3.lt), lab0 (L4.below hbk L4.lt), lab1 (L4.below hbk L4.lt)⟩
      clear hK K
      (try simp only [Act.put]); (try simp only [List.setIfInBounds_toArray]); (try simp only [List.set_cons_succ]); (try simp only [List.set_cons_zero])
      replace G := G.below hbk G.lt
      replace L3 := L3.below hbk L3.lt
      replace L4 := L4.below hbk L4.lt
      replace Z := Z.below hbk Z.lt
      replace hB := rstep hB hbk
      replace U1 := U1.bel hbk
      replace U2 := U2.bel hbk
      clear hbk
      refine wpAnyH_take (i := 13) (v := ?_) rfl (by kernel_rfl) (by kernel_rfl) (by kernel_rfl) (fun _ _ _ h => h) (Or.inl ⟨by rfl, ?_⟩) (by assumption) ?_
      rotate_left
      · intro w9 hSw
        (try dsimp only at hSw)
        go_simp
        (try with_reducible rfl)
      (try simp only [Act.put]); (try simp only [List.setIfInBounds_toArray]); (try simp only [List.set_cons_succ]); (try simp only [List.set_cons_zero])
      refine wpAnyH_ready (rs := [14]) (by kernel_rfl) (by simp) ?_
      refine AllReadyH.cons rfl (fun K hK => ?_) ?_
      rotate_left
      · exact AllReadyH.nil
      rw [if_pos (by rfl)]
      refine wp_store_row 90 _ _ rfl w.heap.size (two (leafR K0 ((nn : Int) + 1) c1) (.slice q1 K0.length p1) (leafR K1 r.nl r.nb) (.slice q2 K1.length p2)) rfl rfl 90 (two zeroR (.slice none 0 0) zeroR (.slice none 0 0)) Z infoTwo rfl (two_one rfl rfl) ?_
      refine hK.out _ _ ?_ (fun hHeld => ?_)
      · exact ⟨(G.setRow_other _ _ (by omega)).cell 1, (G.setRow_other _ _ (by omega)).cell 2, (G.setRow_other _ _ (by omega)).cell 3, lab0 (L3.setRow_other _ _ (by omega)), lab1 (L3.setRow_other _ _ (by omega)), lab0 (L4.setRow_other _ _ (by omega)), lab1 (L4.setRow_other _ _ (by omega))⟩
      clear hK K
      (try dsimp only [List.getElem_toArray, List.getElem_cons_succ, List.getElem_cons_zero])
      (try simp only [Act.put]); (try simp only [List.setIfInBounds_toArray]); (try simp only [List.set_cons_succ]); (try simp only [List.set_cons_zero])
      refine wpAnyH_done (by kernel_rfl) ?_ _
      go_wp2
      exact bodyPost_ret (results_two1 Try.results64 _ _ w.heap.size _ _ _ _ rfl (Z.setRow _)) rfl ⟨_, _, rfl, told_setRow U1 Z (noIt_two _ _ _ _) _, told_setRow U2 Z (noIt_two _ _ _ _) _, bel_setRow (rstep Bc hB) (Nat.le_refl _) _⟩
end Go.Proofs.Ytkicndengkcojaa
