/- The document's Halves, of any record and label. -/
import Derived.Test.YtkicndengkcojaaRecRefHalv2
import Derived.Test.YtkicndengkcojaaRecHalvDef
namespace Go.Proofs.Ytkicndengkcojaa
set_option maxRecDepth 100000
open Go Go.RowKit Go.Sort

/-- a record in a block of its own, made behind w -/
structure OneR (w wx : World) (q : Rc) (v : Value) : Prop where
  ex : ∃ (x : Nat) (u : Value), v = .pointer (some ⟨x, 0, none⟩) ∧ Blk wx x (recC q u) 27 ∧ Told wx u q.items ∧ u.oneCell' = true ∧ w.heap.size ≤ x ∧ Below w.heap.size w wx
set_option maxHeartbeats 8000000 in
theorem refhal_ok {r : Rc} {u : Value} {n : Int} {b : Nat} {w : World} (hT : Told w u r.items) (hW : r.Wf) (hl : r.items.length ≤ 1000000) (hb : b < 18446744073709551616) {nn c0 c1 : Nat} {K0 K1 : List It} (hr : isR r = true) (hq : isB n b = true) (hs : (covL r.items n b).length = r.items.length) (hk : r.kind = 1 ∨ r.kind = 3) (hnn : n = (nn : Int)) (h64 : nn < 64) (h0 : chB nn b 0 = c0) (h1 : chB nn b 1 = c1) (hK0 : covL r.items ((nn : Int) + 1) c0 = K0) (hK1 : covL r.items ((nn : Int) + 1) c1 = K1) :
    Calls Try.prog 26 #[.agg (recC r u), .agg (labc n b)] w (TellsH w (leafR K0 ((nn : Int) + 1) c1) (leafR K1 r.nl r.nb) 0) := by
  obtain ⟨a, c, rfl⟩ := told_shape hT
  obtain ⟨w1, h1⟩ : ∃ w1, w1 = w.alloc (.cells (recC r (.slice a r.items.length c)) 27) := ⟨_, rfl⟩
  obtain ⟨w2, h2⟩ : ∃ w2, w2 = w1.alloc (.cells (labc n b) 25) := ⟨_, rfl⟩
  obtain ⟨w3, h3⟩ : ∃ w3, w3 = w2.alloc (.cells (recC zeroR (.slice none 0 0)) 27) := ⟨_, rfl⟩
  obtain ⟨V, h4⟩ : ∃ w4, w4 = w3.alloc (.cells (recC zeroR (.slice none 0 0)) 27) := ⟨_, rfl⟩
  have s1 : w1.heap.size = w.heap.size + 1 := by rw [h1]; simp
  have s2 : w2.heap.size = w.heap.size + 2 := by rw [h2]; simp [s1]
  have s3 : w3.heap.size = w.heap.size + 3 := by rw [h3]; simp [s2]
  have b1 : Below w.heap.size w w1 := h1 ▸ (Below.refl _ _).alloc (Nat.le_refl _) _
  have b2 : Below w.heap.size w w2 := h2 ▸ b1.alloc b1.size _
  have b3 : Below w.heap.size w w3 := h3 ▸ b2.alloc b2.size _
  have B0 : Below w.heap.size w V := h4 ▸ b3.alloc b3.size _
  have A0 : Blk V w.heap.size (recC r (.slice a r.items.length c)) 27 := by
    rw [h4, h3, h2]; exact (((h1 ▸ Blk.new w _ _ : Blk w1 w.heap.size (recC r (.slice a r.items.length c)) 27).alloc _).alloc _).alloc _
  have J0 : Blk V (w.heap.size + 1) (labc n b) 25 := by
    rw [h4, h3]; exact ((s1 ▸ (h2 ▸ Blk.new w1 _ _ : Blk w2 w1.heap.size (labc n b) 25) : Blk w2 (w.heap.size + 1) (labc n b) 25).alloc _).alloc _
  have Y0 : Blk V (w.heap.size + 2) (recC zeroR (.slice none 0 0)) 27 := by
    rw [h4]; exact (s2 ▸ (h3 ▸ Blk.new w2 _ _ : Blk w3 w2.heap.size (recC zeroR (.slice none 0 0)) 27) : Blk w3 (w.heap.size + 2) (recC zeroR (.slice none 0 0)) 27).alloc _
  have Z0 : Blk V (w.heap.size + 3) (recC zeroR (.slice none 0 0)) 27 := s3 ▸ (h4 ▸ Blk.new w3 _ _ : Blk V w3.heap.size (recC zeroR (.slice none 0 0)) 27)
  have hV : (((w.alloc (.cells (recC r (.slice a r.items.length c)) 27)).alloc (.cells (labc n b) 25)).alloc (.cells (recC zeroR (.slice none 0 0)) 27)).alloc (.cells (recC zeroR (.slice none 0 0)) 27) = V := by rw [h4, h3, h2, h1]
  have T0 := hT.bel B0
  clear hT h1 h2 h3 h4 s1 s2 s3 b1 b2 b3
  have HI : Hid (∀ W, Below V.heap.size V W → Calls Try.prog 16 #[.agg #[.int .i64 r.kind, .slice a r.items.length c, .int .i64 r.nl, .int .u64 (r.nb : Int), .int .u64 (r.mark : Int)]] W fun e w' => e = .returned (.bool true) ∧ Below W.heap.size W w') := by
    intro W hb1
    have h := refis_any (T0.bel hb1) hW
    rw [hr] at h
    exact h
  have HJ : Gives Try.prog 52 #[.agg #[.int .i64 n, .int .u64 (b : Int)]] (.bool true) := fun w => hq ▸ refIs_any n b w hb
  obtain ⟨m, hm⟩ : ∃ m, m = (covL r.items n b).length := ⟨_, rfl⟩
  have HC : Hid (∀ W, Below V.heap.size V W → Calls Try.prog 68 #[.agg #[.int .i64 r.kind, .slice a r.items.length c, .int .i64 r.nl, .int .u64 (r.nb : Int), .int .u64 (r.mark : Int)], .agg #[.int .i64 n, .int .u64 (b : Int)]] W fun e w' => (∃ q1 q2, e = .returned (.slice q1 m q2)) ∧ Below W.heap.size W w') := by
    intro W hb1
    refine (refcov_any (T0.bel hb1) hW hl n b hb).mono ?_
    rintro e w' ⟨v, he, hT, hbb⟩
    obtain ⟨q1, q2, rfl⟩ := told_shape hT
    exact ⟨⟨q1, q2, by rw [hm]; exact he⟩, hbb⟩
  rw [← hm] at hs
  have hd : ((m : Int) != (r.items.length : Int)) = false := by simp; omega
  have hdn : (m != r.items.length) = false := by simp; omega
  have HKW := Lib.hid hW
  have HKB := Lib.hid hb
  have HKL := Lib.hid hl
  have hlow : lowB nn b = true := by subst hnn; exact isB_low hq
  have HF := Lib.hid hnn
  clear hnn
  clear hr hq hm hs hW hb hl
  go_enter Try.func26, Try.ntmps26
  go_upto_region 1 with (fail)
  rw [zero_rec]
  first
    | rw [hV]
    | (simp only [recC] at hV; simp only [recC]; rw [hV])
  clear hV
  refine wp_region_held_drew (S := (fun w9 => w9.cell? ⟨w.heap.size, 0, none⟩ = some (.int .i64 r.kind) ∧ w9.cell? ⟨w.heap.size, 1, none⟩ = some (.slice a r.items.length c) ∧ w9.cell? ⟨w.heap.size, 2, none⟩ = some (.int .i64 r.nl) ∧ w9.cell? ⟨w.heap.size, 3, none⟩ = some (.int .u64 (r.nb : Int)) ∧ w9.cell? ⟨w.heap.size, 4, none⟩ = some (.int .u64 (r.mark : Int)) ∧ w9.cell? ⟨w.heap.size + 1, 0, none⟩ = some (.int .i64 n) ∧ w9.cell? ⟨w.heap.size + 1, 1, none⟩ = some (.int .u64 (b : Int)))) (by kernel_rfl) ?_ (fun hHeld => ?_)
  · exact ⟨(A0.below (rdrew _) A0.lt).cell 0, (A0.below (rdrew _) A0.lt).cell 1, (A0.below (rdrew _) A0.lt).cell 2, (A0.below (rdrew _) A0.lt).cell 3, (A0.below (rdrew _) A0.lt).cell 4, lab0 (J0.below (rdrew _) J0.lt), lab1 (J0.below (rdrew _) J0.lt)⟩
  have hB := rdrew V
  replace A0 := A0.below hB A0.lt
  replace J0 := J0.below hB J0.lt
  generalize hy0 : V.drew = y0 at *
  clear hy0
  refine wpAnyH_take (i := 0) (v := ?_) rfl (by kernel_rfl) (by kernel_rfl) (by kernel_rfl) (fun _ _ _ h => h) (Or.inl ⟨by rfl, ?_⟩) (by assumption) ?_
  rotate_left
  · intro w9 hSw
    (try dsimp only at hSw)
    go_simp
    (try with_reducible rfl)
  (try simp only [Act.put]); (try simp only [List.setIfInBounds_toArray]); (try simp only [List.set_cons_succ]); (try simp only [List.set_cons_zero])
  refine wpAnyH_ready (rs := [1]) (by kernel_rfl) (by simp) ?_
  refine AllReadyH.cons rfl (fun K hK => ?_) ?_
  rotate_left
  · exact AllReadyH.nil
  go_simp
  go_wp2_with (go_at_call 16; (with_reducible refine (HI.out _ hB).mono ?_); rintro e y1 ⟨rfl, hbk⟩)
  refine hK.out _ _ ?_ (fun hHeld => ?_)
  · exact ⟨(A0.below hbk A0.lt).cell 0, (A0.below hbk A0.lt).cell 1, (A0.below hbk A0.lt).cell 2, (A0.below hbk A0.lt).cell 3, (A0.below hbk A0.lt).cell 4, lab0 (J0.below hbk J0.lt), lab1 (J0.below hbk J0.lt)⟩
  clear hK K
  (try simp only [Act.put]); (try simp only [List.setIfInBounds_toArray]); (try simp only [List.set_cons_succ]); (try simp only [List.set_cons_zero])
  replace A0 := A0.below hbk A0.lt
  replace J0 := J0.below hbk J0.lt
  replace hB := rstep hB hbk
  clear hbk
  refine wpAnyH_take (i := 2) (v := ?_) rfl (by kernel_rfl) (by kernel_rfl) (by kernel_rfl) (fun _ _ _ h => h) (Or.inl ⟨by rfl, ?_⟩) (by assumption) ?_
  rotate_left
  · intro w9 hSw
    (try dsimp only at hSw)
    go_simp
    (try with_reducible rfl)
  (try simp only [Act.put]); (try simp only [List.setIfInBounds_toArray]); (try simp only [List.set_cons_succ]); (try simp only [List.set_cons_zero])
  refine wpAnyH_take (i := 3) (v := ?_) rfl (by kernel_rfl) (by kernel_rfl) (by kernel_rfl) (fun _ _ _ h => h) (Or.inl ⟨by rfl, ?_⟩) (by assumption) ?_
  rotate_left
  · intro w9 hSw
    (try dsimp only at hSw)
    go_simp
    (try with_reducible rfl)
  (try simp only [Act.put]); (try simp only [List.setIfInBounds_toArray]); (try simp only [List.set_cons_succ]); (try simp only [List.set_cons_zero])
  refine wpAnyH_take (i := 4) (v := ?_) rfl (by kernel_rfl) (by kernel_rfl) (by kernel_rfl) (fun _ _ _ h => h) (Or.inl ⟨by rfl, ?_⟩) (by assumption) ?_
  rotate_left
  · intro w9 hSw
    (try dsimp only at hSw)
    go_simp
    (try with_reducible rfl)
  (try simp only [Act.put]); (try simp only [List.setIfInBounds_toArray]); (try simp only [List.set_cons_succ]); (try simp only [List.set_cons_zero])
  refine wpAnyH_ready (rs := [5]) (by kernel_rfl) (by simp) ?_
  refine AllReadyH.cons rfl (fun K hK => ?_) ?_
  rotate_left
  · exact AllReadyH.nil
  go_simp
  go_wp2_with (go_at_call 52; (with_reducible refine (HJ.calls _).mono ?_); rintro e y2 ⟨rfl, hbk⟩)
  refine hK.out _ _ ?_ (fun hHeld => ?_)
  · exact ⟨(A0.below hbk A0.lt).cell 0, (A0.below hbk A0.lt).cell 1, (A0.below hbk A0.lt).cell 2, (A0.below hbk A0.lt).cell 3, (A0.below hbk A0.lt).cell 4, lab0 (J0.below hbk J0.lt), lab1 (J0.below hbk J0.lt)⟩
  clear hK K
  (try simp only [Act.put]); (try simp only [List.setIfInBounds_toArray]); (try simp only [List.set_cons_succ]); (try simp only [List.set_cons_zero])
  replace A0 := A0.below hbk A0.lt
  replace J0 := J0.below hbk J0.lt
  replace hB := rstep hB hbk
  clear hbk
  refine wpAnyH_take (i := 6) (v := ?_) rfl (by kernel_rfl) (by kernel_rfl) (by kernel_rfl) (fun _ _ _ h => h) (Or.inl ⟨by rfl, ?_⟩) (by assumption) ?_
  rotate_left
  · intro w9 hSw
    (try dsimp only at hSw)
    go_simp
    (try with_reducible rfl)
  (try simp only [Act.put]); (try simp only [List.setIfInBounds_toArray]); (try simp only [List.set_cons_succ]); (try simp only [List.set_cons_zero])
  refine wpAnyH_take (i := 7) (v := ?_) rfl (by kernel_rfl) (by kernel_rfl) (by kernel_rfl) (fun _ _ _ h => h) (Or.inl ⟨by rfl, ?_⟩) (by assumption) ?_
  rotate_left
  · intro w9 hSw
    (try dsimp only at hSw)
    go_simp
    (try with_reducible rfl)
  (try simp only [Act.put]); (try simp only [List.setIfInBounds_toArray]); (try simp only [List.set_cons_succ]); (try simp only [List.set_cons_zero])
  refine wpAnyH_take (i := 8) (v := ?_) rfl (by kernel_rfl) (by kernel_rfl) (by kernel_rfl) (fun _ _ _ h => h) (Or.inl ⟨by rfl, ?_⟩) (by assumption) ?_
  rotate_left
  · intro w9 hSw
    (try dsimp only at hSw)
    go_simp
    (try with_reducible rfl)
  (try simp only [Act.put]); (try simp only [List.setIfInBounds_toArray]); (try simp only [List.set_cons_succ]); (try simp only [List.set_cons_zero])
  refine wpAnyH_take (i := 9) (v := ?_) rfl (by kernel_rfl) (by kernel_rfl) (by kernel_rfl) (fun _ _ _ h => h) (Or.inl ⟨by rfl, ?_⟩) (by assumption) ?_
  rotate_left
  · intro w9 hSw
    (try dsimp only at hSw)
    go_simp
    (try with_reducible rfl)
  (try simp only [Act.put]); (try simp only [List.setIfInBounds_toArray]); (try simp only [List.set_cons_succ]); (try simp only [List.set_cons_zero])
  refine wpAnyH_take (i := 10) (v := ?_) rfl (by kernel_rfl) (by kernel_rfl) (by kernel_rfl) (fun _ _ _ h => h) (Or.inl ⟨by rfl, ?_⟩) (by assumption) ?_
  rotate_left
  · intro w9 hSw
    (try dsimp only at hSw)
    go_simp
    (try with_reducible rfl)
  (try simp only [Act.put]); (try simp only [List.setIfInBounds_toArray]); (try simp only [List.set_cons_succ]); (try simp only [List.set_cons_zero])
  refine wpAnyH_take (i := 13) (v := ?_) rfl (by kernel_rfl) (by kernel_rfl) (by kernel_rfl) (fun _ _ _ h => h) (Or.inl ⟨by rfl, ?_⟩) (by assumption) ?_
  rotate_left
  · intro w9 hSw
    (try dsimp only at hSw)
    go_simp
    (try with_reducible rfl)
  (try simp only [Act.put]); (try simp only [List.setIfInBounds_toArray]); (try simp only [List.set_cons_succ]); (try simp only [List.set_cons_zero])
  refine wpAnyH_take (i := 14) (v := ?_) rfl (by kernel_rfl) (by kernel_rfl) (by kernel_rfl) (fun _ _ _ h => h) (Or.inl ⟨by rfl, ?_⟩) (by assumption) ?_
  rotate_left
  · intro w9 hSw
    (try dsimp only at hSw)
    go_simp
    (try with_reducible rfl)
  (try simp only [Act.put]); (try simp only [List.setIfInBounds_toArray]); (try simp only [List.set_cons_succ]); (try simp only [List.set_cons_zero])
  refine wpAnyH_take (i := 15) (v := ?_) rfl (by kernel_rfl) (by kernel_rfl) (by kernel_rfl) (fun _ _ _ h => h) (Or.inl ⟨by rfl, ?_⟩) (by assumption) ?_
  rotate_left
  · intro w9 hSw
    (try dsimp only at hSw)
    go_simp
    (try with_reducible rfl)
  (try simp only [Act.put]); (try simp only [List.setIfInBounds_toArray]); (try simp only [List.set_cons_succ]); (try simp only [List.set_cons_zero])
  refine wpAnyH_ready (rs := [11]) (by kernel_rfl) (by simp) ?_
  refine AllReadyH.cons rfl (fun K hK => ?_) ?_
  rotate_left
  · exact AllReadyH.nil
  go_simp
  go_wp2_with (go_at_call 68; (with_reducible refine (HC.out _ hB).mono ?_); rintro e y3 ⟨⟨q1, q2, rfl⟩, hbk⟩)
  refine hK.out _ _ ?_ (fun hHeld => ?_)
  · exact ⟨(A0.below hbk A0.lt).cell 0, (A0.below hbk A0.lt).cell 1, (A0.below hbk A0.lt).cell 2, (A0.below hbk A0.lt).cell 3, (A0.below hbk A0.lt).cell 4, lab0 (J0.below hbk J0.lt), lab1 (J0.below hbk J0.lt)⟩
  clear hK K
  (try simp only [Act.put]); (try simp only [List.setIfInBounds_toArray]); (try simp only [List.set_cons_succ]); (try simp only [List.set_cons_zero])
  replace A0 := A0.below hbk A0.lt
  replace J0 := J0.below hbk J0.lt
  replace hB := rstep hB hbk
  clear hbk
  refine wpAnyH_take (i := 12) (v := ?_) rfl (by kernel_rfl) (by kernel_rfl) (by kernel_rfl) (fun _ _ _ h => h) (Or.inl ⟨by rfl, ?_⟩) (by assumption) ?_
  rotate_left
  · intro w9 hSw
    (try dsimp only at hSw)
    go_simp
    (try with_reducible rfl)
  (try simp only [Act.put]); (try simp only [List.setIfInBounds_toArray]); (try simp only [List.set_cons_succ]); (try simp only [List.set_cons_zero])
  refine wpAnyH_take (i := 16) (v := ?_) rfl (by kernel_rfl) (by kernel_rfl) (by kernel_rfl) (fun _ _ _ h => h) (Or.inl ⟨by rfl, ?_⟩) (by assumption) ?_
  rotate_left
  · intro w9 hSw
    (try dsimp only at hSw)
    go_simp
    (try with_reducible rfl)
  (try simp only [Act.put]); (try simp only [List.setIfInBounds_toArray]); (try simp only [List.set_cons_succ]); (try simp only [List.set_cons_zero])
  refine wpAnyH_take (i := 17) (v := ?_) rfl (by kernel_rfl) (by kernel_rfl) (by kernel_rfl) (fun _ _ _ h => h) (Or.inl ⟨by rfl, ?_⟩) (by assumption) ?_
  rotate_left
  · intro w9 hSw
    (try dsimp only at hSw)
    go_simp
    (try with_reducible rfl)
  (try simp only [Act.put]); (try simp only [List.setIfInBounds_toArray]); (try simp only [List.set_cons_succ]); (try simp only [List.set_cons_zero])
  iterate 5
    (try dsimp only [List.getElem_toArray, List.getElem_cons_succ, List.getElem_cons_zero])
    (try simp only [Act.put]); (try simp only [List.setIfInBounds_toArray]); (try simp only [List.set_cons_succ]); (try simp only [List.set_cons_zero])
  refine wpAnyH_done (by kernel_rfl) ?_ _
  have Y1 := Y0.below hB Y0.lt
  have Z1 := Z0.below hB Z0.lt
  have B1 := rstep B0 hB
  have T1 := T0.bel hB
  clear hHeld hB Y0 Z0 B0 T0 HI HJ HC hd hdn
  have k0 : y3.cell? ⟨w.heap.size, 0, none⟩ = some (.int .i64 r.kind) := A0.cell 0
  go_upto_region 3 with (fail)
  go_cut [40] from 33 to 39 (fun v wx => v = .bool false ∧ wx = y3)
  case first =>
    rcases hk with hk | hk
    all_goals
      rw [hk] at k0
      go_wp2
      go_meet
      exact ⟨rfl, rfl⟩
  case rest =>
    obtain ⟨rfl, hcut⟩ := hcut
    replace hcut := hcut.symm
    subst hcut
    clear k0 hk
    have hnn := HF.out
    clear HF
    subst hnn
    have HCH0 : Gives Try.prog 69 #[.agg (labc (nn : Int) b), .int .i64 0] (.tuple #[.agg (labc ((nn : Int) + 1) c0), .int .i64 0]) := h0 ▸ refChild_bits nn b 0 h64 HKB.out hlow (by omega)
    have HCH1 : Gives Try.prog 69 #[.agg (labc (nn : Int) b), .int .i64 1] (.tuple #[.agg (labc ((nn : Int) + 1) c1), .int .i64 0]) := h1 ▸ refChild_bits nn b 1 h64 HKB.out hlow (by omega)
    have hc0 : c0 < 18446744073709551616 := h0 ▸ chB_lt h64 HKB.out hlow
    have hc1 : c1 < 18446744073709551616 := h1 ▸ chB_lt h64 HKB.out hlow
    have j0 : y3.cell? ⟨w.heap.size + 1, 0, none⟩ = some (.int .i64 (nn : Int)) := lab0 J0
    have hne : ((nn : Int) == 64) = false := by simp; omega
    have hne2 : ¬ (nn : Int) = 64 := by omega
    clear h0 h1 hlow
    have hyl3 := Z1.lt
    go_upto_region 7 with (fail)
    clear j0 hne hne2
    go_upto_region 8 with (first
      | (refine p_loadL rfl _ rfl (w.heap.size + 1) rfl (nn : Int) b J0 ?_)
      | (go_at_call 69; (with_reducible refine (HCH0.calls _).mono ?_); rintro e y4 ⟨rfl, hb4⟩)
      | (refine p_storeL rfl _ _ rfl y4.heap.size rfl ((nn : Int) + 1) c0 rfl 0 0 (Blk.new _ _ _) ?_))
    try rw [lab00]
    have b5 := bel_setRow ((Below.refl y4.heap.size y4).alloc (Nat.le_refl _) (.cells (labc 0 0) 25)) (Nat.le_refl _) (labc ((nn : Int) + 1) c0)
    have L5 := (Blk.new y4 (labc 0 0) 25).setRow (labc ((nn : Int) + 1) c0)
    replace b5 := rstep hb4 b5
    have hg5 := hb4.size
    replace A0 := A0.below b5 A0.lt
    replace J0 := J0.below b5 J0.lt
    replace Y1 := Y1.below b5 Y1.lt
    replace Z1 := Z1.below b5 Z1.lt
    replace B1 := rstep B1 b5
    replace T1 := T1.bel b5
    clear hb4 b5 HCH0
    generalize y4.heap.size = x5 at *
    generalize (y4.alloc _).setRow _ _ = y5 at *
    go_upto_region 9 with (first
      | (refine p_loadL rfl _ rfl (w.heap.size + 1) rfl (nn : Int) b J0 ?_)
      | (go_at_call 69; (with_reducible refine (HCH1.calls _).mono ?_); rintro e y6 ⟨rfl, hb6⟩)
      | (refine p_storeL rfl _ _ rfl y6.heap.size rfl ((nn : Int) + 1) c1 rfl 0 0 (Blk.new _ _ _) ?_))
    try rw [lab00]
    have b7 := bel_setRow ((Below.refl y6.heap.size y6).alloc (Nat.le_refl _) (.cells (labc 0 0) 25)) (Nat.le_refl _) (labc ((nn : Int) + 1) c1)
    have L7 := (Blk.new y6 (labc 0 0) 25).setRow (labc ((nn : Int) + 1) c1)
    have hg7 := hb6.size
    have hl5 := L5.lt
    replace b7 := rstep hb6 b7
    replace A0 := A0.below b7 A0.lt
    replace L5 := L5.below b7 L5.lt
    replace Y1 := Y1.below b7 Y1.lt
    replace Z1 := Z1.below b7 Z1.lt
    replace B1 := rstep B1 b7
    replace T1 := T1.bel b7
    clear hb6 b7 HCH1 J0
    generalize y6.heap.size = x7 at *
    generalize (y6.alloc _).setRow _ _ = y7 at *
    have HCa : Hid (∀ W, Below y7.heap.size y7 W → Calls Try.prog 68 #[.agg #[.int .i64 r.kind, .slice a r.items.length c, .int .i64 r.nl, .int .u64 (r.nb : Int), .int .u64 (r.mark : Int)], .agg #[.int .i64 ((nn : Int) + 1), .int .u64 (c0 : Int)]] W fun e w' => ∃ v, e = .returned v ∧ Told w' v K0 ∧ Below W.heap.size W w') := fun W hb5 => by
      have h := refcov_any (T1.bel hb5) HKW.out HKL.out ((nn : Int) + 1) c0 hc0
      rw [hK0] at h
      exact h
    have HCb : Hid (∀ W, Below y7.heap.size y7 W → Calls Try.prog 68 #[.agg #[.int .i64 r.kind, .slice a r.items.length c, .int .i64 r.nl, .int .u64 (r.nb : Int), .int .u64 (r.mark : Int)], .agg #[.int .i64 ((nn : Int) + 1), .int .u64 (c1 : Int)]] W fun e w' => ∃ v, e = .returned v ∧ Told w' v K1 ∧ Below W.heap.size W w') := fun W hb5 => by
      have h := refcov_any (T1.bel hb5) HKW.out HKL.out ((nn : Int) + 1) c1 hc1
      rw [hK1] at h
      exact h
    have hlt5 := L5.lt
    have hlt7 := L7.lt
    clear hc0 hc1 hK0 hK1 T1 HKW HKL HKB h64
    go_upto_region 9 with (fail)
    go_cut [11] from 58 to 62 (fun v11 wx => OneR y7 wx (leafR K0 ((nn : Int) + 1) c1) v11)
    case first =>
      refine wp_region_held_drew (S := (fun w9 => w9.cell? ⟨w.heap.size, 0, none⟩ = some (.int .i64 r.kind) ∧ w9.cell? ⟨w.heap.size, 1, none⟩ = some (.slice a r.items.length c) ∧ w9.cell? ⟨w.heap.size, 2, none⟩ = some (.int .i64 r.nl) ∧ w9.cell? ⟨w.heap.size, 3, none⟩ = some (.int .u64 (r.nb : Int)) ∧ w9.cell? ⟨w.heap.size, 4, none⟩ = some (.int .u64 (r.mark : Int)) ∧ w9.cell? ⟨x5, 0, none⟩ = some (.int .i64 ((nn : Int) + 1)) ∧ w9.cell? ⟨x5, 1, none⟩ = some (.int .u64 (c0 : Int)) ∧ w9.cell? ⟨x7, 0, none⟩ = some (.int .i64 ((nn : Int) + 1)) ∧ w9.cell? ⟨x7, 1, none⟩ = some (.int .u64 (c1 : Int)))) (by kernel_rfl) ?_ (fun hHeld => ?_)
      · exact ⟨(A0.below (rdrew _) A0.lt).cell 0, (A0.below (rdrew _) A0.lt).cell 1, (A0.below (rdrew _) A0.lt).cell 2, (A0.below (rdrew _) A0.lt).cell 3, (A0.below (rdrew _) A0.lt).cell 4, lab0 (L5.below (rdrew _) L5.lt), lab1 (L5.below (rdrew _) L5.lt), lab0 (L7.below (rdrew _) L7.lt), lab1 (L7.below (rdrew _) L7.lt)⟩
      have hB := rdrew y7
      have A0x := A0.below hB A0.lt
      have L5x := L5.below hB L5.lt
      have L7x := L7.below hB L7.lt
      generalize hy0 : y7.drew = y0 at *
      clear hy0
      refine wpAnyH_take (i := 0) (v := ?_) rfl (by kernel_rfl) (by kernel_rfl) (by kernel_rfl) (fun _ _ _ h => h) (Or.inl ⟨by rfl, ?_⟩) (by assumption) ?_
      rotate_left
      · intro w9 hSw
        (try dsimp only at hSw)
        go_simp
        (try with_reducible rfl)
      (try simp only [Act.put]); (try simp only [List.setIfInBounds_toArray]); (try simp only [List.set_cons_succ]); (try simp only [List.set_cons_zero])
      refine wpAnyH_take (i := 1) (v := ?_) rfl (by kernel_rfl) (by kernel_rfl) (by kernel_rfl) (fun _ _ _ h => h) (Or.inl ⟨by rfl, ?_⟩) (by assumption) ?_
      rotate_left
      · intro w9 hSw
        (try dsimp only at hSw)
        go_simp
        (try with_reducible rfl)
      (try simp only [Act.put]); (try simp only [List.setIfInBounds_toArray]); (try simp only [List.set_cons_succ]); (try simp only [List.set_cons_zero])
      refine wpAnyH_take (i := 3) (v := ?_) rfl (by kernel_rfl) (by kernel_rfl) (by kernel_rfl) (fun _ _ _ h => h) (Or.inl ⟨by rfl, ?_⟩) (by assumption) ?_
      rotate_left
      · intro w9 hSw
        (try dsimp only at hSw)
        go_simp
        (try with_reducible rfl)
      (try simp only [Act.put]); (try simp only [List.setIfInBounds_toArray]); (try simp only [List.set_cons_succ]); (try simp only [List.set_cons_zero])
      refine wpAnyH_ready (rs := [2, 5]) (by kernel_rfl) (by simp) ?_
      refine AllReadyH.cons rfl (fun K hK => ?_) ?_
      · go_simp
        go_wp2_with (go_at_call 68; (with_reducible refine (HCa.out _ hB).mono ?_); rintro e y1 ⟨v1, rfl, U1, hbk⟩; obtain ⟨q1, p1, rfl⟩ := told_shape U1)
        refine hK.out _ _ ?_ (fun hHeld => ?_)
        · exact ⟨(A0x.below hbk A0x.lt).cell 0, (A0x.below hbk A0x.lt).cell 1, (A0x.below hbk A0x.lt).cell 2, (A0x.below hbk A0x.lt).cell 3, (A0x.below hbk A0x.lt).cell 4, lab0 (L5x.below hbk L5x.lt), lab1 (L5x.below hbk L5x.lt), lab0 (L7x.below hbk L7x.lt), lab1 (L7x.below hbk L7x.lt)⟩
        clear hK K
        (try simp only [Act.put]); (try simp only [List.setIfInBounds_toArray]); (try simp only [List.set_cons_succ]); (try simp only [List.set_cons_zero])
        replace A0x := A0x.below hbk A0x.lt
        replace L5x := L5x.below hbk L5x.lt
        replace L7x := L7x.below hbk L7x.lt
        replace hB := rstep hB hbk
        clear hbk
        refine wpAnyH_take (i := 4) (v := ?_) rfl (by kernel_rfl) (by kernel_rfl) (by kernel_rfl) (fun _ _ _ h => h) (Or.inl ⟨by rfl, ?_⟩) (by assumption) ?_
        rotate_left
        · intro w9 hSw
          (try dsimp only at hSw)
          go_simp
          (try with_reducible rfl)
        (try simp only [Act.put]); (try simp only [List.setIfInBounds_toArray]); (try simp only [List.set_cons_succ]); (try simp only [List.set_cons_zero])
        refine wpAnyH_ready (rs := [5]) (by kernel_rfl) (by simp) ?_
        refine AllReadyH.cons rfl (fun K hK => ?_) ?_
        rotate_left
        · exact AllReadyH.nil
        go_simp
        refine hK.out _ _ ?_ (fun hHeld => ?_)
        · exact ⟨(A0x.alloc _).cell 0, (A0x.alloc _).cell 1, (A0x.alloc _).cell 2, (A0x.alloc _).cell 3, (A0x.alloc _).cell 4, lab0 (L5x.alloc _), lab1 (L5x.alloc _), lab0 (L7x.alloc _), lab1 (L7x.alloc _)⟩
        clear hK K
        (try simp only [Act.put]); (try simp only [List.setIfInBounds_toArray]); (try simp only [List.set_cons_succ]); (try simp only [List.set_cons_zero])
        have X := Blk.new y1 (recC zeroR (.slice none 0 0)) 27
        have gx := hB.size
        replace A0x := A0x.alloc (.cells (recC zeroR (.slice none 0 0)) 27)
        replace L5x := L5x.alloc (.cells (recC zeroR (.slice none 0 0)) 27)
        replace L7x := L7x.alloc (.cells (recC zeroR (.slice none 0 0)) 27)
        replace U1 := U1.bel ((Below.refl y1.heap.size y1).alloc (Nat.le_refl _) (.cells (recC zeroR (.slice none 0 0)) 27))
        replace hB := hB.alloc hB.size (.cells (recC zeroR (.slice none 0 0)) 27)
        try rw [zero_rec]
        try rw [zero_rec] at hHeld
        generalize hx : y1.heap.size = x at *
        generalize y1.alloc _ = y2 at *
        clear hx
        refine wpAnyH_ready (rs := [6]) (by kernel_rfl) (by simp) ?_
        refine AllReadyH.cons rfl (fun K hK => ?_) ?_
        rotate_left
        · exact AllReadyH.nil
        rw [if_pos (by rfl)]
        refine wp_store_row 27 _ _ rfl x (recC (leafR K0 ((nn : Int) + 1) c1) (.slice q1 K0.length p1)) rfl rfl 27 (recC zeroR (.slice none 0 0)) X infoRec rfl (rec_one rfl) ?_
        refine hK.out _ _ ?_ (fun hHeld => ?_)
        · exact ⟨(A0x.setRow_other _ _ (by omega)).cell 0, (A0x.setRow_other _ _ (by omega)).cell 1, (A0x.setRow_other _ _ (by omega)).cell 2, (A0x.setRow_other _ _ (by omega)).cell 3, (A0x.setRow_other _ _ (by omega)).cell 4, lab0 (L5x.setRow_other _ _ (by omega)), lab1 (L5x.setRow_other _ _ (by omega)), lab0 (L7x.setRow_other _ _ (by omega)), lab1 (L7x.setRow_other _ _ (by omega))⟩
        clear hK K
        iterate 5
          (try dsimp only [List.getElem_toArray, List.getElem_cons_succ, List.getElem_cons_zero])
          (try simp only [Act.put]); (try simp only [List.setIfInBounds_toArray]); (try simp only [List.set_cons_succ]); (try simp only [List.set_cons_zero])
        refine wpAnyH_done (by kernel_rfl) ?_ _
        go_wp2
        go_meet
        exact ⟨⟨x, _, rfl, X.setRow _, told_setRow U1 X (noIt_rec _ _) _, rfl, gx, bel_setRow hB gx _⟩⟩
      refine AllReadyH.cons rfl (fun K hK => ?_) ?_
      · go_simp
        refine hK.out _ _ ?_ (fun hHeld => ?_)
        · exact ⟨(A0x.alloc _).cell 0, (A0x.alloc _).cell 1, (A0x.alloc _).cell 2, (A0x.alloc _).cell 3, (A0x.alloc _).cell 4, lab0 (L5x.alloc _), lab1 (L5x.alloc _), lab0 (L7x.alloc _), lab1 (L7x.alloc _)⟩
        clear hK K
        (try simp only [Act.put]); (try simp only [List.setIfInBounds_toArray]); (try simp only [List.set_cons_succ]); (try simp only [List.set_cons_zero])
        have X := Blk.new y0 (recC zeroR (.slice none 0 0)) 27
        have gx := hB.size
        replace A0x := A0x.alloc (.cells (recC zeroR (.slice none 0 0)) 27)
        replace L5x := L5x.alloc (.cells (recC zeroR (.slice none 0 0)) 27)
        replace L7x := L7x.alloc (.cells (recC zeroR (.slice none 0 0)) 27)
        replace hB := hB.alloc hB.size (.cells (recC zeroR (.slice none 0 0)) 27)
        try rw [zero_rec]
        try rw [zero_rec] at hHeld
        generalize hx : y0.heap.size = x at *
        generalize y0.alloc _ = y1 at *
        clear hx
        refine wpAnyH_ready (rs := [2]) (by kernel_rfl) (by simp) ?_
        refine AllReadyH.cons rfl (fun K hK => ?_) ?_
        rotate_left
        · exact AllReadyH.nil
        go_simp
        go_wp2_with (go_at_call 68; (with_reducible refine (HCa.out _ hB).mono ?_); rintro e y2 ⟨v1, rfl, U1, hbk⟩; obtain ⟨q1, p1, rfl⟩ := told_shape U1)
        refine hK.out _ _ ?_ (fun hHeld => ?_)
        · exact ⟨(A0x.below hbk A0x.lt).cell 0, (A0x.below hbk A0x.lt).cell 1, (A0x.below hbk A0x.lt).cell 2, (A0x.below hbk A0x.lt).cell 3, (A0x.below hbk A0x.lt).cell 4, lab0 (L5x.below hbk L5x.lt), lab1 (L5x.below hbk L5x.lt), lab0 (L7x.below hbk L7x.lt), lab1 (L7x.below hbk L7x.lt)⟩
        clear hK K
        (try simp only [Act.put]); (try simp only [List.setIfInBounds_toArray]); (try simp only [List.set_cons_succ]); (try simp only [List.set_cons_zero])
        replace A0x := A0x.below hbk A0x.lt
        replace L5x := L5x.below hbk L5x.lt
        replace L7x := L7x.below hbk L7x.lt
        replace hB := rstep hB hbk
        replace X := X.below hbk X.lt
        clear hbk
        refine wpAnyH_take (i := 4) (v := ?_) rfl (by kernel_rfl) (by kernel_rfl) (by kernel_rfl) (fun _ _ _ h => h) (Or.inl ⟨by rfl, ?_⟩) (by assumption) ?_
        rotate_left
        · intro w9 hSw
          (try dsimp only at hSw)
          go_simp
          (try with_reducible rfl)
        (try simp only [Act.put]); (try simp only [List.setIfInBounds_toArray]); (try simp only [List.set_cons_succ]); (try simp only [List.set_cons_zero])
        refine wpAnyH_ready (rs := [6]) (by kernel_rfl) (by simp) ?_
        refine AllReadyH.cons rfl (fun K hK => ?_) ?_
        rotate_left
        · exact AllReadyH.nil
        rw [if_pos (by rfl)]
        refine wp_store_row 27 _ _ rfl x (recC (leafR K0 ((nn : Int) + 1) c1) (.slice q1 K0.length p1)) rfl rfl 27 (recC zeroR (.slice none 0 0)) X infoRec rfl (rec_one rfl) ?_
        refine hK.out _ _ ?_ (fun hHeld => ?_)
        · exact ⟨(A0x.setRow_other _ _ (by omega)).cell 0, (A0x.setRow_other _ _ (by omega)).cell 1, (A0x.setRow_other _ _ (by omega)).cell 2, (A0x.setRow_other _ _ (by omega)).cell 3, (A0x.setRow_other _ _ (by omega)).cell 4, lab0 (L5x.setRow_other _ _ (by omega)), lab1 (L5x.setRow_other _ _ (by omega)), lab0 (L7x.setRow_other _ _ (by omega)), lab1 (L7x.setRow_other _ _ (by omega))⟩
        clear hK K
        iterate 5
          (try dsimp only [List.getElem_toArray, List.getElem_cons_succ, List.getElem_cons_zero])
          (try simp only [Act.put]); (try simp only [List.setIfInBounds_toArray]); (try simp only [List.set_cons_succ]); (try simp only [List.set_cons_zero])
        refine wpAnyH_done (by kernel_rfl) ?_ _
        go_wp2
        go_meet
        exact ⟨⟨x, _, rfl, X.setRow _, told_setRow U1 X (noIt_rec _ _) _, rfl, gx, bel_setRow hB gx _⟩⟩
      exact AllReadyH.nil
    case rest =>
      obtain ⟨x11, u11, rfl, X11, U11, o11, g11, b8⟩ := hcut.ex
      replace A0 := A0.below b8 A0.lt
      replace L7 := L7.below b8 L7.lt
      replace Y1 := Y1.below b8 Y1.lt
      replace Z1 := Z1.below b8 Z1.lt
      replace B1 := rstep B1 b8
      have HCc : Hid (∀ W, Below wc.heap.size wc W → Calls Try.prog 68 #[.agg #[.int .i64 r.kind, .slice a r.items.length c, .int .i64 r.nl, .int .u64 (r.nb : Int), .int .u64 (r.mark : Int)], .agg #[.int .i64 ((nn : Int) + 1), .int .u64 (c1 : Int)]] W fun e w' => ∃ v, e = .returned v ∧ Told w' v K1 ∧ Below W.heap.size W w') := fun W hb5 => HCb.out W (rstep b8 hb5)
      have hxl := X11.lt
      clear hcut b8 HCa HCb L5 hlt5
      go_upto_region 10 with (fail)
      go_cut [12] from 63 to 68 (fun v12 wx => OneR wc wx (leafR K1 r.nl r.nb) v12)
      case first =>
        refine wp_region_held_drew (S := (fun w9 => w9.cell? ⟨w.heap.size, 0, none⟩ = some (.int .i64 r.kind) ∧ w9.cell? ⟨w.heap.size, 1, none⟩ = some (.slice a r.items.length c) ∧ w9.cell? ⟨w.heap.size, 2, none⟩ = some (.int .i64 r.nl) ∧ w9.cell? ⟨w.heap.size, 3, none⟩ = some (.int .u64 (r.nb : Int)) ∧ w9.cell? ⟨w.heap.size, 4, none⟩ = some (.int .u64 (r.mark : Int)) ∧ w9.cell? ⟨x7, 0, none⟩ = some (.int .i64 ((nn : Int) + 1)) ∧ w9.cell? ⟨x7, 1, none⟩ = some (.int .u64 (c1 : Int)))) (by kernel_rfl) ?_ (fun hHeld => ?_)
        · exact ⟨(A0.below (rdrew _) A0.lt).cell 0, (A0.below (rdrew _) A0.lt).cell 1, (A0.below (rdrew _) A0.lt).cell 2, (A0.below (rdrew _) A0.lt).cell 3, (A0.below (rdrew _) A0.lt).cell 4, lab0 (L7.below (rdrew _) L7.lt), lab1 (L7.below (rdrew _) L7.lt)⟩
        have hB := rdrew wc
        have A0x := A0.below hB A0.lt
        have L7x := L7.below hB L7.lt
        generalize hy0 : wc.drew = y0 at *
        clear hy0
        refine wpAnyH_take (i := 0) (v := ?_) rfl (by kernel_rfl) (by kernel_rfl) (by kernel_rfl) (fun _ _ _ h => h) (Or.inl ⟨by rfl, ?_⟩) (by assumption) ?_
        rotate_left
        · intro w9 hSw
          (try dsimp only at hSw)
          go_simp
          (try with_reducible rfl)
        (try simp only [Act.put]); (try simp only [List.setIfInBounds_toArray]); (try simp only [List.set_cons_succ]); (try simp only [List.set_cons_zero])
        refine wpAnyH_take (i := 1) (v := ?_) rfl (by kernel_rfl) (by kernel_rfl) (by kernel_rfl) (fun _ _ _ h => h) (Or.inl ⟨by rfl, ?_⟩) (by assumption) ?_
        rotate_left
        · intro w9 hSw
          (try dsimp only at hSw)
          go_simp
          (try with_reducible rfl)
        (try simp only [Act.put]); (try simp only [List.setIfInBounds_toArray]); (try simp only [List.set_cons_succ]); (try simp only [List.set_cons_zero])
        refine wpAnyH_take (i := 3) (v := ?_) rfl (by kernel_rfl) (by kernel_rfl) (by kernel_rfl) (fun _ _ _ h => h) (Or.inl ⟨by rfl, ?_⟩) (by assumption) ?_
        rotate_left
        · intro w9 hSw
          (try dsimp only at hSw)
          go_simp
          (try with_reducible rfl)
        (try simp only [Act.put]); (try simp only [List.setIfInBounds_toArray]); (try simp only [List.set_cons_succ]); (try simp only [List.set_cons_zero])
        refine wpAnyH_take (i := 4) (v := ?_) rfl (by kernel_rfl) (by kernel_rfl) (by kernel_rfl) (fun _ _ _ h => h) (Or.inl ⟨by rfl, ?_⟩) (by assumption) ?_
        rotate_left
        · intro w9 hSw
          (try dsimp only at hSw)
          go_simp
          (try with_reducible rfl)
        (try simp only [Act.put]); (try simp only [List.setIfInBounds_toArray]); (try simp only [List.set_cons_succ]); (try simp only [List.set_cons_zero])
        refine wpAnyH_ready (rs := [2, 6]) (by kernel_rfl) (by simp) ?_
        refine AllReadyH.cons rfl (fun K hK => ?_) ?_
        · go_simp
          go_wp2_with (go_at_call 68; (with_reducible refine (HCc.out _ hB).mono ?_); rintro e y1 ⟨v1, rfl, U1, hbk⟩; obtain ⟨q1, p1, rfl⟩ := told_shape U1)
          refine hK.out _ _ ?_ (fun hHeld => ?_)
          · exact ⟨(A0x.below hbk A0x.lt).cell 0, (A0x.below hbk A0x.lt).cell 1, (A0x.below hbk A0x.lt).cell 2, (A0x.below hbk A0x.lt).cell 3, (A0x.below hbk A0x.lt).cell 4, lab0 (L7x.below hbk L7x.lt), lab1 (L7x.below hbk L7x.lt)⟩
          clear hK K
          (try simp only [Act.put]); (try simp only [List.setIfInBounds_toArray]); (try simp only [List.set_cons_succ]); (try simp only [List.set_cons_zero])
          replace A0x := A0x.below hbk A0x.lt
          replace L7x := L7x.below hbk L7x.lt
          replace hB := rstep hB hbk
          clear hbk
          refine wpAnyH_take (i := 5) (v := ?_) rfl (by kernel_rfl) (by kernel_rfl) (by kernel_rfl) (fun _ _ _ h => h) (Or.inl ⟨by rfl, ?_⟩) (by assumption) ?_
          rotate_left
          · intro w9 hSw
            (try dsimp only at hSw)
            go_simp
            (try with_reducible rfl)
          (try simp only [Act.put]); (try simp only [List.setIfInBounds_toArray]); (try simp only [List.set_cons_succ]); (try simp only [List.set_cons_zero])
          refine wpAnyH_ready (rs := [6]) (by kernel_rfl) (by simp) ?_
          refine AllReadyH.cons rfl (fun K hK => ?_) ?_
          rotate_left
          · exact AllReadyH.nil
          go_simp
          refine hK.out _ _ ?_ (fun hHeld => ?_)
          · exact ⟨(A0x.alloc _).cell 0, (A0x.alloc _).cell 1, (A0x.alloc _).cell 2, (A0x.alloc _).cell 3, (A0x.alloc _).cell 4, lab0 (L7x.alloc _), lab1 (L7x.alloc _)⟩
          clear hK K
          (try simp only [Act.put]); (try simp only [List.setIfInBounds_toArray]); (try simp only [List.set_cons_succ]); (try simp only [List.set_cons_zero])
          have X := Blk.new y1 (recC zeroR (.slice none 0 0)) 27
          have gx := hB.size
          replace A0x := A0x.alloc (.cells (recC zeroR (.slice none 0 0)) 27)
          replace L7x := L7x.alloc (.cells (recC zeroR (.slice none 0 0)) 27)
          replace U1 := U1.bel ((Below.refl y1.heap.size y1).alloc (Nat.le_refl _) (.cells (recC zeroR (.slice none 0 0)) 27))
          replace hB := hB.alloc hB.size (.cells (recC zeroR (.slice none 0 0)) 27)
          try rw [zero_rec]
          try rw [zero_rec] at hHeld
          generalize hx : y1.heap.size = x at *
          generalize y1.alloc _ = y2 at *
          clear hx
          refine wpAnyH_ready (rs := [7]) (by kernel_rfl) (by simp) ?_
          refine AllReadyH.cons rfl (fun K hK => ?_) ?_
          rotate_left
          · exact AllReadyH.nil
          rw [if_pos (by rfl)]
          refine wp_store_row 27 _ _ rfl x (recC (leafR K1 r.nl r.nb) (.slice q1 K1.length p1)) rfl rfl 27 (recC zeroR (.slice none 0 0)) X infoRec rfl (rec_one rfl) ?_
          refine hK.out _ _ ?_ (fun hHeld => ?_)
          · exact ⟨(A0x.setRow_other _ _ (by omega)).cell 0, (A0x.setRow_other _ _ (by omega)).cell 1, (A0x.setRow_other _ _ (by omega)).cell 2, (A0x.setRow_other _ _ (by omega)).cell 3, (A0x.setRow_other _ _ (by omega)).cell 4, lab0 (L7x.setRow_other _ _ (by omega)), lab1 (L7x.setRow_other _ _ (by omega))⟩
          clear hK K
          iterate 5
            (try dsimp only [List.getElem_toArray, List.getElem_cons_succ, List.getElem_cons_zero])
            (try simp only [Act.put]); (try simp only [List.setIfInBounds_toArray]); (try simp only [List.set_cons_succ]); (try simp only [List.set_cons_zero])
          refine wpAnyH_done (by kernel_rfl) ?_ _
          go_wp2
          go_meet
          exact ⟨⟨x, _, rfl, X.setRow _, told_setRow U1 X (noIt_rec _ _) _, rfl, gx, bel_setRow hB gx _⟩⟩
        refine AllReadyH.cons rfl (fun K hK => ?_) ?_
        · go_simp
          refine hK.out _ _ ?_ (fun hHeld => ?_)
          · exact ⟨(A0x.alloc _).cell 0, (A0x.alloc _).cell 1, (A0x.alloc _).cell 2, (A0x.alloc _).cell 3, (A0x.alloc _).cell 4, lab0 (L7x.alloc _), lab1 (L7x.alloc _)⟩
          clear hK K
          (try simp only [Act.put]); (try simp only [List.setIfInBounds_toArray]); (try simp only [List.set_cons_succ]); (try simp only [List.set_cons_zero])
          have X := Blk.new y0 (recC zeroR (.slice none 0 0)) 27
          have gx := hB.size
          replace A0x := A0x.alloc (.cells (recC zeroR (.slice none 0 0)) 27)
          replace L7x := L7x.alloc (.cells (recC zeroR (.slice none 0 0)) 27)
          replace hB := hB.alloc hB.size (.cells (recC zeroR (.slice none 0 0)) 27)
          try rw [zero_rec]
          try rw [zero_rec] at hHeld
          generalize hx : y0.heap.size = x at *
          generalize y0.alloc _ = y1 at *
          clear hx
          refine wpAnyH_ready (rs := [2]) (by kernel_rfl) (by simp) ?_
          refine AllReadyH.cons rfl (fun K hK => ?_) ?_
          rotate_left
          · exact AllReadyH.nil
          go_simp
          go_wp2_with (go_at_call 68; (with_reducible refine (HCc.out _ hB).mono ?_); rintro e y2 ⟨v1, rfl, U1, hbk⟩; obtain ⟨q1, p1, rfl⟩ := told_shape U1)
          refine hK.out _ _ ?_ (fun hHeld => ?_)
          · exact ⟨(A0x.below hbk A0x.lt).cell 0, (A0x.below hbk A0x.lt).cell 1, (A0x.below hbk A0x.lt).cell 2, (A0x.below hbk A0x.lt).cell 3, (A0x.below hbk A0x.lt).cell 4, lab0 (L7x.below hbk L7x.lt), lab1 (L7x.below hbk L7x.lt)⟩
          clear hK K
          (try simp only [Act.put]); (try simp only [List.setIfInBounds_toArray]); (try simp only [List.set_cons_succ]); (try simp only [List.set_cons_zero])
          replace A0x := A0x.below hbk A0x.lt
          replace L7x := L7x.below hbk L7x.lt
          replace hB := rstep hB hbk
          replace X := X.below hbk X.lt
          clear hbk
          refine wpAnyH_take (i := 5) (v := ?_) rfl (by kernel_rfl) (by kernel_rfl) (by kernel_rfl) (fun _ _ _ h => h) (Or.inl ⟨by rfl, ?_⟩) (by assumption) ?_
          rotate_left
          · intro w9 hSw
            (try dsimp only at hSw)
            go_simp
            (try with_reducible rfl)
          (try simp only [Act.put]); (try simp only [List.setIfInBounds_toArray]); (try simp only [List.set_cons_succ]); (try simp only [List.set_cons_zero])
          refine wpAnyH_ready (rs := [7]) (by kernel_rfl) (by simp) ?_
          refine AllReadyH.cons rfl (fun K hK => ?_) ?_
          rotate_left
          · exact AllReadyH.nil
          rw [if_pos (by rfl)]
          refine wp_store_row 27 _ _ rfl x (recC (leafR K1 r.nl r.nb) (.slice q1 K1.length p1)) rfl rfl 27 (recC zeroR (.slice none 0 0)) X infoRec rfl (rec_one rfl) ?_
          refine hK.out _ _ ?_ (fun hHeld => ?_)
          · exact ⟨(A0x.setRow_other _ _ (by omega)).cell 0, (A0x.setRow_other _ _ (by omega)).cell 1, (A0x.setRow_other _ _ (by omega)).cell 2, (A0x.setRow_other _ _ (by omega)).cell 3, (A0x.setRow_other _ _ (by omega)).cell 4, lab0 (L7x.setRow_other _ _ (by omega)), lab1 (L7x.setRow_other _ _ (by omega))⟩
          clear hK K
          iterate 5
            (try dsimp only [List.getElem_toArray, List.getElem_cons_succ, List.getElem_cons_zero])
            (try simp only [Act.put]); (try simp only [List.setIfInBounds_toArray]); (try simp only [List.set_cons_succ]); (try simp only [List.set_cons_zero])
          refine wpAnyH_done (by kernel_rfl) ?_ _
          go_wp2
          go_meet
          exact ⟨⟨x, _, rfl, X.setRow _, told_setRow U1 X (noIt_rec _ _) _, rfl, gx, bel_setRow hB gx _⟩⟩
        exact AllReadyH.nil
      case rest =>
        obtain ⟨x12, u12, rfl, X12, U12, o12, g12, b9⟩ := hcut.ex
        replace X11 := X11.below b9 X11.lt
        replace U11 := U11.bel b9
        replace Y1 := Y1.below b9 Y1.lt
        replace Z1 := Z1.below b9 Z1.lt
        replace B1 := rstep B1 b9
        clear hcut b9 HCc A0 L7
        go_upto_region 11 with (fail)
        generalize leafR K0 ((nn : Int) + 1) c1 = Q0 at *
        generalize leafR K1 r.nl r.nb = Q1 at *
        refine wp_region_held_drew (S := (fun w9 => w9.cell? ⟨x11, 0, none⟩ = some (.int .i64 (Q0).kind) ∧ w9.cell? ⟨x11, 1, none⟩ = some u11 ∧ w9.cell? ⟨x11, 2, none⟩ = some (.int .i64 (Q0).nl) ∧ w9.cell? ⟨x11, 3, none⟩ = some (.int .u64 ((Q0).nb : Int)) ∧ w9.cell? ⟨x11, 4, none⟩ = some (.int .u64 ((Q0).mark : Int)) ∧ w9.cell? ⟨x12, 0, none⟩ = some (.int .i64 (Q1).kind) ∧ w9.cell? ⟨x12, 1, none⟩ = some u12 ∧ w9.cell? ⟨x12, 2, none⟩ = some (.int .i64 (Q1).nl) ∧ w9.cell? ⟨x12, 3, none⟩ = some (.int .u64 ((Q1).nb : Int)) ∧ w9.cell? ⟨x12, 4, none⟩ = some (.int .u64 ((Q1).mark : Int)))) (by kernel_rfl) ?_ (fun hHeld => ?_)
        · exact ⟨(X11.below (rdrew _) X11.lt).cell 0, (X11.below (rdrew _) X11.lt).cell 1, (X11.below (rdrew _) X11.lt).cell 2, (X11.below (rdrew _) X11.lt).cell 3, (X11.below (rdrew _) X11.lt).cell 4, (X12.below (rdrew _) X12.lt).cell 0, (X12.below (rdrew _) X12.lt).cell 1, (X12.below (rdrew _) X12.lt).cell 2, (X12.below (rdrew _) X12.lt).cell 3, (X12.below (rdrew _) X12.lt).cell 4⟩
        have hB := rdrew wc
        replace X11 := X11.below hB X11.lt
        replace X12 := X12.below hB X12.lt
        replace U11 := U11.bel hB
        replace U12 := U12.bel hB
        replace Y1 := Y1.below hB Y1.lt
        replace Z1 := Z1.below hB Z1.lt
        replace B1 := rstep B1 hB
        generalize wc.drew = y0 at *
        clear hB
        refine wpAnyH_take (i := 0) (v := ?_) rfl (by kernel_rfl) (by kernel_rfl) (by kernel_rfl) (fun _ _ _ h => h) (Or.inl ⟨by rfl, ?_⟩) (by assumption) ?_
        rotate_left
        · intro w9 hSw
          (try dsimp only at hSw)
          go_simp
          (try with_reducible rfl)
        (try simp only [Act.put]); (try simp only [List.setIfInBounds_toArray]); (try simp only [List.set_cons_succ]); (try simp only [List.set_cons_zero])
        refine wpAnyH_take (i := 1) (v := ?_) rfl (by kernel_rfl) (by kernel_rfl) (by kernel_rfl) (fun _ _ _ h => h) (Or.inl ⟨by rfl, ?_⟩) (by assumption) ?_
        rotate_left
        · intro w9 hSw
          (try dsimp only at hSw)
          go_simp
          (try with_reducible rfl)
        (try simp only [Act.put]); (try simp only [List.setIfInBounds_toArray]); (try simp only [List.set_cons_succ]); (try simp only [List.set_cons_zero])
        refine wpAnyH_ready (rs := [2]) (by kernel_rfl) (by simp) ?_
        refine AllReadyH.cons rfl (fun K hK => ?_) ?_
        rotate_left
        · exact AllReadyH.nil
        rw [if_pos (by rfl)]
        refine wp_store_row 27 _ _ rfl (w.heap.size + 2) (recC Q0 u11) rfl rfl 27 (recC zeroR (.slice none 0 0)) Y1 infoRec rfl (rec_one o11) ?_
        refine hK.out _ _ ?_ (fun hHeld => ?_)
        · exact ⟨(X11.setRow_other _ _ (by omega)).cell 0, (X11.setRow_other _ _ (by omega)).cell 1, (X11.setRow_other _ _ (by omega)).cell 2, (X11.setRow_other _ _ (by omega)).cell 3, (X11.setRow_other _ _ (by omega)).cell 4, (X12.setRow_other _ _ (by omega)).cell 0, (X12.setRow_other _ _ (by omega)).cell 1, (X12.setRow_other _ _ (by omega)).cell 2, (X12.setRow_other _ _ (by omega)).cell 3, (X12.setRow_other _ _ (by omega)).cell 4⟩
        clear hK K
        (try simp only [Act.put]); (try simp only [List.setIfInBounds_toArray]); (try simp only [List.set_cons_succ]); (try simp only [List.set_cons_zero])
        replace X11 := X11.setRow_other (w.heap.size + 2) (recC Q0 u11) (by omega)
        replace X12 := X12.setRow_other (w.heap.size + 2) (recC Q0 u11) (by omega)
        replace U11 := told_setRow U11 Y1 (noIt_rec _ _) (recC Q0 u11)
        replace U12 := told_setRow U12 Y1 (noIt_rec _ _) (recC Q0 u11)
        replace B1 := bel_setRow B1 (show w.heap.size ≤ w.heap.size + 2 by omega) (recC Q0 u11)
        replace Z1 := Z1.setRow_other (w.heap.size + 2) (recC Q0 u11) (by omega)
        replace Y1 := Y1.setRow (recC Q0 u11)
        refine wpAnyH_ready (rs := [3]) (by kernel_rfl) (by simp) ?_
        refine AllReadyH.cons rfl (fun K hK => ?_) ?_
        rotate_left
        · exact AllReadyH.nil
        rw [if_pos (by rfl)]
        refine wp_store_row 27 _ _ rfl (w.heap.size + 3) (recC Q1 u12) rfl rfl 27 (recC zeroR (.slice none 0 0)) Z1 infoRec rfl (rec_one o12) ?_
        refine hK.out _ _ ?_ (fun hHeld => ?_)
        · exact ⟨(X11.setRow_other _ _ (by omega)).cell 0, (X11.setRow_other _ _ (by omega)).cell 1, (X11.setRow_other _ _ (by omega)).cell 2, (X11.setRow_other _ _ (by omega)).cell 3, (X11.setRow_other _ _ (by omega)).cell 4, (X12.setRow_other _ _ (by omega)).cell 0, (X12.setRow_other _ _ (by omega)).cell 1, (X12.setRow_other _ _ (by omega)).cell 2, (X12.setRow_other _ _ (by omega)).cell 3, (X12.setRow_other _ _ (by omega)).cell 4⟩
        clear hK K
        (try simp only [Act.put]); (try simp only [List.setIfInBounds_toArray]); (try simp only [List.set_cons_succ]); (try simp only [List.set_cons_zero])
        replace X11 := X11.setRow_other (w.heap.size + 3) (recC Q1 u12) (by omega)
        replace X12 := X12.setRow_other (w.heap.size + 3) (recC Q1 u12) (by omega)
        replace U11 := told_setRow U11 Z1 (noIt_rec _ _) (recC Q1 u12)
        replace U12 := told_setRow U12 Z1 (noIt_rec _ _) (recC Q1 u12)
        replace B1 := bel_setRow B1 (show w.heap.size ≤ w.heap.size + 3 by omega) (recC Q1 u12)
        replace Y1 := Y1.setRow_other (w.heap.size + 3) (recC Q1 u12) (by omega)
        replace Z1 := Z1.setRow (recC Q1 u12)
        refine wpAnyH_take (i := 4) (v := ?_) rfl (by kernel_rfl) (by kernel_rfl) (by kernel_rfl) (fun _ _ _ h => h) (Or.inl ⟨by rfl, ?_⟩) (by assumption) ?_
        rotate_left
        · intro w9 hSw
          (try dsimp only at hSw)
          go_simp
          (try with_reducible rfl)
        (try simp only [Act.put]); (try simp only [List.setIfInBounds_toArray]); (try simp only [List.set_cons_succ]); (try simp only [List.set_cons_zero])
        iterate 5
          (try dsimp only [List.getElem_toArray, List.getElem_cons_succ, List.getElem_cons_zero])
          (try simp only [Act.put]); (try simp only [List.setIfInBounds_toArray]); (try simp only [List.set_cons_succ]); (try simp only [List.set_cons_zero])
        refine wpAnyH_done (by kernel_rfl) ?_ _
        go_wp2
        exact bodyPost_ret (results_rec3 Try.results26 _ _ (w.heap.size + 2) (w.heap.size + 3) Q0 Q1 u11 u12 _ rfl rfl rfl Y1 Z1) rfl ⟨u11, u12, rfl, U11, U12, B1⟩
/-- the document's Halves -/
theorem refhalves_any {r : Rc} {u : Value} {n : Int} {b : Nat} {w : World} (hT : Told w u r.items) (hW : r.Wf) (hl : r.items.length ≤ 1000000) (hb : b < 18446744073709551616) :
    Calls Try.prog 26 #[.agg (recC r u), .agg (labc n b)] w (TellsH w (halvesA r n b) (halvesB r n b) (halvesE r n b)) := by
  have no : ∀ m : Nat, m ≠ 0 → halvesE r n b = m → (Calls Try.prog 26 #[.agg (recC r u), .agg (labc n b)] w fun e w' => e = .returned (.tuple #[.agg (recC zeroR (.slice none 0 0)), .agg (recC zeroR (.slice none 0 0)), .int .i64 (m : Int)]) ∧ Below w.heap.size w w') →
      Calls Try.prog 26 #[.agg (recC r u), .agg (labc n b)] w (TellsH w (halvesA r n b) (halvesB r n b) (halvesE r n b)) := by
    intro m h0 hE h
    have hA : halvesA r n b = zeroR := by unfold halvesA; rw [hE, if_neg h0]
    have hB : halvesB r n b = zeroR := by unfold halvesB; rw [hE, if_neg h0]
    rw [hE, hA, hB]
    refine h.mono ?_
    rintro e w' ⟨he, hb⟩
    exact ⟨_, _, he, told_nil _, told_nil _, hb⟩
  cases hr : isR r
  · exact no 1 (by decide) (by simp [halvesE, hr]) (refhal_a hT hW hl hb hr)
  cases hq : isB n b
  · exact no 1 (by decide) (by simp [halvesE, hr, hq]) (refhal_b hT hW hl hb hr hq)
  by_cases hs : (covL r.items n b).length < r.items.length
  · exact no 1 (by decide) (by simp [halvesE, hr, hq, hs]) (refhal_cov hT hW hl hb hr hq hs)
  have hs' : (covL r.items n b).length = r.items.length := by have := those_le r.items (coversB n b); unfold covL at *; omega
  by_cases hk : r.kind ≠ 1 ∧ r.kind ≠ 3
  · exact no 13 (by decide) (by unfold halvesE; rw [if_neg (by simp [hr]), if_neg (by simp [hq]), if_neg hs, if_pos hk]) (refhal_kind hT hW hl hb hr hq hs' hk)
  by_cases hf : n = 64
  · exact no 5 (by decide) (by unfold halvesE; rw [if_neg (by simp [hr]), if_neg (by simp [hq]), if_neg hs, if_neg hk, if_pos hf]) (refhal_full hT hW hl hb hr hq hs' (by omega) hf)
  · have hlen := isB_len hq
    have hE : halvesE r n b = 0 := by unfold halvesE; rw [if_neg (by simp [hr]), if_neg (by simp [hq]), if_neg hs, if_neg hk, if_neg hf]
    have hA : halvesA r n b = half0 r n.toNat b := by unfold halvesA; rw [hE, if_pos rfl]
    have hB : halvesB r n b = half1 r n.toNat b := by unfold halvesB; rw [hE, if_pos rfl]
    rw [hE, hA, hB]
    obtain ⟨nn, rfl⟩ := Int.eq_ofNat_of_zero_le hlen.1
    rw [Int.toNat_natCast]
    exact refhal_ok hT hW hl hb hr hq hs' (by omega) rfl (by omega) rfl rfl rfl rfl
end Go.Proofs.Ytkicndengkcojaa
