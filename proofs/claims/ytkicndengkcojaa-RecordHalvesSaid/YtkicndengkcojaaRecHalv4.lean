/- A record halved: Halves, of any record and label. -/
import Derived.Test.YtkicndengkcojaaRecHalv3
import Derived.Test.YtkicndengkcojaaRecRes3
import Derived.Test.YtkicndengkcojaaRecHalvDef
namespace Go.Proofs.Ytkicndengkcojaa
set_option maxRecDepth 100000
open Go Go.RowKit Go.Sort

theorem halvg_any {r : Rc} {u : Value} {n : Int} {b : Nat} {w : World} {g j : Nat} (hg : Blk w g (recC r u) 27) (hj : Blk w j (labc n b) 25) (hT : Told w u r.items) (hW : r.Wf) (hl : r.items.length ≤ 1000000) (hn : -9223372036854775808 ≤ n ∧ n ≤ 9223372036854775807) (hb : b < 18446744073709551616) :
    Calls Try.prog 63 #[.func (.func 64) #[] #[.pointer (some ⟨g, 0, none⟩), .pointer (some ⟨j, 0, none⟩)]] w fun e w' => ∃ u v, e = .returned (.tuple #[.agg (two (halvesA r n b) u (halvesB r n b) v), .int .i64 (halvesE r n b : Int)]) ∧ Told w' u (halvesA r n b).items ∧ Told w' v (halvesB r n b).items ∧ Below w.heap.size w w' := by
  obtain ⟨a, c, rfl⟩ := told_shape hT
  have no : ∀ m : Nat, m ≠ 0 → halvesE r n b = m → (∀ w1, Below w.heap.size w w1 → Calls Try.prog 64 #[.pointer (some ⟨g, 0, none⟩), .pointer (some ⟨j, 0, none⟩)] w1 fun e w' => e = Pan m ∧ Below w1.heap.size w1 w') →
      Calls Try.prog 63 #[.func (.func 64) #[] #[.pointer (some ⟨g, 0, none⟩), .pointer (some ⟨j, 0, none⟩)]] w fun e w' => ∃ u v, e = .returned (.tuple #[.agg (two (halvesA r n b) u (halvesB r n b) v), .int .i64 (halvesE r n b : Int)]) ∧ Told w' u (halvesA r n b).items ∧ Told w' v (halvesB r n b).items ∧ Below w.heap.size w w' := by
    intro m h0 hE h
    have hA : halvesA r n b = zeroR := by unfold halvesA; rw [hE, if_neg h0]
    have hB : halvesB r n b = zeroR := by unfold halvesB; rw [hE, if_neg h0]
    rw [hE, hA, hB]
    refine (guardHalves_no _ m w h).mono ?_
    rintro e w' ⟨he, hb⟩
    exact ⟨_, _, he, told_nil _, told_nil _, hb⟩
  cases hr : isR r
  · exact no 1 (by decide) (by simp [halvesE, hr]) fun w1 hb1 => halvc_a (hg.below hb1 hg.lt) (hj.below hb1 hj.lt) (hT.bel hb1) hW hl hn hb hr
  cases hq : isB n b
  · exact no 1 (by decide) (by simp [halvesE, hr, hq]) fun w1 hb1 => halvc_b (hg.below hb1 hg.lt) (hj.below hb1 hj.lt) (hT.bel hb1) hW hl hn hb hr hq
  by_cases hs : (covL r.items n b).length < r.items.length
  · exact no 1 (by decide) (by simp [halvesE, hr, hq, hs]) fun w1 hb1 => halvc_cov (hg.below hb1 hg.lt) (hj.below hb1 hj.lt) (hT.bel hb1) hW hl hn hb hr hq hs
  by_cases hk : r.kind ≠ 1 ∧ r.kind ≠ 3
  · exact no 13 (by decide) (by unfold halvesE; rw [if_neg (by simp [hr]), if_neg (by simp [hq]), if_neg hs, if_pos hk]) fun w1 hb1 => halvc_kind (hg.below hb1 hg.lt) (hj.below hb1 hj.lt) (hT.bel hb1) hW hl hn hb hr hq hs hk
  by_cases hf : n = 64
  · exact no 5 (by decide) (by unfold halvesE; rw [if_neg (by simp [hr]), if_neg (by simp [hq]), if_neg hs, if_neg hk, if_pos hf]) fun w1 hb1 => halvc_full (hg.below hb1 hg.lt) (hj.below hb1 hj.lt) (hT.bel hb1) hW hl hn hb hr hq hs (by omega) hf
  · have hlen := isB_len hq
    have hE : halvesE r n b = 0 := by unfold halvesE; rw [if_neg (by simp [hr]), if_neg (by simp [hq]), if_neg hs, if_neg hk, if_neg hf]
    have hA : halvesA r n b = half0 r n.toNat b := by unfold halvesA; rw [hE, if_pos rfl]
    have hB : halvesB r n b = half1 r n.toNat b := by unfold halvesB; rw [hE, if_pos rfl]
    rw [hE, hA, hB]
    obtain ⟨nn, rfl⟩ := Int.eq_ofNat_of_zero_le hlen.1
    rw [Int.toNat_natCast]
    exact guardHalves_ok _ (half0 r nn b) (half1 r nn b) w fun w1 hb1 => halvc_ok (nn := nn) (hg.below hb1 hg.lt) (hj.below hb1 hj.lt) (hT.bel hb1) hW hl hn hb hr hq hs (by omega) rfl (by omega) rfl rfl rfl rfl
theorem two_new {w1 : World} {r q : Rc} {u v : Value} (T : Told w1 u r.items) (S : Told w1 v q.items) :
    Blk ((w1.alloc (.cells (two zeroR (.slice none 0 0) zeroR (.slice none 0 0)) 90)).setRow w1.heap.size (two r u q v)) w1.heap.size (two r u q v) 90 ∧
    Told ((w1.alloc (.cells (two zeroR (.slice none 0 0) zeroR (.slice none 0 0)) 90)).setRow w1.heap.size (two r u q v)) u r.items ∧
    Told ((w1.alloc (.cells (two zeroR (.slice none 0 0) zeroR (.slice none 0 0)) 90)).setRow w1.heap.size (two r u q v)) v q.items ∧
    Below w1.heap.size w1 ((w1.alloc (.cells (two zeroR (.slice none 0 0) zeroR (.slice none 0 0)) 90)).setRow w1.heap.size (two r u q v)) := by
  have Z := Blk.new w1 (two zeroR (.slice none 0 0) zeroR (.slice none 0 0)) 90
  have B := bel_setRow ((Below.refl w1.heap.size w1).alloc (Nat.le_refl _) (.cells (two zeroR (.slice none 0 0) zeroR (.slice none 0 0)) 90)) (Nat.le_refl _) (two r u q v)
  exact ⟨Z.setRow _, T.bel B, S.bel B, B⟩
set_option maxHeartbeats 4000000 in
theorem halves_any {r : Rc} {u : Value} {n : Int} {b : Nat} {w : World} (hT : Told w u r.items) (hW : r.Wf) (hl : r.items.length ≤ 1000000) (hn : -9223372036854775808 ≤ n ∧ n ≤ 9223372036854775807) (hb : b < 18446744073709551616) :
    Calls Try.prog 25 #[.agg (recC r u), .agg (labc n b)] w (TellsH w (halvesA r n b) (halvesB r n b) (halvesE r n b)) := by
  have hmf : ∀ (fn : Fn) (first cap : Array Value) (w : World), (Instr.makeFunc fn first cap).run Try.prog w = .ok (.func fn first cap) w := fun _ _ _ _ => rfl
  obtain ⟨w1, h1⟩ : ∃ w1, w1 = w.alloc (.cells (recC r u) 27) := ⟨_, rfl⟩
  obtain ⟨w2, h2⟩ : ∃ w2, w2 = w1.alloc (.cells (labc n b) 25) := ⟨_, rfl⟩
  obtain ⟨w3, h3⟩ : ∃ w3, w3 = w2.alloc (.cells (recC zeroR (.slice none 0 0)) 27) := ⟨_, rfl⟩
  obtain ⟨w4, h4⟩ : ∃ w4, w4 = w3.alloc (.cells (recC zeroR (.slice none 0 0)) 27) := ⟨_, rfl⟩
  have s1 : w1.heap.size = w.heap.size + 1 := by rw [h1]; simp
  have s2 : w2.heap.size = w.heap.size + 2 := by rw [h2]; simp [s1]
  have s3 : w3.heap.size = w.heap.size + 3 := by rw [h3]; simp [s2]
  have s4 : w4.heap.size = w.heap.size + 4 := by rw [h4]; simp [s3]
  have b1 : Below w.heap.size w w1 := h1 ▸ (Below.refl _ _).alloc (Nat.le_refl _) _
  have b2 : Below w.heap.size w w2 := h2 ▸ b1.alloc b1.size _
  have b3 : Below w.heap.size w w3 := h3 ▸ b2.alloc b2.size _
  have b4 : Below w.heap.size w w4 := h4 ▸ b3.alloc b3.size _
  have hg : Blk w4 w.heap.size (recC r u) 27 := by
    rw [h4, h3, h2]; exact (((h1 ▸ Blk.new w _ _ : Blk w1 w.heap.size (recC r u) 27).alloc _).alloc _).alloc _
  have hj : Blk w4 (w.heap.size + 1) (labc n b) 25 := by
    rw [h4, h3]; exact ((s1 ▸ (h2 ▸ Blk.new w1 _ _ : Blk w2 w1.heap.size (labc n b) 25) : Blk w2 (w.heap.size + 1) (labc n b) 25).alloc _).alloc _
  have Z1 : Blk w4 (w.heap.size + 2) (recC zeroR (.slice none 0 0)) 27 := by
    rw [h4]; exact (s2 ▸ (h3 ▸ Blk.new w2 _ _ : Blk w3 w2.heap.size (recC zeroR (.slice none 0 0)) 27) : Blk w3 (w.heap.size + 2) (recC zeroR (.slice none 0 0)) 27).alloc _
  have Z2 : Blk w4 (w.heap.size + 3) (recC zeroR (.slice none 0 0)) 27 := s3 ▸ (h4 ▸ Blk.new w3 _ _ : Blk w4 w3.heap.size (recC zeroR (.slice none 0 0)) 27)
  have HG := Lib.hid (halvg_any hg hj (hT.bel b4) hW hl hn hb)
  have hW4 : (((w.alloc (.cells (recC r u) 27)).alloc (.cells (labc n b) 25)).alloc (.cells (recC zeroR (.slice none 0 0)) 27)).alloc (.cells (recC zeroR (.slice none 0 0)) 27) = w4 := by rw [h4, h3, h2, h1]
  clear hT hW hl h1 h2 h3 h4 s1 s2 s3 b1 b2 b3 hg hj hn hb
  generalize halvesA r n b = VA at *
  generalize halvesB r n b = VB at *
  generalize halvesE r n b = E at *
  go_enter Try.func25, Try.ntmps25
  go_upto_region 1 with (fail)
  rw [zero_rec]
  first
    | rw [hW4]
    | (simp only [recC] at hW4; simp only [recC]; rw [hW4])
  clear hW4
  go_upto_region 2 with (first
    | (go_at_call 63; (with_reducible refine HG.out.mono ?_); rintro e w5 ⟨u1, u2, rfl, U1, U2, hb5⟩; have o1 := told_one U1; have o2 := told_one U2)
    | (refine p_storeT rfl _ _ rfl w5.heap.size rfl VA u1 VB u2 rfl o1 o2 zeroR (.slice none 0 0) zeroR (.slice none 0 0) (Blk.new _ _ _) ?_))
  try rw [zero_two]
  obtain ⟨D, T1, T2, b6⟩ := two_new U1 U2
  replace b6 := rstep hb5 b6
  replace Z1 := Z1.below b6 Z1.lt
  replace Z2 := Z2.below b6 Z2.lt
  have B := rstep b4 b6
  have hsz := hb5.size
  clear U1 U2 hb5 b4 HG b6
  generalize hg7 : w5.heap.size = g7 at *
  generalize (w5.alloc _).setRow _ _ = W5 at *
  refine wp_region_held_drew (S := (fun w9 => w9.cell? ⟨g7, 0, none⟩ = some (.int .i64 VA.kind) ∧ w9.cell? ⟨g7, 1, none⟩ = some (u1) ∧ w9.cell? ⟨g7, 2, none⟩ = some (.int .i64 VA.nl) ∧ w9.cell? ⟨g7, 3, none⟩ = some (.int .u64 (VA.nb : Int)) ∧ w9.cell? ⟨g7, 4, none⟩ = some (.int .u64 (VA.mark : Int)) ∧ w9.cell? ⟨g7, 5, none⟩ = some (.int .i64 VB.kind) ∧ w9.cell? ⟨g7, 6, none⟩ = some (u2) ∧ w9.cell? ⟨g7, 7, none⟩ = some (.int .i64 VB.nl) ∧ w9.cell? ⟨g7, 8, none⟩ = some (.int .u64 (VB.nb : Int)) ∧ w9.cell? ⟨g7, 9, none⟩ = some (.int .u64 (VB.mark : Int)))) (by kernel_rfl) ?_ (fun hHeld => ?_)
  · exact ⟨(D.below (rdrew _) D.lt).cell 0, (D.below (rdrew _) D.lt).cell 1, (D.below (rdrew _) D.lt).cell 2, (D.below (rdrew _) D.lt).cell 3, (D.below (rdrew _) D.lt).cell 4, (D.below (rdrew _) D.lt).cell 5, (D.below (rdrew _) D.lt).cell 6, (D.below (rdrew _) D.lt).cell 7, (D.below (rdrew _) D.lt).cell 8, (D.below (rdrew _) D.lt).cell 9⟩
  have hB := rdrew W5
  replace Z1 := Z1.below hB Z1.lt
  replace Z2 := Z2.below hB Z2.lt
  replace T1 := T1.bel hB
  replace T2 := T2.bel hB
  replace B := rstep B hB
  replace D := D.below hB D.lt
  generalize W5.drew = y0 at *
  refine wpAnyH_take (i := 0) (v := ?_) rfl (by kernel_rfl) (by kernel_rfl) (by kernel_rfl) (fun _ _ _ h => h) (Or.inl ⟨by rfl, ?_⟩) (by assumption) ?_
  rotate_left
  · intro w9 hSw
    (try dsimp only at hSw)
    go_simp
    (try with_reducible rfl)
  (try simp only [Act.put]); (try simp only [List.setIfInBounds_toArray]); (try simp only [List.set_cons_succ]); (try simp only [List.set_cons_zero])
  refine wpAnyH_take (i := 1) (v := ?_) rfl (by kernel_rfl) (by kernel_rfl) (by kernel_rfl) (fun _ _ _ h => h) (Or.inl ⟨by rfl, ?_⟩) (by assumption) ?_
  rotate_left
  · intro w9 hSw
    (try dsimp only at hSw)
    go_simp
    (try with_reducible rfl)
  (try simp only [Act.put]); (try simp only [List.setIfInBounds_toArray]); (try simp only [List.set_cons_succ]); (try simp only [List.set_cons_zero])
  refine wpAnyH_take (i := 2) (v := ?_) rfl (by kernel_rfl) (by kernel_rfl) (by kernel_rfl) (fun _ _ _ h => h) (Or.inl ⟨by rfl, ?_⟩) (by assumption) ?_
  rotate_left
  · intro w9 hSw
    (try dsimp only at hSw)
    go_simp
    (try with_reducible rfl)
  (try simp only [Act.put]); (try simp only [List.setIfInBounds_toArray]); (try simp only [List.set_cons_succ]); (try simp only [List.set_cons_zero])
  refine wpAnyH_take (i := 3) (v := ?_) rfl (by kernel_rfl) (by kernel_rfl) (by kernel_rfl) (fun _ _ _ h => h) (Or.inl ⟨by rfl, ?_⟩) (by assumption) ?_
  rotate_left
  · intro w9 hSw
    (try dsimp only at hSw)
    go_simp
    (try with_reducible rfl)
  (try simp only [Act.put]); (try simp only [List.setIfInBounds_toArray]); (try simp only [List.set_cons_succ]); (try simp only [List.set_cons_zero])
  refine wpAnyH_take (i := 4) (v := ?_) rfl (by kernel_rfl) (by kernel_rfl) (by kernel_rfl) (fun _ _ _ h => h) (Or.inl ⟨by rfl, ?_⟩) (by assumption) ?_
  rotate_left
  · intro w9 hSw
    (try dsimp only at hSw)
    go_simp
    (try with_reducible rfl)
  (try simp only [Act.put]); (try simp only [List.setIfInBounds_toArray]); (try simp only [List.set_cons_succ]); (try simp only [List.set_cons_zero])
  refine wpAnyH_ready (rs := [5]) (by kernel_rfl) (by simp) ?_
  refine AllReadyH.cons rfl (fun K hK => ?_) ?_
  rotate_left
  · exact AllReadyH.nil
  rw [if_pos (by rfl)]
  refine wp_store_row 27 _ _ rfl (w.heap.size + 2) (recC VA u1) rfl rfl 27 (recC zeroR (.slice none 0 0)) Z1 infoRec rfl (rec_one o1) ?_
  refine hK.out _ _ ?_ (fun hHeld => ?_)
  · exact ⟨(D.setRow_other _ _ (by omega)).cell 0, (D.setRow_other _ _ (by omega)).cell 1, (D.setRow_other _ _ (by omega)).cell 2, (D.setRow_other _ _ (by omega)).cell 3, (D.setRow_other _ _ (by omega)).cell 4, (D.setRow_other _ _ (by omega)).cell 5, (D.setRow_other _ _ (by omega)).cell 6, (D.setRow_other _ _ (by omega)).cell 7, (D.setRow_other _ _ (by omega)).cell 8, (D.setRow_other _ _ (by omega)).cell 9⟩
  clear hK K
  (try simp only [Act.put]); (try simp only [List.setIfInBounds_toArray]); (try simp only [List.set_cons_succ]); (try simp only [List.set_cons_zero])
  replace D := D.setRow_other (w.heap.size + 2) (recC VA u1) (by omega)
  replace T1 := told_setRow T1 Z1 (noIt_rec _ _) (recC VA u1)
  replace T2 := told_setRow T2 Z1 (noIt_rec _ _) (recC VA u1)
  replace B := bel_setRow B (show w.heap.size ≤ w.heap.size + 2 by omega) (recC VA u1)
  replace Z2 := Z2.setRow_other (w.heap.size + 2) (recC VA u1) (by omega)
  replace Z1 := Z1.setRow (recC VA u1)
  refine wpAnyH_ready (rs := [6]) (by kernel_rfl) (by simp) ?_
  refine AllReadyH.cons rfl (fun K hK => ?_) ?_
  rotate_left
  · exact AllReadyH.nil
  rw [if_pos (by rfl)]
  refine wp_store_row 27 _ _ rfl (w.heap.size + 3) (recC VB u2) rfl rfl 27 (recC zeroR (.slice none 0 0)) Z2 infoRec rfl (rec_one o2) ?_
  refine hK.out _ _ ?_ (fun hHeld => ?_)
  · exact ⟨(D.setRow_other _ _ (by omega)).cell 0, (D.setRow_other _ _ (by omega)).cell 1, (D.setRow_other _ _ (by omega)).cell 2, (D.setRow_other _ _ (by omega)).cell 3, (D.setRow_other _ _ (by omega)).cell 4, (D.setRow_other _ _ (by omega)).cell 5, (D.setRow_other _ _ (by omega)).cell 6, (D.setRow_other _ _ (by omega)).cell 7, (D.setRow_other _ _ (by omega)).cell 8, (D.setRow_other _ _ (by omega)).cell 9⟩
  clear hK K
  (try simp only [Act.put]); (try simp only [List.setIfInBounds_toArray]); (try simp only [List.set_cons_succ]); (try simp only [List.set_cons_zero])
  replace D := D.setRow_other (w.heap.size + 3) (recC VB u2) (by omega)
  replace T1 := told_setRow T1 Z2 (noIt_rec _ _) (recC VB u2)
  replace T2 := told_setRow T2 Z2 (noIt_rec _ _) (recC VB u2)
  replace B := bel_setRow B (show w.heap.size ≤ w.heap.size + 3 by omega) (recC VB u2)
  replace Z1 := Z1.setRow_other (w.heap.size + 3) (recC VB u2) (by omega)
  replace Z2 := Z2.setRow (recC VB u2)
  refine wpAnyH_take (i := 7) (v := ?_) rfl (by kernel_rfl) (by kernel_rfl) (by kernel_rfl) (fun _ _ _ h => h) (Or.inl ⟨by rfl, ?_⟩) (by assumption) ?_
  rotate_left
  · intro w9 hSw
    (try dsimp only at hSw)
    go_simp
    (try with_reducible rfl)
  (try simp only [Act.put]); (try simp only [List.setIfInBounds_toArray]); (try simp only [List.set_cons_succ]); (try simp only [List.set_cons_zero])
  iterate 5
    (try dsimp only [List.getElem_toArray, List.getElem_cons_succ, List.getElem_cons_zero])
    (try simp only [Act.put]); (try simp only [List.setIfInBounds_toArray]); (try simp only [List.set_cons_succ]); (try simp only [List.set_cons_zero])
  refine wpAnyH_done (by kernel_rfl) ?_ _
  go_wp2
  exact bodyPost_ret (results_rec3 Try.results25 _ _ (w.heap.size + 2) (w.heap.size + 3) VA VB u1 u2 _ rfl rfl rfl Z1 Z2) rfl ⟨u1, u2, rfl, T1, T2, B⟩
end Go.Proofs.Ytkicndengkcojaa
