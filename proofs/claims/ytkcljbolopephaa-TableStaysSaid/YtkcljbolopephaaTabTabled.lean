/- The document's example of a table. -/
import Derived.Test.YtkcljbolopephaaTabEx
import Derived.Test.YtkcljbolopephaaTabKit
import Derived.Deep.CutRange
namespace Go.Proofs.Ytkcljbolopephaa
set_option maxRecDepth 100000
open Go Go.RowKit Go.Sort

theorem o_slice3 {o : Oper} {a : Act} {w : World} {K : Act → World → Prop} {Q : Exit → Act → World → Prop} (x y z : Operand) (ho : o.op = .buildSlice 26 3 #[(0, x), (1, y), (2, z)])
    (p q r : Pe) (hx : a.eval x = .agg (peA p)) (hy : a.eval y = .agg (peA q)) (hz : a.eval z = .agg (peA r)) (h : K (a.put o.dst (.slice (some ⟨w.heap.size, 0, none⟩) 3 3)) (w.alloc (.cells (flat [p, q, r]).toArray 25))) : o.wp Try.prog a w K Q := by
  unfold Oper.wp execOp
  simp only [ho, List.map_toArray, List.map_cons, List.map_nil, hx, hy, hz, Sem.run_bind, run_slice3 p.1 q.1 r.1 p.2 q.2 r.2 w, Sem.run_pure, Result.andThen_ok]
  exact h
/-- a variable that holds a table -/
def TV (g : Nat) (w wx : World) (v : Value) (p : Pe) (S F : List Pe) : Prop := ∃ x r1 r2, v = .pointer (some ⟨x, 0, none⟩) ∧ TB wx x s1 p r1 r2 ∧ Lies wx r1 S ∧ Lies wx r2 F ∧ Below g w wx
theorem f4_3' : F4[3]? = some (2, 20) := by decide +kernel
theorem f4_4' : F4[4]? = some (-1, 0) := by decide +kernel
structure E10 (g g5 g6 g13 q9 q11 fb fo fc : Nat) (u5 v5 u6 r1 r2 : Value) (w wx : World) : Prop where
  bel : Below g w wx
  t6 : TB wx g6 s1 (3, 30) u6 (.slice (some ⟨fb, fo, none⟩) F4.length fc)
  t5 : TB wx g5 s1 (3, 30) u5 v5
  p9 : PB wx q9 (2, 20)
  p11 : PB wx q11 (3, 30)
  la : Lies wx u6 S2
  lb : Lies wx (.slice (some ⟨fb, fo, none⟩) F4.length fc) F4
  r3 : wx.rangeAt fb (fo + 3 * 21) (peC (2, 20))
  r4 : wx.rangeAt fb (fo + 4 * 21) (peC (-1, 0))
theorem E10.bel2 {g g5 g6 g13 q9 q11 fb fo fc : Nat} {u5 v5 u6 r1 r2 : Value} {w wx wy : World} (h : E10 g g5 g6 g13 q9 q11 fb fo fc u5 v5 u6 r1 r2 w wx) (hg : w.heap.size = g) (k : Below wx.heap.size wx wy) : E10 g g5 g6 g13 q9 q11 fb fo fc u5 v5 u6 r1 r2 w wy :=
  ⟨belTo hg h.bel k, h.t6.bel k, h.t5.bel k, h.p9.bel k, h.p11.bel k, h.la.bel k, h.lb.bel k, range_bel h.r3 k (range_lt h.r3 (pe_ne _)), range_bel h.r4 k (range_lt h.r4 (pe_ne _))⟩
structure F10 (g13 : Nat) (r1 r2 : Value) (wx : World) : Prop where
  t : TB wx g13 s1 (3, 30) r1 r2
  l1 : Lies wx r1 [(3, 30)]
  l2 : Lies wx r2 F0
theorem F10.bel2 {g13 : Nat} {r1 r2 : Value} {wx wy : World} (h : F10 g13 r1 r2 wx) (k : Below wx.heap.size wx wy) : F10 g13 r1 r2 wy := ⟨h.t.bel k, h.l1.bel k, h.l2.bel k⟩
theorem y_buildP {ops : Array Oper} {S : World → Prop} {op : Oper} {a : Act} (hw : Region.wanted op (yielded ops a.tmps) = true) (x y : Operand) (ho : op.op = .build 25 #[(0, x), (1, y)])
    (m : Int) (n : Nat) (hx : a.eval x = .int .i64 m) (hy : a.eval y = idv n) : YieldsIf Try.prog ops S op (.agg (peA (m, n))) a :=
  .inl ⟨hw, fun w _ => by
    have e := run_build (P := Try.prog) w 25 #[(0, .int .i64 m), (1, .agg (row (dig 20 n)))] _ (builtP m n)
    unfold execOp
    simp only [ho, List.map_toArray, List.map_cons, List.map_nil, hx, hy, Sem.run_bind, idv, e, Sem.run_pure, Result.andThen_ok]⟩
theorem k_ne {v : Value} {B x : Nat} (h : ∀ k, v.ownBlock = some k → B ≤ k) (hx : x < B) : v.ownBlock ≠ some x := fun e => by have := h x e; omega
set_option maxHeartbeats 8000000 in
theorem tabled_any (w : World) : Calls Try.prog 17 #[] w fun e w' => e = .returned (.bool true) ∧ Below w.heap.size w w' := by
  have hB0 := Below.refl w.heap.size w
  obtain ⟨g, hg⟩ : ∃ g, w.heap.size = g := ⟨_, rfl⟩
  rw [hg] at hB0
  go_enter Try.func17, Try.ntmps17
  go_upto_region 2 with (first
    | (go_at_call 53; (with_reducible refine (peer_1 _).mono ?_); rintro e w1 ⟨rfl, k1⟩; have b1 := belTo hg hB0 k1)
    | (go_at_call 11; (with_reducible refine (new_1 _).mono ?_); rintro e w2 ⟨f1, rfl, l2, k2⟩; have b2 := belTo hg b1 k2; obtain ⟨fa, fc, rfl⟩ := l2.form)
    | (refine p_storeT rfl rfl _ _ rfl rfl rfl rfl rfl ?_))
  have k3 := (Below.refl w2.heap.size w2).alloc (Nat.le_refl _) (.cells (tabA s1 (-1, 0) nilS (.slice fa F0.length fc)) 28)
  have hB := belTo hg b2 k3
  have L0 := l2.bel k3
  have T1 : TB (w2.alloc (.cells (tabA s1 (-1, 0) nilS (.slice fa F0.length fc)) 28)) w2.heap.size s1 (-1, 0) nilS (.slice fa F0.length fc) := Blk.new ..
  clear hB0 k1 b1 l2 k2 b2 k3
  generalize w2.heap.size = g1 at *
  generalize w2.alloc _ = W at *
  go_cut [3, 4] from 19 (fun v3 v4 wx => v4 = .int .i64 0 ∧ Hid (TV g w wx v3 (-1, 0) S2 F0))
  case first => as_aux_lemma =>
    refine wp_region_held_drew (S := (fun w9 => TB w9 g1 s1 (-1, 0) nilS (.slice fa F0.length fc))) (by kernel_rfl) ?_ (fun hHeld => ?_)
    · exact T1
    replace hB := belTo hg hB (drew_bel W)
    replace L0 := L0.bel (drew_bel W)
    replace T1 := T1.bel (drew_bel W)
    generalize World.drew W = W2 at *
    refine wpAnyH_take (i := 0) (oi := { dst := some 20, op := .load 28 (.tmp 1), type := 28, pos := "law.go:19", after := #[], guard := none }) (v := .agg (tabA s1 (-1, 0) nilS (.slice fa F0.length fc))) rfl (by kernel_rfl) (by kernel_rfl) (by kernel_rfl) (fun _ _ _ h => h) (y_midT (by rfl) (.tmp 1) rfl g1 rfl (fun _ h => h)) (by assumption) ?_
    (try simp only [Act.put]); (try simp only [List.setIfInBounds_toArray]); (try simp only [List.set_cons_succ]); (try simp only [List.set_cons_zero])
    iterate 2
      (try dsimp only [List.getElem_toArray, List.getElem_cons_succ, List.getElem_cons_zero])
      (try simp only [Act.put]); (try simp only [List.setIfInBounds_toArray]); (try simp only [List.set_cons_succ]); (try simp only [List.set_cons_zero])
    refine wpAnyH_ready (rs := [1, 10]) (by kernel_rfl) (by simp) ?_
    refine AllReadyH.cons rfl (fun K hK => ?_) ?_
    · go_simp
      go_wp2_with (go_at_call 53; (with_reducible refine (peer_2 _).mono ?_); rintro e y1 ⟨rfl, kk⟩)
      replace hB := belTo hg hB kk
      replace L0 := L0.bel kk
      replace T1 := T1.bel kk
      refine hK.out _ _ ?_ (fun hHeld => ?_)
      · exact T1
      clear hK K hHeld kk
      (try simp only [Act.put]); (try simp only [List.setIfInBounds_toArray]); (try simp only [List.set_cons_succ]); (try simp only [List.set_cons_zero])
      refine wpAnyH_ready (rs := [2, 10]) (by kernel_rfl) (by simp) ?_
      refine AllReadyH.cons rfl (fun K hK => ?_) ?_
      · go_simp
        go_wp2_with (go_at_call 53; (with_reducible refine (peer_3 _).mono ?_); rintro e y2 ⟨rfl, kk⟩)
        replace hB := belTo hg hB kk
        replace L0 := L0.bel kk
        replace T1 := T1.bel kk
        refine hK.out _ _ ?_ (fun hHeld => ?_)
        · exact T1
        clear hK K hHeld kk
        (try simp only [Act.put]); (try simp only [List.setIfInBounds_toArray]); (try simp only [List.set_cons_succ]); (try simp only [List.set_cons_zero])
        refine wpAnyH_ready (rs := [3, 10]) (by kernel_rfl) (by simp) ?_
        refine AllReadyH.cons rfl (fun K hK => ?_) ?_
        · go_simp
          go_wp2_with (go_at_call 53; (with_reducible refine (peer_1 _).mono ?_); rintro e y3 ⟨rfl, kk⟩)
          replace hB := belTo hg hB kk
          replace L0 := L0.bel kk
          replace T1 := T1.bel kk
          refine hK.out _ _ ?_ (fun hHeld => ?_)
          · exact T1
          clear hK K hHeld kk
          (try simp only [Act.put]); (try simp only [List.setIfInBounds_toArray]); (try simp only [List.set_cons_succ]); (try simp only [List.set_cons_zero])
          refine wpAnyH_ready (rs := [4, 10]) (by kernel_rfl) (by simp) ?_
          refine AllReadyH.cons rfl (fun K hK => ?_) ?_
          · go_simp
            go_wp2_with (go_at_call 53; (with_reducible refine (peer_4 _).mono ?_); rintro e y4 ⟨rfl, kk⟩)
            replace hB := belTo hg hB kk
            replace L0 := L0.bel kk
            replace T1 := T1.bel kk
            refine hK.out _ _ ?_ (fun hHeld => ?_)
            · exact T1
            clear hK K hHeld kk
            (try simp only [Act.put]); (try simp only [List.setIfInBounds_toArray]); (try simp only [List.set_cons_succ]); (try simp only [List.set_cons_zero])
            refine wpAnyH_ready (rs := [5, 10]) (by kernel_rfl) (by simp) ?_
            refine AllReadyH.cons rfl (fun K hK => ?_) ?_
            · rw [if_pos (by rfl)]
              have kk := (Below.refl y4.heap.size y4).alloc (Nat.le_refl _) (.cells (flat [(3, 30), (1, 10), (4, 40)]).toArray 25)
              have LZ : Lies (y4.alloc (.cells (flat [(3, 30), (1, 10), (4, 40)]).toArray 25)) (.slice (some ⟨y4.heap.size, 0, none⟩) 3 3) [(3, 30), (1, 10), (4, 40)] := .inr ⟨y4.heap.size, 0, 3, rfl, Nat.le_refl _, blk_range (Blk.new y4 (flat [(3, 30), (1, 10), (4, 40)]).toArray 25)⟩
              replace hB := belTo hg hB kk
              replace L0 := L0.bel kk
              replace T1 := T1.bel kk
              refine o_slice3 _ _ _ rfl (3, 30) (1, 10) (4, 40) rfl rfl rfl ?_
              refine hK.out _ _ ?_ (fun hHeld => ?_)
              · exact T1
              clear hK K hHeld kk
              (try simp only [Act.put]); (try simp only [List.setIfInBounds_toArray]); (try simp only [List.set_cons_succ]); (try simp only [List.set_cons_zero])
              generalize y4.heap.size = z at *
              generalize y4.alloc _ = y5 at *
              refine wpAnyH_ready (rs := [6, 10]) (by kernel_rfl) (by simp) ?_
              refine AllReadyH.cons rfl (fun K hK => ?_) ?_
              · go_simp
                go_wp2_with (go_at_call 13; (with_reducible refine (adopt_2 (lies_nil _) L0 LZ).mono ?_); rintro e y6 ⟨r1, r2, rfl, tw, kk⟩)
                have L1 := tw.l1
                have L2 := tw.l2
                clear tw
                replace hB := belTo hg hB kk
                replace T1 := T1.bel kk
                refine hK.out _ _ ?_ (fun hHeld => ?_)
                · exact T1
                clear hK K hHeld kk
                (try simp only [Act.put]); (try simp only [List.setIfInBounds_toArray]); (try simp only [List.set_cons_succ]); (try simp only [List.set_cons_zero])
                refine wpAnyH_take (i := 7) (v := ?_) rfl (by kernel_rfl) (by kernel_rfl) (by kernel_rfl) (fun _ _ _ h => h) (Or.inl ⟨by rfl, ?_⟩) (by assumption) ?_
                rotate_left
                · intro w9 hSw
                  (try dsimp only at hSw)
                  go_simp
                  (try with_reducible rfl)
                (try simp only [Act.put]); (try simp only [List.setIfInBounds_toArray]); (try simp only [List.set_cons_succ]); (try simp only [List.set_cons_zero])
                refine wpAnyH_take (i := 8) (v := ?_) rfl (by kernel_rfl) (by kernel_rfl) (by kernel_rfl) (fun _ _ _ h => h) (Or.inl ⟨by rfl, ?_⟩) (by assumption) ?_
                rotate_left
                · intro w9 hSw
                  (try dsimp only at hSw)
                  go_simp
                  (try with_reducible rfl)
                (try simp only [Act.put]); (try simp only [List.setIfInBounds_toArray]); (try simp only [List.set_cons_succ]); (try simp only [List.set_cons_zero])
                refine wpAnyH_take (i := 9) (v := ?_) rfl (by kernel_rfl) (by kernel_rfl) (by kernel_rfl) (fun _ _ _ h => h) (Or.inl ⟨by rfl, ?_⟩) (by assumption) ?_
                rotate_left
                · intro w9 hSw
                  (try dsimp only at hSw)
                  go_simp
                  (try with_reducible rfl)
                (try simp only [Act.put]); (try simp only [List.setIfInBounds_toArray]); (try simp only [List.set_cons_succ]); (try simp only [List.set_cons_zero])
                iterate 2
                  (try dsimp only [List.getElem_toArray, List.getElem_cons_succ, List.getElem_cons_zero])
                  (try simp only [Act.put]); (try simp only [List.setIfInBounds_toArray]); (try simp only [List.set_cons_succ]); (try simp only [List.set_cons_zero])
                refine wpAnyH_ready (rs := [10]) (by kernel_rfl) (by simp) ?_
                refine AllReadyH.cons rfl (fun K hK => ?_) ?_
                · go_simp
                  have kk := (Below.refl y6.heap.size y6).alloc (Nat.le_refl _) (.cells (tabA (0, 0) (0, 0) nilS nilS) 28)
                  have n_T1 := T1.lt
                  have X := TB.zero y6
                  have n0 := hB.size
                  have e1 := lies_block L1 (by decide) (Nat.le_refl y6.heap.size)
                  have e2 := lies_block L2 (by decide) (Nat.le_refl y6.heap.size)
                  replace hB := belTo hg hB kk
                  replace T1 := T1.bel kk
                  replace L1 := L1.bel kk
                  replace L2 := L2.bel kk
                  refine hK.out _ _ ?_ (fun hHeld => ?_)
                  · (try rw [tab_zero]); exact T1
                  clear hK K
                  try rw [tab_zero] at hHeld
                  (try simp only [Act.put]); (try simp only [List.setIfInBounds_toArray]); (try simp only [List.set_cons_succ]); (try simp only [List.set_cons_zero])
                  try rw [tab_zero]
                  clear hHeld kk
                  generalize y6.heap.size = x at *
                  generalize y6.alloc _ = y7 at *
                  refine wpAnyH_ready (rs := [11]) (by kernel_rfl) (by simp) ?_
                  refine AllReadyH.cons rfl (fun K hK => ?_) ?_
                  rotate_left
                  · exact AllReadyH.nil
                  rw [if_pos (by rfl)]
                  refine wp_store_row 28 _ _ rfl x (tabA s1 (-1, 0) r1 r2) rfl rfl 28 (tabA (0, 0) (0, 0) nilS nilS) X (by rw [tabA_size]; exact sizeT) (by rw [tabA_size, tabA_size]) (tabA_one (one_lies L1) (one_lies L2)) ?_
                  refine hK.out _ _ ?_ (fun hHeld => ?_)
                  · exact tb_row T1 _ (by omega)
                  clear hK K
                  (try simp only [Act.put]); (try simp only [List.setIfInBounds_toArray]); (try simp only [List.set_cons_succ]); (try simp only [List.set_cons_zero])
                  refine wpAnyH_take (i := 12) (v := ?_) rfl (by kernel_rfl) (by kernel_rfl) (by kernel_rfl) (fun _ _ _ h => h) (Or.inl ⟨by rfl, ?_⟩) (by assumption) ?_
                  rotate_left
                  · intro w9 hSw
                    (try dsimp only at hSw)
                    go_simp
                    (try with_reducible rfl)
                  (try simp only [Act.put]); (try simp only [List.setIfInBounds_toArray]); (try simp only [List.set_cons_succ]); (try simp only [List.set_cons_zero])
                  iterate 2
                    (try dsimp only [List.getElem_toArray, List.getElem_cons_succ, List.getElem_cons_zero])
                    (try simp only [Act.put]); (try simp only [List.setIfInBounds_toArray]); (try simp only [List.set_cons_succ]); (try simp only [List.set_cons_zero])
                  refine wpAnyH_done (by kernel_rfl) ?_ _
                  go_wp2
                  go_meet
                  exact ⟨rfl, x, r1, r2, rfl, X.set _ _ _ _, lies_set L1 (fun _ => e1) _, lies_set L2 (fun _ => e2) _, bel_setRow hB (by omega) _⟩
                exact AllReadyH.nil
              refine AllReadyH.cons rfl (fun K hK => ?_) ?_
              · go_simp
                have kk := (Below.refl y5.heap.size y5).alloc (Nat.le_refl _) (.cells (tabA (0, 0) (0, 0) nilS nilS) 28)
                have n_T1 := T1.lt
                have X := TB.zero y5
                have n0 := hB.size
                replace hB := belTo hg hB kk
                replace L0 := L0.bel kk
                replace T1 := T1.bel kk
                replace LZ := LZ.bel kk
                refine hK.out _ _ ?_ (fun hHeld => ?_)
                · (try rw [tab_zero]); exact T1
                clear hK K
                try rw [tab_zero] at hHeld
                (try simp only [Act.put]); (try simp only [List.setIfInBounds_toArray]); (try simp only [List.set_cons_succ]); (try simp only [List.set_cons_zero])
                try rw [tab_zero]
                clear hHeld kk
                generalize y5.heap.size = x at *
                generalize y5.alloc _ = y8 at *
                refine wpAnyH_ready (rs := [6]) (by kernel_rfl) (by simp) ?_
                refine AllReadyH.cons rfl (fun K hK => ?_) ?_
                · go_simp
                  go_wp2_with (go_at_call 13; (with_reducible refine (adopt_2 (lies_nil _) L0 LZ).mono ?_); rintro e y9 ⟨r1, r2, rfl, tw, kk⟩)
                  have L1 := tw.l1
                  have L2 := tw.l2
                  have e1 := k_ne tw.k1 X.lt
                  have e2 := k_ne tw.k2 X.lt
                  clear tw
                  replace hB := belTo hg hB kk
                  replace T1 := T1.bel kk
                  replace X := X.bel kk
                  refine hK.out _ _ ?_ (fun hHeld => ?_)
                  · exact T1
                  clear hK K hHeld kk
                  (try simp only [Act.put]); (try simp only [List.setIfInBounds_toArray]); (try simp only [List.set_cons_succ]); (try simp only [List.set_cons_zero])
                  refine wpAnyH_take (i := 7) (v := ?_) rfl (by kernel_rfl) (by kernel_rfl) (by kernel_rfl) (fun _ _ _ h => h) (Or.inl ⟨by rfl, ?_⟩) (by assumption) ?_
                  rotate_left
                  · intro w9 hSw
                    (try dsimp only at hSw)
                    go_simp
                    (try with_reducible rfl)
                  (try simp only [Act.put]); (try simp only [List.setIfInBounds_toArray]); (try simp only [List.set_cons_succ]); (try simp only [List.set_cons_zero])
                  refine wpAnyH_take (i := 8) (v := ?_) rfl (by kernel_rfl) (by kernel_rfl) (by kernel_rfl) (fun _ _ _ h => h) (Or.inl ⟨by rfl, ?_⟩) (by assumption) ?_
                  rotate_left
                  · intro w9 hSw
                    (try dsimp only at hSw)
                    go_simp
                    (try with_reducible rfl)
                  (try simp only [Act.put]); (try simp only [List.setIfInBounds_toArray]); (try simp only [List.set_cons_succ]); (try simp only [List.set_cons_zero])
                  refine wpAnyH_take (i := 9) (v := ?_) rfl (by kernel_rfl) (by kernel_rfl) (by kernel_rfl) (fun _ _ _ h => h) (Or.inl ⟨by rfl, ?_⟩) (by assumption) ?_
                  rotate_left
                  · intro w9 hSw
                    (try dsimp only at hSw)
                    go_simp
                    (try with_reducible rfl)
                  (try simp only [Act.put]); (try simp only [List.setIfInBounds_toArray]); (try simp only [List.set_cons_succ]); (try simp only [List.set_cons_zero])
                  iterate 2
                    (try dsimp only [List.getElem_toArray, List.getElem_cons_succ, List.getElem_cons_zero])
                    (try simp only [Act.put]); (try simp only [List.setIfInBounds_toArray]); (try simp only [List.set_cons_succ]); (try simp only [List.set_cons_zero])
                  refine wpAnyH_ready (rs := [11]) (by kernel_rfl) (by simp) ?_
                  refine AllReadyH.cons rfl (fun K hK => ?_) ?_
                  rotate_left
                  · exact AllReadyH.nil
                  rw [if_pos (by rfl)]
                  refine wp_store_row 28 _ _ rfl x (tabA s1 (-1, 0) r1 r2) rfl rfl 28 (tabA (0, 0) (0, 0) nilS nilS) X (by rw [tabA_size]; exact sizeT) (by rw [tabA_size, tabA_size]) (tabA_one (one_lies L1) (one_lies L2)) ?_
                  refine hK.out _ _ ?_ (fun hHeld => ?_)
                  · exact tb_row T1 _ (by omega)
                  clear hK K
                  (try simp only [Act.put]); (try simp only [List.setIfInBounds_toArray]); (try simp only [List.set_cons_succ]); (try simp only [List.set_cons_zero])
                  refine wpAnyH_take (i := 12) (v := ?_) rfl (by kernel_rfl) (by kernel_rfl) (by kernel_rfl) (fun _ _ _ h => h) (Or.inl ⟨by rfl, ?_⟩) (by assumption) ?_
                  rotate_left
                  · intro w9 hSw
                    (try dsimp only at hSw)
                    go_simp
                    (try with_reducible rfl)
                  (try simp only [Act.put]); (try simp only [List.setIfInBounds_toArray]); (try simp only [List.set_cons_succ]); (try simp only [List.set_cons_zero])
                  iterate 2
                    (try dsimp only [List.getElem_toArray, List.getElem_cons_succ, List.getElem_cons_zero])
                    (try simp only [Act.put]); (try simp only [List.setIfInBounds_toArray]); (try simp only [List.set_cons_succ]); (try simp only [List.set_cons_zero])
                  refine wpAnyH_done (by kernel_rfl) ?_ _
                  go_wp2
                  go_meet
                  exact ⟨rfl, x, r1, r2, rfl, X.set _ _ _ _, lies_set L1 (fun _ => e1) _, lies_set L2 (fun _ => e2) _, bel_setRow hB (by omega) _⟩
                exact AllReadyH.nil
              exact AllReadyH.nil
            refine AllReadyH.cons rfl (fun K hK => ?_) ?_
            · go_simp
              have kk := (Below.refl y4.heap.size y4).alloc (Nat.le_refl _) (.cells (tabA (0, 0) (0, 0) nilS nilS) 28)
              have n_T1 := T1.lt
              have X := TB.zero y4
              have n0 := hB.size
              replace hB := belTo hg hB kk
              replace L0 := L0.bel kk
              replace T1 := T1.bel kk
              refine hK.out _ _ ?_ (fun hHeld => ?_)
              · (try rw [tab_zero]); exact T1
              clear hK K
              try rw [tab_zero] at hHeld
              (try simp only [Act.put]); (try simp only [List.setIfInBounds_toArray]); (try simp only [List.set_cons_succ]); (try simp only [List.set_cons_zero])
              try rw [tab_zero]
              clear hHeld kk
              generalize y4.heap.size = x at *
              generalize y4.alloc _ = y10 at *
              refine wpAnyH_ready (rs := [5]) (by kernel_rfl) (by simp) ?_
              refine AllReadyH.cons rfl (fun K hK => ?_) ?_
              · rw [if_pos (by rfl)]
                have kk := (Below.refl y10.heap.size y10).alloc (Nat.le_refl _) (.cells (flat [(3, 30), (1, 10), (4, 40)]).toArray 25)
                have LZ : Lies (y10.alloc (.cells (flat [(3, 30), (1, 10), (4, 40)]).toArray 25)) (.slice (some ⟨y10.heap.size, 0, none⟩) 3 3) [(3, 30), (1, 10), (4, 40)] := .inr ⟨y10.heap.size, 0, 3, rfl, Nat.le_refl _, blk_range (Blk.new y10 (flat [(3, 30), (1, 10), (4, 40)]).toArray 25)⟩
                replace hB := belTo hg hB kk
                replace L0 := L0.bel kk
                replace T1 := T1.bel kk
                replace X := X.bel kk
                refine o_slice3 _ _ _ rfl (3, 30) (1, 10) (4, 40) rfl rfl rfl ?_
                refine hK.out _ _ ?_ (fun hHeld => ?_)
                · exact T1
                clear hK K hHeld kk
                (try simp only [Act.put]); (try simp only [List.setIfInBounds_toArray]); (try simp only [List.set_cons_succ]); (try simp only [List.set_cons_zero])
                generalize y10.heap.size = z at *
                generalize y10.alloc _ = y11 at *
                refine wpAnyH_ready (rs := [6]) (by kernel_rfl) (by simp) ?_
                refine AllReadyH.cons rfl (fun K hK => ?_) ?_
                · go_simp
                  go_wp2_with (go_at_call 13; (with_reducible refine (adopt_2 (lies_nil _) L0 LZ).mono ?_); rintro e y12 ⟨r1, r2, rfl, tw, kk⟩)
                  have L1 := tw.l1
                  have L2 := tw.l2
                  have e1 := k_ne tw.k1 X.lt
                  have e2 := k_ne tw.k2 X.lt
                  clear tw
                  replace hB := belTo hg hB kk
                  replace T1 := T1.bel kk
                  replace X := X.bel kk
                  refine hK.out _ _ ?_ (fun hHeld => ?_)
                  · exact T1
                  clear hK K hHeld kk
                  (try simp only [Act.put]); (try simp only [List.setIfInBounds_toArray]); (try simp only [List.set_cons_succ]); (try simp only [List.set_cons_zero])
                  refine wpAnyH_take (i := 7) (v := ?_) rfl (by kernel_rfl) (by kernel_rfl) (by kernel_rfl) (fun _ _ _ h => h) (Or.inl ⟨by rfl, ?_⟩) (by assumption) ?_
                  rotate_left
                  · intro w9 hSw
                    (try dsimp only at hSw)
                    go_simp
                    (try with_reducible rfl)
                  (try simp only [Act.put]); (try simp only [List.setIfInBounds_toArray]); (try simp only [List.set_cons_succ]); (try simp only [List.set_cons_zero])
                  refine wpAnyH_take (i := 8) (v := ?_) rfl (by kernel_rfl) (by kernel_rfl) (by kernel_rfl) (fun _ _ _ h => h) (Or.inl ⟨by rfl, ?_⟩) (by assumption) ?_
                  rotate_left
                  · intro w9 hSw
                    (try dsimp only at hSw)
                    go_simp
                    (try with_reducible rfl)
                  (try simp only [Act.put]); (try simp only [List.setIfInBounds_toArray]); (try simp only [List.set_cons_succ]); (try simp only [List.set_cons_zero])
                  refine wpAnyH_take (i := 9) (v := ?_) rfl (by kernel_rfl) (by kernel_rfl) (by kernel_rfl) (fun _ _ _ h => h) (Or.inl ⟨by rfl, ?_⟩) (by assumption) ?_
                  rotate_left
                  · intro w9 hSw
                    (try dsimp only at hSw)
                    go_simp
                    (try with_reducible rfl)
                  (try simp only [Act.put]); (try simp only [List.setIfInBounds_toArray]); (try simp only [List.set_cons_succ]); (try simp only [List.set_cons_zero])
                  iterate 2
                    (try dsimp only [List.getElem_toArray, List.getElem_cons_succ, List.getElem_cons_zero])
                    (try simp only [Act.put]); (try simp only [List.setIfInBounds_toArray]); (try simp only [List.set_cons_succ]); (try simp only [List.set_cons_zero])
                  refine wpAnyH_ready (rs := [11]) (by kernel_rfl) (by simp) ?_
                  refine AllReadyH.cons rfl (fun K hK => ?_) ?_
                  rotate_left
                  · exact AllReadyH.nil
                  rw [if_pos (by rfl)]
                  refine wp_store_row 28 _ _ rfl x (tabA s1 (-1, 0) r1 r2) rfl rfl 28 (tabA (0, 0) (0, 0) nilS nilS) X (by rw [tabA_size]; exact sizeT) (by rw [tabA_size, tabA_size]) (tabA_one (one_lies L1) (one_lies L2)) ?_
                  refine hK.out _ _ ?_ (fun hHeld => ?_)
                  · exact tb_row T1 _ (by omega)
                  clear hK K
                  (try simp only [Act.put]); (try simp only [List.setIfInBounds_toArray]); (try simp only [List.set_cons_succ]); (try simp only [List.set_cons_zero])
                  refine wpAnyH_take (i := 12) (v := ?_) rfl (by kernel_rfl) (by kernel_rfl) (by kernel_rfl) (fun _ _ _ h => h) (Or.inl ⟨by rfl, ?_⟩) (by assumption) ?_
                  rotate_left
                  · intro w9 hSw
                    (try dsimp only at hSw)
                    go_simp
                    (try with_reducible rfl)
                  (try simp only [Act.put]); (try simp only [List.setIfInBounds_toArray]); (try simp only [List.set_cons_succ]); (try simp only [List.set_cons_zero])
                  iterate 2
                    (try dsimp only [List.getElem_toArray, List.getElem_cons_succ, List.getElem_cons_zero])
                    (try simp only [Act.put]); (try simp only [List.setIfInBounds_toArray]); (try simp only [List.set_cons_succ]); (try simp only [List.set_cons_zero])
                  refine wpAnyH_done (by kernel_rfl) ?_ _
                  go_wp2
                  go_meet
                  exact ⟨rfl, x, r1, r2, rfl, X.set _ _ _ _, lies_set L1 (fun _ => e1) _, lies_set L2 (fun _ => e2) _, bel_setRow hB (by omega) _⟩
                exact AllReadyH.nil
              exact AllReadyH.nil
            exact AllReadyH.nil
          refine AllReadyH.cons rfl (fun K hK => ?_) ?_
          · go_simp
            have kk := (Below.refl y3.heap.size y3).alloc (Nat.le_refl _) (.cells (tabA (0, 0) (0, 0) nilS nilS) 28)
            have n_T1 := T1.lt
            have X := TB.zero y3
            have n0 := hB.size
            replace hB := belTo hg hB kk
            replace L0 := L0.bel kk
            replace T1 := T1.bel kk
            refine hK.out _ _ ?_ (fun hHeld => ?_)
            · (try rw [tab_zero]); exact T1
            clear hK K
            try rw [tab_zero] at hHeld
            (try simp only [Act.put]); (try simp only [List.setIfInBounds_toArray]); (try simp only [List.set_cons_succ]); (try simp only [List.set_cons_zero])
            try rw [tab_zero]
            clear hHeld kk
            generalize y3.heap.size = x at *
            generalize y3.alloc _ = y13 at *
            refine wpAnyH_ready (rs := [4]) (by kernel_rfl) (by simp) ?_
            refine AllReadyH.cons rfl (fun K hK => ?_) ?_
            · go_simp
              go_wp2_with (go_at_call 53; (with_reducible refine (peer_4 _).mono ?_); rintro e y14 ⟨rfl, kk⟩)
              replace hB := belTo hg hB kk
              replace L0 := L0.bel kk
              replace T1 := T1.bel kk
              replace X := X.bel kk
              refine hK.out _ _ ?_ (fun hHeld => ?_)
              · exact T1
              clear hK K hHeld kk
              (try simp only [Act.put]); (try simp only [List.setIfInBounds_toArray]); (try simp only [List.set_cons_succ]); (try simp only [List.set_cons_zero])
              refine wpAnyH_ready (rs := [5]) (by kernel_rfl) (by simp) ?_
              refine AllReadyH.cons rfl (fun K hK => ?_) ?_
              · rw [if_pos (by rfl)]
                have kk := (Below.refl y14.heap.size y14).alloc (Nat.le_refl _) (.cells (flat [(3, 30), (1, 10), (4, 40)]).toArray 25)
                have LZ : Lies (y14.alloc (.cells (flat [(3, 30), (1, 10), (4, 40)]).toArray 25)) (.slice (some ⟨y14.heap.size, 0, none⟩) 3 3) [(3, 30), (1, 10), (4, 40)] := .inr ⟨y14.heap.size, 0, 3, rfl, Nat.le_refl _, blk_range (Blk.new y14 (flat [(3, 30), (1, 10), (4, 40)]).toArray 25)⟩
                replace hB := belTo hg hB kk
                replace L0 := L0.bel kk
                replace T1 := T1.bel kk
                replace X := X.bel kk
                refine o_slice3 _ _ _ rfl (3, 30) (1, 10) (4, 40) rfl rfl rfl ?_
                refine hK.out _ _ ?_ (fun hHeld => ?_)
                · exact T1
                clear hK K hHeld kk
                (try simp only [Act.put]); (try simp only [List.setIfInBounds_toArray]); (try simp only [List.set_cons_succ]); (try simp only [List.set_cons_zero])
                generalize y14.heap.size = z at *
                generalize y14.alloc _ = y15 at *
                refine wpAnyH_ready (rs := [6]) (by kernel_rfl) (by simp) ?_
                refine AllReadyH.cons rfl (fun K hK => ?_) ?_
                · go_simp
                  go_wp2_with (go_at_call 13; (with_reducible refine (adopt_2 (lies_nil _) L0 LZ).mono ?_); rintro e y16 ⟨r1, r2, rfl, tw, kk⟩)
                  have L1 := tw.l1
                  have L2 := tw.l2
                  have e1 := k_ne tw.k1 X.lt
                  have e2 := k_ne tw.k2 X.lt
                  clear tw
                  replace hB := belTo hg hB kk
                  replace T1 := T1.bel kk
                  replace X := X.bel kk
                  refine hK.out _ _ ?_ (fun hHeld => ?_)
                  · exact T1
                  clear hK K hHeld kk
                  (try simp only [Act.put]); (try simp only [List.setIfInBounds_toArray]); (try simp only [List.set_cons_succ]); (try simp only [List.set_cons_zero])
                  refine wpAnyH_take (i := 7) (v := ?_) rfl (by kernel_rfl) (by kernel_rfl) (by kernel_rfl) (fun _ _ _ h => h) (Or.inl ⟨by rfl, ?_⟩) (by assumption) ?_
                  rotate_left
                  · intro w9 hSw
                    (try dsimp only at hSw)
                    go_simp
                    (try with_reducible rfl)
                  (try simp only [Act.put]); (try simp only [List.setIfInBounds_toArray]); (try simp only [List.set_cons_succ]); (try simp only [List.set_cons_zero])
                  refine wpAnyH_take (i := 8) (v := ?_) rfl (by kernel_rfl) (by kernel_rfl) (by kernel_rfl) (fun _ _ _ h => h) (Or.inl ⟨by rfl, ?_⟩) (by assumption) ?_
                  rotate_left
                  · intro w9 hSw
                    (try dsimp only at hSw)
                    go_simp
                    (try with_reducible rfl)
                  (try simp only [Act.put]); (try simp only [List.setIfInBounds_toArray]); (try simp only [List.set_cons_succ]); (try simp only [List.set_cons_zero])
                  refine wpAnyH_take (i := 9) (v := ?_) rfl (by kernel_rfl) (by kernel_rfl) (by kernel_rfl) (fun _ _ _ h => h) (Or.inl ⟨by rfl, ?_⟩) (by assumption) ?_
                  rotate_left
                  · intro w9 hSw
                    (try dsimp only at hSw)
                    go_simp
                    (try with_reducible rfl)
                  (try simp only [Act.put]); (try simp only [List.setIfInBounds_toArray]); (try simp only [List.set_cons_succ]); (try simp only [List.set_cons_zero])
                  iterate 2
                    (try dsimp only [List.getElem_toArray, List.getElem_cons_succ, List.getElem_cons_zero])
                    (try simp only [Act.put]); (try simp only [List.setIfInBounds_toArray]); (try simp only [List.set_cons_succ]); (try simp only [List.set_cons_zero])
                  refine wpAnyH_ready (rs := [11]) (by kernel_rfl) (by simp) ?_
                  refine AllReadyH.cons rfl (fun K hK => ?_) ?_
                  rotate_left
                  · exact AllReadyH.nil
                  rw [if_pos (by rfl)]
                  refine wp_store_row 28 _ _ rfl x (tabA s1 (-1, 0) r1 r2) rfl rfl 28 (tabA (0, 0) (0, 0) nilS nilS) X (by rw [tabA_size]; exact sizeT) (by rw [tabA_size, tabA_size]) (tabA_one (one_lies L1) (one_lies L2)) ?_
                  refine hK.out _ _ ?_ (fun hHeld => ?_)
                  · exact tb_row T1 _ (by omega)
                  clear hK K
                  (try simp only [Act.put]); (try simp only [List.setIfInBounds_toArray]); (try simp only [List.set_cons_succ]); (try simp only [List.set_cons_zero])
                  refine wpAnyH_take (i := 12) (v := ?_) rfl (by kernel_rfl) (by kernel_rfl) (by kernel_rfl) (fun _ _ _ h => h) (Or.inl ⟨by rfl, ?_⟩) (by assumption) ?_
                  rotate_left
                  · intro w9 hSw
                    (try dsimp only at hSw)
                    go_simp
                    (try with_reducible rfl)
                  (try simp only [Act.put]); (try simp only [List.setIfInBounds_toArray]); (try simp only [List.set_cons_succ]); (try simp only [List.set_cons_zero])
                  iterate 2
                    (try dsimp only [List.getElem_toArray, List.getElem_cons_succ, List.getElem_cons_zero])
                    (try simp only [Act.put]); (try simp only [List.setIfInBounds_toArray]); (try simp only [List.set_cons_succ]); (try simp only [List.set_cons_zero])
                  refine wpAnyH_done (by kernel_rfl) ?_ _
                  go_wp2
                  go_meet
                  exact ⟨rfl, x, r1, r2, rfl, X.set _ _ _ _, lies_set L1 (fun _ => e1) _, lies_set L2 (fun _ => e2) _, bel_setRow hB (by omega) _⟩
                exact AllReadyH.nil
              exact AllReadyH.nil
            exact AllReadyH.nil
          exact AllReadyH.nil
        refine AllReadyH.cons rfl (fun K hK => ?_) ?_
        · go_simp
          have kk := (Below.refl y2.heap.size y2).alloc (Nat.le_refl _) (.cells (tabA (0, 0) (0, 0) nilS nilS) 28)
          have n_T1 := T1.lt
          have X := TB.zero y2
          have n0 := hB.size
          replace hB := belTo hg hB kk
          replace L0 := L0.bel kk
          replace T1 := T1.bel kk
          refine hK.out _ _ ?_ (fun hHeld => ?_)
          · (try rw [tab_zero]); exact T1
          clear hK K
          try rw [tab_zero] at hHeld
          (try simp only [Act.put]); (try simp only [List.setIfInBounds_toArray]); (try simp only [List.set_cons_succ]); (try simp only [List.set_cons_zero])
          try rw [tab_zero]
          clear hHeld kk
          generalize y2.heap.size = x at *
          generalize y2.alloc _ = y17 at *
          refine wpAnyH_ready (rs := [3]) (by kernel_rfl) (by simp) ?_
          refine AllReadyH.cons rfl (fun K hK => ?_) ?_
          · go_simp
            go_wp2_with (go_at_call 53; (with_reducible refine (peer_1 _).mono ?_); rintro e y18 ⟨rfl, kk⟩)
            replace hB := belTo hg hB kk
            replace L0 := L0.bel kk
            replace T1 := T1.bel kk
            replace X := X.bel kk
            refine hK.out _ _ ?_ (fun hHeld => ?_)
            · exact T1
            clear hK K hHeld kk
            (try simp only [Act.put]); (try simp only [List.setIfInBounds_toArray]); (try simp only [List.set_cons_succ]); (try simp only [List.set_cons_zero])
            refine wpAnyH_ready (rs := [4]) (by kernel_rfl) (by simp) ?_
            refine AllReadyH.cons rfl (fun K hK => ?_) ?_
            · go_simp
              go_wp2_with (go_at_call 53; (with_reducible refine (peer_4 _).mono ?_); rintro e y19 ⟨rfl, kk⟩)
              replace hB := belTo hg hB kk
              replace L0 := L0.bel kk
              replace T1 := T1.bel kk
              replace X := X.bel kk
              refine hK.out _ _ ?_ (fun hHeld => ?_)
              · exact T1
              clear hK K hHeld kk
              (try simp only [Act.put]); (try simp only [List.setIfInBounds_toArray]); (try simp only [List.set_cons_succ]); (try simp only [List.set_cons_zero])
              refine wpAnyH_ready (rs := [5]) (by kernel_rfl) (by simp) ?_
              refine AllReadyH.cons rfl (fun K hK => ?_) ?_
              · rw [if_pos (by rfl)]
                have kk := (Below.refl y19.heap.size y19).alloc (Nat.le_refl _) (.cells (flat [(3, 30), (1, 10), (4, 40)]).toArray 25)
                have LZ : Lies (y19.alloc (.cells (flat [(3, 30), (1, 10), (4, 40)]).toArray 25)) (.slice (some ⟨y19.heap.size, 0, none⟩) 3 3) [(3, 30), (1, 10), (4, 40)] := .inr ⟨y19.heap.size, 0, 3, rfl, Nat.le_refl _, blk_range (Blk.new y19 (flat [(3, 30), (1, 10), (4, 40)]).toArray 25)⟩
                replace hB := belTo hg hB kk
                replace L0 := L0.bel kk
                replace T1 := T1.bel kk
                replace X := X.bel kk
                refine o_slice3 _ _ _ rfl (3, 30) (1, 10) (4, 40) rfl rfl rfl ?_
                refine hK.out _ _ ?_ (fun hHeld => ?_)
                · exact T1
                clear hK K hHeld kk
                (try simp only [Act.put]); (try simp only [List.setIfInBounds_toArray]); (try simp only [List.set_cons_succ]); (try simp only [List.set_cons_zero])
                generalize y19.heap.size = z at *
                generalize y19.alloc _ = y20 at *
                refine wpAnyH_ready (rs := [6]) (by kernel_rfl) (by simp) ?_
                refine AllReadyH.cons rfl (fun K hK => ?_) ?_
                · go_simp
                  go_wp2_with (go_at_call 13; (with_reducible refine (adopt_2 (lies_nil _) L0 LZ).mono ?_); rintro e y21 ⟨r1, r2, rfl, tw, kk⟩)
                  have L1 := tw.l1
                  have L2 := tw.l2
                  have e1 := k_ne tw.k1 X.lt
                  have e2 := k_ne tw.k2 X.lt
                  clear tw
                  replace hB := belTo hg hB kk
                  replace T1 := T1.bel kk
                  replace X := X.bel kk
                  refine hK.out _ _ ?_ (fun hHeld => ?_)
                  · exact T1
                  clear hK K hHeld kk
                  (try simp only [Act.put]); (try simp only [List.setIfInBounds_toArray]); (try simp only [List.set_cons_succ]); (try simp only [List.set_cons_zero])
                  refine wpAnyH_take (i := 7) (v := ?_) rfl (by kernel_rfl) (by kernel_rfl) (by kernel_rfl) (fun _ _ _ h => h) (Or.inl ⟨by rfl, ?_⟩) (by assumption) ?_
                  rotate_left
                  · intro w9 hSw
                    (try dsimp only at hSw)
                    go_simp
                    (try with_reducible rfl)
                  (try simp only [Act.put]); (try simp only [List.setIfInBounds_toArray]); (try simp only [List.set_cons_succ]); (try simp only [List.set_cons_zero])
                  refine wpAnyH_take (i := 8) (v := ?_) rfl (by kernel_rfl) (by kernel_rfl) (by kernel_rfl) (fun _ _ _ h => h) (Or.inl ⟨by rfl, ?_⟩) (by assumption) ?_
                  rotate_left
                  · intro w9 hSw
                    (try dsimp only at hSw)
                    go_simp
                    (try with_reducible rfl)
                  (try simp only [Act.put]); (try simp only [List.setIfInBounds_toArray]); (try simp only [List.set_cons_succ]); (try simp only [List.set_cons_zero])
                  refine wpAnyH_take (i := 9) (v := ?_) rfl (by kernel_rfl) (by kernel_rfl) (by kernel_rfl) (fun _ _ _ h => h) (Or.inl ⟨by rfl, ?_⟩) (by assumption) ?_
                  rotate_left
                  · intro w9 hSw
                    (try dsimp only at hSw)
                    go_simp
                    (try with_reducible rfl)
                  (try simp only [Act.put]); (try simp only [List.setIfInBounds_toArray]); (try simp only [List.set_cons_succ]); (try simp only [List.set_cons_zero])
                  iterate 2
                    (try dsimp only [List.getElem_toArray, List.getElem_cons_succ, List.getElem_cons_zero])
                    (try simp only [Act.put]); (try simp only [List.setIfInBounds_toArray]); (try simp only [List.set_cons_succ]); (try simp only [List.set_cons_zero])
                  refine wpAnyH_ready (rs := [11]) (by kernel_rfl) (by simp) ?_
                  refine AllReadyH.cons rfl (fun K hK => ?_) ?_
                  rotate_left
                  · exact AllReadyH.nil
                  rw [if_pos (by rfl)]
                  refine wp_store_row 28 _ _ rfl x (tabA s1 (-1, 0) r1 r2) rfl rfl 28 (tabA (0, 0) (0, 0) nilS nilS) X (by rw [tabA_size]; exact sizeT) (by rw [tabA_size, tabA_size]) (tabA_one (one_lies L1) (one_lies L2)) ?_
                  refine hK.out _ _ ?_ (fun hHeld => ?_)
                  · exact tb_row T1 _ (by omega)
                  clear hK K
                  (try simp only [Act.put]); (try simp only [List.setIfInBounds_toArray]); (try simp only [List.set_cons_succ]); (try simp only [List.set_cons_zero])
                  refine wpAnyH_take (i := 12) (v := ?_) rfl (by kernel_rfl) (by kernel_rfl) (by kernel_rfl) (fun _ _ _ h => h) (Or.inl ⟨by rfl, ?_⟩) (by assumption) ?_
                  rotate_left
                  · intro w9 hSw
                    (try dsimp only at hSw)
                    go_simp
                    (try with_reducible rfl)
                  (try simp only [Act.put]); (try simp only [List.setIfInBounds_toArray]); (try simp only [List.set_cons_succ]); (try simp only [List.set_cons_zero])
                  iterate 2
                    (try dsimp only [List.getElem_toArray, List.getElem_cons_succ, List.getElem_cons_zero])
                    (try simp only [Act.put]); (try simp only [List.setIfInBounds_toArray]); (try simp only [List.set_cons_succ]); (try simp only [List.set_cons_zero])
                  refine wpAnyH_done (by kernel_rfl) ?_ _
                  go_wp2
                  go_meet
                  exact ⟨rfl, x, r1, r2, rfl, X.set _ _ _ _, lies_set L1 (fun _ => e1) _, lies_set L2 (fun _ => e2) _, bel_setRow hB (by omega) _⟩
                exact AllReadyH.nil
              exact AllReadyH.nil
            exact AllReadyH.nil
          exact AllReadyH.nil
        exact AllReadyH.nil
      refine AllReadyH.cons rfl (fun K hK => ?_) ?_
      · go_simp
        have kk := (Below.refl y1.heap.size y1).alloc (Nat.le_refl _) (.cells (tabA (0, 0) (0, 0) nilS nilS) 28)
        have n_T1 := T1.lt
        have X := TB.zero y1
        have n0 := hB.size
        replace hB := belTo hg hB kk
        replace L0 := L0.bel kk
        replace T1 := T1.bel kk
        refine hK.out _ _ ?_ (fun hHeld => ?_)
        · (try rw [tab_zero]); exact T1
        clear hK K
        try rw [tab_zero] at hHeld
        (try simp only [Act.put]); (try simp only [List.setIfInBounds_toArray]); (try simp only [List.set_cons_succ]); (try simp only [List.set_cons_zero])
        try rw [tab_zero]
        clear hHeld kk
        generalize y1.heap.size = x at *
        generalize y1.alloc _ = y22 at *
        refine wpAnyH_ready (rs := [2]) (by kernel_rfl) (by simp) ?_
        refine AllReadyH.cons rfl (fun K hK => ?_) ?_
        · go_simp
          go_wp2_with (go_at_call 53; (with_reducible refine (peer_3 _).mono ?_); rintro e y23 ⟨rfl, kk⟩)
          replace hB := belTo hg hB kk
          replace L0 := L0.bel kk
          replace T1 := T1.bel kk
          replace X := X.bel kk
          refine hK.out _ _ ?_ (fun hHeld => ?_)
          · exact T1
          clear hK K hHeld kk
          (try simp only [Act.put]); (try simp only [List.setIfInBounds_toArray]); (try simp only [List.set_cons_succ]); (try simp only [List.set_cons_zero])
          refine wpAnyH_ready (rs := [3]) (by kernel_rfl) (by simp) ?_
          refine AllReadyH.cons rfl (fun K hK => ?_) ?_
          · go_simp
            go_wp2_with (go_at_call 53; (with_reducible refine (peer_1 _).mono ?_); rintro e y24 ⟨rfl, kk⟩)
            replace hB := belTo hg hB kk
            replace L0 := L0.bel kk
            replace T1 := T1.bel kk
            replace X := X.bel kk
            refine hK.out _ _ ?_ (fun hHeld => ?_)
            · exact T1
            clear hK K hHeld kk
            (try simp only [Act.put]); (try simp only [List.setIfInBounds_toArray]); (try simp only [List.set_cons_succ]); (try simp only [List.set_cons_zero])
            refine wpAnyH_ready (rs := [4]) (by kernel_rfl) (by simp) ?_
            refine AllReadyH.cons rfl (fun K hK => ?_) ?_
            · go_simp
              go_wp2_with (go_at_call 53; (with_reducible refine (peer_4 _).mono ?_); rintro e y25 ⟨rfl, kk⟩)
              replace hB := belTo hg hB kk
              replace L0 := L0.bel kk
              replace T1 := T1.bel kk
              replace X := X.bel kk
              refine hK.out _ _ ?_ (fun hHeld => ?_)
              · exact T1
              clear hK K hHeld kk
              (try simp only [Act.put]); (try simp only [List.setIfInBounds_toArray]); (try simp only [List.set_cons_succ]); (try simp only [List.set_cons_zero])
              refine wpAnyH_ready (rs := [5]) (by kernel_rfl) (by simp) ?_
              refine AllReadyH.cons rfl (fun K hK => ?_) ?_
              · rw [if_pos (by rfl)]
                have kk := (Below.refl y25.heap.size y25).alloc (Nat.le_refl _) (.cells (flat [(3, 30), (1, 10), (4, 40)]).toArray 25)
                have LZ : Lies (y25.alloc (.cells (flat [(3, 30), (1, 10), (4, 40)]).toArray 25)) (.slice (some ⟨y25.heap.size, 0, none⟩) 3 3) [(3, 30), (1, 10), (4, 40)] := .inr ⟨y25.heap.size, 0, 3, rfl, Nat.le_refl _, blk_range (Blk.new y25 (flat [(3, 30), (1, 10), (4, 40)]).toArray 25)⟩
                replace hB := belTo hg hB kk
                replace L0 := L0.bel kk
                replace T1 := T1.bel kk
                replace X := X.bel kk
                refine o_slice3 _ _ _ rfl (3, 30) (1, 10) (4, 40) rfl rfl rfl ?_
                refine hK.out _ _ ?_ (fun hHeld => ?_)
                · exact T1
                clear hK K hHeld kk
                (try simp only [Act.put]); (try simp only [List.setIfInBounds_toArray]); (try simp only [List.set_cons_succ]); (try simp only [List.set_cons_zero])
                generalize y25.heap.size = z at *
                generalize y25.alloc _ = y26 at *
                refine wpAnyH_ready (rs := [6]) (by kernel_rfl) (by simp) ?_
                refine AllReadyH.cons rfl (fun K hK => ?_) ?_
                · go_simp
                  go_wp2_with (go_at_call 13; (with_reducible refine (adopt_2 (lies_nil _) L0 LZ).mono ?_); rintro e y27 ⟨r1, r2, rfl, tw, kk⟩)
                  have L1 := tw.l1
                  have L2 := tw.l2
                  have e1 := k_ne tw.k1 X.lt
                  have e2 := k_ne tw.k2 X.lt
                  clear tw
                  replace hB := belTo hg hB kk
                  replace T1 := T1.bel kk
                  replace X := X.bel kk
                  refine hK.out _ _ ?_ (fun hHeld => ?_)
                  · exact T1
                  clear hK K hHeld kk
                  (try simp only [Act.put]); (try simp only [List.setIfInBounds_toArray]); (try simp only [List.set_cons_succ]); (try simp only [List.set_cons_zero])
                  refine wpAnyH_take (i := 7) (v := ?_) rfl (by kernel_rfl) (by kernel_rfl) (by kernel_rfl) (fun _ _ _ h => h) (Or.inl ⟨by rfl, ?_⟩) (by assumption) ?_
                  rotate_left
                  · intro w9 hSw
                    (try dsimp only at hSw)
                    go_simp
                    (try with_reducible rfl)
                  (try simp only [Act.put]); (try simp only [List.setIfInBounds_toArray]); (try simp only [List.set_cons_succ]); (try simp only [List.set_cons_zero])
                  refine wpAnyH_take (i := 8) (v := ?_) rfl (by kernel_rfl) (by kernel_rfl) (by kernel_rfl) (fun _ _ _ h => h) (Or.inl ⟨by rfl, ?_⟩) (by assumption) ?_
                  rotate_left
                  · intro w9 hSw
                    (try dsimp only at hSw)
                    go_simp
                    (try with_reducible rfl)
                  (try simp only [Act.put]); (try simp only [List.setIfInBounds_toArray]); (try simp only [List.set_cons_succ]); (try simp only [List.set_cons_zero])
                  refine wpAnyH_take (i := 9) (v := ?_) rfl (by kernel_rfl) (by kernel_rfl) (by kernel_rfl) (fun _ _ _ h => h) (Or.inl ⟨by rfl, ?_⟩) (by assumption) ?_
                  rotate_left
                  · intro w9 hSw
                    (try dsimp only at hSw)
                    go_simp
                    (try with_reducible rfl)
                  (try simp only [Act.put]); (try simp only [List.setIfInBounds_toArray]); (try simp only [List.set_cons_succ]); (try simp only [List.set_cons_zero])
                  iterate 2
                    (try dsimp only [List.getElem_toArray, List.getElem_cons_succ, List.getElem_cons_zero])
                    (try simp only [Act.put]); (try simp only [List.setIfInBounds_toArray]); (try simp only [List.set_cons_succ]); (try simp only [List.set_cons_zero])
                  refine wpAnyH_ready (rs := [11]) (by kernel_rfl) (by simp) ?_
                  refine AllReadyH.cons rfl (fun K hK => ?_) ?_
                  rotate_left
                  · exact AllReadyH.nil
                  rw [if_pos (by rfl)]
                  refine wp_store_row 28 _ _ rfl x (tabA s1 (-1, 0) r1 r2) rfl rfl 28 (tabA (0, 0) (0, 0) nilS nilS) X (by rw [tabA_size]; exact sizeT) (by rw [tabA_size, tabA_size]) (tabA_one (one_lies L1) (one_lies L2)) ?_
                  refine hK.out _ _ ?_ (fun hHeld => ?_)
                  · exact tb_row T1 _ (by omega)
                  clear hK K
                  (try simp only [Act.put]); (try simp only [List.setIfInBounds_toArray]); (try simp only [List.set_cons_succ]); (try simp only [List.set_cons_zero])
                  refine wpAnyH_take (i := 12) (v := ?_) rfl (by kernel_rfl) (by kernel_rfl) (by kernel_rfl) (fun _ _ _ h => h) (Or.inl ⟨by rfl, ?_⟩) (by assumption) ?_
                  rotate_left
                  · intro w9 hSw
                    (try dsimp only at hSw)
                    go_simp
                    (try with_reducible rfl)
                  (try simp only [Act.put]); (try simp only [List.setIfInBounds_toArray]); (try simp only [List.set_cons_succ]); (try simp only [List.set_cons_zero])
                  iterate 2
                    (try dsimp only [List.getElem_toArray, List.getElem_cons_succ, List.getElem_cons_zero])
                    (try simp only [Act.put]); (try simp only [List.setIfInBounds_toArray]); (try simp only [List.set_cons_succ]); (try simp only [List.set_cons_zero])
                  refine wpAnyH_done (by kernel_rfl) ?_ _
                  go_wp2
                  go_meet
                  exact ⟨rfl, x, r1, r2, rfl, X.set _ _ _ _, lies_set L1 (fun _ => e1) _, lies_set L2 (fun _ => e2) _, bel_setRow hB (by omega) _⟩
                exact AllReadyH.nil
              exact AllReadyH.nil
            exact AllReadyH.nil
          exact AllReadyH.nil
        exact AllReadyH.nil
      exact AllReadyH.nil
    refine AllReadyH.cons rfl (fun K hK => ?_) ?_
    · go_simp
      have kk := (Below.refl W2.heap.size W2).alloc (Nat.le_refl _) (.cells (tabA (0, 0) (0, 0) nilS nilS) 28)
      have n_T1 := T1.lt
      have X := TB.zero W2
      have n0 := hB.size
      replace hB := belTo hg hB kk
      replace L0 := L0.bel kk
      replace T1 := T1.bel kk
      refine hK.out _ _ ?_ (fun hHeld => ?_)
      · (try rw [tab_zero]); exact T1
      clear hK K
      try rw [tab_zero] at hHeld
      (try simp only [Act.put]); (try simp only [List.setIfInBounds_toArray]); (try simp only [List.set_cons_succ]); (try simp only [List.set_cons_zero])
      try rw [tab_zero]
      clear hHeld kk
      generalize W2.heap.size = x at *
      generalize W2.alloc _ = y28 at *
      refine wpAnyH_ready (rs := [1]) (by kernel_rfl) (by simp) ?_
      refine AllReadyH.cons rfl (fun K hK => ?_) ?_
      · go_simp
        go_wp2_with (go_at_call 53; (with_reducible refine (peer_2 _).mono ?_); rintro e y29 ⟨rfl, kk⟩)
        replace hB := belTo hg hB kk
        replace L0 := L0.bel kk
        replace T1 := T1.bel kk
        replace X := X.bel kk
        refine hK.out _ _ ?_ (fun hHeld => ?_)
        · exact T1
        clear hK K hHeld kk
        (try simp only [Act.put]); (try simp only [List.setIfInBounds_toArray]); (try simp only [List.set_cons_succ]); (try simp only [List.set_cons_zero])
        refine wpAnyH_ready (rs := [2]) (by kernel_rfl) (by simp) ?_
        refine AllReadyH.cons rfl (fun K hK => ?_) ?_
        · go_simp
          go_wp2_with (go_at_call 53; (with_reducible refine (peer_3 _).mono ?_); rintro e y30 ⟨rfl, kk⟩)
          replace hB := belTo hg hB kk
          replace L0 := L0.bel kk
          replace T1 := T1.bel kk
          replace X := X.bel kk
          refine hK.out _ _ ?_ (fun hHeld => ?_)
          · exact T1
          clear hK K hHeld kk
          (try simp only [Act.put]); (try simp only [List.setIfInBounds_toArray]); (try simp only [List.set_cons_succ]); (try simp only [List.set_cons_zero])
          refine wpAnyH_ready (rs := [3]) (by kernel_rfl) (by simp) ?_
          refine AllReadyH.cons rfl (fun K hK => ?_) ?_
          · go_simp
            go_wp2_with (go_at_call 53; (with_reducible refine (peer_1 _).mono ?_); rintro e y31 ⟨rfl, kk⟩)
            replace hB := belTo hg hB kk
            replace L0 := L0.bel kk
            replace T1 := T1.bel kk
            replace X := X.bel kk
            refine hK.out _ _ ?_ (fun hHeld => ?_)
            · exact T1
            clear hK K hHeld kk
            (try simp only [Act.put]); (try simp only [List.setIfInBounds_toArray]); (try simp only [List.set_cons_succ]); (try simp only [List.set_cons_zero])
            refine wpAnyH_ready (rs := [4]) (by kernel_rfl) (by simp) ?_
            refine AllReadyH.cons rfl (fun K hK => ?_) ?_
            · go_simp
              go_wp2_with (go_at_call 53; (with_reducible refine (peer_4 _).mono ?_); rintro e y32 ⟨rfl, kk⟩)
              replace hB := belTo hg hB kk
              replace L0 := L0.bel kk
              replace T1 := T1.bel kk
              replace X := X.bel kk
              refine hK.out _ _ ?_ (fun hHeld => ?_)
              · exact T1
              clear hK K hHeld kk
              (try simp only [Act.put]); (try simp only [List.setIfInBounds_toArray]); (try simp only [List.set_cons_succ]); (try simp only [List.set_cons_zero])
              refine wpAnyH_ready (rs := [5]) (by kernel_rfl) (by simp) ?_
              refine AllReadyH.cons rfl (fun K hK => ?_) ?_
              · rw [if_pos (by rfl)]
                have kk := (Below.refl y32.heap.size y32).alloc (Nat.le_refl _) (.cells (flat [(3, 30), (1, 10), (4, 40)]).toArray 25)
                have LZ : Lies (y32.alloc (.cells (flat [(3, 30), (1, 10), (4, 40)]).toArray 25)) (.slice (some ⟨y32.heap.size, 0, none⟩) 3 3) [(3, 30), (1, 10), (4, 40)] := .inr ⟨y32.heap.size, 0, 3, rfl, Nat.le_refl _, blk_range (Blk.new y32 (flat [(3, 30), (1, 10), (4, 40)]).toArray 25)⟩
                replace hB := belTo hg hB kk
                replace L0 := L0.bel kk
                replace T1 := T1.bel kk
                replace X := X.bel kk
                refine o_slice3 _ _ _ rfl (3, 30) (1, 10) (4, 40) rfl rfl rfl ?_
                refine hK.out _ _ ?_ (fun hHeld => ?_)
                · exact T1
                clear hK K hHeld kk
                (try simp only [Act.put]); (try simp only [List.setIfInBounds_toArray]); (try simp only [List.set_cons_succ]); (try simp only [List.set_cons_zero])
                generalize y32.heap.size = z at *
                generalize y32.alloc _ = y33 at *
                refine wpAnyH_ready (rs := [6]) (by kernel_rfl) (by simp) ?_
                refine AllReadyH.cons rfl (fun K hK => ?_) ?_
                · go_simp
                  go_wp2_with (go_at_call 13; (with_reducible refine (adopt_2 (lies_nil _) L0 LZ).mono ?_); rintro e y34 ⟨r1, r2, rfl, tw, kk⟩)
                  have L1 := tw.l1
                  have L2 := tw.l2
                  have e1 := k_ne tw.k1 X.lt
                  have e2 := k_ne tw.k2 X.lt
                  clear tw
                  replace hB := belTo hg hB kk
                  replace T1 := T1.bel kk
                  replace X := X.bel kk
                  refine hK.out _ _ ?_ (fun hHeld => ?_)
                  · exact T1
                  clear hK K hHeld kk
                  (try simp only [Act.put]); (try simp only [List.setIfInBounds_toArray]); (try simp only [List.set_cons_succ]); (try simp only [List.set_cons_zero])
                  refine wpAnyH_take (i := 7) (v := ?_) rfl (by kernel_rfl) (by kernel_rfl) (by kernel_rfl) (fun _ _ _ h => h) (Or.inl ⟨by rfl, ?_⟩) (by assumption) ?_
                  rotate_left
                  · intro w9 hSw
                    (try dsimp only at hSw)
                    go_simp
                    (try with_reducible rfl)
                  (try simp only [Act.put]); (try simp only [List.setIfInBounds_toArray]); (try simp only [List.set_cons_succ]); (try simp only [List.set_cons_zero])
                  refine wpAnyH_take (i := 8) (v := ?_) rfl (by kernel_rfl) (by kernel_rfl) (by kernel_rfl) (fun _ _ _ h => h) (Or.inl ⟨by rfl, ?_⟩) (by assumption) ?_
                  rotate_left
                  · intro w9 hSw
                    (try dsimp only at hSw)
                    go_simp
                    (try with_reducible rfl)
                  (try simp only [Act.put]); (try simp only [List.setIfInBounds_toArray]); (try simp only [List.set_cons_succ]); (try simp only [List.set_cons_zero])
                  refine wpAnyH_take (i := 9) (v := ?_) rfl (by kernel_rfl) (by kernel_rfl) (by kernel_rfl) (fun _ _ _ h => h) (Or.inl ⟨by rfl, ?_⟩) (by assumption) ?_
                  rotate_left
                  · intro w9 hSw
                    (try dsimp only at hSw)
                    go_simp
                    (try with_reducible rfl)
                  (try simp only [Act.put]); (try simp only [List.setIfInBounds_toArray]); (try simp only [List.set_cons_succ]); (try simp only [List.set_cons_zero])
                  iterate 2
                    (try dsimp only [List.getElem_toArray, List.getElem_cons_succ, List.getElem_cons_zero])
                    (try simp only [Act.put]); (try simp only [List.setIfInBounds_toArray]); (try simp only [List.set_cons_succ]); (try simp only [List.set_cons_zero])
                  refine wpAnyH_ready (rs := [11]) (by kernel_rfl) (by simp) ?_
                  refine AllReadyH.cons rfl (fun K hK => ?_) ?_
                  rotate_left
                  · exact AllReadyH.nil
                  rw [if_pos (by rfl)]
                  refine wp_store_row 28 _ _ rfl x (tabA s1 (-1, 0) r1 r2) rfl rfl 28 (tabA (0, 0) (0, 0) nilS nilS) X (by rw [tabA_size]; exact sizeT) (by rw [tabA_size, tabA_size]) (tabA_one (one_lies L1) (one_lies L2)) ?_
                  refine hK.out _ _ ?_ (fun hHeld => ?_)
                  · exact tb_row T1 _ (by omega)
                  clear hK K
                  (try simp only [Act.put]); (try simp only [List.setIfInBounds_toArray]); (try simp only [List.set_cons_succ]); (try simp only [List.set_cons_zero])
                  refine wpAnyH_take (i := 12) (v := ?_) rfl (by kernel_rfl) (by kernel_rfl) (by kernel_rfl) (fun _ _ _ h => h) (Or.inl ⟨by rfl, ?_⟩) (by assumption) ?_
                  rotate_left
                  · intro w9 hSw
                    (try dsimp only at hSw)
                    go_simp
                    (try with_reducible rfl)
                  (try simp only [Act.put]); (try simp only [List.setIfInBounds_toArray]); (try simp only [List.set_cons_succ]); (try simp only [List.set_cons_zero])
                  iterate 2
                    (try dsimp only [List.getElem_toArray, List.getElem_cons_succ, List.getElem_cons_zero])
                    (try simp only [Act.put]); (try simp only [List.setIfInBounds_toArray]); (try simp only [List.set_cons_succ]); (try simp only [List.set_cons_zero])
                  refine wpAnyH_done (by kernel_rfl) ?_ _
                  go_wp2
                  go_meet
                  exact ⟨rfl, x, r1, r2, rfl, X.set _ _ _ _, lies_set L1 (fun _ => e1) _, lies_set L2 (fun _ => e2) _, bel_setRow hB (by omega) _⟩
                exact AllReadyH.nil
              exact AllReadyH.nil
            exact AllReadyH.nil
          exact AllReadyH.nil
        exact AllReadyH.nil
      exact AllReadyH.nil
    exact AllReadyH.nil
  case rest =>
    clear T1 hB L0
    obtain ⟨rfl, hv⟩ := hcut
    obtain ⟨g3, u3, v3, rfl, T1, LA, LB, hB⟩ := hv.out
    have HU3 : Hid (∃ a c, u3 = .slice a S2.length c) := LA.form
    clear hv
    go_upto_region 3 with (fail)
    go_cut [5] from 19 (fun v5 wx => Hid (TV g w wx v5 (3, 30) S2 F0) ∧ Hid (TB wx g3 s1 (-1, 0) u3 v3))
    case first => as_aux_lemma =>
      refine wp_region_held_drew (S := (fun w9 => TB w9 g3 s1 (-1, 0) u3 v3)) (by kernel_rfl) ?_ (fun hHeld => ?_)
      · exact T1
      replace hB := belTo hg hB (drew_bel wc)
      replace LA := LA.bel (drew_bel wc)
      replace LB := LB.bel (drew_bel wc)
      replace T1 := T1.bel (drew_bel wc)
      generalize World.drew wc = W3 at *
      refine wpAnyH_take (i := 0) (oi := { dst := some 29, op := .load 28 (.tmp 3), type := 28, pos := "law.go:20", after := #[], guard := none }) (v := .agg (tabA s1 (-1, 0) u3 v3)) rfl (by kernel_rfl) (by kernel_rfl) (by kernel_rfl) (fun _ _ _ h => h) (y_midT (by rfl) (.tmp 3) rfl g3 rfl (fun _ h => h)) (by assumption) ?_
      (try simp only [Act.put]); (try simp only [List.setIfInBounds_toArray]); (try simp only [List.set_cons_succ]); (try simp only [List.set_cons_zero])
      iterate 2
        (try dsimp only [List.getElem_toArray, List.getElem_cons_succ, List.getElem_cons_zero])
        (try simp only [Act.put]); (try simp only [List.setIfInBounds_toArray]); (try simp only [List.set_cons_succ]); (try simp only [List.set_cons_zero])
      refine wpAnyH_ready (rs := [1, 3]) (by kernel_rfl) (by simp) ?_
      refine AllReadyH.cons rfl (fun K hK => ?_) ?_
      · go_simp
        go_wp2_with (go_at_call 53; (with_reducible refine (peer_3 _).mono ?_); rintro e y35 ⟨rfl, kk⟩)
        replace hB := belTo hg hB kk
        replace LA := LA.bel kk
        replace LB := LB.bel kk
        replace T1 := T1.bel kk
        refine hK.out _ _ ?_ (fun hHeld => ?_)
        · exact T1
        clear hK K hHeld kk
        (try simp only [Act.put]); (try simp only [List.setIfInBounds_toArray]); (try simp only [List.set_cons_succ]); (try simp only [List.set_cons_zero])
        refine wpAnyH_ready (rs := [2, 3]) (by kernel_rfl) (by simp) ?_
        refine AllReadyH.cons rfl (fun K hK => ?_) ?_
        · go_simp
          go_wp2_with (go_at_call 19; (with_reducible refine (learn_3 LA LB).mono ?_); rintro e y36 ⟨r1, r2, rfl, tw, kk⟩)
          have L1 := tw.l1
          have L2 := tw.l2
          clear tw
          replace hB := belTo hg hB kk
          replace T1 := T1.bel kk
          refine hK.out _ _ ?_ (fun hHeld => ?_)
          · exact T1
          clear hK K hHeld kk
          (try simp only [Act.put]); (try simp only [List.setIfInBounds_toArray]); (try simp only [List.set_cons_succ]); (try simp only [List.set_cons_zero])
          refine wpAnyH_ready (rs := [3]) (by kernel_rfl) (by simp) ?_
          refine AllReadyH.cons rfl (fun K hK => ?_) ?_
          · go_simp
            have kk := (Below.refl y36.heap.size y36).alloc (Nat.le_refl _) (.cells (tabA (0, 0) (0, 0) nilS nilS) 28)
            have n_T1 := T1.lt
            have X := TB.zero y36
            have n0 := hB.size
            have e1 := lies_block L1 (by decide) (Nat.le_refl y36.heap.size)
            have e2 := lies_block L2 (by decide) (Nat.le_refl y36.heap.size)
            replace hB := belTo hg hB kk
            replace T1 := T1.bel kk
            replace L1 := L1.bel kk
            replace L2 := L2.bel kk
            refine hK.out _ _ ?_ (fun hHeld => ?_)
            · (try rw [tab_zero]); exact T1
            clear hK K
            try rw [tab_zero] at hHeld
            (try simp only [Act.put]); (try simp only [List.setIfInBounds_toArray]); (try simp only [List.set_cons_succ]); (try simp only [List.set_cons_zero])
            try rw [tab_zero]
            clear hHeld kk
            generalize y36.heap.size = x at *
            generalize y36.alloc _ = y37 at *
            refine wpAnyH_ready (rs := [4]) (by kernel_rfl) (by simp) ?_
            refine AllReadyH.cons rfl (fun K hK => ?_) ?_
            rotate_left
            · exact AllReadyH.nil
            rw [if_pos (by rfl)]
            refine wp_store_row 28 _ _ rfl x (tabA s1 (3, 30) r1 r2) rfl rfl 28 (tabA (0, 0) (0, 0) nilS nilS) X (by rw [tabA_size]; exact sizeT) (by rw [tabA_size, tabA_size]) (tabA_one (one_lies L1) (one_lies L2)) ?_
            refine hK.out _ _ ?_ (fun hHeld => ?_)
            · exact tb_row T1 _ (by omega)
            clear hK K
            (try simp only [Act.put]); (try simp only [List.setIfInBounds_toArray]); (try simp only [List.set_cons_succ]); (try simp only [List.set_cons_zero])
            iterate 2
              (try dsimp only [List.getElem_toArray, List.getElem_cons_succ, List.getElem_cons_zero])
              (try simp only [Act.put]); (try simp only [List.setIfInBounds_toArray]); (try simp only [List.set_cons_succ]); (try simp only [List.set_cons_zero])
            refine wpAnyH_done (by kernel_rfl) ?_ _
            go_wp2
            go_meet
            exact ⟨⟨x, r1, r2, rfl, X.set _ _ _ _, lies_set L1 (fun _ => e1) _, lies_set L2 (fun _ => e2) _, bel_setRow hB (by omega) _⟩, tb_row T1 _ (by omega)⟩
          exact AllReadyH.nil
        refine AllReadyH.cons rfl (fun K hK => ?_) ?_
        · go_simp
          have kk := (Below.refl y35.heap.size y35).alloc (Nat.le_refl _) (.cells (tabA (0, 0) (0, 0) nilS nilS) 28)
          have n_T1 := T1.lt
          have X := TB.zero y35
          have n0 := hB.size
          replace hB := belTo hg hB kk
          replace LA := LA.bel kk
          replace LB := LB.bel kk
          replace T1 := T1.bel kk
          refine hK.out _ _ ?_ (fun hHeld => ?_)
          · (try rw [tab_zero]); exact T1
          clear hK K
          try rw [tab_zero] at hHeld
          (try simp only [Act.put]); (try simp only [List.setIfInBounds_toArray]); (try simp only [List.set_cons_succ]); (try simp only [List.set_cons_zero])
          try rw [tab_zero]
          clear hHeld kk
          generalize y35.heap.size = x at *
          generalize y35.alloc _ = y38 at *
          refine wpAnyH_ready (rs := [2]) (by kernel_rfl) (by simp) ?_
          refine AllReadyH.cons rfl (fun K hK => ?_) ?_
          · go_simp
            go_wp2_with (go_at_call 19; (with_reducible refine (learn_3 LA LB).mono ?_); rintro e y39 ⟨r1, r2, rfl, tw, kk⟩)
            have L1 := tw.l1
            have L2 := tw.l2
            have e1 := k_ne tw.k1 X.lt
            have e2 := k_ne tw.k2 X.lt
            clear tw
            replace hB := belTo hg hB kk
            replace T1 := T1.bel kk
            replace X := X.bel kk
            refine hK.out _ _ ?_ (fun hHeld => ?_)
            · exact T1
            clear hK K hHeld kk
            (try simp only [Act.put]); (try simp only [List.setIfInBounds_toArray]); (try simp only [List.set_cons_succ]); (try simp only [List.set_cons_zero])
            refine wpAnyH_ready (rs := [4]) (by kernel_rfl) (by simp) ?_
            refine AllReadyH.cons rfl (fun K hK => ?_) ?_
            rotate_left
            · exact AllReadyH.nil
            rw [if_pos (by rfl)]
            refine wp_store_row 28 _ _ rfl x (tabA s1 (3, 30) r1 r2) rfl rfl 28 (tabA (0, 0) (0, 0) nilS nilS) X (by rw [tabA_size]; exact sizeT) (by rw [tabA_size, tabA_size]) (tabA_one (one_lies L1) (one_lies L2)) ?_
            refine hK.out _ _ ?_ (fun hHeld => ?_)
            · exact tb_row T1 _ (by omega)
            clear hK K
            (try simp only [Act.put]); (try simp only [List.setIfInBounds_toArray]); (try simp only [List.set_cons_succ]); (try simp only [List.set_cons_zero])
            iterate 2
              (try dsimp only [List.getElem_toArray, List.getElem_cons_succ, List.getElem_cons_zero])
              (try simp only [Act.put]); (try simp only [List.setIfInBounds_toArray]); (try simp only [List.set_cons_succ]); (try simp only [List.set_cons_zero])
            refine wpAnyH_done (by kernel_rfl) ?_ _
            go_wp2
            go_meet
            exact ⟨⟨x, r1, r2, rfl, X.set _ _ _ _, lies_set L1 (fun _ => e1) _, lies_set L2 (fun _ => e2) _, bel_setRow hB (by omega) _⟩, tb_row T1 _ (by omega)⟩
          exact AllReadyH.nil
        exact AllReadyH.nil
      refine AllReadyH.cons rfl (fun K hK => ?_) ?_
      · go_simp
        have kk := (Below.refl W3.heap.size W3).alloc (Nat.le_refl _) (.cells (tabA (0, 0) (0, 0) nilS nilS) 28)
        have n_T1 := T1.lt
        have X := TB.zero W3
        have n0 := hB.size
        replace hB := belTo hg hB kk
        replace LA := LA.bel kk
        replace LB := LB.bel kk
        replace T1 := T1.bel kk
        refine hK.out _ _ ?_ (fun hHeld => ?_)
        · (try rw [tab_zero]); exact T1
        clear hK K
        try rw [tab_zero] at hHeld
        (try simp only [Act.put]); (try simp only [List.setIfInBounds_toArray]); (try simp only [List.set_cons_succ]); (try simp only [List.set_cons_zero])
        try rw [tab_zero]
        clear hHeld kk
        generalize W3.heap.size = x at *
        generalize W3.alloc _ = y40 at *
        refine wpAnyH_ready (rs := [1]) (by kernel_rfl) (by simp) ?_
        refine AllReadyH.cons rfl (fun K hK => ?_) ?_
        · go_simp
          go_wp2_with (go_at_call 53; (with_reducible refine (peer_3 _).mono ?_); rintro e y41 ⟨rfl, kk⟩)
          replace hB := belTo hg hB kk
          replace LA := LA.bel kk
          replace LB := LB.bel kk
          replace T1 := T1.bel kk
          replace X := X.bel kk
          refine hK.out _ _ ?_ (fun hHeld => ?_)
          · exact T1
          clear hK K hHeld kk
          (try simp only [Act.put]); (try simp only [List.setIfInBounds_toArray]); (try simp only [List.set_cons_succ]); (try simp only [List.set_cons_zero])
          refine wpAnyH_ready (rs := [2]) (by kernel_rfl) (by simp) ?_
          refine AllReadyH.cons rfl (fun K hK => ?_) ?_
          · go_simp
            go_wp2_with (go_at_call 19; (with_reducible refine (learn_3 LA LB).mono ?_); rintro e y42 ⟨r1, r2, rfl, tw, kk⟩)
            have L1 := tw.l1
            have L2 := tw.l2
            have e1 := k_ne tw.k1 X.lt
            have e2 := k_ne tw.k2 X.lt
            clear tw
            replace hB := belTo hg hB kk
            replace T1 := T1.bel kk
            replace X := X.bel kk
            refine hK.out _ _ ?_ (fun hHeld => ?_)
            · exact T1
            clear hK K hHeld kk
            (try simp only [Act.put]); (try simp only [List.setIfInBounds_toArray]); (try simp only [List.set_cons_succ]); (try simp only [List.set_cons_zero])
            refine wpAnyH_ready (rs := [4]) (by kernel_rfl) (by simp) ?_
            refine AllReadyH.cons rfl (fun K hK => ?_) ?_
            rotate_left
            · exact AllReadyH.nil
            rw [if_pos (by rfl)]
            refine wp_store_row 28 _ _ rfl x (tabA s1 (3, 30) r1 r2) rfl rfl 28 (tabA (0, 0) (0, 0) nilS nilS) X (by rw [tabA_size]; exact sizeT) (by rw [tabA_size, tabA_size]) (tabA_one (one_lies L1) (one_lies L2)) ?_
            refine hK.out _ _ ?_ (fun hHeld => ?_)
            · exact tb_row T1 _ (by omega)
            clear hK K
            (try simp only [Act.put]); (try simp only [List.setIfInBounds_toArray]); (try simp only [List.set_cons_succ]); (try simp only [List.set_cons_zero])
            iterate 2
              (try dsimp only [List.getElem_toArray, List.getElem_cons_succ, List.getElem_cons_zero])
              (try simp only [Act.put]); (try simp only [List.setIfInBounds_toArray]); (try simp only [List.set_cons_succ]); (try simp only [List.set_cons_zero])
            refine wpAnyH_done (by kernel_rfl) ?_ _
            go_wp2
            go_meet
            exact ⟨⟨x, r1, r2, rfl, X.set _ _ _ _, lies_set L1 (fun _ => e1) _, lies_set L2 (fun _ => e2) _, bel_setRow hB (by omega) _⟩, tb_row T1 _ (by omega)⟩
          exact AllReadyH.nil
        exact AllReadyH.nil
      exact AllReadyH.nil
    case rest =>
      clear T1 hB LA LB
      obtain ⟨hv, hT3⟩ := hcut
      have T3 := hT3.out
      obtain ⟨g5, u5, v5, rfl, T1, LA, LB, hB⟩ := hv.out
      clear hv hT3
      go_upto_region 4 with (fail)
      go_cut [6, 7, 8] from 19 (fun v6 v7 v8 wx => v7 = .int .i64 4 ∧ v8 = .int .i64 0 ∧ Hid (TV g w wx v6 (3, 30) S2 F4) ∧ Hid (TB wx g3 s1 (-1, 0) u3 v3) ∧ Hid (TB wx g5 s1 (3, 30) u5 v5))
      case first => as_aux_lemma =>
        refine wp_region_held_drew (S := (fun w9 => TB w9 g5 s1 (3, 30) u5 v5)) (by kernel_rfl) ?_ (fun hHeld => ?_)
        · exact T1
        replace hB := belTo hg hB (drew_bel wc)
        replace LA := LA.bel (drew_bel wc)
        replace LB := LB.bel (drew_bel wc)
        replace T1 := T1.bel (drew_bel wc)
        replace T3 := T3.bel (drew_bel wc)
        generalize World.drew wc = W4 at *
        refine wpAnyH_take (i := 0) (oi := { dst := some 33, op := .load 28 (.tmp 5), type := 28, pos := "law.go:21", after := #[], guard := none }) (v := .agg (tabA s1 (3, 30) u5 v5)) rfl (by kernel_rfl) (by kernel_rfl) (by kernel_rfl) (fun _ _ _ h => h) (y_midT (by rfl) (.tmp 5) rfl g5 rfl (fun _ h => h)) (by assumption) ?_
        (try simp only [Act.put]); (try simp only [List.setIfInBounds_toArray]); (try simp only [List.set_cons_succ]); (try simp only [List.set_cons_zero])
        iterate 2
          (try dsimp only [List.getElem_toArray, List.getElem_cons_succ, List.getElem_cons_zero])
          (try simp only [Act.put]); (try simp only [List.setIfInBounds_toArray]); (try simp only [List.set_cons_succ]); (try simp only [List.set_cons_zero])
        refine wpAnyH_ready (rs := [1, 7]) (by kernel_rfl) (by simp) ?_
        refine AllReadyH.cons rfl (fun K hK => ?_) ?_
        · go_simp
          go_wp2_with (go_at_call 53; (with_reducible refine (peer_2 _).mono ?_); rintro e y43 ⟨rfl, kk⟩)
          replace hB := belTo hg hB kk
          replace LA := LA.bel kk
          replace LB := LB.bel kk
          replace T1 := T1.bel kk
          replace T3 := T3.bel kk
          refine hK.out _ _ ?_ (fun hHeld => ?_)
          · exact T1
          clear hK K hHeld kk
          (try simp only [Act.put]); (try simp only [List.setIfInBounds_toArray]); (try simp only [List.set_cons_succ]); (try simp only [List.set_cons_zero])
          refine wpAnyH_ready (rs := [2, 7]) (by kernel_rfl) (by simp) ?_
          refine AllReadyH.cons rfl (fun K hK => ?_) ?_
          · go_simp
            go_wp2_with (go_at_call 15; (with_reducible refine (point_0 LA LB).mono ?_); rintro e y44 ⟨r1, r2, rfl, tw, kk⟩)
            have L1 := tw.l1
            have L2 := tw.l2
            clear tw
            replace hB := belTo hg hB kk
            replace T1 := T1.bel kk
            replace T3 := T3.bel kk
            refine hK.out _ _ ?_ (fun hHeld => ?_)
            · exact T1
            clear hK K hHeld kk
            (try simp only [Act.put]); (try simp only [List.setIfInBounds_toArray]); (try simp only [List.set_cons_succ]); (try simp only [List.set_cons_zero])
            refine wpAnyH_take (i := 3) (v := ?_) rfl (by kernel_rfl) (by kernel_rfl) (by kernel_rfl) (fun _ _ _ h => h) (Or.inl ⟨by rfl, ?_⟩) (by assumption) ?_
            rotate_left
            · intro w9 hSw
              (try dsimp only at hSw)
              go_simp
              (try with_reducible rfl)
            (try simp only [Act.put]); (try simp only [List.setIfInBounds_toArray]); (try simp only [List.set_cons_succ]); (try simp only [List.set_cons_zero])
            refine wpAnyH_take (i := 4) (v := ?_) rfl (by kernel_rfl) (by kernel_rfl) (by kernel_rfl) (fun _ _ _ h => h) (Or.inl ⟨by rfl, ?_⟩) (by assumption) ?_
            rotate_left
            · intro w9 hSw
              (try dsimp only at hSw)
              go_simp
              (try with_reducible rfl)
            (try simp only [Act.put]); (try simp only [List.setIfInBounds_toArray]); (try simp only [List.set_cons_succ]); (try simp only [List.set_cons_zero])
            refine wpAnyH_take (i := 5) (v := ?_) rfl (by kernel_rfl) (by kernel_rfl) (by kernel_rfl) (fun _ _ _ h => h) (Or.inl ⟨by rfl, ?_⟩) (by assumption) ?_
            rotate_left
            · intro w9 hSw
              (try dsimp only at hSw)
              go_simp
              (try with_reducible rfl)
            (try simp only [Act.put]); (try simp only [List.setIfInBounds_toArray]); (try simp only [List.set_cons_succ]); (try simp only [List.set_cons_zero])
            refine wpAnyH_take (i := 6) (v := ?_) rfl (by kernel_rfl) (by kernel_rfl) (by kernel_rfl) (fun _ _ _ h => h) (Or.inl ⟨by rfl, ?_⟩) (by assumption) ?_
            rotate_left
            · intro w9 hSw
              (try dsimp only at hSw)
              go_simp
              (try with_reducible rfl)
            (try simp only [Act.put]); (try simp only [List.setIfInBounds_toArray]); (try simp only [List.set_cons_succ]); (try simp only [List.set_cons_zero])
            iterate 2
              (try dsimp only [List.getElem_toArray, List.getElem_cons_succ, List.getElem_cons_zero])
              (try simp only [Act.put]); (try simp only [List.setIfInBounds_toArray]); (try simp only [List.set_cons_succ]); (try simp only [List.set_cons_zero])
            refine wpAnyH_ready (rs := [7]) (by kernel_rfl) (by simp) ?_
            refine AllReadyH.cons rfl (fun K hK => ?_) ?_
            · go_simp
              have kk := (Below.refl y44.heap.size y44).alloc (Nat.le_refl _) (.cells (tabA (0, 0) (0, 0) nilS nilS) 28)
              have n_T1 := T1.lt
              have n_T3 := T3.lt
              have X := TB.zero y44
              have n0 := hB.size
              have e1 := lies_block L1 (by decide) (Nat.le_refl y44.heap.size)
              have e2 := lies_block L2 (by decide) (Nat.le_refl y44.heap.size)
              replace hB := belTo hg hB kk
              replace T1 := T1.bel kk
              replace T3 := T3.bel kk
              replace L1 := L1.bel kk
              replace L2 := L2.bel kk
              refine hK.out _ _ ?_ (fun hHeld => ?_)
              · (try rw [tab_zero]); exact T1
              clear hK K
              try rw [tab_zero] at hHeld
              (try simp only [Act.put]); (try simp only [List.setIfInBounds_toArray]); (try simp only [List.set_cons_succ]); (try simp only [List.set_cons_zero])
              try rw [tab_zero]
              clear hHeld kk
              generalize y44.heap.size = x at *
              generalize y44.alloc _ = y45 at *
              refine wpAnyH_ready (rs := [8]) (by kernel_rfl) (by simp) ?_
              refine AllReadyH.cons rfl (fun K hK => ?_) ?_
              rotate_left
              · exact AllReadyH.nil
              rw [if_pos (by rfl)]
              refine wp_store_row 28 _ _ rfl x (tabA s1 (3, 30) r1 r2) rfl rfl 28 (tabA (0, 0) (0, 0) nilS nilS) X (by rw [tabA_size]; exact sizeT) (by rw [tabA_size, tabA_size]) (tabA_one (one_lies L1) (one_lies L2)) ?_
              refine hK.out _ _ ?_ (fun hHeld => ?_)
              · exact tb_row T1 _ (by omega)
              clear hK K
              (try simp only [Act.put]); (try simp only [List.setIfInBounds_toArray]); (try simp only [List.set_cons_succ]); (try simp only [List.set_cons_zero])
              refine wpAnyH_take (i := 9) (v := ?_) rfl (by kernel_rfl) (by kernel_rfl) (by kernel_rfl) (fun _ _ _ h => h) (Or.inl ⟨by rfl, ?_⟩) (by assumption) ?_
              rotate_left
              · intro w9 hSw
                (try dsimp only at hSw)
                go_simp
                (try with_reducible rfl)
              (try simp only [Act.put]); (try simp only [List.setIfInBounds_toArray]); (try simp only [List.set_cons_succ]); (try simp only [List.set_cons_zero])
              refine wpAnyH_take (i := 10) (v := ?_) rfl (by kernel_rfl) (by kernel_rfl) (by kernel_rfl) (fun _ _ _ h => h) (Or.inl ⟨by rfl, ?_⟩) (by assumption) ?_
              rotate_left
              · intro w9 hSw
                (try dsimp only at hSw)
                go_simp
                (try with_reducible rfl)
              (try simp only [Act.put]); (try simp only [List.setIfInBounds_toArray]); (try simp only [List.set_cons_succ]); (try simp only [List.set_cons_zero])
              iterate 2
                (try dsimp only [List.getElem_toArray, List.getElem_cons_succ, List.getElem_cons_zero])
                (try simp only [Act.put]); (try simp only [List.setIfInBounds_toArray]); (try simp only [List.set_cons_succ]); (try simp only [List.set_cons_zero])
              refine wpAnyH_done (by kernel_rfl) ?_ _
              go_wp2
              go_meet
              exact ⟨rfl, rfl, ⟨x, r1, r2, rfl, X.set _ _ _ _, lies_set L1 (fun _ => e1) _, lies_set L2 (fun _ => e2) _, bel_setRow hB (by omega) _⟩, tb_row T3 _ (by omega), tb_row T1 _ (by omega)⟩
            exact AllReadyH.nil
          refine AllReadyH.cons rfl (fun K hK => ?_) ?_
          · go_simp
            have kk := (Below.refl y43.heap.size y43).alloc (Nat.le_refl _) (.cells (tabA (0, 0) (0, 0) nilS nilS) 28)
            have n_T1 := T1.lt
            have n_T3 := T3.lt
            have X := TB.zero y43
            have n0 := hB.size
            replace hB := belTo hg hB kk
            replace LA := LA.bel kk
            replace LB := LB.bel kk
            replace T1 := T1.bel kk
            replace T3 := T3.bel kk
            refine hK.out _ _ ?_ (fun hHeld => ?_)
            · (try rw [tab_zero]); exact T1
            clear hK K
            try rw [tab_zero] at hHeld
            (try simp only [Act.put]); (try simp only [List.setIfInBounds_toArray]); (try simp only [List.set_cons_succ]); (try simp only [List.set_cons_zero])
            try rw [tab_zero]
            clear hHeld kk
            generalize y43.heap.size = x at *
            generalize y43.alloc _ = y46 at *
            refine wpAnyH_ready (rs := [2]) (by kernel_rfl) (by simp) ?_
            refine AllReadyH.cons rfl (fun K hK => ?_) ?_
            · go_simp
              go_wp2_with (go_at_call 15; (with_reducible refine (point_0 LA LB).mono ?_); rintro e y47 ⟨r1, r2, rfl, tw, kk⟩)
              have L1 := tw.l1
              have L2 := tw.l2
              have e1 := k_ne tw.k1 X.lt
              have e2 := k_ne tw.k2 X.lt
              clear tw
              replace hB := belTo hg hB kk
              replace T1 := T1.bel kk
              replace T3 := T3.bel kk
              replace X := X.bel kk
              refine hK.out _ _ ?_ (fun hHeld => ?_)
              · exact T1
              clear hK K hHeld kk
              (try simp only [Act.put]); (try simp only [List.setIfInBounds_toArray]); (try simp only [List.set_cons_succ]); (try simp only [List.set_cons_zero])
              refine wpAnyH_take (i := 3) (v := ?_) rfl (by kernel_rfl) (by kernel_rfl) (by kernel_rfl) (fun _ _ _ h => h) (Or.inl ⟨by rfl, ?_⟩) (by assumption) ?_
              rotate_left
              · intro w9 hSw
                (try dsimp only at hSw)
                go_simp
                (try with_reducible rfl)
              (try simp only [Act.put]); (try simp only [List.setIfInBounds_toArray]); (try simp only [List.set_cons_succ]); (try simp only [List.set_cons_zero])
              refine wpAnyH_take (i := 4) (v := ?_) rfl (by kernel_rfl) (by kernel_rfl) (by kernel_rfl) (fun _ _ _ h => h) (Or.inl ⟨by rfl, ?_⟩) (by assumption) ?_
              rotate_left
              · intro w9 hSw
                (try dsimp only at hSw)
                go_simp
                (try with_reducible rfl)
              (try simp only [Act.put]); (try simp only [List.setIfInBounds_toArray]); (try simp only [List.set_cons_succ]); (try simp only [List.set_cons_zero])
              refine wpAnyH_take (i := 5) (v := ?_) rfl (by kernel_rfl) (by kernel_rfl) (by kernel_rfl) (fun _ _ _ h => h) (Or.inl ⟨by rfl, ?_⟩) (by assumption) ?_
              rotate_left
              · intro w9 hSw
                (try dsimp only at hSw)
                go_simp
                (try with_reducible rfl)
              (try simp only [Act.put]); (try simp only [List.setIfInBounds_toArray]); (try simp only [List.set_cons_succ]); (try simp only [List.set_cons_zero])
              refine wpAnyH_take (i := 6) (v := ?_) rfl (by kernel_rfl) (by kernel_rfl) (by kernel_rfl) (fun _ _ _ h => h) (Or.inl ⟨by rfl, ?_⟩) (by assumption) ?_
              rotate_left
              · intro w9 hSw
                (try dsimp only at hSw)
                go_simp
                (try with_reducible rfl)
              (try simp only [Act.put]); (try simp only [List.setIfInBounds_toArray]); (try simp only [List.set_cons_succ]); (try simp only [List.set_cons_zero])
              iterate 2
                (try dsimp only [List.getElem_toArray, List.getElem_cons_succ, List.getElem_cons_zero])
                (try simp only [Act.put]); (try simp only [List.setIfInBounds_toArray]); (try simp only [List.set_cons_succ]); (try simp only [List.set_cons_zero])
              refine wpAnyH_ready (rs := [8]) (by kernel_rfl) (by simp) ?_
              refine AllReadyH.cons rfl (fun K hK => ?_) ?_
              rotate_left
              · exact AllReadyH.nil
              rw [if_pos (by rfl)]
              refine wp_store_row 28 _ _ rfl x (tabA s1 (3, 30) r1 r2) rfl rfl 28 (tabA (0, 0) (0, 0) nilS nilS) X (by rw [tabA_size]; exact sizeT) (by rw [tabA_size, tabA_size]) (tabA_one (one_lies L1) (one_lies L2)) ?_
              refine hK.out _ _ ?_ (fun hHeld => ?_)
              · exact tb_row T1 _ (by omega)
              clear hK K
              (try simp only [Act.put]); (try simp only [List.setIfInBounds_toArray]); (try simp only [List.set_cons_succ]); (try simp only [List.set_cons_zero])
              refine wpAnyH_take (i := 9) (v := ?_) rfl (by kernel_rfl) (by kernel_rfl) (by kernel_rfl) (fun _ _ _ h => h) (Or.inl ⟨by rfl, ?_⟩) (by assumption) ?_
              rotate_left
              · intro w9 hSw
                (try dsimp only at hSw)
                go_simp
                (try with_reducible rfl)
              (try simp only [Act.put]); (try simp only [List.setIfInBounds_toArray]); (try simp only [List.set_cons_succ]); (try simp only [List.set_cons_zero])
              refine wpAnyH_take (i := 10) (v := ?_) rfl (by kernel_rfl) (by kernel_rfl) (by kernel_rfl) (fun _ _ _ h => h) (Or.inl ⟨by rfl, ?_⟩) (by assumption) ?_
              rotate_left
              · intro w9 hSw
                (try dsimp only at hSw)
                go_simp
                (try with_reducible rfl)
              (try simp only [Act.put]); (try simp only [List.setIfInBounds_toArray]); (try simp only [List.set_cons_succ]); (try simp only [List.set_cons_zero])
              iterate 2
                (try dsimp only [List.getElem_toArray, List.getElem_cons_succ, List.getElem_cons_zero])
                (try simp only [Act.put]); (try simp only [List.setIfInBounds_toArray]); (try simp only [List.set_cons_succ]); (try simp only [List.set_cons_zero])
              refine wpAnyH_done (by kernel_rfl) ?_ _
              go_wp2
              go_meet
              exact ⟨rfl, rfl, ⟨x, r1, r2, rfl, X.set _ _ _ _, lies_set L1 (fun _ => e1) _, lies_set L2 (fun _ => e2) _, bel_setRow hB (by omega) _⟩, tb_row T3 _ (by omega), tb_row T1 _ (by omega)⟩
            exact AllReadyH.nil
          exact AllReadyH.nil
        refine AllReadyH.cons rfl (fun K hK => ?_) ?_
        · go_simp
          have kk := (Below.refl W4.heap.size W4).alloc (Nat.le_refl _) (.cells (tabA (0, 0) (0, 0) nilS nilS) 28)
          have n_T1 := T1.lt
          have n_T3 := T3.lt
          have X := TB.zero W4
          have n0 := hB.size
          replace hB := belTo hg hB kk
          replace LA := LA.bel kk
          replace LB := LB.bel kk
          replace T1 := T1.bel kk
          replace T3 := T3.bel kk
          refine hK.out _ _ ?_ (fun hHeld => ?_)
          · (try rw [tab_zero]); exact T1
          clear hK K
          try rw [tab_zero] at hHeld
          (try simp only [Act.put]); (try simp only [List.setIfInBounds_toArray]); (try simp only [List.set_cons_succ]); (try simp only [List.set_cons_zero])
          try rw [tab_zero]
          clear hHeld kk
          generalize W4.heap.size = x at *
          generalize W4.alloc _ = y48 at *
          refine wpAnyH_ready (rs := [1]) (by kernel_rfl) (by simp) ?_
          refine AllReadyH.cons rfl (fun K hK => ?_) ?_
          · go_simp
            go_wp2_with (go_at_call 53; (with_reducible refine (peer_2 _).mono ?_); rintro e y49 ⟨rfl, kk⟩)
            replace hB := belTo hg hB kk
            replace LA := LA.bel kk
            replace LB := LB.bel kk
            replace T1 := T1.bel kk
            replace T3 := T3.bel kk
            replace X := X.bel kk
            refine hK.out _ _ ?_ (fun hHeld => ?_)
            · exact T1
            clear hK K hHeld kk
            (try simp only [Act.put]); (try simp only [List.setIfInBounds_toArray]); (try simp only [List.set_cons_succ]); (try simp only [List.set_cons_zero])
            refine wpAnyH_ready (rs := [2]) (by kernel_rfl) (by simp) ?_
            refine AllReadyH.cons rfl (fun K hK => ?_) ?_
            · go_simp
              go_wp2_with (go_at_call 15; (with_reducible refine (point_0 LA LB).mono ?_); rintro e y50 ⟨r1, r2, rfl, tw, kk⟩)
              have L1 := tw.l1
              have L2 := tw.l2
              have e1 := k_ne tw.k1 X.lt
              have e2 := k_ne tw.k2 X.lt
              clear tw
              replace hB := belTo hg hB kk
              replace T1 := T1.bel kk
              replace T3 := T3.bel kk
              replace X := X.bel kk
              refine hK.out _ _ ?_ (fun hHeld => ?_)
              · exact T1
              clear hK K hHeld kk
              (try simp only [Act.put]); (try simp only [List.setIfInBounds_toArray]); (try simp only [List.set_cons_succ]); (try simp only [List.set_cons_zero])
              refine wpAnyH_take (i := 3) (v := ?_) rfl (by kernel_rfl) (by kernel_rfl) (by kernel_rfl) (fun _ _ _ h => h) (Or.inl ⟨by rfl, ?_⟩) (by assumption) ?_
              rotate_left
              · intro w9 hSw
                (try dsimp only at hSw)
                go_simp
                (try with_reducible rfl)
              (try simp only [Act.put]); (try simp only [List.setIfInBounds_toArray]); (try simp only [List.set_cons_succ]); (try simp only [List.set_cons_zero])
              refine wpAnyH_take (i := 4) (v := ?_) rfl (by kernel_rfl) (by kernel_rfl) (by kernel_rfl) (fun _ _ _ h => h) (Or.inl ⟨by rfl, ?_⟩) (by assumption) ?_
              rotate_left
              · intro w9 hSw
                (try dsimp only at hSw)
                go_simp
                (try with_reducible rfl)
              (try simp only [Act.put]); (try simp only [List.setIfInBounds_toArray]); (try simp only [List.set_cons_succ]); (try simp only [List.set_cons_zero])
              refine wpAnyH_take (i := 5) (v := ?_) rfl (by kernel_rfl) (by kernel_rfl) (by kernel_rfl) (fun _ _ _ h => h) (Or.inl ⟨by rfl, ?_⟩) (by assumption) ?_
              rotate_left
              · intro w9 hSw
                (try dsimp only at hSw)
                go_simp
                (try with_reducible rfl)
              (try simp only [Act.put]); (try simp only [List.setIfInBounds_toArray]); (try simp only [List.set_cons_succ]); (try simp only [List.set_cons_zero])
              refine wpAnyH_take (i := 6) (v := ?_) rfl (by kernel_rfl) (by kernel_rfl) (by kernel_rfl) (fun _ _ _ h => h) (Or.inl ⟨by rfl, ?_⟩) (by assumption) ?_
              rotate_left
              · intro w9 hSw
                (try dsimp only at hSw)
                go_simp
                (try with_reducible rfl)
              (try simp only [Act.put]); (try simp only [List.setIfInBounds_toArray]); (try simp only [List.set_cons_succ]); (try simp only [List.set_cons_zero])
              iterate 2
                (try dsimp only [List.getElem_toArray, List.getElem_cons_succ, List.getElem_cons_zero])
                (try simp only [Act.put]); (try simp only [List.setIfInBounds_toArray]); (try simp only [List.set_cons_succ]); (try simp only [List.set_cons_zero])
              refine wpAnyH_ready (rs := [8]) (by kernel_rfl) (by simp) ?_
              refine AllReadyH.cons rfl (fun K hK => ?_) ?_
              rotate_left
              · exact AllReadyH.nil
              rw [if_pos (by rfl)]
              refine wp_store_row 28 _ _ rfl x (tabA s1 (3, 30) r1 r2) rfl rfl 28 (tabA (0, 0) (0, 0) nilS nilS) X (by rw [tabA_size]; exact sizeT) (by rw [tabA_size, tabA_size]) (tabA_one (one_lies L1) (one_lies L2)) ?_
              refine hK.out _ _ ?_ (fun hHeld => ?_)
              · exact tb_row T1 _ (by omega)
              clear hK K
              (try simp only [Act.put]); (try simp only [List.setIfInBounds_toArray]); (try simp only [List.set_cons_succ]); (try simp only [List.set_cons_zero])
              refine wpAnyH_take (i := 9) (v := ?_) rfl (by kernel_rfl) (by kernel_rfl) (by kernel_rfl) (fun _ _ _ h => h) (Or.inl ⟨by rfl, ?_⟩) (by assumption) ?_
              rotate_left
              · intro w9 hSw
                (try dsimp only at hSw)
                go_simp
                (try with_reducible rfl)
              (try simp only [Act.put]); (try simp only [List.setIfInBounds_toArray]); (try simp only [List.set_cons_succ]); (try simp only [List.set_cons_zero])
              refine wpAnyH_take (i := 10) (v := ?_) rfl (by kernel_rfl) (by kernel_rfl) (by kernel_rfl) (fun _ _ _ h => h) (Or.inl ⟨by rfl, ?_⟩) (by assumption) ?_
              rotate_left
              · intro w9 hSw
                (try dsimp only at hSw)
                go_simp
                (try with_reducible rfl)
              (try simp only [Act.put]); (try simp only [List.setIfInBounds_toArray]); (try simp only [List.set_cons_succ]); (try simp only [List.set_cons_zero])
              iterate 2
                (try dsimp only [List.getElem_toArray, List.getElem_cons_succ, List.getElem_cons_zero])
                (try simp only [Act.put]); (try simp only [List.setIfInBounds_toArray]); (try simp only [List.set_cons_succ]); (try simp only [List.set_cons_zero])
              refine wpAnyH_done (by kernel_rfl) ?_ _
              go_wp2
              go_meet
              exact ⟨rfl, rfl, ⟨x, r1, r2, rfl, X.set _ _ _ _, lies_set L1 (fun _ => e1) _, lies_set L2 (fun _ => e2) _, bel_setRow hB (by omega) _⟩, tb_row T3 _ (by omega), tb_row T1 _ (by omega)⟩
            exact AllReadyH.nil
          exact AllReadyH.nil
        exact AllReadyH.nil
      case rest =>
        clear T1 hB LA LB T3
        obtain ⟨rfl, rfl, hv, hT3, hT5⟩ := hcut
        have T3 := hT3.out
        have T5 := hT5.out
        obtain ⟨g6, u6, v6, rfl, T1, LA, LB, hB⟩ := hv.out
        have F6 := LB.form
        clear hv hT3 hT5
        obtain ⟨ua, uc, rfl⟩ := HU3.out
        obtain ⟨va, vc, rfl⟩ := F6
        have c3 := T3.cu
        have c6 := T1.cv
        have q2 : S2.length = 2 := rfl
        rw [q2] at c3
        rw [f4_len] at c6
        clear q2 T3 HU3
        go_upto_region 7 with go_big_skip
        clear c3 c6
        go_cut [9, 10] from 19 (fun v9 v10 wx => v10 = .bool true ∧ Hid (∃ q, v9 = .pointer (some ⟨q, 0, none⟩) ∧ PB wx q (2, 20)) ∧ Hid (TB wx g5 s1 (3, 30) u5 v5) ∧ Hid (TB wx g6 s1 (3, 30) u6 (.slice va F4.length vc)) ∧ Hid (Lies wx u6 S2) ∧ Hid (Lies wx (.slice va F4.length vc) F4) ∧ Hid (Below g w wx))
        case first => as_aux_lemma =>
          refine wp_region_held_drew (S := (fun w9 => TB w9 g6 s1 (3, 30) u6 (.slice va F4.length vc))) (by kernel_rfl) ?_ (fun hHeld => ?_)
          · exact T1
          replace hB := belTo hg hB (drew_bel wc)
          replace LA := LA.bel (drew_bel wc)
          replace LB := LB.bel (drew_bel wc)
          replace T1 := T1.bel (drew_bel wc)
          replace T5 := T5.bel (drew_bel wc)
          generalize World.drew wc = W5 at *
          refine wpAnyH_take (i := 0) (oi := { dst := some 64, op := .load 28 (.tmp 6), type := 28, pos := "law.go:25", after := #[], guard := none }) (v := .agg (tabA s1 (3, 30) u6 (.slice va F4.length vc))) rfl (by kernel_rfl) (by kernel_rfl) (by kernel_rfl) (fun _ _ _ h => h) (y_midT (by rfl) (.tmp 6) rfl g6 rfl (fun _ h => h)) (by assumption) ?_
          (try simp only [Act.put]); (try simp only [List.setIfInBounds_toArray]); (try simp only [List.set_cons_succ]); (try simp only [List.set_cons_zero])
          iterate 2
            (try dsimp only [List.getElem_toArray, List.getElem_cons_succ, List.getElem_cons_zero])
            (try simp only [Act.put]); (try simp only [List.setIfInBounds_toArray]); (try simp only [List.set_cons_succ]); (try simp only [List.set_cons_zero])
          refine wpAnyH_ready (rs := [1, 6]) (by kernel_rfl) (by simp) ?_
          refine AllReadyH.cons rfl (fun K hK => ?_) ?_
          · go_simp
            go_wp2_with (go_at_call 54; (with_reducible refine (small_15 _).mono ?_); rintro e y51 ⟨rfl, kk⟩)
            replace hB := belTo hg hB kk
            replace LA := LA.bel kk
            replace LB := LB.bel kk
            replace T1 := T1.bel kk
            replace T5 := T5.bel kk
            refine hK.out _ _ ?_ (fun hHeld => ?_)
            · exact T1
            clear hK K hHeld kk
            (try simp only [Act.put]); (try simp only [List.setIfInBounds_toArray]); (try simp only [List.set_cons_succ]); (try simp only [List.set_cons_zero])
            refine wpAnyH_ready (rs := [2, 6]) (by kernel_rfl) (by simp) ?_
            refine AllReadyH.cons rfl (fun K hK => ?_) ?_
            · go_simp
              go_wp2_with (go_at_call 23; (with_reducible refine (done_15 LA).mono ?_); rintro e y52 ⟨rfl, kk⟩)
              replace hB := belTo hg hB kk
              replace LA := LA.bel kk
              replace LB := LB.bel kk
              replace T1 := T1.bel kk
              replace T5 := T5.bel kk
              refine hK.out _ _ ?_ (fun hHeld => ?_)
              · exact T1
              clear hK K hHeld kk
              (try simp only [Act.put]); (try simp only [List.setIfInBounds_toArray]); (try simp only [List.set_cons_succ]); (try simp only [List.set_cons_zero])
              refine wpAnyH_take (i := 3) (v := ?_) rfl (by kernel_rfl) (by kernel_rfl) (by kernel_rfl) (fun _ _ _ h => h) (Or.inl ⟨by rfl, ?_⟩) (by assumption) ?_
              rotate_left
              · intro w9 hSw
                (try dsimp only at hSw)
                go_simp
                (try with_reducible rfl)
              (try simp only [Act.put]); (try simp only [List.setIfInBounds_toArray]); (try simp only [List.set_cons_succ]); (try simp only [List.set_cons_zero])
              refine wpAnyH_take (i := 4) (v := ?_) rfl (by kernel_rfl) (by kernel_rfl) (by kernel_rfl) (fun _ _ _ h => h) (Or.inl ⟨by rfl, ?_⟩) (by assumption) ?_
              rotate_left
              · intro w9 hSw
                (try dsimp only at hSw)
                go_simp
                (try with_reducible rfl)
              (try simp only [Act.put]); (try simp only [List.setIfInBounds_toArray]); (try simp only [List.set_cons_succ]); (try simp only [List.set_cons_zero])
              refine wpAnyH_take (i := 5) (v := ?_) rfl (by kernel_rfl) (by kernel_rfl) (by kernel_rfl) (fun _ _ _ h => h) (Or.inl ⟨by rfl, ?_⟩) (by assumption) ?_
              rotate_left
              · intro w9 hSw
                (try dsimp only at hSw)
                go_simp
                (try with_reducible rfl)
              (try simp only [Act.put]); (try simp only [List.setIfInBounds_toArray]); (try simp only [List.set_cons_succ]); (try simp only [List.set_cons_zero])
              iterate 2
                (try dsimp only [List.getElem_toArray, List.getElem_cons_succ, List.getElem_cons_zero])
                (try simp only [Act.put]); (try simp only [List.setIfInBounds_toArray]); (try simp only [List.set_cons_succ]); (try simp only [List.set_cons_zero])
              refine wpAnyH_ready (rs := [6]) (by kernel_rfl) (by simp) ?_
              refine AllReadyH.cons rfl (fun K hK => ?_) ?_
              · go_simp
                have kk := (Below.refl y52.heap.size y52).alloc (Nat.le_refl _) (.cells (peA (0, 0)) 25)
                have n_T1 := T1.lt
                have n_T5 := T5.lt
                have X := PB.zero y52
                have n0 := hB.size
                have ne_LA := lies_block LA (by first | decide | (rw [f4_len]; omega)) (Nat.le_refl y52.heap.size)
                have ne_LB := lies_block LB (by first | decide | (rw [f4_len]; omega)) (Nat.le_refl y52.heap.size)
                replace hB := belTo hg hB kk
                replace LA := LA.bel kk
                replace LB := LB.bel kk
                replace T1 := T1.bel kk
                replace T5 := T5.bel kk
                refine hK.out _ _ ?_ (fun hHeld => ?_)
                · (try rw [peer_zero]); exact T1
                clear hK K
                try rw [peer_zero] at hHeld
                (try simp only [Act.put]); (try simp only [List.setIfInBounds_toArray]); (try simp only [List.set_cons_succ]); (try simp only [List.set_cons_zero])
                try rw [peer_zero]
                clear hHeld kk
                generalize y52.heap.size = x at *
                generalize y52.alloc _ = y53 at *
                refine wpAnyH_ready (rs := [7]) (by kernel_rfl) (by simp) ?_
                refine AllReadyH.cons rfl (fun K hK => ?_) ?_
                rotate_left
                · exact AllReadyH.nil
                rw [if_pos (by rfl)]
                refine wp_store_row 25 _ _ rfl x (peA (2, 20)) rfl rfl 25 (peA (0, 0)) X (by rw [peA_size]; exact sizeP) (by rw [peA_size, peA_size]) (peA_one _) ?_
                refine hK.out _ _ ?_ (fun hHeld => ?_)
                · exact tb_row T1 _ (by omega)
                clear hK K
                (try simp only [Act.put]); (try simp only [List.setIfInBounds_toArray]); (try simp only [List.set_cons_succ]); (try simp only [List.set_cons_zero])
                refine wpAnyH_take (i := 8) (v := ?_) rfl (by kernel_rfl) (by kernel_rfl) (by kernel_rfl) (fun _ _ _ h => h) (Or.inl ⟨by rfl, ?_⟩) (by assumption) ?_
                rotate_left
                · intro w9 hSw
                  (try dsimp only at hSw)
                  go_simp
                  (try with_reducible rfl)
                (try simp only [Act.put]); (try simp only [List.setIfInBounds_toArray]); (try simp only [List.set_cons_succ]); (try simp only [List.set_cons_zero])
                iterate 2
                  (try dsimp only [List.getElem_toArray, List.getElem_cons_succ, List.getElem_cons_zero])
                  (try simp only [Act.put]); (try simp only [List.setIfInBounds_toArray]); (try simp only [List.set_cons_succ]); (try simp only [List.set_cons_zero])
                refine wpAnyH_done (by kernel_rfl) ?_ _
                go_wp2
                go_meet
                exact ⟨rfl, ⟨x, rfl, X.set _⟩, tb_row T5 _ (by omega), tb_row T1 _ (by omega), lies_set LA (fun _ => ne_LA) _, lies_set LB (fun _ => ne_LB) _, bel_setRow hB (by omega) _⟩
              exact AllReadyH.nil
            refine AllReadyH.cons rfl (fun K hK => ?_) ?_
            · go_simp
              have kk := (Below.refl y51.heap.size y51).alloc (Nat.le_refl _) (.cells (peA (0, 0)) 25)
              have n_T1 := T1.lt
              have n_T5 := T5.lt
              have X := PB.zero y51
              have n0 := hB.size
              have ne_LA := lies_block LA (by first | decide | (rw [f4_len]; omega)) (Nat.le_refl y51.heap.size)
              have ne_LB := lies_block LB (by first | decide | (rw [f4_len]; omega)) (Nat.le_refl y51.heap.size)
              replace hB := belTo hg hB kk
              replace LA := LA.bel kk
              replace LB := LB.bel kk
              replace T1 := T1.bel kk
              replace T5 := T5.bel kk
              refine hK.out _ _ ?_ (fun hHeld => ?_)
              · (try rw [peer_zero]); exact T1
              clear hK K
              try rw [peer_zero] at hHeld
              (try simp only [Act.put]); (try simp only [List.setIfInBounds_toArray]); (try simp only [List.set_cons_succ]); (try simp only [List.set_cons_zero])
              try rw [peer_zero]
              clear hHeld kk
              generalize y51.heap.size = x at *
              generalize y51.alloc _ = y54 at *
              refine wpAnyH_ready (rs := [2]) (by kernel_rfl) (by simp) ?_
              refine AllReadyH.cons rfl (fun K hK => ?_) ?_
              · go_simp
                go_wp2_with (go_at_call 23; (with_reducible refine (done_15 LA).mono ?_); rintro e y55 ⟨rfl, kk⟩)
                replace hB := belTo hg hB kk
                replace LA := LA.bel kk
                replace LB := LB.bel kk
                replace T1 := T1.bel kk
                replace T5 := T5.bel kk
                replace X := X.bel kk
                refine hK.out _ _ ?_ (fun hHeld => ?_)
                · exact T1
                clear hK K hHeld kk
                (try simp only [Act.put]); (try simp only [List.setIfInBounds_toArray]); (try simp only [List.set_cons_succ]); (try simp only [List.set_cons_zero])
                refine wpAnyH_take (i := 3) (v := ?_) rfl (by kernel_rfl) (by kernel_rfl) (by kernel_rfl) (fun _ _ _ h => h) (Or.inl ⟨by rfl, ?_⟩) (by assumption) ?_
                rotate_left
                · intro w9 hSw
                  (try dsimp only at hSw)
                  go_simp
                  (try with_reducible rfl)
                (try simp only [Act.put]); (try simp only [List.setIfInBounds_toArray]); (try simp only [List.set_cons_succ]); (try simp only [List.set_cons_zero])
                refine wpAnyH_take (i := 4) (v := ?_) rfl (by kernel_rfl) (by kernel_rfl) (by kernel_rfl) (fun _ _ _ h => h) (Or.inl ⟨by rfl, ?_⟩) (by assumption) ?_
                rotate_left
                · intro w9 hSw
                  (try dsimp only at hSw)
                  go_simp
                  (try with_reducible rfl)
                (try simp only [Act.put]); (try simp only [List.setIfInBounds_toArray]); (try simp only [List.set_cons_succ]); (try simp only [List.set_cons_zero])
                refine wpAnyH_take (i := 5) (v := ?_) rfl (by kernel_rfl) (by kernel_rfl) (by kernel_rfl) (fun _ _ _ h => h) (Or.inl ⟨by rfl, ?_⟩) (by assumption) ?_
                rotate_left
                · intro w9 hSw
                  (try dsimp only at hSw)
                  go_simp
                  (try with_reducible rfl)
                (try simp only [Act.put]); (try simp only [List.setIfInBounds_toArray]); (try simp only [List.set_cons_succ]); (try simp only [List.set_cons_zero])
                iterate 2
                  (try dsimp only [List.getElem_toArray, List.getElem_cons_succ, List.getElem_cons_zero])
                  (try simp only [Act.put]); (try simp only [List.setIfInBounds_toArray]); (try simp only [List.set_cons_succ]); (try simp only [List.set_cons_zero])
                refine wpAnyH_ready (rs := [7]) (by kernel_rfl) (by simp) ?_
                refine AllReadyH.cons rfl (fun K hK => ?_) ?_
                rotate_left
                · exact AllReadyH.nil
                rw [if_pos (by rfl)]
                refine wp_store_row 25 _ _ rfl x (peA (2, 20)) rfl rfl 25 (peA (0, 0)) X (by rw [peA_size]; exact sizeP) (by rw [peA_size, peA_size]) (peA_one _) ?_
                refine hK.out _ _ ?_ (fun hHeld => ?_)
                · exact tb_row T1 _ (by omega)
                clear hK K
                (try simp only [Act.put]); (try simp only [List.setIfInBounds_toArray]); (try simp only [List.set_cons_succ]); (try simp only [List.set_cons_zero])
                refine wpAnyH_take (i := 8) (v := ?_) rfl (by kernel_rfl) (by kernel_rfl) (by kernel_rfl) (fun _ _ _ h => h) (Or.inl ⟨by rfl, ?_⟩) (by assumption) ?_
                rotate_left
                · intro w9 hSw
                  (try dsimp only at hSw)
                  go_simp
                  (try with_reducible rfl)
                (try simp only [Act.put]); (try simp only [List.setIfInBounds_toArray]); (try simp only [List.set_cons_succ]); (try simp only [List.set_cons_zero])
                iterate 2
                  (try dsimp only [List.getElem_toArray, List.getElem_cons_succ, List.getElem_cons_zero])
                  (try simp only [Act.put]); (try simp only [List.setIfInBounds_toArray]); (try simp only [List.set_cons_succ]); (try simp only [List.set_cons_zero])
                refine wpAnyH_done (by kernel_rfl) ?_ _
                go_wp2
                go_meet
                exact ⟨rfl, ⟨x, rfl, X.set _⟩, tb_row T5 _ (by omega), tb_row T1 _ (by omega), lies_set LA (fun _ => ne_LA) _, lies_set LB (fun _ => ne_LB) _, bel_setRow hB (by omega) _⟩
              exact AllReadyH.nil
            exact AllReadyH.nil
          refine AllReadyH.cons rfl (fun K hK => ?_) ?_
          · go_simp
            have kk := (Below.refl W5.heap.size W5).alloc (Nat.le_refl _) (.cells (peA (0, 0)) 25)
            have n_T1 := T1.lt
            have n_T5 := T5.lt
            have X := PB.zero W5
            have n0 := hB.size
            have ne_LA := lies_block LA (by first | decide | (rw [f4_len]; omega)) (Nat.le_refl W5.heap.size)
            have ne_LB := lies_block LB (by first | decide | (rw [f4_len]; omega)) (Nat.le_refl W5.heap.size)
            replace hB := belTo hg hB kk
            replace LA := LA.bel kk
            replace LB := LB.bel kk
            replace T1 := T1.bel kk
            replace T5 := T5.bel kk
            refine hK.out _ _ ?_ (fun hHeld => ?_)
            · (try rw [peer_zero]); exact T1
            clear hK K
            try rw [peer_zero] at hHeld
            (try simp only [Act.put]); (try simp only [List.setIfInBounds_toArray]); (try simp only [List.set_cons_succ]); (try simp only [List.set_cons_zero])
            try rw [peer_zero]
            clear hHeld kk
            generalize W5.heap.size = x at *
            generalize W5.alloc _ = y56 at *
            refine wpAnyH_ready (rs := [1]) (by kernel_rfl) (by simp) ?_
            refine AllReadyH.cons rfl (fun K hK => ?_) ?_
            · go_simp
              go_wp2_with (go_at_call 54; (with_reducible refine (small_15 _).mono ?_); rintro e y57 ⟨rfl, kk⟩)
              replace hB := belTo hg hB kk
              replace LA := LA.bel kk
              replace LB := LB.bel kk
              replace T1 := T1.bel kk
              replace T5 := T5.bel kk
              replace X := X.bel kk
              refine hK.out _ _ ?_ (fun hHeld => ?_)
              · exact T1
              clear hK K hHeld kk
              (try simp only [Act.put]); (try simp only [List.setIfInBounds_toArray]); (try simp only [List.set_cons_succ]); (try simp only [List.set_cons_zero])
              refine wpAnyH_ready (rs := [2]) (by kernel_rfl) (by simp) ?_
              refine AllReadyH.cons rfl (fun K hK => ?_) ?_
              · go_simp
                go_wp2_with (go_at_call 23; (with_reducible refine (done_15 LA).mono ?_); rintro e y58 ⟨rfl, kk⟩)
                replace hB := belTo hg hB kk
                replace LA := LA.bel kk
                replace LB := LB.bel kk
                replace T1 := T1.bel kk
                replace T5 := T5.bel kk
                replace X := X.bel kk
                refine hK.out _ _ ?_ (fun hHeld => ?_)
                · exact T1
                clear hK K hHeld kk
                (try simp only [Act.put]); (try simp only [List.setIfInBounds_toArray]); (try simp only [List.set_cons_succ]); (try simp only [List.set_cons_zero])
                refine wpAnyH_take (i := 3) (v := ?_) rfl (by kernel_rfl) (by kernel_rfl) (by kernel_rfl) (fun _ _ _ h => h) (Or.inl ⟨by rfl, ?_⟩) (by assumption) ?_
                rotate_left
                · intro w9 hSw
                  (try dsimp only at hSw)
                  go_simp
                  (try with_reducible rfl)
                (try simp only [Act.put]); (try simp only [List.setIfInBounds_toArray]); (try simp only [List.set_cons_succ]); (try simp only [List.set_cons_zero])
                refine wpAnyH_take (i := 4) (v := ?_) rfl (by kernel_rfl) (by kernel_rfl) (by kernel_rfl) (fun _ _ _ h => h) (Or.inl ⟨by rfl, ?_⟩) (by assumption) ?_
                rotate_left
                · intro w9 hSw
                  (try dsimp only at hSw)
                  go_simp
                  (try with_reducible rfl)
                (try simp only [Act.put]); (try simp only [List.setIfInBounds_toArray]); (try simp only [List.set_cons_succ]); (try simp only [List.set_cons_zero])
                refine wpAnyH_take (i := 5) (v := ?_) rfl (by kernel_rfl) (by kernel_rfl) (by kernel_rfl) (fun _ _ _ h => h) (Or.inl ⟨by rfl, ?_⟩) (by assumption) ?_
                rotate_left
                · intro w9 hSw
                  (try dsimp only at hSw)
                  go_simp
                  (try with_reducible rfl)
                (try simp only [Act.put]); (try simp only [List.setIfInBounds_toArray]); (try simp only [List.set_cons_succ]); (try simp only [List.set_cons_zero])
                iterate 2
                  (try dsimp only [List.getElem_toArray, List.getElem_cons_succ, List.getElem_cons_zero])
                  (try simp only [Act.put]); (try simp only [List.setIfInBounds_toArray]); (try simp only [List.set_cons_succ]); (try simp only [List.set_cons_zero])
                refine wpAnyH_ready (rs := [7]) (by kernel_rfl) (by simp) ?_
                refine AllReadyH.cons rfl (fun K hK => ?_) ?_
                rotate_left
                · exact AllReadyH.nil
                rw [if_pos (by rfl)]
                refine wp_store_row 25 _ _ rfl x (peA (2, 20)) rfl rfl 25 (peA (0, 0)) X (by rw [peA_size]; exact sizeP) (by rw [peA_size, peA_size]) (peA_one _) ?_
                refine hK.out _ _ ?_ (fun hHeld => ?_)
                · exact tb_row T1 _ (by omega)
                clear hK K
                (try simp only [Act.put]); (try simp only [List.setIfInBounds_toArray]); (try simp only [List.set_cons_succ]); (try simp only [List.set_cons_zero])
                refine wpAnyH_take (i := 8) (v := ?_) rfl (by kernel_rfl) (by kernel_rfl) (by kernel_rfl) (fun _ _ _ h => h) (Or.inl ⟨by rfl, ?_⟩) (by assumption) ?_
                rotate_left
                · intro w9 hSw
                  (try dsimp only at hSw)
                  go_simp
                  (try with_reducible rfl)
                (try simp only [Act.put]); (try simp only [List.setIfInBounds_toArray]); (try simp only [List.set_cons_succ]); (try simp only [List.set_cons_zero])
                iterate 2
                  (try dsimp only [List.getElem_toArray, List.getElem_cons_succ, List.getElem_cons_zero])
                  (try simp only [Act.put]); (try simp only [List.setIfInBounds_toArray]); (try simp only [List.set_cons_succ]); (try simp only [List.set_cons_zero])
                refine wpAnyH_done (by kernel_rfl) ?_ _
                go_wp2
                go_meet
                exact ⟨rfl, ⟨x, rfl, X.set _⟩, tb_row T5 _ (by omega), tb_row T1 _ (by omega), lies_set LA (fun _ => ne_LA) _, lies_set LB (fun _ => ne_LB) _, bel_setRow hB (by omega) _⟩
              exact AllReadyH.nil
            exact AllReadyH.nil
          exact AllReadyH.nil
        case rest =>
          clear T1 hB LA LB T5
          obtain ⟨rfl, ⟨q9, rfl, P9⟩, T5, T1, LA, LB, hB⟩ := hcut
          replace T1 := T1.out
          replace T5 := T5.out
          replace LA := LA.out
          replace LB := LB.out
          replace hB := hB.out
          go_upto_region 8 with (fail)
          go_cut [11, 12] from 19 (fun v11 v12 wx => v12 = .bool true ∧ Hid (∃ q, v11 = .pointer (some ⟨q, 0, none⟩) ∧ PB wx q (3, 30)) ∧ Hid (PB wx q9 (2, 20)) ∧ Hid (TB wx g5 s1 (3, 30) u5 v5) ∧ Hid (TB wx g6 s1 (3, 30) u6 (.slice va F4.length vc)) ∧ Hid (Lies wx u6 S2) ∧ Hid (Lies wx (.slice va F4.length vc) F4) ∧ Hid (Below g w wx))
          case first => as_aux_lemma =>
            refine wp_region_held_drew (S := (fun w9 => TB w9 g6 s1 (3, 30) u6 (.slice va F4.length vc))) (by kernel_rfl) ?_ (fun hHeld => ?_)
            · exact T1
            replace hB := belTo hg hB (drew_bel wc)
            replace LA := LA.bel (drew_bel wc)
            replace LB := LB.bel (drew_bel wc)
            replace T1 := T1.bel (drew_bel wc)
            replace T5 := T5.bel (drew_bel wc)
            replace P9 := P9.bel (drew_bel wc)
            generalize World.drew wc = W6 at *
            refine wpAnyH_take (i := 0) (oi := { dst := some 70, op := .load 28 (.tmp 6), type := 28, pos := "law.go:26", after := #[], guard := none }) (v := .agg (tabA s1 (3, 30) u6 (.slice va F4.length vc))) rfl (by kernel_rfl) (by kernel_rfl) (by kernel_rfl) (fun _ _ _ h => h) (y_midT (by rfl) (.tmp 6) rfl g6 rfl (fun _ h => h)) (by assumption) ?_
            (try simp only [Act.put]); (try simp only [List.setIfInBounds_toArray]); (try simp only [List.set_cons_succ]); (try simp only [List.set_cons_zero])
            iterate 2
              (try dsimp only [List.getElem_toArray, List.getElem_cons_succ, List.getElem_cons_zero])
              (try simp only [Act.put]); (try simp only [List.setIfInBounds_toArray]); (try simp only [List.set_cons_succ]); (try simp only [List.set_cons_zero])
            refine wpAnyH_ready (rs := [1, 6]) (by kernel_rfl) (by simp) ?_
            refine AllReadyH.cons rfl (fun K hK => ?_) ?_
            · go_simp
              go_wp2_with (go_at_call 54; (with_reducible refine (small_40 _).mono ?_); rintro e y59 ⟨rfl, kk⟩)
              replace hB := belTo hg hB kk
              replace LA := LA.bel kk
              replace LB := LB.bel kk
              replace T1 := T1.bel kk
              replace T5 := T5.bel kk
              replace P9 := P9.bel kk
              refine hK.out _ _ ?_ (fun hHeld => ?_)
              · exact T1
              clear hK K hHeld kk
              (try simp only [Act.put]); (try simp only [List.setIfInBounds_toArray]); (try simp only [List.set_cons_succ]); (try simp only [List.set_cons_zero])
              refine wpAnyH_ready (rs := [2, 6]) (by kernel_rfl) (by simp) ?_
              refine AllReadyH.cons rfl (fun K hK => ?_) ?_
              · go_simp
                go_wp2_with (go_at_call 21; (with_reducible refine (near_40 LA LB).mono ?_); rintro e y60 ⟨rfl, kk⟩)
                replace hB := belTo hg hB kk
                replace LA := LA.bel kk
                replace LB := LB.bel kk
                replace T1 := T1.bel kk
                replace T5 := T5.bel kk
                replace P9 := P9.bel kk
                refine hK.out _ _ ?_ (fun hHeld => ?_)
                · exact T1
                clear hK K hHeld kk
                (try simp only [Act.put]); (try simp only [List.setIfInBounds_toArray]); (try simp only [List.set_cons_succ]); (try simp only [List.set_cons_zero])
                refine wpAnyH_take (i := 3) (v := ?_) rfl (by kernel_rfl) (by kernel_rfl) (by kernel_rfl) (fun _ _ _ h => h) (Or.inl ⟨by rfl, ?_⟩) (by assumption) ?_
                rotate_left
                · intro w9 hSw
                  (try dsimp only at hSw)
                  go_simp
                  (try with_reducible rfl)
                (try simp only [Act.put]); (try simp only [List.setIfInBounds_toArray]); (try simp only [List.set_cons_succ]); (try simp only [List.set_cons_zero])
                refine wpAnyH_take (i := 4) (v := ?_) rfl (by kernel_rfl) (by kernel_rfl) (by kernel_rfl) (fun _ _ _ h => h) (Or.inl ⟨by rfl, ?_⟩) (by assumption) ?_
                rotate_left
                · intro w9 hSw
                  (try dsimp only at hSw)
                  go_simp
                  (try with_reducible rfl)
                (try simp only [Act.put]); (try simp only [List.setIfInBounds_toArray]); (try simp only [List.set_cons_succ]); (try simp only [List.set_cons_zero])
                refine wpAnyH_take (i := 5) (v := ?_) rfl (by kernel_rfl) (by kernel_rfl) (by kernel_rfl) (fun _ _ _ h => h) (Or.inl ⟨by rfl, ?_⟩) (by assumption) ?_
                rotate_left
                · intro w9 hSw
                  (try dsimp only at hSw)
                  go_simp
                  (try with_reducible rfl)
                (try simp only [Act.put]); (try simp only [List.setIfInBounds_toArray]); (try simp only [List.set_cons_succ]); (try simp only [List.set_cons_zero])
                iterate 2
                  (try dsimp only [List.getElem_toArray, List.getElem_cons_succ, List.getElem_cons_zero])
                  (try simp only [Act.put]); (try simp only [List.setIfInBounds_toArray]); (try simp only [List.set_cons_succ]); (try simp only [List.set_cons_zero])
                refine wpAnyH_ready (rs := [6]) (by kernel_rfl) (by simp) ?_
                refine AllReadyH.cons rfl (fun K hK => ?_) ?_
                · go_simp
                  have kk := (Below.refl y60.heap.size y60).alloc (Nat.le_refl _) (.cells (peA (0, 0)) 25)
                  have n_T1 := T1.lt
                  have n_T5 := T5.lt
                  have n_P9 := P9.lt
                  have X := PB.zero y60
                  have n0 := hB.size
                  have ne_LA := lies_block LA (by first | decide | (rw [f4_len]; omega)) (Nat.le_refl y60.heap.size)
                  have ne_LB := lies_block LB (by first | decide | (rw [f4_len]; omega)) (Nat.le_refl y60.heap.size)
                  replace hB := belTo hg hB kk
                  replace LA := LA.bel kk
                  replace LB := LB.bel kk
                  replace T1 := T1.bel kk
                  replace T5 := T5.bel kk
                  replace P9 := P9.bel kk
                  refine hK.out _ _ ?_ (fun hHeld => ?_)
                  · (try rw [peer_zero]); exact T1
                  clear hK K
                  try rw [peer_zero] at hHeld
                  (try simp only [Act.put]); (try simp only [List.setIfInBounds_toArray]); (try simp only [List.set_cons_succ]); (try simp only [List.set_cons_zero])
                  try rw [peer_zero]
                  clear hHeld kk
                  generalize y60.heap.size = x at *
                  generalize y60.alloc _ = y61 at *
                  refine wpAnyH_ready (rs := [7]) (by kernel_rfl) (by simp) ?_
                  refine AllReadyH.cons rfl (fun K hK => ?_) ?_
                  rotate_left
                  · exact AllReadyH.nil
                  rw [if_pos (by rfl)]
                  refine wp_store_row 25 _ _ rfl x (peA (3, 30)) rfl rfl 25 (peA (0, 0)) X (by rw [peA_size]; exact sizeP) (by rw [peA_size, peA_size]) (peA_one _) ?_
                  refine hK.out _ _ ?_ (fun hHeld => ?_)
                  · exact tb_row T1 _ (by omega)
                  clear hK K
                  (try simp only [Act.put]); (try simp only [List.setIfInBounds_toArray]); (try simp only [List.set_cons_succ]); (try simp only [List.set_cons_zero])
                  refine wpAnyH_take (i := 8) (v := ?_) rfl (by kernel_rfl) (by kernel_rfl) (by kernel_rfl) (fun _ _ _ h => h) (Or.inl ⟨by rfl, ?_⟩) (by assumption) ?_
                  rotate_left
                  · intro w9 hSw
                    (try dsimp only at hSw)
                    go_simp
                    (try with_reducible rfl)
                  (try simp only [Act.put]); (try simp only [List.setIfInBounds_toArray]); (try simp only [List.set_cons_succ]); (try simp only [List.set_cons_zero])
                  iterate 2
                    (try dsimp only [List.getElem_toArray, List.getElem_cons_succ, List.getElem_cons_zero])
                    (try simp only [Act.put]); (try simp only [List.setIfInBounds_toArray]); (try simp only [List.set_cons_succ]); (try simp only [List.set_cons_zero])
                  refine wpAnyH_done (by kernel_rfl) ?_ _
                  go_wp2
                  go_meet
                  exact ⟨rfl, ⟨x, rfl, X.set _⟩, pb_row P9 _ (by omega), tb_row T5 _ (by omega), tb_row T1 _ (by omega), lies_set LA (fun _ => ne_LA) _, lies_set LB (fun _ => ne_LB) _, bel_setRow hB (by omega) _⟩
                exact AllReadyH.nil
              refine AllReadyH.cons rfl (fun K hK => ?_) ?_
              · go_simp
                have kk := (Below.refl y59.heap.size y59).alloc (Nat.le_refl _) (.cells (peA (0, 0)) 25)
                have n_T1 := T1.lt
                have n_T5 := T5.lt
                have n_P9 := P9.lt
                have X := PB.zero y59
                have n0 := hB.size
                have ne_LA := lies_block LA (by first | decide | (rw [f4_len]; omega)) (Nat.le_refl y59.heap.size)
                have ne_LB := lies_block LB (by first | decide | (rw [f4_len]; omega)) (Nat.le_refl y59.heap.size)
                replace hB := belTo hg hB kk
                replace LA := LA.bel kk
                replace LB := LB.bel kk
                replace T1 := T1.bel kk
                replace T5 := T5.bel kk
                replace P9 := P9.bel kk
                refine hK.out _ _ ?_ (fun hHeld => ?_)
                · (try rw [peer_zero]); exact T1
                clear hK K
                try rw [peer_zero] at hHeld
                (try simp only [Act.put]); (try simp only [List.setIfInBounds_toArray]); (try simp only [List.set_cons_succ]); (try simp only [List.set_cons_zero])
                try rw [peer_zero]
                clear hHeld kk
                generalize y59.heap.size = x at *
                generalize y59.alloc _ = y62 at *
                refine wpAnyH_ready (rs := [2]) (by kernel_rfl) (by simp) ?_
                refine AllReadyH.cons rfl (fun K hK => ?_) ?_
                · go_simp
                  go_wp2_with (go_at_call 21; (with_reducible refine (near_40 LA LB).mono ?_); rintro e y63 ⟨rfl, kk⟩)
                  replace hB := belTo hg hB kk
                  replace LA := LA.bel kk
                  replace LB := LB.bel kk
                  replace T1 := T1.bel kk
                  replace T5 := T5.bel kk
                  replace P9 := P9.bel kk
                  replace X := X.bel kk
                  refine hK.out _ _ ?_ (fun hHeld => ?_)
                  · exact T1
                  clear hK K hHeld kk
                  (try simp only [Act.put]); (try simp only [List.setIfInBounds_toArray]); (try simp only [List.set_cons_succ]); (try simp only [List.set_cons_zero])
                  refine wpAnyH_take (i := 3) (v := ?_) rfl (by kernel_rfl) (by kernel_rfl) (by kernel_rfl) (fun _ _ _ h => h) (Or.inl ⟨by rfl, ?_⟩) (by assumption) ?_
                  rotate_left
                  · intro w9 hSw
                    (try dsimp only at hSw)
                    go_simp
                    (try with_reducible rfl)
                  (try simp only [Act.put]); (try simp only [List.setIfInBounds_toArray]); (try simp only [List.set_cons_succ]); (try simp only [List.set_cons_zero])
                  refine wpAnyH_take (i := 4) (v := ?_) rfl (by kernel_rfl) (by kernel_rfl) (by kernel_rfl) (fun _ _ _ h => h) (Or.inl ⟨by rfl, ?_⟩) (by assumption) ?_
                  rotate_left
                  · intro w9 hSw
                    (try dsimp only at hSw)
                    go_simp
                    (try with_reducible rfl)
                  (try simp only [Act.put]); (try simp only [List.setIfInBounds_toArray]); (try simp only [List.set_cons_succ]); (try simp only [List.set_cons_zero])
                  refine wpAnyH_take (i := 5) (v := ?_) rfl (by kernel_rfl) (by kernel_rfl) (by kernel_rfl) (fun _ _ _ h => h) (Or.inl ⟨by rfl, ?_⟩) (by assumption) ?_
                  rotate_left
                  · intro w9 hSw
                    (try dsimp only at hSw)
                    go_simp
                    (try with_reducible rfl)
                  (try simp only [Act.put]); (try simp only [List.setIfInBounds_toArray]); (try simp only [List.set_cons_succ]); (try simp only [List.set_cons_zero])
                  iterate 2
                    (try dsimp only [List.getElem_toArray, List.getElem_cons_succ, List.getElem_cons_zero])
                    (try simp only [Act.put]); (try simp only [List.setIfInBounds_toArray]); (try simp only [List.set_cons_succ]); (try simp only [List.set_cons_zero])
                  refine wpAnyH_ready (rs := [7]) (by kernel_rfl) (by simp) ?_
                  refine AllReadyH.cons rfl (fun K hK => ?_) ?_
                  rotate_left
                  · exact AllReadyH.nil
                  rw [if_pos (by rfl)]
                  refine wp_store_row 25 _ _ rfl x (peA (3, 30)) rfl rfl 25 (peA (0, 0)) X (by rw [peA_size]; exact sizeP) (by rw [peA_size, peA_size]) (peA_one _) ?_
                  refine hK.out _ _ ?_ (fun hHeld => ?_)
                  · exact tb_row T1 _ (by omega)
                  clear hK K
                  (try simp only [Act.put]); (try simp only [List.setIfInBounds_toArray]); (try simp only [List.set_cons_succ]); (try simp only [List.set_cons_zero])
                  refine wpAnyH_take (i := 8) (v := ?_) rfl (by kernel_rfl) (by kernel_rfl) (by kernel_rfl) (fun _ _ _ h => h) (Or.inl ⟨by rfl, ?_⟩) (by assumption) ?_
                  rotate_left
                  · intro w9 hSw
                    (try dsimp only at hSw)
                    go_simp
                    (try with_reducible rfl)
                  (try simp only [Act.put]); (try simp only [List.setIfInBounds_toArray]); (try simp only [List.set_cons_succ]); (try simp only [List.set_cons_zero])
                  iterate 2
                    (try dsimp only [List.getElem_toArray, List.getElem_cons_succ, List.getElem_cons_zero])
                    (try simp only [Act.put]); (try simp only [List.setIfInBounds_toArray]); (try simp only [List.set_cons_succ]); (try simp only [List.set_cons_zero])
                  refine wpAnyH_done (by kernel_rfl) ?_ _
                  go_wp2
                  go_meet
                  exact ⟨rfl, ⟨x, rfl, X.set _⟩, pb_row P9 _ (by omega), tb_row T5 _ (by omega), tb_row T1 _ (by omega), lies_set LA (fun _ => ne_LA) _, lies_set LB (fun _ => ne_LB) _, bel_setRow hB (by omega) _⟩
                exact AllReadyH.nil
              exact AllReadyH.nil
            refine AllReadyH.cons rfl (fun K hK => ?_) ?_
            · go_simp
              have kk := (Below.refl W6.heap.size W6).alloc (Nat.le_refl _) (.cells (peA (0, 0)) 25)
              have n_T1 := T1.lt
              have n_T5 := T5.lt
              have n_P9 := P9.lt
              have X := PB.zero W6
              have n0 := hB.size
              have ne_LA := lies_block LA (by first | decide | (rw [f4_len]; omega)) (Nat.le_refl W6.heap.size)
              have ne_LB := lies_block LB (by first | decide | (rw [f4_len]; omega)) (Nat.le_refl W6.heap.size)
              replace hB := belTo hg hB kk
              replace LA := LA.bel kk
              replace LB := LB.bel kk
              replace T1 := T1.bel kk
              replace T5 := T5.bel kk
              replace P9 := P9.bel kk
              refine hK.out _ _ ?_ (fun hHeld => ?_)
              · (try rw [peer_zero]); exact T1
              clear hK K
              try rw [peer_zero] at hHeld
              (try simp only [Act.put]); (try simp only [List.setIfInBounds_toArray]); (try simp only [List.set_cons_succ]); (try simp only [List.set_cons_zero])
              try rw [peer_zero]
              clear hHeld kk
              generalize W6.heap.size = x at *
              generalize W6.alloc _ = y64 at *
              refine wpAnyH_ready (rs := [1]) (by kernel_rfl) (by simp) ?_
              refine AllReadyH.cons rfl (fun K hK => ?_) ?_
              · go_simp
                go_wp2_with (go_at_call 54; (with_reducible refine (small_40 _).mono ?_); rintro e y65 ⟨rfl, kk⟩)
                replace hB := belTo hg hB kk
                replace LA := LA.bel kk
                replace LB := LB.bel kk
                replace T1 := T1.bel kk
                replace T5 := T5.bel kk
                replace P9 := P9.bel kk
                replace X := X.bel kk
                refine hK.out _ _ ?_ (fun hHeld => ?_)
                · exact T1
                clear hK K hHeld kk
                (try simp only [Act.put]); (try simp only [List.setIfInBounds_toArray]); (try simp only [List.set_cons_succ]); (try simp only [List.set_cons_zero])
                refine wpAnyH_ready (rs := [2]) (by kernel_rfl) (by simp) ?_
                refine AllReadyH.cons rfl (fun K hK => ?_) ?_
                · go_simp
                  go_wp2_with (go_at_call 21; (with_reducible refine (near_40 LA LB).mono ?_); rintro e y66 ⟨rfl, kk⟩)
                  replace hB := belTo hg hB kk
                  replace LA := LA.bel kk
                  replace LB := LB.bel kk
                  replace T1 := T1.bel kk
                  replace T5 := T5.bel kk
                  replace P9 := P9.bel kk
                  replace X := X.bel kk
                  refine hK.out _ _ ?_ (fun hHeld => ?_)
                  · exact T1
                  clear hK K hHeld kk
                  (try simp only [Act.put]); (try simp only [List.setIfInBounds_toArray]); (try simp only [List.set_cons_succ]); (try simp only [List.set_cons_zero])
                  refine wpAnyH_take (i := 3) (v := ?_) rfl (by kernel_rfl) (by kernel_rfl) (by kernel_rfl) (fun _ _ _ h => h) (Or.inl ⟨by rfl, ?_⟩) (by assumption) ?_
                  rotate_left
                  · intro w9 hSw
                    (try dsimp only at hSw)
                    go_simp
                    (try with_reducible rfl)
                  (try simp only [Act.put]); (try simp only [List.setIfInBounds_toArray]); (try simp only [List.set_cons_succ]); (try simp only [List.set_cons_zero])
                  refine wpAnyH_take (i := 4) (v := ?_) rfl (by kernel_rfl) (by kernel_rfl) (by kernel_rfl) (fun _ _ _ h => h) (Or.inl ⟨by rfl, ?_⟩) (by assumption) ?_
                  rotate_left
                  · intro w9 hSw
                    (try dsimp only at hSw)
                    go_simp
                    (try with_reducible rfl)
                  (try simp only [Act.put]); (try simp only [List.setIfInBounds_toArray]); (try simp only [List.set_cons_succ]); (try simp only [List.set_cons_zero])
                  refine wpAnyH_take (i := 5) (v := ?_) rfl (by kernel_rfl) (by kernel_rfl) (by kernel_rfl) (fun _ _ _ h => h) (Or.inl ⟨by rfl, ?_⟩) (by assumption) ?_
                  rotate_left
                  · intro w9 hSw
                    (try dsimp only at hSw)
                    go_simp
                    (try with_reducible rfl)
                  (try simp only [Act.put]); (try simp only [List.setIfInBounds_toArray]); (try simp only [List.set_cons_succ]); (try simp only [List.set_cons_zero])
                  iterate 2
                    (try dsimp only [List.getElem_toArray, List.getElem_cons_succ, List.getElem_cons_zero])
                    (try simp only [Act.put]); (try simp only [List.setIfInBounds_toArray]); (try simp only [List.set_cons_succ]); (try simp only [List.set_cons_zero])
                  refine wpAnyH_ready (rs := [7]) (by kernel_rfl) (by simp) ?_
                  refine AllReadyH.cons rfl (fun K hK => ?_) ?_
                  rotate_left
                  · exact AllReadyH.nil
                  rw [if_pos (by rfl)]
                  refine wp_store_row 25 _ _ rfl x (peA (3, 30)) rfl rfl 25 (peA (0, 0)) X (by rw [peA_size]; exact sizeP) (by rw [peA_size, peA_size]) (peA_one _) ?_
                  refine hK.out _ _ ?_ (fun hHeld => ?_)
                  · exact tb_row T1 _ (by omega)
                  clear hK K
                  (try simp only [Act.put]); (try simp only [List.setIfInBounds_toArray]); (try simp only [List.set_cons_succ]); (try simp only [List.set_cons_zero])
                  refine wpAnyH_take (i := 8) (v := ?_) rfl (by kernel_rfl) (by kernel_rfl) (by kernel_rfl) (fun _ _ _ h => h) (Or.inl ⟨by rfl, ?_⟩) (by assumption) ?_
                  rotate_left
                  · intro w9 hSw
                    (try dsimp only at hSw)
                    go_simp
                    (try with_reducible rfl)
                  (try simp only [Act.put]); (try simp only [List.setIfInBounds_toArray]); (try simp only [List.set_cons_succ]); (try simp only [List.set_cons_zero])
                  iterate 2
                    (try dsimp only [List.getElem_toArray, List.getElem_cons_succ, List.getElem_cons_zero])
                    (try simp only [Act.put]); (try simp only [List.setIfInBounds_toArray]); (try simp only [List.set_cons_succ]); (try simp only [List.set_cons_zero])
                  refine wpAnyH_done (by kernel_rfl) ?_ _
                  go_wp2
                  go_meet
                  exact ⟨rfl, ⟨x, rfl, X.set _⟩, pb_row P9 _ (by omega), tb_row T5 _ (by omega), tb_row T1 _ (by omega), lies_set LA (fun _ => ne_LA) _, lies_set LB (fun _ => ne_LB) _, bel_setRow hB (by omega) _⟩
                exact AllReadyH.nil
              exact AllReadyH.nil
            exact AllReadyH.nil
          case rest =>
            clear T1 hB LA LB T5 P9
            obtain ⟨rfl, ⟨q11, rfl, P11⟩, P9, T5, T1, LA, LB, hB⟩ := hcut
            replace P9 := P9.out
            replace T1 := T1.out
            replace T5 := T5.out
            replace LA := LA.out
            replace LB := LB.out
            replace hB := hB.out
            go_upto_region 10 with (first
              | (refine p_midT rfl _ rfl g6 rfl T1 ?_)
              | (go_at_call 34; (with_reducible refine (forget_2 LA LB).mono ?_); rintro e w9 ⟨r1, r2, rfl, l1, l2, kk⟩)
              | (refine p_storeT rfl rfl _ _ rfl rfl rfl (one_lies l1) (one_lies l2) ?_))
            have k2 := (Below.refl w9.heap.size w9).alloc (Nat.le_refl _) (.cells (tabA s1 (3, 30) r1 r2) 28)
            obtain ⟨fb, fo, fc, e1, _, _, R3, _⟩ := LB.at f4_3'
            obtain ⟨fb', fo', fc', e2, _, _, R4, _⟩ := LB.at f4_4'
            simp only [Value.slice.injEq] at e1 e2
            obtain ⟨rfl, -, rfl⟩ := e1
            obtain ⟨e2, -, rfl⟩ := e2
            simp only [Option.some.injEq, Addr.mk.injEq, and_true] at e2
            obtain ⟨rfl, rfl⟩ := e2
            have E0 : E10 g g5 g6 w9.heap.size q9 q11 fb fo vc u5 v5 u6 r1 r2 w wc := ⟨hB, T1, T5, P9, P11, LA, LB, R3, R4⟩
            have E := (E0.bel2 hg kk).bel2 hg k2
            have E2 : F10 w9.heap.size r1 r2 (w9.alloc (.cells (tabA s1 (3, 30) r1 r2) 28)) := ⟨Blk.new .., l1.bel k2, l2.bel k2⟩
            clear hB T1 T5 P9 P11 LA LB R3 R4 kk k2 E0 l1 l2
            generalize w9.heap.size = g13 at *
            generalize w9.alloc _ = W9 at *
            as_aux_lemma =>
              refine wp_region_held_drew (S := (fun w9 => E10 g g5 g6 g13 q9 q11 fb fo vc u5 v5 u6 r1 r2 w w9 ∧ F10 g13 r1 r2 w9)) (by kernel_rfl) ?_ (fun hHeld => ?_)
              · exact ⟨E.bel2 hg (drew_bel W9), E2.bel2 (drew_bel W9)⟩
              replace E := E.bel2 hg (drew_bel W9)
              replace E2 := E2.bel2 (drew_bel W9)
              generalize World.drew W9 = z0 at *
              refine wpAnyH_take (i := 0) (oi := { dst := some 77, op := Go.Op.load 28 (Go.Operand.tmp 6), type := 28, pos := "law.go:28", after := #[], guard := none }) (v := .agg (tabA s1 (3, 30) u6 (.slice (some ⟨fb, fo, none⟩) F4.length vc))) rfl (by kernel_rfl) (by kernel_rfl) (by kernel_rfl) (fun _ _ _ h => h) (y_midT (by rfl) (.tmp 6) rfl g6 rfl (fun _ h => h.1.t6)) (by assumption) ?_
              (try simp only [Act.put]); (try simp only [List.setIfInBounds_toArray]); (try simp only [List.set_cons_succ]); (try simp only [List.set_cons_zero])
              iterate 1
                (try dsimp only [List.getElem_toArray, List.getElem_cons_succ, List.getElem_cons_zero])
                (try simp only [Act.put]); (try simp only [List.setIfInBounds_toArray]); (try simp only [List.set_cons_succ]); (try simp only [List.set_cons_zero])
              refine wpAnyH_ready (rs := [1]) (by kernel_rfl) (by simp) ?_
              refine AllReadyH.cons rfl (fun K hK => ?_) ?_
              rotate_left
              · exact AllReadyH.nil
              go_simp
              go_wp2_with (go_at_call 25; (with_reducible refine (is_4 E.la E.lb).mono ?_); rintro e z1 ⟨rfl, kk⟩); replace E := E.bel2 hg kk; replace E2 := E2.bel2 kk; clear kk
              refine hK.out _ _ ?_ (fun hHeld => ?_)
              · exact ⟨E, E2⟩
              clear hK K
              (try simp only [Act.put]); (try simp only [List.setIfInBounds_toArray]); (try simp only [List.set_cons_succ]); (try simp only [List.set_cons_zero])
              iterate 1
                (try dsimp only [List.getElem_toArray, List.getElem_cons_succ, List.getElem_cons_zero])
                (try simp only [Act.put]); (try simp only [List.setIfInBounds_toArray]); (try simp only [List.set_cons_succ]); (try simp only [List.set_cons_zero])
              refine wpAnyH_take (i := 2) (v := ?_) rfl (by kernel_rfl) (by kernel_rfl) (by kernel_rfl) (fun _ _ _ h => h) (Or.inl ⟨by rfl, ?_⟩) (by assumption) ?_
              rotate_left
              · intro w9 hSw
                (try dsimp only at hSw)
                go_simp
                (try with_reducible rfl)
              (try simp only [Act.put]); (try simp only [List.setIfInBounds_toArray]); (try simp only [List.set_cons_succ]); (try simp only [List.set_cons_zero])
              refine wpAnyH_take (i := 3) (v := ?_) rfl (by kernel_rfl) (by kernel_rfl) (by kernel_rfl) (fun _ _ _ h => h) (Or.inl ⟨by rfl, ?_⟩) (by assumption) ?_
              rotate_left
              · intro w9 hSw
                (try dsimp only at hSw)
                go_simp
                (try with_reducible rfl)
              (try simp only [Act.put]); (try simp only [List.setIfInBounds_toArray]); (try simp only [List.set_cons_succ]); (try simp only [List.set_cons_zero])
              iterate 2
                (try dsimp only [List.getElem_toArray, List.getElem_cons_succ, List.getElem_cons_zero])
                (try simp only [Act.put]); (try simp only [List.setIfInBounds_toArray]); (try simp only [List.set_cons_succ]); (try simp only [List.set_cons_zero])
              refine wpAnyH_take (i := 4) (oi := { dst := some 81, op := Go.Op.load 25 (Go.Operand.tmp 80), type := 25, pos := "law.go:28", after := #[{ on := 3, ground := Go.Ground.data }, { on := 2, ground := Go.Ground.guard }], guard := some (2, true) }) (v := .agg (peA (3, 30))) rfl (by kernel_rfl) (by kernel_rfl) (by kernel_rfl) (fun _ _ _ h => h) (y_midP (by rfl) (.tmp 80) rfl g5 21 rfl (3, 30) (fun _ h => h.1.t5.pred)) (by assumption) ?_
              (try simp only [Act.put]); (try simp only [List.setIfInBounds_toArray]); (try simp only [List.set_cons_succ]); (try simp only [List.set_cons_zero])
              iterate 1
                (try dsimp only [List.getElem_toArray, List.getElem_cons_succ, List.getElem_cons_zero])
                (try simp only [Act.put]); (try simp only [List.setIfInBounds_toArray]); (try simp only [List.set_cons_succ]); (try simp only [List.set_cons_zero])
              refine wpAnyH_ready (rs := [5]) (by kernel_rfl) (by simp) ?_
              refine AllReadyH.cons rfl (fun K hK => ?_) ?_
              rotate_left
              · exact AllReadyH.nil
              go_simp
              go_wp2_with (go_at_call 53; (with_reducible refine (peer_3 _).mono ?_); rintro e z5 ⟨rfl, kk⟩); replace E := E.bel2 hg kk; replace E2 := E2.bel2 kk; clear kk
              refine hK.out _ _ ?_ (fun hHeld => ?_)
              · exact ⟨E, E2⟩
              clear hK K
              (try simp only [Act.put]); (try simp only [List.setIfInBounds_toArray]); (try simp only [List.set_cons_succ]); (try simp only [List.set_cons_zero])
              iterate 1
                (try dsimp only [List.getElem_toArray, List.getElem_cons_succ, List.getElem_cons_zero])
                (try simp only [Act.put]); (try simp only [List.setIfInBounds_toArray]); (try simp only [List.set_cons_succ]); (try simp only [List.set_cons_zero])
              refine wpAnyH_take (i := 6) (oi := { dst := some 83, op := Go.Op.binOp Go.BinOp.eql 25 (Go.Operand.tmp 81) (Go.Operand.tmp 82) 25, type := 4, pos := "law.go:28", after := #[{ on := 4, ground := Go.Ground.data }, { on := 5, ground := Go.Ground.data }, { on := 2, ground := Go.Ground.guard }], guard := some (2, true) }) (v := .bool true) rfl (by kernel_rfl) (by kernel_rfl) (by kernel_rfl) (fun _ _ _ h => h) (y_eqlP (by rfl) (.tmp 81) (.tmp 82) rfl (3, 30) (3, 30) rfl rfl (by decide +kernel)) (by assumption) ?_
              (try simp only [Act.put]); (try simp only [List.setIfInBounds_toArray]); (try simp only [List.set_cons_succ]); (try simp only [List.set_cons_zero])
              iterate 1
                (try dsimp only [List.getElem_toArray, List.getElem_cons_succ, List.getElem_cons_zero])
                (try simp only [Act.put]); (try simp only [List.setIfInBounds_toArray]); (try simp only [List.set_cons_succ]); (try simp only [List.set_cons_zero])
              refine wpAnyH_take (i := 7) (v := ?_) rfl (by kernel_rfl) (by kernel_rfl) (by kernel_rfl) (fun _ _ _ h => h) (Or.inl ⟨by rfl, ?_⟩) (by assumption) ?_
              rotate_left
              · intro w9 hSw
                (try dsimp only at hSw)
                go_simp
                (try with_reducible rfl)
              (try simp only [Act.put]); (try simp only [List.setIfInBounds_toArray]); (try simp only [List.set_cons_succ]); (try simp only [List.set_cons_zero])
              refine wpAnyH_take (i := 8) (v := ?_) rfl (by kernel_rfl) (by kernel_rfl) (by kernel_rfl) (fun _ _ _ h => h) (Or.inl ⟨by rfl, ?_⟩) (by assumption) ?_
              rotate_left
              · intro w9 hSw
                (try dsimp only at hSw)
                go_simp
                (try with_reducible rfl)
              (try simp only [Act.put]); (try simp only [List.setIfInBounds_toArray]); (try simp only [List.set_cons_succ]); (try simp only [List.set_cons_zero])
              refine wpAnyH_take (i := 9) (v := ?_) rfl (by kernel_rfl) (by kernel_rfl) (by kernel_rfl) (fun _ _ _ h => h) (Or.inl ⟨by rfl, ?_⟩) (by assumption) ?_
              rotate_left
              · intro w9 hSw
                (try dsimp only at hSw)
                go_simp
                (try with_reducible rfl)
              (try simp only [Act.put]); (try simp only [List.setIfInBounds_toArray]); (try simp only [List.set_cons_succ]); (try simp only [List.set_cons_zero])
              refine wpAnyH_take (i := 10) (v := ?_) rfl (by kernel_rfl) (by kernel_rfl) (by kernel_rfl) (fun _ _ _ h => h) (Or.inl ⟨by rfl, ?_⟩) (by assumption) ?_
              rotate_left
              · intro w9 hSw
                (try dsimp only at hSw)
                go_simp
                (try with_reducible rfl)
              (try simp only [Act.put]); (try simp only [List.setIfInBounds_toArray]); (try simp only [List.set_cons_succ]); (try simp only [List.set_cons_zero])
              refine wpAnyH_take (i := 11) (v := ?_) rfl (by kernel_rfl) (by kernel_rfl) (by kernel_rfl) (fun _ _ _ h => h) (Or.inl ⟨by rfl, ?_⟩) (by assumption) ?_
              rotate_left
              · intro w9 hSw
                (try dsimp only at hSw)
                go_simp
                (try with_reducible rfl)
              (try simp only [Act.put]); (try simp only [List.setIfInBounds_toArray]); (try simp only [List.set_cons_succ]); (try simp only [List.set_cons_zero])
              refine wpAnyH_take (i := 12) (v := ?_) rfl (by kernel_rfl) (by kernel_rfl) (by kernel_rfl) (fun _ _ _ h => h) (Or.inl ⟨by rfl, ?_⟩) (by assumption) ?_
              rotate_left
              · intro w9 hSw
                (try dsimp only at hSw)
                go_simp
                (try with_reducible rfl)
              (try simp only [Act.put]); (try simp only [List.setIfInBounds_toArray]); (try simp only [List.set_cons_succ]); (try simp only [List.set_cons_zero])
              refine wpAnyH_take (i := 13) (v := ?_) rfl (by kernel_rfl) (by kernel_rfl) (by kernel_rfl) (fun _ _ _ h => h) (Or.inl ⟨by rfl, ?_⟩) (by assumption) ?_
              rotate_left
              · intro w9 hSw
                (try dsimp only at hSw)
                go_simp
                (try with_reducible rfl)
              (try simp only [Act.put]); (try simp only [List.setIfInBounds_toArray]); (try simp only [List.set_cons_succ]); (try simp only [List.set_cons_zero])
              iterate 2
                (try dsimp only [List.getElem_toArray, List.getElem_cons_succ, List.getElem_cons_zero])
                (try simp only [Act.put]); (try simp only [List.setIfInBounds_toArray]); (try simp only [List.set_cons_succ]); (try simp only [List.set_cons_zero])
              refine wpAnyH_take (i := 14) (v := ?_) rfl (by kernel_rfl) (by kernel_rfl) (by kernel_rfl) (fun _ _ _ h => h) (Or.inl ⟨by rfl, ?_⟩) (by assumption) ?_
              rotate_left
              · intro w9 hSw
                (try dsimp only at hSw)
                have c9 := hSw.1.t6.cv; rw [f4_len] at c9
                go_simp
                (try with_reducible rfl)
              (try simp only [Act.put]); (try simp only [List.setIfInBounds_toArray]); (try simp only [List.set_cons_succ]); (try simp only [List.set_cons_zero])
              iterate 1
                (try dsimp only [List.getElem_toArray, List.getElem_cons_succ, List.getElem_cons_zero])
                (try simp only [Act.put]); (try simp only [List.setIfInBounds_toArray]); (try simp only [List.set_cons_succ]); (try simp only [List.set_cons_zero])
              refine wpAnyH_take (i := 15) (v := ?_) rfl (by kernel_rfl) (by kernel_rfl) (by kernel_rfl) (fun _ _ _ h => h) (Or.inl ⟨by rfl, ?_⟩) (by assumption) ?_
              rotate_left
              · intro w9 hSw
                (try dsimp only at hSw)
                go_simp
                (try with_reducible rfl)
              (try simp only [Act.put]); (try simp only [List.setIfInBounds_toArray]); (try simp only [List.set_cons_succ]); (try simp only [List.set_cons_zero])
              iterate 2
                (try dsimp only [List.getElem_toArray, List.getElem_cons_succ, List.getElem_cons_zero])
                (try simp only [Act.put]); (try simp only [List.setIfInBounds_toArray]); (try simp only [List.set_cons_succ]); (try simp only [List.set_cons_zero])
              refine wpAnyH_take (i := 16) (oi := { dst := some 93, op := Go.Op.load 25 (Go.Operand.tmp 92), type := 25, pos := "law.go:28", after := #[{ on := 15, ground := Go.Ground.data }, { on := 12, ground := Go.Ground.guard }], guard := some (12, true) }) (v := .agg (peA (2, 20))) rfl (by kernel_rfl) (by kernel_rfl) (by kernel_rfl) (fun _ _ _ h => h) (y_midP (by rfl) (.tmp 92) rfl fb (fo + 3 * 21) rfl (2, 20) (fun _ h => h.1.r3)) (by assumption) ?_
              (try simp only [Act.put]); (try simp only [List.setIfInBounds_toArray]); (try simp only [List.set_cons_succ]); (try simp only [List.set_cons_zero])
              iterate 1
                (try dsimp only [List.getElem_toArray, List.getElem_cons_succ, List.getElem_cons_zero])
                (try simp only [Act.put]); (try simp only [List.setIfInBounds_toArray]); (try simp only [List.set_cons_succ]); (try simp only [List.set_cons_zero])
              refine wpAnyH_ready (rs := [17]) (by kernel_rfl) (by simp) ?_
              refine AllReadyH.cons rfl (fun K hK => ?_) ?_
              rotate_left
              · exact AllReadyH.nil
              go_simp
              go_wp2_with (go_at_call 53; (with_reducible refine (peer_2 _).mono ?_); rintro e z17 ⟨rfl, kk⟩); replace E := E.bel2 hg kk; replace E2 := E2.bel2 kk; clear kk
              refine hK.out _ _ ?_ (fun hHeld => ?_)
              · exact ⟨E, E2⟩
              clear hK K
              (try simp only [Act.put]); (try simp only [List.setIfInBounds_toArray]); (try simp only [List.set_cons_succ]); (try simp only [List.set_cons_zero])
              iterate 1
                (try dsimp only [List.getElem_toArray, List.getElem_cons_succ, List.getElem_cons_zero])
                (try simp only [Act.put]); (try simp only [List.setIfInBounds_toArray]); (try simp only [List.set_cons_succ]); (try simp only [List.set_cons_zero])
              refine wpAnyH_take (i := 18) (oi := { dst := some 95, op := Go.Op.binOp Go.BinOp.eql 25 (Go.Operand.tmp 93) (Go.Operand.tmp 94) 25, type := 4, pos := "law.go:28", after := #[{ on := 16, ground := Go.Ground.data }, { on := 17, ground := Go.Ground.data }, { on := 12, ground := Go.Ground.guard }], guard := some (12, true) }) (v := .bool true) rfl (by kernel_rfl) (by kernel_rfl) (by kernel_rfl) (fun _ _ _ h => h) (y_eqlP (by rfl) (.tmp 93) (.tmp 94) rfl (2, 20) (2, 20) rfl rfl (by decide +kernel)) (by assumption) ?_
              (try simp only [Act.put]); (try simp only [List.setIfInBounds_toArray]); (try simp only [List.set_cons_succ]); (try simp only [List.set_cons_zero])
              iterate 1
                (try dsimp only [List.getElem_toArray, List.getElem_cons_succ, List.getElem_cons_zero])
                (try simp only [Act.put]); (try simp only [List.setIfInBounds_toArray]); (try simp only [List.set_cons_succ]); (try simp only [List.set_cons_zero])
              refine wpAnyH_take (i := 19) (v := ?_) rfl (by kernel_rfl) (by kernel_rfl) (by kernel_rfl) (fun _ _ _ h => h) (Or.inl ⟨by rfl, ?_⟩) (by assumption) ?_
              rotate_left
              · intro w9 hSw
                (try dsimp only at hSw)
                go_simp
                (try with_reducible rfl)
              (try simp only [Act.put]); (try simp only [List.setIfInBounds_toArray]); (try simp only [List.set_cons_succ]); (try simp only [List.set_cons_zero])
              refine wpAnyH_take (i := 20) (v := ?_) rfl (by kernel_rfl) (by kernel_rfl) (by kernel_rfl) (fun _ _ _ h => h) (Or.inl ⟨by rfl, ?_⟩) (by assumption) ?_
              rotate_left
              · intro w9 hSw
                (try dsimp only at hSw)
                go_simp
                (try with_reducible rfl)
              (try simp only [Act.put]); (try simp only [List.setIfInBounds_toArray]); (try simp only [List.set_cons_succ]); (try simp only [List.set_cons_zero])
              refine wpAnyH_take (i := 21) (v := ?_) rfl (by kernel_rfl) (by kernel_rfl) (by kernel_rfl) (fun _ _ _ h => h) (Or.inl ⟨by rfl, ?_⟩) (by assumption) ?_
              rotate_left
              · intro w9 hSw
                (try dsimp only at hSw)
                go_simp
                (try with_reducible rfl)
              (try simp only [Act.put]); (try simp only [List.setIfInBounds_toArray]); (try simp only [List.set_cons_succ]); (try simp only [List.set_cons_zero])
              iterate 2
                (try dsimp only [List.getElem_toArray, List.getElem_cons_succ, List.getElem_cons_zero])
                (try simp only [Act.put]); (try simp only [List.setIfInBounds_toArray]); (try simp only [List.set_cons_succ]); (try simp only [List.set_cons_zero])
              refine wpAnyH_take (i := 22) (v := ?_) rfl (by kernel_rfl) (by kernel_rfl) (by kernel_rfl) (fun _ _ _ h => h) (Or.inl ⟨by rfl, ?_⟩) (by assumption) ?_
              rotate_left
              · intro w9 hSw
                (try dsimp only at hSw)
                have c9 := hSw.1.t6.cv; rw [f4_len] at c9
                go_simp
                (try with_reducible rfl)
              (try simp only [Act.put]); (try simp only [List.setIfInBounds_toArray]); (try simp only [List.set_cons_succ]); (try simp only [List.set_cons_zero])
              iterate 1
                (try dsimp only [List.getElem_toArray, List.getElem_cons_succ, List.getElem_cons_zero])
                (try simp only [Act.put]); (try simp only [List.setIfInBounds_toArray]); (try simp only [List.set_cons_succ]); (try simp only [List.set_cons_zero])
              refine wpAnyH_take (i := 23) (v := ?_) rfl (by kernel_rfl) (by kernel_rfl) (by kernel_rfl) (fun _ _ _ h => h) (Or.inl ⟨by rfl, ?_⟩) (by assumption) ?_
              rotate_left
              · intro w9 hSw
                (try dsimp only at hSw)
                go_simp
                (try with_reducible rfl)
              (try simp only [Act.put]); (try simp only [List.setIfInBounds_toArray]); (try simp only [List.set_cons_succ]); (try simp only [List.set_cons_zero])
              iterate 2
                (try dsimp only [List.getElem_toArray, List.getElem_cons_succ, List.getElem_cons_zero])
                (try simp only [Act.put]); (try simp only [List.setIfInBounds_toArray]); (try simp only [List.set_cons_succ]); (try simp only [List.set_cons_zero])
              refine wpAnyH_take (i := 24) (oi := { dst := some 101, op := Go.Op.load 25 (Go.Operand.tmp 100), type := 25, pos := "law.go:28", after := #[{ on := 23, ground := Go.Ground.data }, { on := 20, ground := Go.Ground.guard }], guard := some (20, true) }) (v := .agg (peA (-1, 0))) rfl (by kernel_rfl) (by kernel_rfl) (by kernel_rfl) (fun _ _ _ h => h) (y_midP (by rfl) (.tmp 100) rfl fb (fo + 4 * 21) rfl (-1, 0) (fun _ h => h.1.r4)) (by assumption) ?_
              (try simp only [Act.put]); (try simp only [List.setIfInBounds_toArray]); (try simp only [List.set_cons_succ]); (try simp only [List.set_cons_zero])
              iterate 1
                (try dsimp only [List.getElem_toArray, List.getElem_cons_succ, List.getElem_cons_zero])
                (try simp only [Act.put]); (try simp only [List.setIfInBounds_toArray]); (try simp only [List.set_cons_succ]); (try simp only [List.set_cons_zero])
              refine wpAnyH_ready (rs := [25]) (by kernel_rfl) (by simp) ?_
              refine AllReadyH.cons rfl (fun K hK => ?_) ?_
              rotate_left
              · exact AllReadyH.nil
              go_simp
              go_wp2_with (go_at_call 37; (with_reducible refine (refnone_any _).mono ?_); rintro e z25 ⟨rfl, kk⟩); replace E := E.bel2 hg kk; replace E2 := E2.bel2 kk; clear kk
              refine hK.out _ _ ?_ (fun hHeld => ?_)
              · exact ⟨E, E2⟩
              clear hK K
              (try simp only [Act.put]); (try simp only [List.setIfInBounds_toArray]); (try simp only [List.set_cons_succ]); (try simp only [List.set_cons_zero])
              iterate 1
                (try dsimp only [List.getElem_toArray, List.getElem_cons_succ, List.getElem_cons_zero])
                (try simp only [Act.put]); (try simp only [List.setIfInBounds_toArray]); (try simp only [List.set_cons_succ]); (try simp only [List.set_cons_zero])
              refine wpAnyH_take (i := 26) (oi := { dst := some 103, op := Go.Op.binOp Go.BinOp.eql 25 (Go.Operand.tmp 101) (Go.Operand.tmp 102) 25, type := 4, pos := "law.go:28", after := #[{ on := 24, ground := Go.Ground.data }, { on := 25, ground := Go.Ground.data }, { on := 20, ground := Go.Ground.guard }], guard := some (20, true) }) (v := .bool true) rfl (by kernel_rfl) (by kernel_rfl) (by kernel_rfl) (fun _ _ _ h => h) (y_eqlP (by rfl) (.tmp 101) (.tmp 102) rfl (-1, 0) (-1, 0) rfl rfl (by decide +kernel)) (by assumption) ?_
              (try simp only [Act.put]); (try simp only [List.setIfInBounds_toArray]); (try simp only [List.set_cons_succ]); (try simp only [List.set_cons_zero])
              iterate 1
                (try dsimp only [List.getElem_toArray, List.getElem_cons_succ, List.getElem_cons_zero])
                (try simp only [Act.put]); (try simp only [List.setIfInBounds_toArray]); (try simp only [List.set_cons_succ]); (try simp only [List.set_cons_zero])
              refine wpAnyH_take (i := 27) (v := ?_) rfl (by kernel_rfl) (by kernel_rfl) (by kernel_rfl) (fun _ _ _ h => h) (Or.inl ⟨by rfl, ?_⟩) (by assumption) ?_
              rotate_left
              · intro w9 hSw
                (try dsimp only at hSw)
                go_simp
                (try with_reducible rfl)
              (try simp only [Act.put]); (try simp only [List.setIfInBounds_toArray]); (try simp only [List.set_cons_succ]); (try simp only [List.set_cons_zero])
              refine wpAnyH_take (i := 28) (v := ?_) rfl (by kernel_rfl) (by kernel_rfl) (by kernel_rfl) (fun _ _ _ h => h) (Or.inl ⟨by rfl, ?_⟩) (by assumption) ?_
              rotate_left
              · intro w9 hSw
                (try dsimp only at hSw)
                go_simp
                (try with_reducible rfl)
              (try simp only [Act.put]); (try simp only [List.setIfInBounds_toArray]); (try simp only [List.set_cons_succ]); (try simp only [List.set_cons_zero])
              iterate 2
                (try dsimp only [List.getElem_toArray, List.getElem_cons_succ, List.getElem_cons_zero])
                (try simp only [Act.put]); (try simp only [List.setIfInBounds_toArray]); (try simp only [List.set_cons_succ]); (try simp only [List.set_cons_zero])
              refine wpAnyH_take (i := 29) (oi := { dst := some 106, op := Go.Op.load 25 (Go.Operand.tmp 9), type := 25, pos := "law.go:28", after := #[{ on := 28, ground := Go.Ground.guard }], guard := some (28, true) }) (v := .agg (peA (2, 20))) rfl (by kernel_rfl) (by kernel_rfl) (by kernel_rfl) (fun _ _ _ h => h) (y_midP (by rfl) (.tmp 9) rfl q9 0 rfl (2, 20) (fun _ h => h.1.p9.range)) (by assumption) ?_
              (try simp only [Act.put]); (try simp only [List.setIfInBounds_toArray]); (try simp only [List.set_cons_succ]); (try simp only [List.set_cons_zero])
              iterate 1
                (try dsimp only [List.getElem_toArray, List.getElem_cons_succ, List.getElem_cons_zero])
                (try simp only [Act.put]); (try simp only [List.setIfInBounds_toArray]); (try simp only [List.set_cons_succ]); (try simp only [List.set_cons_zero])
              refine wpAnyH_ready (rs := [30]) (by kernel_rfl) (by simp) ?_
              refine AllReadyH.cons rfl (fun K hK => ?_) ?_
              rotate_left
              · exact AllReadyH.nil
              go_simp
              go_wp2_with (go_at_call 53; (with_reducible refine (peer_2 _).mono ?_); rintro e z30 ⟨rfl, kk⟩); replace E := E.bel2 hg kk; replace E2 := E2.bel2 kk; clear kk
              refine hK.out _ _ ?_ (fun hHeld => ?_)
              · exact ⟨E, E2⟩
              clear hK K
              (try simp only [Act.put]); (try simp only [List.setIfInBounds_toArray]); (try simp only [List.set_cons_succ]); (try simp only [List.set_cons_zero])
              iterate 1
                (try dsimp only [List.getElem_toArray, List.getElem_cons_succ, List.getElem_cons_zero])
                (try simp only [Act.put]); (try simp only [List.setIfInBounds_toArray]); (try simp only [List.set_cons_succ]); (try simp only [List.set_cons_zero])
              refine wpAnyH_take (i := 31) (oi := { dst := some 108, op := Go.Op.binOp Go.BinOp.eql 25 (Go.Operand.tmp 106) (Go.Operand.tmp 107) 25, type := 4, pos := "law.go:28", after := #[{ on := 29, ground := Go.Ground.data }, { on := 30, ground := Go.Ground.data }, { on := 28, ground := Go.Ground.guard }], guard := some (28, true) }) (v := .bool true) rfl (by kernel_rfl) (by kernel_rfl) (by kernel_rfl) (fun _ _ _ h => h) (y_eqlP (by rfl) (.tmp 106) (.tmp 107) rfl (2, 20) (2, 20) rfl rfl (by decide +kernel)) (by assumption) ?_
              (try simp only [Act.put]); (try simp only [List.setIfInBounds_toArray]); (try simp only [List.set_cons_succ]); (try simp only [List.set_cons_zero])
              iterate 1
                (try dsimp only [List.getElem_toArray, List.getElem_cons_succ, List.getElem_cons_zero])
                (try simp only [Act.put]); (try simp only [List.setIfInBounds_toArray]); (try simp only [List.set_cons_succ]); (try simp only [List.set_cons_zero])
              refine wpAnyH_take (i := 32) (v := ?_) rfl (by kernel_rfl) (by kernel_rfl) (by kernel_rfl) (fun _ _ _ h => h) (Or.inl ⟨by rfl, ?_⟩) (by assumption) ?_
              rotate_left
              · intro w9 hSw
                (try dsimp only at hSw)
                go_simp
                (try with_reducible rfl)
              (try simp only [Act.put]); (try simp only [List.setIfInBounds_toArray]); (try simp only [List.set_cons_succ]); (try simp only [List.set_cons_zero])
              refine wpAnyH_take (i := 33) (v := ?_) rfl (by kernel_rfl) (by kernel_rfl) (by kernel_rfl) (fun _ _ _ h => h) (Or.inl ⟨by rfl, ?_⟩) (by assumption) ?_
              rotate_left
              · intro w9 hSw
                (try dsimp only at hSw)
                go_simp
                (try with_reducible rfl)
              (try simp only [Act.put]); (try simp only [List.setIfInBounds_toArray]); (try simp only [List.set_cons_succ]); (try simp only [List.set_cons_zero])
              refine wpAnyH_take (i := 34) (v := ?_) rfl (by kernel_rfl) (by kernel_rfl) (by kernel_rfl) (fun _ _ _ h => h) (Or.inl ⟨by rfl, ?_⟩) (by assumption) ?_
              rotate_left
              · intro w9 hSw
                (try dsimp only at hSw)
                go_simp
                (try with_reducible rfl)
              (try simp only [Act.put]); (try simp only [List.setIfInBounds_toArray]); (try simp only [List.set_cons_succ]); (try simp only [List.set_cons_zero])
              refine wpAnyH_take (i := 35) (v := ?_) rfl (by kernel_rfl) (by kernel_rfl) (by kernel_rfl) (fun _ _ _ h => h) (Or.inl ⟨by rfl, ?_⟩) (by assumption) ?_
              rotate_left
              · intro w9 hSw
                (try dsimp only at hSw)
                go_simp
                (try with_reducible rfl)
              (try simp only [Act.put]); (try simp only [List.setIfInBounds_toArray]); (try simp only [List.set_cons_succ]); (try simp only [List.set_cons_zero])
              refine wpAnyH_take (i := 36) (v := ?_) rfl (by kernel_rfl) (by kernel_rfl) (by kernel_rfl) (fun _ _ _ h => h) (Or.inl ⟨by rfl, ?_⟩) (by assumption) ?_
              rotate_left
              · intro w9 hSw
                (try dsimp only at hSw)
                go_simp
                (try with_reducible rfl)
              (try simp only [Act.put]); (try simp only [List.setIfInBounds_toArray]); (try simp only [List.set_cons_succ]); (try simp only [List.set_cons_zero])
              iterate 2
                (try dsimp only [List.getElem_toArray, List.getElem_cons_succ, List.getElem_cons_zero])
                (try simp only [Act.put]); (try simp only [List.setIfInBounds_toArray]); (try simp only [List.set_cons_succ]); (try simp only [List.set_cons_zero])
              refine wpAnyH_take (i := 37) (oi := { dst := some 114, op := Go.Op.load 25 (Go.Operand.tmp 11), type := 25, pos := "law.go:28", after := #[{ on := 36, ground := Go.Ground.guard }], guard := some (36, true) }) (v := .agg (peA (3, 30))) rfl (by kernel_rfl) (by kernel_rfl) (by kernel_rfl) (fun _ _ _ h => h) (y_midP (by rfl) (.tmp 11) rfl q11 0 rfl (3, 30) (fun _ h => h.1.p11.range)) (by assumption) ?_
              (try simp only [Act.put]); (try simp only [List.setIfInBounds_toArray]); (try simp only [List.set_cons_succ]); (try simp only [List.set_cons_zero])
              iterate 1
                (try dsimp only [List.getElem_toArray, List.getElem_cons_succ, List.getElem_cons_zero])
                (try simp only [Act.put]); (try simp only [List.setIfInBounds_toArray]); (try simp only [List.set_cons_succ]); (try simp only [List.set_cons_zero])
              refine wpAnyH_ready (rs := [38]) (by kernel_rfl) (by simp) ?_
              refine AllReadyH.cons rfl (fun K hK => ?_) ?_
              rotate_left
              · exact AllReadyH.nil
              go_simp
              go_wp2_with (go_at_call 53; (with_reducible refine (peer_3 _).mono ?_); rintro e z38 ⟨rfl, kk⟩); replace E := E.bel2 hg kk; replace E2 := E2.bel2 kk; clear kk
              refine hK.out _ _ ?_ (fun hHeld => ?_)
              · exact ⟨E, E2⟩
              clear hK K
              (try simp only [Act.put]); (try simp only [List.setIfInBounds_toArray]); (try simp only [List.set_cons_succ]); (try simp only [List.set_cons_zero])
              iterate 1
                (try dsimp only [List.getElem_toArray, List.getElem_cons_succ, List.getElem_cons_zero])
                (try simp only [Act.put]); (try simp only [List.setIfInBounds_toArray]); (try simp only [List.set_cons_succ]); (try simp only [List.set_cons_zero])
              refine wpAnyH_take (i := 39) (oi := { dst := some 116, op := Go.Op.binOp Go.BinOp.eql 25 (Go.Operand.tmp 114) (Go.Operand.tmp 115) 25, type := 4, pos := "law.go:28", after := #[{ on := 37, ground := Go.Ground.data }, { on := 38, ground := Go.Ground.data }, { on := 36, ground := Go.Ground.guard }], guard := some (36, true) }) (v := .bool true) rfl (by kernel_rfl) (by kernel_rfl) (by kernel_rfl) (fun _ _ _ h => h) (y_eqlP (by rfl) (.tmp 114) (.tmp 115) rfl (3, 30) (3, 30) rfl rfl (by decide +kernel)) (by assumption) ?_
              (try simp only [Act.put]); (try simp only [List.setIfInBounds_toArray]); (try simp only [List.set_cons_succ]); (try simp only [List.set_cons_zero])
              iterate 1
                (try dsimp only [List.getElem_toArray, List.getElem_cons_succ, List.getElem_cons_zero])
                (try simp only [Act.put]); (try simp only [List.setIfInBounds_toArray]); (try simp only [List.set_cons_succ]); (try simp only [List.set_cons_zero])
              refine wpAnyH_take (i := 40) (v := ?_) rfl (by kernel_rfl) (by kernel_rfl) (by kernel_rfl) (fun _ _ _ h => h) (Or.inl ⟨by rfl, ?_⟩) (by assumption) ?_
              rotate_left
              · intro w9 hSw
                (try dsimp only at hSw)
                go_simp
                (try with_reducible rfl)
              (try simp only [Act.put]); (try simp only [List.setIfInBounds_toArray]); (try simp only [List.set_cons_succ]); (try simp only [List.set_cons_zero])
              refine wpAnyH_take (i := 41) (v := ?_) rfl (by kernel_rfl) (by kernel_rfl) (by kernel_rfl) (fun _ _ _ h => h) (Or.inl ⟨by rfl, ?_⟩) (by assumption) ?_
              rotate_left
              · intro w9 hSw
                (try dsimp only at hSw)
                go_simp
                (try with_reducible rfl)
              (try simp only [Act.put]); (try simp only [List.setIfInBounds_toArray]); (try simp only [List.set_cons_succ]); (try simp only [List.set_cons_zero])
              refine wpAnyH_take (i := 42) (v := ?_) rfl (by kernel_rfl) (by kernel_rfl) (by kernel_rfl) (fun _ _ _ h => h) (Or.inl ⟨by rfl, ?_⟩) (by assumption) ?_
              rotate_left
              · intro w9 hSw
                (try dsimp only at hSw)
                go_simp
                (try with_reducible rfl)
              (try simp only [Act.put]); (try simp only [List.setIfInBounds_toArray]); (try simp only [List.set_cons_succ]); (try simp only [List.set_cons_zero])
              refine wpAnyH_take (i := 43) (v := ?_) rfl (by kernel_rfl) (by kernel_rfl) (by kernel_rfl) (fun _ _ _ h => h) (Or.inl ⟨by rfl, ?_⟩) (by assumption) ?_
              rotate_left
              · intro w9 hSw
                (try dsimp only at hSw)
                go_simp
                (try with_reducible rfl)
              (try simp only [Act.put]); (try simp only [List.setIfInBounds_toArray]); (try simp only [List.set_cons_succ]); (try simp only [List.set_cons_zero])
              refine wpAnyH_take (i := 44) (v := ?_) rfl (by kernel_rfl) (by kernel_rfl) (by kernel_rfl) (fun _ _ _ h => h) (Or.inl ⟨by rfl, ?_⟩) (by assumption) ?_
              rotate_left
              · intro w9 hSw
                (try dsimp only at hSw)
                go_simp
                (try with_reducible rfl)
              (try simp only [Act.put]); (try simp only [List.setIfInBounds_toArray]); (try simp only [List.set_cons_succ]); (try simp only [List.set_cons_zero])
              iterate 2
                (try dsimp only [List.getElem_toArray, List.getElem_cons_succ, List.getElem_cons_zero])
                (try simp only [Act.put]); (try simp only [List.setIfInBounds_toArray]); (try simp only [List.set_cons_succ]); (try simp only [List.set_cons_zero])
              refine wpAnyH_take (i := 45) (oi := { dst := some 122, op := Go.Op.load 28 (Go.Operand.tmp 13), type := 28, pos := "law.go:28", after := #[{ on := 44, ground := Go.Ground.guard }], guard := some (44, true) }) (v := .agg (tabA s1 (3, 30) r1 r2)) rfl (by kernel_rfl) (by kernel_rfl) (by kernel_rfl) (fun _ _ _ h => h) (y_midT (by rfl) (.tmp 13) rfl g13 rfl (fun _ h => h.2.t)) (by assumption) ?_
              (try simp only [Act.put]); (try simp only [List.setIfInBounds_toArray]); (try simp only [List.set_cons_succ]); (try simp only [List.set_cons_zero])
              iterate 1
                (try dsimp only [List.getElem_toArray, List.getElem_cons_succ, List.getElem_cons_zero])
                (try simp only [Act.put]); (try simp only [List.setIfInBounds_toArray]); (try simp only [List.set_cons_succ]); (try simp only [List.set_cons_zero])
              refine wpAnyH_ready (rs := [46]) (by kernel_rfl) (by simp) ?_
              refine AllReadyH.cons rfl (fun K hK => ?_) ?_
              rotate_left
              · exact AllReadyH.nil
              go_simp
              go_wp2_with (go_at_call 27; (with_reducible refine (first_5 E2.l1).mono ?_); rintro e z46 ⟨rfl, kk⟩); replace E := E.bel2 hg kk; replace E2 := E2.bel2 kk; clear kk
              refine hK.out _ _ ?_ (fun hHeld => ?_)
              · exact ⟨E, E2⟩
              clear hK K
              (try simp only [Act.put]); (try simp only [List.setIfInBounds_toArray]); (try simp only [List.set_cons_succ]); (try simp only [List.set_cons_zero])
              iterate 1
                (try dsimp only [List.getElem_toArray, List.getElem_cons_succ, List.getElem_cons_zero])
                (try simp only [Act.put]); (try simp only [List.setIfInBounds_toArray]); (try simp only [List.set_cons_succ]); (try simp only [List.set_cons_zero])
              refine wpAnyH_ready (rs := [47]) (by kernel_rfl) (by simp) ?_
              refine AllReadyH.cons rfl (fun K hK => ?_) ?_
              rotate_left
              · exact AllReadyH.nil
              go_simp
              go_wp2_with (go_at_call 53; (with_reducible refine (peer_3 _).mono ?_); rintro e z47 ⟨rfl, kk⟩); replace E := E.bel2 hg kk; replace E2 := E2.bel2 kk; clear kk
              refine hK.out _ _ ?_ (fun hHeld => ?_)
              · exact ⟨E, E2⟩
              clear hK K
              (try simp only [Act.put]); (try simp only [List.setIfInBounds_toArray]); (try simp only [List.set_cons_succ]); (try simp only [List.set_cons_zero])
              iterate 1
                (try dsimp only [List.getElem_toArray, List.getElem_cons_succ, List.getElem_cons_zero])
                (try simp only [Act.put]); (try simp only [List.setIfInBounds_toArray]); (try simp only [List.set_cons_succ]); (try simp only [List.set_cons_zero])
              refine wpAnyH_take (i := 48) (oi := { dst := some 125, op := Go.Op.binOp Go.BinOp.eql 25 (Go.Operand.tmp 123) (Go.Operand.tmp 124) 25, type := 4, pos := "law.go:28", after := #[{ on := 46, ground := Go.Ground.data }, { on := 47, ground := Go.Ground.data }, { on := 44, ground := Go.Ground.guard }], guard := some (44, true) }) (v := .bool true) rfl (by kernel_rfl) (by kernel_rfl) (by kernel_rfl) (fun _ _ _ h => h) (y_eqlP (by rfl) (.tmp 123) (.tmp 124) rfl (3, 30) (3, 30) rfl rfl (by decide +kernel)) (by assumption) ?_
              (try simp only [Act.put]); (try simp only [List.setIfInBounds_toArray]); (try simp only [List.set_cons_succ]); (try simp only [List.set_cons_zero])
              iterate 1
                (try dsimp only [List.getElem_toArray, List.getElem_cons_succ, List.getElem_cons_zero])
                (try simp only [Act.put]); (try simp only [List.setIfInBounds_toArray]); (try simp only [List.set_cons_succ]); (try simp only [List.set_cons_zero])
              refine wpAnyH_take (i := 49) (v := ?_) rfl (by kernel_rfl) (by kernel_rfl) (by kernel_rfl) (fun _ _ _ h => h) (Or.inl ⟨by rfl, ?_⟩) (by assumption) ?_
              rotate_left
              · intro w9 hSw
                (try dsimp only at hSw)
                go_simp
                (try with_reducible rfl)
              (try simp only [Act.put]); (try simp only [List.setIfInBounds_toArray]); (try simp only [List.set_cons_succ]); (try simp only [List.set_cons_zero])
              refine wpAnyH_take (i := 50) (v := ?_) rfl (by kernel_rfl) (by kernel_rfl) (by kernel_rfl) (fun _ _ _ h => h) (Or.inl ⟨by rfl, ?_⟩) (by assumption) ?_
              rotate_left
              · intro w9 hSw
                (try dsimp only at hSw)
                go_simp
                (try with_reducible rfl)
              (try simp only [Act.put]); (try simp only [List.setIfInBounds_toArray]); (try simp only [List.set_cons_succ]); (try simp only [List.set_cons_zero])
              iterate 2
                (try dsimp only [List.getElem_toArray, List.getElem_cons_succ, List.getElem_cons_zero])
                (try simp only [Act.put]); (try simp only [List.setIfInBounds_toArray]); (try simp only [List.set_cons_succ]); (try simp only [List.set_cons_zero])
              refine wpAnyH_take (i := 51) (oi := { dst := some 128, op := Go.Op.load 28 (Go.Operand.tmp 13), type := 28, pos := "law.go:28", after := #[{ on := 50, ground := Go.Ground.guard }], guard := some (50, true) }) (v := .agg (tabA s1 (3, 30) r1 r2)) rfl (by kernel_rfl) (by kernel_rfl) (by kernel_rfl) (fun _ _ _ h => h) (y_midT (by rfl) (.tmp 13) rfl g13 rfl (fun _ h => h.2.t)) (by assumption) ?_
              (try simp only [Act.put]); (try simp only [List.setIfInBounds_toArray]); (try simp only [List.set_cons_succ]); (try simp only [List.set_cons_zero])
              iterate 1
                (try dsimp only [List.getElem_toArray, List.getElem_cons_succ, List.getElem_cons_zero])
                (try simp only [Act.put]); (try simp only [List.setIfInBounds_toArray]); (try simp only [List.set_cons_succ]); (try simp only [List.set_cons_zero])
              refine wpAnyH_ready (rs := [52]) (by kernel_rfl) (by simp) ?_
              refine AllReadyH.cons rfl (fun K hK => ?_) ?_
              rotate_left
              · exact AllReadyH.nil
              go_simp
              go_wp2_with (go_at_call 32; (with_reducible refine (known_5 E2.l1 E2.l2).mono ?_); rintro e z52 ⟨ka, kc, rfl, kk⟩); replace E := E.bel2 hg kk; replace E2 := E2.bel2 kk; clear kk
              refine hK.out _ _ ?_ (fun hHeld => ?_)
              · exact ⟨E, E2⟩
              clear hK K
              (try simp only [Act.put]); (try simp only [List.setIfInBounds_toArray]); (try simp only [List.set_cons_succ]); (try simp only [List.set_cons_zero])
              iterate 1
                (try dsimp only [List.getElem_toArray, List.getElem_cons_succ, List.getElem_cons_zero])
                (try simp only [Act.put]); (try simp only [List.setIfInBounds_toArray]); (try simp only [List.set_cons_succ]); (try simp only [List.set_cons_zero])
              refine wpAnyH_take (i := 53) (v := ?_) rfl (by kernel_rfl) (by kernel_rfl) (by kernel_rfl) (fun _ _ _ h => h) (Or.inl ⟨by rfl, ?_⟩) (by assumption) ?_
              rotate_left
              · intro w9 hSw
                (try dsimp only at hSw)
                go_simp
                (try with_reducible rfl)
              (try simp only [Act.put]); (try simp only [List.setIfInBounds_toArray]); (try simp only [List.set_cons_succ]); (try simp only [List.set_cons_zero])
              refine wpAnyH_take (i := 54) (v := ?_) rfl (by kernel_rfl) (by kernel_rfl) (by kernel_rfl) (fun _ _ _ h => h) (Or.inl ⟨by rfl, ?_⟩) (by assumption) ?_
              rotate_left
              · intro w9 hSw
                (try dsimp only at hSw)
                go_simp
                (try with_reducible rfl)
              (try simp only [Act.put]); (try simp only [List.setIfInBounds_toArray]); (try simp only [List.set_cons_succ]); (try simp only [List.set_cons_zero])
              refine wpAnyH_take (i := 55) (v := ?_) rfl (by kernel_rfl) (by kernel_rfl) (by kernel_rfl) (fun _ _ _ h => h) (Or.inl ⟨by rfl, ?_⟩) (by assumption) ?_
              rotate_left
              · intro w9 hSw
                (try dsimp only at hSw)
                go_simp
                (try with_reducible rfl)
              (try simp only [Act.put]); (try simp only [List.setIfInBounds_toArray]); (try simp only [List.set_cons_succ]); (try simp only [List.set_cons_zero])
              refine wpAnyH_take (i := 56) (v := ?_) rfl (by kernel_rfl) (by kernel_rfl) (by kernel_rfl) (fun _ _ _ h => h) (Or.inl ⟨by rfl, ?_⟩) (by assumption) ?_
              rotate_left
              · intro w9 hSw
                (try dsimp only at hSw)
                go_simp
                (try with_reducible rfl)
              (try simp only [Act.put]); (try simp only [List.setIfInBounds_toArray]); (try simp only [List.set_cons_succ]); (try simp only [List.set_cons_zero])
              iterate 2
                (try dsimp only [List.getElem_toArray, List.getElem_cons_succ, List.getElem_cons_zero])
                (try simp only [Act.put]); (try simp only [List.setIfInBounds_toArray]); (try simp only [List.set_cons_succ]); (try simp only [List.set_cons_zero])
              refine wpAnyH_take (i := 57) (oi := { dst := some 134, op := Go.Op.load 28 (Go.Operand.tmp 6), type := 28, pos := "law.go:28", after := #[{ on := 56, ground := Go.Ground.guard }], guard := some (56, true) }) (v := .agg (tabA s1 (3, 30) u6 (.slice (some ⟨fb, fo, none⟩) F4.length vc))) rfl (by kernel_rfl) (by kernel_rfl) (by kernel_rfl) (fun _ _ _ h => h) (y_midT (by rfl) (.tmp 6) rfl g6 rfl (fun _ h => h.1.t6)) (by assumption) ?_
              (try simp only [Act.put]); (try simp only [List.setIfInBounds_toArray]); (try simp only [List.set_cons_succ]); (try simp only [List.set_cons_zero])
              iterate 1
                (try dsimp only [List.getElem_toArray, List.getElem_cons_succ, List.getElem_cons_zero])
                (try simp only [Act.put]); (try simp only [List.setIfInBounds_toArray]); (try simp only [List.set_cons_succ]); (try simp only [List.set_cons_zero])
              refine wpAnyH_ready (rs := [58]) (by kernel_rfl) (by simp) ?_
              refine AllReadyH.cons rfl (fun K hK => ?_) ?_
              rotate_left
              · exact AllReadyH.nil
              go_simp
              go_wp2_with (go_at_call 54; (with_reducible refine (small_15 _).mono ?_); rintro e z58 ⟨rfl, kk⟩); replace E := E.bel2 hg kk; replace E2 := E2.bel2 kk; clear kk
              refine hK.out _ _ ?_ (fun hHeld => ?_)
              · exact ⟨E, E2⟩
              clear hK K
              (try simp only [Act.put]); (try simp only [List.setIfInBounds_toArray]); (try simp only [List.set_cons_succ]); (try simp only [List.set_cons_zero])
              iterate 1
                (try dsimp only [List.getElem_toArray, List.getElem_cons_succ, List.getElem_cons_zero])
                (try simp only [Act.put]); (try simp only [List.setIfInBounds_toArray]); (try simp only [List.set_cons_succ]); (try simp only [List.set_cons_zero])
              refine wpAnyH_take (i := 59) (oi := { dst := some 136, op := Go.Op.build 25 #[(0, Go.Operand.const (Go.Value.int Go.IntKind.i64 9)), (1, Go.Operand.tmp 135)], type := 25, pos := "law.go:28", after := #[{ on := 58, ground := Go.Ground.data }, { on := 56, ground := Go.Ground.guard }], guard := some (56, true) }) (v := .agg (peA (9, 15))) rfl (by kernel_rfl) (by kernel_rfl) (by kernel_rfl) (fun _ _ _ h => h) (y_buildP (by rfl) (.const (.int .i64 9)) (.tmp 135) rfl 9 15 rfl rfl) (by assumption) ?_
              (try simp only [Act.put]); (try simp only [List.setIfInBounds_toArray]); (try simp only [List.set_cons_succ]); (try simp only [List.set_cons_zero])
              iterate 1
                (try dsimp only [List.getElem_toArray, List.getElem_cons_succ, List.getElem_cons_zero])
                (try simp only [Act.put]); (try simp only [List.setIfInBounds_toArray]); (try simp only [List.set_cons_succ]); (try simp only [List.set_cons_zero])
              refine wpAnyH_ready (rs := [60]) (by kernel_rfl) (by simp) ?_
              refine AllReadyH.cons rfl (fun K hK => ?_) ?_
              rotate_left
              · exact AllReadyH.nil
              go_simp
              go_wp2_with (go_at_call 29; (with_reducible refine (closer_9 E.la).mono ?_); rintro e z60 ⟨rfl, kk⟩); replace E := E.bel2 hg kk; replace E2 := E2.bel2 kk; clear kk
              refine hK.out _ _ ?_ (fun hHeld => ?_)
              · exact ⟨E, E2⟩
              clear hK K
              (try simp only [Act.put]); (try simp only [List.setIfInBounds_toArray]); (try simp only [List.set_cons_succ]); (try simp only [List.set_cons_zero])
              iterate 1
                (try dsimp only [List.getElem_toArray, List.getElem_cons_succ, List.getElem_cons_zero])
                (try simp only [Act.put]); (try simp only [List.setIfInBounds_toArray]); (try simp only [List.set_cons_succ]); (try simp only [List.set_cons_zero])
              refine wpAnyH_take (i := 61) (v := ?_) rfl (by kernel_rfl) (by kernel_rfl) (by kernel_rfl) (fun _ _ _ h => h) (Or.inl ⟨by rfl, ?_⟩) (by assumption) ?_
              rotate_left
              · intro w9 hSw
                (try dsimp only at hSw)
                go_simp
                (try with_reducible rfl)
              (try simp only [Act.put]); (try simp only [List.setIfInBounds_toArray]); (try simp only [List.set_cons_succ]); (try simp only [List.set_cons_zero])
              refine wpAnyH_take (i := 62) (v := ?_) rfl (by kernel_rfl) (by kernel_rfl) (by kernel_rfl) (fun _ _ _ h => h) (Or.inl ⟨by rfl, ?_⟩) (by assumption) ?_
              rotate_left
              · intro w9 hSw
                (try dsimp only at hSw)
                go_simp
                (try with_reducible rfl)
              (try simp only [Act.put]); (try simp only [List.setIfInBounds_toArray]); (try simp only [List.set_cons_succ]); (try simp only [List.set_cons_zero])
              iterate 2
                (try dsimp only [List.getElem_toArray, List.getElem_cons_succ, List.getElem_cons_zero])
                (try simp only [Act.put]); (try simp only [List.setIfInBounds_toArray]); (try simp only [List.set_cons_succ]); (try simp only [List.set_cons_zero])
              refine wpAnyH_done (by kernel_rfl) ?_ _
              clear hHeld
              go_wp2
              go_ret
              exact ⟨rfl, by rw [hg]; exact E.bel⟩
end Go.Proofs.Ytkcljbolopephaa

