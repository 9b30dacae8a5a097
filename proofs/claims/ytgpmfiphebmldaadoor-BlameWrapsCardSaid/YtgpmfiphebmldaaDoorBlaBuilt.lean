/- What a script builds, in memory. -/
import Derived.Test.YtgpmfiphebmldaaDoorBlaTake
import Derived.Deep.CutRange
namespace Go.Proofs.YtgpmfiphebmldaaDoor
open Go Go.RowKit Go.Sort

def BuiltP (B : Nat) (w : World) (l : List Stp) (e : Ending) (w' : World) : Prop := ∃ lv mv us xs, e = .returned (.tuple #[lv, mv]) ∧ LRow B w' lv mv us (runO l) ∧ MRow B w' lv mv xs (runO l) ∧ Below w.heap.size w w'
/-- the state between two rounds -/
def Mid (w wr : World) (lv mv : Value) (L : List (Option ET)) : Prop := ∃ us xs, LRow w.heap.size wr lv mv us L ∧ MRow w.heap.size wr lv mv xs L ∧ Below w.heap.size w wr
theorem mid_step {w wr : World} {lv mv : Value} {l : List Stp} {k : Nat} {s : Stp} (hs : l[k]? = some s) (h : Mid w wr lv mv (stepO s (runO (l.take k)))) : Mid w wr lv mv (runO (l.take (k + 1))) := by
  rw [take_snoc l k s hs, runO_snoc]; exact h

set_option maxHeartbeats 4000000 in
set_option maxRecDepth 100000 in
theorem built_any (v : Value) (l : List Stp) (w : World) (hS : Scr w v l) (hl : l.length ≤ 60) (ho : opsum l ≤ 2000) :
    Calls Tryd.prog 8 #[v] w (BuiltP w.heap.size w l) := by
  rcases hS with ⟨rfl, rfl⟩ | ⟨b, o, c, rfl, _, hj⟩
  · go_enter Tryd.func8, Tryd.ntmps8
    go_wp2
    refine wp_loop_rounds 1 ?_
    rw [rounds_succ]
    go_wp2
    go_ret2
    exact ⟨_, _, [], [], rfl, ⟨World.ownsRow_nil _ _ _ _, trivial⟩, ⟨World.ownsRow_nil _ _ _ _, Tos.nil _ _⟩, Below.refl _ _⟩
  · obtain ⟨n, hn⟩ : ∃ n, n = l.length := ⟨_, rfl⟩
    have HN := Lib.hid hn
    have HJ := Lib.hid hj
    rw [← hn] at hl
    rw [← hn]
    have hw : ∀ k, wts (runO (l.take k)) ≤ 36 * k + 2000 := fun k => Nat.le_trans (wts_run l k) (by have := opsum_take l k; omega)
    have HW := Lib.hid hw
    clear hn hj hw ho
    go_enter Tryd.func8, Tryd.ntmps8
    go_wp2
    go_loopw [4, 5, 6, 7, 8, 9, 10, 11, 12, 13] (fun lv mv i _ _ _ _ _ _ _ wr => ∃ k : Nat, k ≤ n ∧ i = .int .i64 k ∧ Mid w wr lv mv (runO (l.take k))) (fun _ _ i _ _ _ _ _ _ _ _ => n - (intOf i).toNat)
    case atStart => exact ⟨0, by omega, rfl, [], [], ⟨World.ownsRow_nil _ _ _ _, trivial⟩, ⟨World.ownsRow_nil _ _ _ _, Tos.nil _ _⟩, Below.refl _ _⟩
    case round =>
      obtain ⟨k, hk, rfl, us, xs, hL, hM, hB⟩ := hrel
      by_cases hlt : k < n
      · obtain ⟨s, hsk⟩ : ∃ s, l[k]? = some s := ⟨_, List.getElem?_eq_getElem (by rw [← HN.out]; omega)⟩
        obtain ⟨hr0, hwf⟩ := HJ.out k s hsk
        have hgl : b < w.heap.size := range_lt hr0 (by simp [stpC])
        have hr : wr.rangeAt b (o + k * 4) (stpC s).toList := range_kept hr0 (p := fun i => i < w.heap.size) (fun i _ hp => hB.block i hp) hgl
        have hwk := HW.out k
        have hlen := wts_length (runO (l.take k))
        have STEP := Lib.hid (fun (wr : World) (lv mv : Value) (h : Mid w wr lv mv (stepO s (runO (l.take k)))) => mid_step hsk h)
        generalize hLk : runO (l.take k) = L at *
        have HLk := Lib.hid hLk
        clear hLk hr0 hsk
        have hlt' : decide ((k : Int) < n) = true := by simp; omega
        go_upto_region 7 with (first
          | (refine p_midS rfl _ rfl b (o + k * 4) rfl s hr ?_)
          | (refine wpList_store_newrow rfl 55 _ _ rfl (stpC s) rfl rfl infoStep (stp_one s) rfl ?_))
        have hb := Blk.new wr (stpC s) 55
        have bel : Below wr.heap.size wr (wr.alloc (.cells (stpC s) 55)) := (Below.refl _ _).alloc (Nat.le_refl _) _
        replace hL := hL.later bel
        replace hM := hM.later bel
        replace hB := hB.trans (bel.mono hB.size)
        generalize hsb : wr.heap.size = sb at *
        generalize wr.alloc _ = W at *
        clear hr bel hsb wr
        have q0 : W.cell? ⟨sb, 0, none⟩ = some (.int .i64 s.kind) := hb.cell 0
        have q1 : W.cell? ⟨sb, 1, none⟩ = some (.int .i64 s.code) := hb.cell 1
        have q2 : W.cell? ⟨sb, 2, none⟩ = some (.string s.op) := hb.cell 2
        have q3 : W.cell? ⟨sb, 3, none⟩ = some (.int .i64 s.n) := hb.cell 3
        obtain ⟨m, hm⟩ : ∃ m, m = L.length := ⟨_, rfl⟩
        obtain ⟨al, cl, hlv⟩ := own_shape hL.own
        obtain ⟨am, cm, hmv⟩ := own_shape hM.own
        have HM := Lib.hid hm
        have hm1 : m ≤ 3000 := by omega
        rw [← hm] at hlv hmv
        subst hlv hmv
        clear hm hlen hwk
        simp only [Act.put]
        have lown : W.ownsRow w.heap.size 30 1 (.slice al m cl) m us := by rw [HM.out]; rw [HM.out] at hL; exact hL.own
        have mown : W.ownsRow w.heap.size 32 4 (.slice am m cm) m (flatT xs) := by rw [HM.out]; rw [HM.out] at hM; exact hM.own
        by_cases k0 : s.kind = 0
        · have hs : Hid (stepO s L = L ++ [newO s.code]) := by unfold Hid stepO; rw [if_pos k0]
          rw [k0] at q0
          obtain ⟨v, hN, hNe, hsh⟩ := new_conc s.code hwf.1.1 hwf.1.2
          have hR := fun w => tree_ret (refnew_any s.code hwf.1.1 hwf.1.2 w)
          rcases hsh with hv | hv
          all_goals
            subst hv
            go_upto_region 13 with (first
              | (go_at_call 23; (with_reducible refine (hN _).mono ?_); rintro e w1 ⟨rfl, rfl⟩)
              | (at_builtin; refine wpList_snoc rfl _ _ 25 rfl w.heap.size 30 .nilIface 1 16 Tryd.underlying25 infoErr rfl (by decide) (.slice al m cl) m us rfl lown #[_] _ rfl rfl (by simp [Value.oneCell']) rfl (by omega) (by omega) hB.size ?_; intro lv' w2 hO hG hb2))
            rw [HM.out] at hO
            obtain ⟨hL2, hM2, b2⟩ := l_push hB.size hL hM (hNe W _) hO hG hb2
            have hB2 := hB.trans b2
            have qb := keep_other lown hb (by decide) (grow_alloc hG)
            have r1 : w2.cell? ⟨sb, 1, none⟩ = some (.int .i64 s.code) := qb.cell 1
            clear hG hb2 hO
            go_wp2_with (first
              | (go_at_call 25; (with_reducible refine (hR _).mono ?_); rintro e w3 ⟨k3, c3, op3, a3, n3, cap3, rfl, hX, b3⟩; have hL3 := hL2.later b3; have hM3 := hM2.later b3; have hB3 := hB2.trans (b3.mono hB2.size); have hX3 := to_new (q := off lv' (.slice am m cm)) hX; have mown3 : w3.ownsRow w.heap.size 32 4 (.slice am m cm) m (flatT xs) := (by rw [HM.out]; rw [HM.out] at hM3; exact hM3.own))
              | (at_builtin; refine wpList_snoc rfl _ _ 26 rfl w.heap.size 32 (.agg zeroT) 4 56 Tryd.underlying26 infoT rfl (by decide) (.slice am m cm) m (flatT xs) rfl mown3 #[.int .i64 k3, .int .i64 c3, .string op3, .slice a3 n3 cap3] _ rfl rfl (to_one hX3) rfl (by omega) (by omega) hB3.size ?_; intro mv' w4 hO4 hG4 hb4))
            rw [HM.out] at hO4
            obtain ⟨hL4, hM4, b4⟩ := m_push hB3.size hL3 hM3 hX3 hO4 hG4 hb4
            exact ⟨⟨k + 1, by omega, by go_num, STEP.out _ _ _ (by rw [hs.out]; exact ⟨_, _, hL4, hM4, hB3.trans b4⟩)⟩, by simp [intOf]; omega⟩
        · by_cases k1 : s.kind = 1
          · have h0 : (s.kind == 0) = false := by simpa using k0
            rw [k1] at q0
            cases m with
            | zero =>
              have hs : Hid (stepO s L = L) := by unfold Hid stepO; rw [if_neg k0, if_pos k1, if_pos HM.out.symm]
              clear lown mown
              go_wp2
              exact ⟨⟨k + 1, by omega, by go_num, STEP.out _ _ _ (by rw [hs.out]; exact ⟨_, _, hL, hM, hB⟩)⟩, by simp [intOf]; omega⟩
            | succ j =>
              have hm := HM.out
              obtain ⟨o0, ho0⟩ : ∃ o0, L[j]? = some o0 := ⟨_, List.getElem?_eq_getElem (by omega)⟩
              obtain ⟨v0, hv0⟩ : ∃ v0, us[j]? = some v0 := ⟨_, List.getElem?_eq_getElem (by rw [hL.is.length]; omega)⟩
              obtain ⟨X0, hX0⟩ : ∃ X0, xs[j]? = some X0 := ⟨_, List.getElem?_eq_getElem (by rw [hM.is.1]; omega)⟩
              have hs : Hid (stepO s L = L.set j (wrapO s.op o0)) := by
                unfold Hid stepO
                rw [if_neg k0, if_pos k1, if_neg (by omega), ← hm, Nat.add_sub_cancel, ho0]; rfl
              obtain ⟨g, cap, hal, hgB, hgl, _, hgr⟩ := own_range lown (by omega)
              obtain ⟨g2, cap2, ham, hgB2, hgl2, _, hgr2⟩ := own_range mown (by omega)
              simp only [Value.slice.injEq, true_and] at hal ham
              obtain ⟨rfl, rfl⟩ := hal
              obtain ⟨rfl, rfl⟩ := ham
              have e0 : W.cell? ⟨g, j, none⟩ = some v0 := by have := hgr j v0 hv0; rwa [Nat.zero_add] at this
              have HF : ∀ w', Below W.drew.heap.size W.drew w' → w'.cell? ⟨g, j, none⟩ = some v0 ∧ w'.frozen? ⟨g, j, none⟩ = false := fun w' hb => ⟨(hb.cell (p := ⟨g, j, none⟩) hgl).trans e0, (hb.frozen (p := ⟨g, j, none⟩) hgl).trans (lown.frozenAt j)⟩
              have hE0 := (hL.is.get j v0 o0 hv0 ho0).kept (w' := W.drew) fun _ _ _ => rfl
              have FIN : Hid (∀ w2 v2, Below W.drew.heap.size W.drew w2 → Eo w2 (fun k => off (.slice (some ⟨g, 0, none⟩) (j + 1) cl) (.slice (some ⟨g2, 0, none⟩) (j + 1) cm) k ∨ W.drew.heap.size ≤ k) v2 (wrapO s.op o0) →
                  ∃ us', LRow w.heap.size (w2.setCell ⟨g, j, none⟩ v2) (.slice (some ⟨g, 0, none⟩) (j + 1) cl) (.slice (some ⟨g2, 0, none⟩) (j + 1) cm) us' (L.set j (wrapO s.op o0)) ∧ MRow w.heap.size (w2.setCell ⟨g, j, none⟩ v2) (.slice (some ⟨g, 0, none⟩) (j + 1) cl) (.slice (some ⟨g2, 0, none⟩) (j + 1) cm) xs L ∧ Below w.heap.size w (w2.setCell ⟨g, j, none⟩ v2) ∧ Blk (w2.setCell ⟨g, j, none⟩ v2) sb (stpC s) 55) := by
                unfold Hid
                intro w2 v2 b2 hv2
                have hL2 := hL.later (w' := w2) ((Below.refl W.heap.size W).drew.trans b2)
                have hM2 := hM.later (w' := w2) ((Below.refl W.heap.size W).drew.trans b2)
                have hB2 := hB.drew.trans (b2.mono hB.drew.size)
                have hv2' := eo_fresh (w0 := W.drew) (hL.later (w' := W.drew) ((Below.refl _ _).drew)).own (hM.later (w' := W.drew) ((Below.refl _ _).drew)).own hv2
                obtain ⟨x1, x2, x3⟩ := l_set hB2.size hL2 hm hM2 j hv2'
                refine ⟨_, x1, x2, hB2.trans x3, ?_⟩
                have hb2 : Blk w2 sb (stpC s) 55 := hb.below ((Below.refl W.heap.size W).drew.trans b2) hb.lt
                exact hb2.other g j v2 fun e => by
                  subst e
                  have h5 := hL2.own
                  rcases h5.2 with ⟨h6, _⟩ | ⟨g', cap', cur', h6, _, h7, _⟩
                  · cases h6
                  · injection h6 with h8
                    injection h8 with h9
                    injection h9 with h10
                    subst h10
                    have h11 : w2.heap[sb]? = _ := hb2
                    rw [h7] at h11
                    simp only [Option.some.injEq, Obj.cells.injEq] at h11
                    exact absurd h11.2.1 (by decide)
              have HMM := Lib.hid hm
              have HSB := Lib.hid hb
              have HX0 := Lib.hid hX0
              have HO0 := Lib.hid ho0
              clear hm hX0 ho0 hv0 hL hM hB hb
              go_upto_region 16 with (fail)
              go_cut [] from 14 to 118 (fun wx => ∃ us', LRow w.heap.size wx (.slice (some ⟨g, 0, none⟩) (j + 1) cl) (.slice (some ⟨g2, 0, none⟩) (j + 1) cm) us' (L.set j (wrapO s.op o0)) ∧ MRow w.heap.size wx (.slice (some ⟨g, 0, none⟩) (j + 1) cl) (.slice (some ⟨g2, 0, none⟩) (j + 1) cm) xs L ∧ Below w.heap.size w wx ∧ Blk wx sb (stpC s) 55)
              case first =>
                cases o0 with
                | none =>
                  cases hE0
                  have hWr := wrap_none s.op W.drew
                  go_region_with (go_at_call 21; (with_reducible refine hWr.mono ?_); rintro e w2 ⟨rfl, b2⟩; obtain ⟨f1, f2⟩ := HF w2 b2)
                  all_goals
                    go_wp2
                    go_meet
                    exact FIN.out w2 _ b2 rfl
                | some t =>
                  have hWr := wrap_some _ s.op v0 t W.drew hE0
                  go_region_with (go_at_call 21; (with_reducible refine hWr.mono ?_); rintro e w2 ⟨bb, rfl, hv2, b2⟩; obtain ⟨f1, f2⟩ := HF w2 b2)
                  all_goals
                    go_wp2
                    go_meet
                    exact FIN.out w2 _ b2 hv2
              case rest =>
                obtain ⟨us', hL1, hM1, hB1, hb1⟩ := hcut
                have hO0 := HO0.out
                have hlenL : (L.set j (wrapO s.op o0)).length = L.length := List.length_set ..
                have hmm : j + 1 = L.length := HMM.out
                have mown1 : wc.ownsRow w.heap.size 32 4 (.slice (some ⟨g2, 0, none⟩) (j + 1) cm) (j + 1) (flatT xs) := by rw [hmm]; rw [hmm] at hM1; exact hM1.own
                have hT0 := hM1.is.2 j X0 o0 HX0.out hO0
                obtain ⟨c0, op0, a0, n0, cp0, hXs⟩ := to_shape hT0
                have hgr3 : wc.rangeAt g2 (j * 4) X0.toList := by
                  have := flat_range (o := 0) hM1.is.size (w := wc) (g := g2) (by
                    have h6 := own_range mown1 (by omega)
                    obtain ⟨g', cap', h7, _, _, _, h8⟩ := h6
                    injection h7 with h9
                    injection h9 with h10
                    injection h10 with h11
                    subst h11
                    exact h8) j X0 HX0.out
                  rwa [Nat.zero_add] at this
                have x0 : wc.cell? ⟨g2, j * 4, none⟩ = some (.int .i64 (kindO o0)) := by have := hgr3 0 (.int .i64 (kindO o0)) (by rw [hXs]; rfl); rwa [Nat.add_zero] at this
                have x1 : wc.cell? ⟨g2, j * 4 + 1, none⟩ = some (.int .i64 c0) := hgr3 1 _ (by rw [hXs]; rfl)
                have x2 : wc.cell? ⟨g2, j * 4 + 2, none⟩ = some (.string op0) := hgr3 2 _ (by rw [hXs]; rfl)
                have x3 : wc.cell? ⟨g2, j * 4 + 3, none⟩ = some (.slice a0 n0 cp0) := hgr3 3 _ (by rw [hXs]; rfl)
                have t2 : wc.cell? ⟨sb, 2, none⟩ = some (.string s.op) := hb1.cell 2
                have hgl3 : g2 < wc.heap.size := World.block_lt_of_cell? wc _ x0
                have HF2 : ∀ w', Below wc.drew.heap.size wc.drew w' → (w'.cell? ⟨g2, j * 4, none⟩ = some (.int .i64 (kindO o0)) ∧ w'.cell? ⟨g2, j * 4 + 1, none⟩ = some (.int .i64 c0) ∧ w'.cell? ⟨g2, j * 4 + 2, none⟩ = some (.string op0) ∧ w'.cell? ⟨g2, j * 4 + 3, none⟩ = some (.slice a0 n0 cp0)) ∧ w'.frozen? ⟨g2, j * 4, none⟩ = false ∧ w'.frozen? ⟨g2, j * 4 + 1, none⟩ = false ∧ w'.frozen? ⟨g2, j * 4 + 2, none⟩ = false ∧ w'.frozen? ⟨g2, j * 4 + 3, none⟩ = false := fun w' hb => ⟨⟨(hb.cell (p := ⟨g2, j * 4, none⟩) hgl3).trans x0, (hb.cell (p := ⟨g2, j * 4 + 1, none⟩) hgl3).trans x1, (hb.cell (p := ⟨g2, j * 4 + 2, none⟩) hgl3).trans x2, (hb.cell (p := ⟨g2, j * 4 + 3, none⟩) hgl3).trans x3⟩, (hb.frozen (p := ⟨g2, j * 4, none⟩) hgl3).trans (mown1.frozenAt (j * 4)), (hb.frozen (p := ⟨g2, j * 4 + 1, none⟩) hgl3).trans (mown1.frozenAt (j * 4 + 1)), (hb.frozen (p := ⟨g2, j * 4 + 2, none⟩) hgl3).trans (mown1.frozenAt (j * 4 + 2)), (hb.frozen (p := ⟨g2, j * 4 + 3, none⟩) hgl3).trans (mown1.frozenAt (j * 4 + 3))⟩
                have hRW := tree_ret (refwrap_any (off (.slice (some ⟨g, 0, none⟩) (j + 1) cl) (.slice (some ⟨g2, 0, none⟩) (j + 1) cm)) s.op X0 o0 wc.drew (hT0.kept fun _ _ _ => rfl))
                subst hXs
                unfold treeC at hRW
                have FIN2 : Hid (∀ w2 (a b d e : Value), Below wc.drew.heap.size wc.drew w2 → To w2 (fun k => off (.slice (some ⟨g, 0, none⟩) (j + 1) cl) (.slice (some ⟨g2, 0, none⟩) (j + 1) cm) k ∨ wc.drew.heap.size ≤ k) #[a, b, d, e] (wrapO s.op o0) →
                    Mid w ((((w2.setCell ⟨g2, j * 4, none⟩ a).setCell ⟨g2, j * 4 + 1, none⟩ b).setCell ⟨g2, j * 4 + 2, none⟩ d).setCell ⟨g2, j * 4 + 3, none⟩ e) (.slice (some ⟨g, 0, none⟩) (j + 1) cl) (.slice (some ⟨g2, 0, none⟩) (j + 1) cm) (L.set j (wrapO s.op o0))) := by
                  unfold Hid
                  intro w2 a b d e b2 hX2
                  have hL2 := hL1.later (w' := w2) ((Below.refl wc.heap.size wc).drew.trans b2)
                  have hM2 := hM1.later (w' := w2) ((Below.refl wc.heap.size wc).drew.trans b2)
                  have hB2 := hB1.drew.trans (b2.mono hB1.drew.size)
                  have hX2' := to_fresh (w0 := wc.drew) (hL1.later (w' := wc.drew) ((Below.refl _ _).drew)).own (hM1.later (w' := wc.drew) ((Below.refl _ _).drew)).own hX2
                  obtain ⟨y1, y2, y3⟩ := m_set hB2.size hL2 hM2 hmm j (by omega) hX2'
                  exact ⟨_, _, y1, y2, hB2.trans y3⟩
                clear hL1 hM1 hB1 hT0 hmm hlenL hO0
                generalize kindO o0 = kd at *
                go_upto_region 17 with (fail)
                go_region_with (go_at_call 26; (with_reducible refine hRW.mono ?_); rintro e w2 ⟨k3, c3, op3, a3, n3, cap3, rfl, hX3, b2⟩; obtain ⟨⟨f0, f1, f2, f3⟩, f4, f5, f6, f7⟩ := HF2 w2 b2)
                all_goals
                  go_wp2
                  exact ⟨⟨k + 1, by omega, by go_num, STEP.out _ _ _ (by rw [hs.out]; exact FIN2.out w2 _ _ _ _ b2 hX3)⟩, by simp [intOf]; omega⟩
          · by_cases k2 : s.kind = 2
            · have h0 : (s.kind == 0) = false := by simpa using k0
              have h1 : (s.kind == 1) = false := by simpa using k1
              rw [k2] at q0
              clear lown mown
              by_cases hn : 0 ≤ s.n ∧ s.n ≤ m
              · have hs : Hid (stepO s L = L.take (m - s.n.toNat) ++ [joinO (L.drop (m - s.n.toNat))]) := by
                  unfold Hid stepO; rw [if_neg k0, if_neg k1, if_pos k2, ← HM.out, if_pos hn]
                obtain ⟨d, hd⟩ : ∃ d : Nat, s.n = d := ⟨s.n.toNat, by omega⟩
                rw [hd, Int.toNat_natCast] at hs
                rw [hd] at hn q3
                have hdm : d ≤ m := by omega
                clear hn
                obtain ⟨r, rfl⟩ : ∃ r, m = r + d := ⟨m - d, by omega⟩
                rw [Nat.add_sub_cancel] at hs
                have hrL : r ≤ L.length := by have := HM.out; omega
                have g1 : decide ((0 : Int) ≤ d) = true := by simp
                have g2 : decide ((d : Int) ≤ ((r + d : Nat) : Int)) = true := by simp; omega
                have HL := Lib.hid hL
                have HMM := Lib.hid hM
                have HB := Lib.hid hB
                have hlo : W.ownsRow w.heap.size 30 1 (.slice al (r + d) cl) (r + d) us := by rw [HM.out]; rw [HM.out] at hL; exact hL.own
                have hmo : W.ownsRow w.heap.size 32 4 (.slice am (r + d) cm) (r + d) (flatT xs) := by rw [HM.out]; rw [HM.out] at hM; exact hM.own
                have hEd := (hL.is.cut r).1
                have hTd := (hM.is.cut r).1
                have hxs := hM.is.size
                have hfd := flatT_drop xs hxs r
                have hu1 : ∀ u ∈ us.take r, u.oneCell' = true := fun u hu => hL.is.one u (List.mem_of_mem_take hu)
                have hu4 : ∀ u ∈ (flatT xs).take (r * 4), u.oneCell' = true := fun u hu => by
                  have hu := List.mem_of_mem_take hu
                  simp only [flatT, List.mem_flatMap] at hu
                  obtain ⟨X, hX, hu⟩ := hu
                  obtain ⟨j, hj, rfl⟩ := List.getElem_of_mem hX
                  have h9 := hM.is.1
                  exact to_one (hM.is.2 j _ (L[j]'(by omega)) (List.getElem?_eq_getElem _) (List.getElem?_eq_getElem _)) u hu
                have hws := hB.size
                clear hL hM hB
                go_upto_region 22 with (first
                  | (refine wpList_from rfl 25 _ _ rfl 30 1 Tryd.underlying25 infoEr _ (r + d) r us _ rfl rfl (Nat.le_add_right _ _) hlo ?_; intro v1 hS1; rw [Nat.add_sub_cancel_left, Nat.mul_one] at hS1)
                  | (go_at_call 22; (with_reducible refine (join_src _ v1 d _ _ W hS1 hEd (by omega)).mono ?_); rintro e W1 ⟨a1, rfl, hsh, hEa, b1⟩))
                have hmo1 := own_on hmo b1
                have hTd1 := hTd.kept (w' := W1) fun i hi _ => b1.block i hi
                have HEa := Lib.hid hEa
                clear hmo hTd hEa hEd hS1
                go_upto_region 23 with (first
                  | (refine wpList_from rfl 26 _ _ rfl 32 4 Tryd.underlying26 infoTr _ (r + d) r (flatT xs) _ rfl rfl (Nat.le_add_right _ _) hmo1 ?_; intro v2 hS2; rw [Nat.add_sub_cancel_left, hfd.1] at hS2)
                  | (go_at_call 27; (with_reducible refine (tree_ret (refjoin_src _ v2 d _ _ W1 hS2 hTd1 (by omega))).mono ?_); rintro e W2 ⟨k3, c3, op3, a3, n3, cap3, rfl, hX, b2⟩)
                  | (refine wpList_store_newrow rfl 32 _ _ rfl #[.int .i64 k3, .int .i64 c3, .string op3, .slice a3 n3 cap3] rfl rfl infoTr hX.one rfl ?_))
                have tb := Blk.new W2 #[.int .i64 k3, .int .i64 c3, .string op3, .slice a3 n3 cap3] 32
                have b23 : Below W2.heap.size W2 (W2.alloc (.cells #[.int .i64 k3, .int .i64 c3, .string op3, .slice a3 n3 cap3] 32)) := (Below.refl _ _).alloc (Nat.le_refl _) _
                have hX3 := hX.kept (w' := W2.alloc (.cells #[.int .i64 k3, .int .i64 c3, .string op3, .slice a3 n3 cap3] 32)) fun i hi _ => b23.block i hi
                have b13 := b2.trans (b23.mono b2.size)
                generalize hW3 : W2.alloc _ = W3
                rw [show W2.alloc (.cells #[.int .i64 k3, .int .i64 c3, .string op3, .slice a3 n3 cap3] 32) = W3 from hW3] at tb hX3 b13
                have b03 := b1.trans (b13.mono b1.size)
                have lown3 := own_on hlo b03
                have mown3 := own_on hmo1 b13
                have hs3 : w.heap.size ≤ W3.heap.size := Nat.le_trans hws b03.size
                have HX3 := Lib.hid hX3
                have HBB := Lib.hid b13
                have hXo := to_one hX3
                clear b23 hW3 b2 hX hX3 hlo hmo1 hTd1 hS2 b03 b13
                generalize W2.heap.size = tk at *
                go_upto_region 25 with (first
                  | (refine wpList_to rfl 25 _ _ rfl 30 1 Tryd.underlying25 infoEr _ (r + d) r us _ rfl rfl (Nat.le_add_right _ _) lown3 ?_; intro v3 hS3; rw [Nat.mul_one] at hS3)
                  | (at_builtin; refine wpList_fromnil rfl _ _ 25 rfl w.heap.size 30 .nilIface 1 16 Tryd.underlying25 infoErr rfl (by decide) rfl v3 r _ rfl hS3 hu1 (by omega) (by omega) hs3 ?_; intro x0 W4 hO4 hG4 hb4))
                have b34 := one_step hG4
                have hs4 : w.heap.size ≤ W4.heap.size := Nat.le_trans hs3 b34.size
                clear lown3
                rcases hsh with rfl | ⟨jb, rfl⟩
                all_goals
                  go_upto_region 26 with (at_builtin; refine wpList_snoc rfl _ _ 25 rfl w.heap.size 30 .nilIface 1 16 Tryd.underlying25 infoErr rfl (by decide) x0 r (us.take r) rfl hO4 #[_] _ rfl rfl (by simp [Value.oneCell']) rfl (by omega) (by omega) hs4 ?_; intro x1 W5 hO5 hG5 hb5)
                  have b35 := two_steps hG4 hb4 hG5
                  have hx := snoc_block hO5 hb5 hb4 (Nat.le_trans b34.size (Nat.le_succ _))
                  have tb5 : Blk W5 tk #[.int .i64 k3, .int .i64 c3, .string op3, .slice a3 n3 cap3] 32 := tb.below b35 tb.lt
                  have mown5 := own_on mown3 b35
                  have hs5 : w.heap.size ≤ W5.heap.size := Nat.le_trans hs3 b35.size
                  clear tb mown3 hO4 hG4 hb4 hG5 hb5 b34 hs4
                  go_upto_region 29 with (first
                    | (refine wpList_to rfl 26 _ _ rfl 32 4 Tryd.underlying26 infoTr _ (r + d) r (flatT xs) _ rfl rfl (Nat.le_add_right _ _) mown5 ?_; intro v4 hS4)
                    | (at_builtin; refine wpList_fromnil rfl _ _ 26 rfl w.heap.size 32 (.agg zeroT) 4 56 Tryd.underlying26 infoT rfl (by decide) rfl v4 r _ rfl hS4 hu4 (by omega) (by omega) hs5 ?_; intro y0 W6 hO6 hG6 hb6))
                  have b56 := one_step hG6
                  have tb6 := blk_range (tb5.below b56 tb5.lt)
                  have hs6 : w.heap.size ≤ W6.heap.size := Nat.le_trans hs5 b56.size
                  clear tb5 mown5
                  go_wp2_with (first
                    | (refine p_midT rfl _ rfl tk 0 rfl #[.int .i64 k3, .int .i64 c3, .string op3, .slice a3 n3 cap3] rfl tb6 ?_)
                    | (at_builtin; refine wpList_snoc rfl _ _ 26 rfl w.heap.size 32 (.agg zeroT) 4 56 Tryd.underlying26 infoT rfl (by decide) y0 r ((flatT xs).take (r * 4)) rfl hO6 #[.int .i64 k3, .int .i64 c3, .string op3, .slice a3 n3 cap3] _ rfl rfl hXo rfl (by omega) (by omega) hs6 ?_; intro y1 W7 hO7 hG7 hb7))
                  have b57 := two_steps hG6 hb6 hG7
                  have hy0 := snoc_block hO7 hb7 hb6 (Nat.le_trans b56.size (Nat.le_succ _))
                  have hy : ∃ f, y1.ownBlock = some f ∧ W3.heap.size ≤ f := hy0.imp fun f h => ⟨h.1, Nat.le_trans b35.size h.2⟩
                  obtain ⟨z1, z2, z3⟩ := cut_fin HB.out.size HL.out HMM.out b1 HEa.out HBB.out HX3.out (b35.trans (b57.mono b35.size)) hx hy r hrL (own_on hO5 b57) hO7
                  exact ⟨⟨k + 1, by omega, by go_num, STEP.out _ _ _ (by rw [hs.out]; exact ⟨_, _, z1, z2, HB.out.trans z3⟩)⟩, by simp [intOf]; omega⟩
              · have hs : Hid (stepO s L = L) := by
                  unfold Hid stepO; rw [if_neg k0, if_neg k1, if_pos k2, ← HM.out, if_neg hn]
                by_cases hn1 : 0 ≤ s.n
                · have g1 : decide ((0 : Int) ≤ s.n) = true := by simpa using hn1
                  have g2 : decide ((s.n : Int) ≤ m) = false := by simp; omega
                  go_wp2
                  exact ⟨⟨k + 1, by omega, by go_num, STEP.out _ _ _ (by rw [hs.out]; exact ⟨_, _, hL, hM, hB⟩)⟩, by simp [intOf]; omega⟩
                · have g1 : decide ((0 : Int) ≤ s.n) = false := by simpa using hn1
                  go_wp2
                  exact ⟨⟨k + 1, by omega, by go_num, STEP.out _ _ _ (by rw [hs.out]; exact ⟨_, _, hL, hM, hB⟩)⟩, by simp [intOf]; omega⟩
            · have hs : Hid (stepO s L = L ++ [none]) := by unfold Hid stepO; rw [if_neg k0, if_neg k1, if_neg k2]
              have h0 : (s.kind == 0) = false := by simpa using k0
              have h1 : (s.kind == 1) = false := by simpa using k1
              have h2 : (s.kind == 2) = false := by simpa using k2
              go_upto_region 10 with (at_builtin; refine wpList_snoc rfl _ _ 25 rfl w.heap.size 30 .nilIface 1 16 Tryd.underlying25 infoErr rfl (by decide) (.slice al m cl) m us rfl lown #[.nilIface] _ rfl rfl (by simp [Value.oneCell']) rfl (by omega) (by omega) hB.size ?_; intro lv' w2 hO hG hb2)
              rw [HM.out] at hO
              obtain ⟨hL2, hM2, b2⟩ := l_push (o := none) hB.size hL hM rfl hO hG hb2
              have hB2 := hB.trans b2
              have mown2 : w2.ownsRow w.heap.size 32 4 (.slice am m cm) m (flatT xs) := by rw [HM.out]; rw [HM.out] at hM2; exact hM2.own
              clear hG hb2 hO
              go_wp2_with (at_builtin; refine wpList_snoc rfl _ _ 26 rfl w.heap.size 32 (.agg zeroT) 4 56 Tryd.underlying26 infoT rfl (by decide) (.slice am m cm) m (flatT xs) rfl mown2 zeroT _ rfl rfl (by simp [zeroT, treeC, Value.oneCell']) rfl (by omega) (by omega) hB2.size ?_; intro mv' w4 hO4 hG4 hb4)
              rw [HM.out] at hO4
              obtain ⟨hL4, hM4, b4⟩ := m_push (o := none) hB2.size hL2 hM2 rfl hO4 hG4 hb4
              exact ⟨⟨k + 1, by omega, by go_num, STEP.out _ _ _ (by rw [hs.out]; exact ⟨_, _, hL4, hM4, hB2.trans b4⟩)⟩, by simp [intOf]; omega⟩
      · obtain rfl : n = k := by omega
        have ht : l.take n = l := by rw [HN.out, List.take_length]
        rw [ht] at hL hM
        obtain ⟨m, hm⟩ : ∃ m, m = (runO l).length := ⟨_, rfl⟩
        have P := Lib.hid (show ∃ us xs, LRow w.heap.size wr u4 u5 us (runO l) ∧ MRow w.heap.size wr u4 u5 xs (runO l) ∧ Below w.heap.size w wr from ⟨us, xs, hL, hM, hB⟩)
        clear hL hM hB hm ht
        go_wp2
        go_ret2
        obtain ⟨us, xs, h1, h2, h3⟩ := P.out
        exact ⟨_, _, us, xs, rfl, h1, h2, h3⟩
end Go.Proofs.YtgpmfiphebmldaaDoor
