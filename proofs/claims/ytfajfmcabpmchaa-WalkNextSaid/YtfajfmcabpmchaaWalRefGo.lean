/- The document's own walk. -/
import Derived.Test.YtfajfmcabpmchaaWalRef
import Derived.Test.YtfajfmcabpmchaaWalGoD
import Derived.Test.YtfajfmcabpmchaaTabRefs2
import Derived.Deep.CutRange
namespace Go.Proofs.Ytfajfmcabpmchaa
set_option maxRecDepth 100000
open Go Go.RowKit Go.Sort

/-- while the document's walk goes on -/
structure RWk (g : Nat) (w wr : World) (id : Nat) (h : Value) (H : List Int) : Prop where
  bel : Below g w wr
  i : At wr g id
  r : RB wr (g + 1) nilS (0, 0)
  o : wr.ownsRow (g + 2) 3 1 h H.length (ints H)
theorem RWk.bel2 {g : Nat} {w wr w' : World} {id : Nat} {h : Value} {H : List Int} (k : RWk g w wr id h H) (hg : w.heap.size = g) (hb : Below wr.heap.size wr w') : RWk g w w' id h H :=
  ⟨belTo hg k.bel hb, k.i.below hb, k.r.bel hb, own_bel k.o hb⟩
theorem RWk.hop {g : Nat} {w wr w2 : World} {id : Nat} {h h' : Value} {H : List Int} {a : Int} (k : RWk g w wr id h H) (h1 : w2.ownsRow (g + 2) 3 1 h' (H.length + 1) (ints (H ++ [a]))) (h2 : wr.grownBy w2 h.ownBlock) : RWk g w w2 id h' (H ++ [a]) := by
  have hlo : ∀ j, h.ownBlock = some j → g + 2 ≤ j := fun j hj => (k.o.lt j hj).1
  have lr := k.r.lt
  have same : ∀ j, j < g + 2 → w2.heap[j]? = wr.heap[j]? := fun j hj => h2.block j (by omega) (fun e => by have := hlo j e.symm; omega)
  refine ⟨⟨h2.os.trans k.bel.os, h2.tape.trans k.bel.tape, h2.output.trans k.bel.output, Nat.le_trans k.bel.size h2.size, fun j hj => (same j (by omega)).trans (k.bel.block j hj)⟩, (same g (by omega)).trans k.i, (same (g + 1) (by omega)).trans k.r, ?_⟩
  rw [List.length_append]
  exact h1
/-- how many a slice has -/
def lenOf (v : Value) : Nat := match v with | .slice _ n _ => n | _ => 0
/-- what holds at the head of the loop -/
def RGo (X : List Tv) (fp : Tv → Pe) (dn : Tv → Bool) (nx : Tv → Pe × Bool) (R : Rou) (m g : Nat) (w : World) (id : Nat) (v10 v11 : Value) (wr : World) : Prop :=
  ∃ (n q : Nat) (x : Tv) (H : List Int), v10 = .int .i64 (q : Int) ∧ lenOf v11 = H.length ∧ X[q]? = some x ∧ n + H.length = m + 1 ∧ RWk g w wr id v11 H ∧ wkV X fp dn nx n x H = R
theorem RGo.mk {X : List Tv} {fp : Tv → Pe} {dn : Tv → Bool} {nx : Tv → Pe × Bool} {R : Rou} {m g : Nat} {w : World} {id : Nat} {v11 : Value} {wr : World} (n q : Nat) (x : Tv) (H : List Int) (hx : X[q]? = some x) (hn : n + H.length = m + 1) (hW : RWk g w wr id v11 H) (hR : wkV X fp dn nx n x H = R) :
    RGo X fp dn nx R m g w id (.int .i64 (q : Int)) v11 wr := ⟨n, q, x, H, rfl, by obtain ⟨a, c, e⟩ := Cr.own_form hW.o; rw [e]; rfl, hx, hn, hW, hR⟩
/-- a call whose answer was drawn with a new block -/
def CaQ (W : World) (p : Pe) (d : Bool) (v u : Value) (wx : World) : Prop := ∃ gp, v = .pointer (some ⟨gp, 0, none⟩) ∧ u = .bool d ∧ Below W.heap.size W wx ∧ PB wx gp p ∧ W.heap.size ≤ gp
theorem CaQ.mk {W : World} {p : Pe} {d : Bool} {wx : World} {gp : Nat} (h1 : Below W.heap.size W wx) (h2 : PB wx gp p) (h3 : W.heap.size ≤ gp) : CaQ W p d (.pointer (some ⟨gp, 0, none⟩)) (.bool d) wx := ⟨gp, rfl, rfl, h1, h2, h3⟩
set_option maxHeartbeats 8000000 in
theorem refwalk_good {w : World} {v : Value} {X : List Tv} (fr : Int) (id m : Nat) (x0 : Tv) (fp : Tv → Pe) (dn : Tv → Bool) (nx : Tv → Pe × Bool) (hX : LiesT w v X) (h16 : X.length ≤ 16) (h64 : m ≤ 64) (hx0 : findV X fr = some x0)
    (hRi : ∀ W, Below w.heap.size w W → Calls Try.prog 28 #[v] W fun e w' => e = .returned (.bool true) ∧ Below W.heap.size W w')
    (hFi : ∀ a W, Below w.heap.size w W → Calls Try.prog 29 #[v, .int .i64 a] W fun e w' => e = .returned (.int .i64 (idxV X a)) ∧ W = w')
    (hD : ∀ x ∈ X, GivesW w 30 #[.agg (tvA x), idv id] (.tuple #[.agg (peA (fp x)), .bool (dn x)]))
    (hN : ∀ x ∈ X, GivesW w 31 #[.agg (tvA x), idv id, nilS] (.tuple #[.agg (peA (nx x).1), .bool (nx x).2])) :
    Calls Try.prog 11 #[v, .int .i64 fr, idv id, .int .i64 (m : Int)] w fun e w' => RouP w.heap.size (wkV X fp dn nx m x0 [fr]) e w' ∧ Below w.heap.size w w' := by
  have HX := Lib.hid hX
  have HRi := Lib.hid hRi
  have HFi := Lib.hid hFi
  have HD := Lib.hid hD
  have HN := Lib.hid hN
  obtain ⟨av, cv, rfl⟩ := hX.form
  obtain ⟨n16, hn16⟩ : ∃ n, n = X.length := ⟨_, rfl⟩
  rw [← hn16] at h16 HX HRi HFi ⊢
  have HNN := Lib.hid hn16
  have hq0 : ∃ q0 : Nat, idxV X fr = (q0 : Int) ∧ X[q0]? = some x0 := by
    have h1 := idx_get X fr
    rw [hx0] at h1
    have h2 := (List.getElem?_eq_some_iff.1 h1.symm).1
    exact ⟨idxN X fr, by unfold idxV; rw [if_pos h2], h1.symm⟩
  obtain ⟨q0, hq1, hq2⟩ := hq0
  have B0 := ((Below.refl w.heap.size w).alloc (Nat.le_refl _) (.cells (row (dig 20 id)) 24)).alloc (by simp) (.cells (rtA nilS (0, 0)) 30)
  have I0 : At ((w.alloc (.cells (row (dig 20 id)) 24)).alloc (.cells (rtA nilS (0, 0)) 30)) w.heap.size id := (At.new w id).alloc _
  have R0 : RB ((w.alloc (.cells (row (dig 20 id)) 24)).alloc (.cells (rtA nilS (0, 0)) 30)) (w.heap.size + 1) nilS (0, 0) := by
    have := RB.new (w.alloc (.cells (row (dig 20 id)) 24)) nilS (0, 0)
    rwa [World.size_alloc] at this
  have HQ2 := Lib.hid hq2
  have hFr := HFi.out fr
  rw [hq1] at hFr
  have HFR := Lib.hid hFr
  clear hX hRi hFi hD hN hx0 hn16 hq1 hq2 hFr
  have b16 : ¬ (16 : Int) < (n16 : Int) := by omega
  have c16 : decide ((16 : Int) < (n16 : Int)) = false := decide_eq_false b16
  have bq : ¬ (q0 : Int) < 0 := by omega
  have cq : decide ((q0 : Int) < 0) = false := decide_eq_false bq
  have d1 : ¬ (m : Int) < 0 := by omega
  have d2 : ¬ (64 : Int) < (m : Int) := by omega
  have d3 : decide ((m : Int) < 0) = false := decide_eq_false d1
  have d4 : decide ((64 : Int) < (m : Int)) = false := decide_eq_false d2
  rw [show idv id = .agg (row (dig 20 id)) from rfl]
  go_enter Try.func11, Try.ntmps11
  go_upto_region 1 with (fail)
  rw [route_zero]
  generalize (w.alloc _).alloc _ = W at *
  generalize hg : w.heap.size = g at *
  have hcall := HRi.out W B0
  go_upto_region 3 with (first
    | (go_at_call 28; (with_reducible refine hcall.mono ?_); rintro e w1 ⟨rfl, k1⟩; have I1 := I0.below k1; have R1 := R0.bel k1; have B1 := belTo hg B0 k1; have hcf := HFR.out w1 B1; clear k1)
    | (go_at_call 29; (with_reducible refine hcf.mono ?_); rintro e w2 ⟨rfl, rfl⟩))
  have hsz : g + 2 ≤ w1.heap.size := R1.lt
  go_upto_region 5 with (go_at_call 29; (with_reducible refine hcf.mono ?_); rintro e w3 ⟨rfl, rfl⟩)
  have K3 := (Below.refl w1.heap.size w1).alloc (Nat.le_refl _) (.cells #[.int .i64 fr] 3)
  have P0 : Hid (RWk g w (w1.alloc (.cells #[.int .i64 fr] 3)) id (.slice (some ⟨w1.heap.size, 0, none⟩) 1 1) [fr]) := ⟨belTo hg B1 K3, I1.below K3, R1.bel K3, one_int w1 fr (g + 2) (by omega)⟩
  clear K3 hcf hcall B1 I1 R1 B0 I0 R0 HFR b16 c16
  generalize hR : wkV X fp dn nx m x0 [fr] = R at *
  have HR := Lib.hid hR
  clear hR
  generalize w1.alloc _ = W4 at *
  generalize Value.slice (some ⟨w1.heap.size, 0, none⟩) 1 1 = h0 at *
  go_loopw [10, 11, 12, 13, 14, 15] (fun v10 v11 _ _ _ _ wr => RGo X fp dn nx R m g w id v10 v11 wr) (fun _ v11 _ _ _ _ _ => m + 1 - lenOf v11)
  case atStart => exact RGo.mk m q0 x0 [fr] HQ2.out rfl P0.out HR.out
  case round =>
    clear P0 bq cq
    obtain ⟨n, q, x, H, rfl, hlv, hxq, hnH, hP, hE⟩ := hrel
    obtain ⟨ha, hcap, rfl⟩ := Cr.own_form hP.o
    have HE := Lib.hid hE
    have hxm := List.mem_of_getElem? hxq
    have hBw : Below w.heap.size w wr := by rw [hg]; exact hP.bel
    have hXr := HX.out.bel hBw
    obtain ⟨b, o, c, e1, hc, r0, hlb⟩ := hXr.at hxq
    simp only [Value.slice.injEq] at e1
    obtain ⟨rfl, en, rfl⟩ := e1
    have hqn : q < n16 := by rw [en]; exact (List.getElem?_eq_some_iff.1 hxq).1
    clear en
    have bq : (q : Int) < (n16 : Int) := by omega
    have bz : (0 : Int) ≤ (q : Int) := by omega
    have HS : Hid (∀ wx, Below wr.heap.size wr wx → wx.rangeAt b (o + q * 44) (tvC x) ∧ wx.rangeAt g 0 (row (dig 20 id)).toList) := fun wx hb => ⟨range_bel r0 hb hlb, blk_range (show Blk wx g _ _ from hP.i.below hb)⟩
    have HC : Hid (∀ wx, Below wr.heap.size wr wx → Calls Try.prog 30 #[.agg (tvA x), idv id] wx fun e w' => e = .returned (.tuple #[.agg (peA (fp x)), .bool (dn x)]) ∧ Below wx.heap.size wx w') := fun wx hb => HD.out x hxm wx (hBw.trans (hb.mono hBw.size))
    have HC2 : Hid (∀ wx, Below wr.heap.size wr wx → Calls Try.prog 31 #[.agg (tvA x), idv id, nilS] wx fun e w' => e = .returned (.tuple #[.agg (peA (nx x).1), .bool (nx x).2]) ∧ Below wx.heap.size wx w') := fun wx hb => HN.out x hxm wx (hBw.trans (hb.mono hBw.size))
    have HP := Lib.hid hP
    clear hP hE hXr r0 hlb hBw hlv hc
    go_upto_region 5 with (fail)
    go_cut [12, 13] from 44 to 85 (fun v u wx => CaQ wr (fp x) (dn x) v u wx)
    case first => as_aux_lemma =>
      refine wp_region_held_drew (S := (fun w9 => w9.rangeAt b (o + q * 44) (tvC x) ∧ w9.rangeAt g 0 (row (dig 20 id)).toList)) (by kernel_rfl) ?_ (fun hHeld => ?_)
      · exact HS.out _ (drew_bel wr)
      have b0 : Below wr.heap.size wr wr.drew := drew_bel wr
      generalize World.drew wr = w0 at *
      refine wpAnyH_take (i := 0) (v := ?_) rfl (by kernel_rfl) (by kernel_rfl) (by kernel_rfl) (fun _ _ _ h => h) (Or.inl ⟨by rfl, ?_⟩) (by assumption) ?_
      rotate_left
      · intro w9 hSw
        (try dsimp only at hSw)
        go_simp
        (try with_reducible rfl)
      (try simp only [Act.put]); (try simp only [List.setIfInBounds_toArray]); (try simp only [List.set_cons_succ]); (try simp only [List.set_cons_zero])
      iterate 1
        (try dsimp only [List.getElem_toArray, List.getElem_cons_succ, List.getElem_cons_zero])
        (try simp only [Act.put]); (try simp only [List.setIfInBounds_toArray]); (try simp only [List.set_cons_succ]); (try simp only [List.set_cons_zero])
      refine wpAnyH_take (i := 1) (v := ?_) rfl (by kernel_rfl) (by kernel_rfl) (by kernel_rfl) (fun _ _ _ h => h) (Or.inl ⟨by rfl, ?_⟩) (by assumption) ?_
      rotate_left
      · intro w9 hSw
        (try dsimp only at hSw)
        go_simp
        (try with_reducible rfl)
      (try simp only [Act.put]); (try simp only [List.setIfInBounds_toArray]); (try simp only [List.set_cons_succ]); (try simp only [List.set_cons_zero])
      iterate 1
        (try dsimp only [List.getElem_toArray, List.getElem_cons_succ, List.getElem_cons_zero])
        (try simp only [Act.put]); (try simp only [List.setIfInBounds_toArray]); (try simp only [List.set_cons_succ]); (try simp only [List.set_cons_zero])
      refine wpAnyH_take (i := 2) (v := ?_) rfl (by kernel_rfl) (by kernel_rfl) (by kernel_rfl) (fun _ _ _ h => h) (Or.inl ⟨by rfl, ?_⟩) (by assumption) ?_
      rotate_left
      · intro w9 hSw
        (try dsimp only at hSw)
        go_simp
        (try with_reducible rfl)
      (try simp only [Act.put]); (try simp only [List.setIfInBounds_toArray]); (try simp only [List.set_cons_succ]); (try simp only [List.set_cons_zero])
      iterate 1
        (try dsimp only [List.getElem_toArray, List.getElem_cons_succ, List.getElem_cons_zero])
        (try simp only [Act.put]); (try simp only [List.setIfInBounds_toArray]); (try simp only [List.set_cons_succ]); (try simp only [List.set_cons_zero])
      refine wpAnyH_take (i := 3) (oi := { dst := some 48, op := Op.load 43 (Operand.tmp 47), type := 43, pos := "ref.go:67", after := #[{ on := 2, ground := Ground.data }], guard := none }) (v := .agg (tvA x)) rfl (by kernel_rfl) (by kernel_rfl) (by kernel_rfl) (fun _ _ _ h => h) (y_rowT (by rfl) (.tmp 47) rfl b (o + q * 44) rfl x (fun _ h => h.1)) (by assumption) ?_
      (try simp only [Act.put]); (try simp only [List.setIfInBounds_toArray]); (try simp only [List.set_cons_succ]); (try simp only [List.set_cons_zero])
      iterate 1
        (try dsimp only [List.getElem_toArray, List.getElem_cons_succ, List.getElem_cons_zero])
        (try simp only [Act.put]); (try simp only [List.setIfInBounds_toArray]); (try simp only [List.set_cons_succ]); (try simp only [List.set_cons_zero])
      refine wpAnyH_take (i := 4) (oi := { dst := some 49, op := Op.load 24 (Operand.tmp 6), type := 24, pos := "ref.go:67", after := #[], guard := none }) (v := (idv id)) rfl (by kernel_rfl) (by kernel_rfl) (by kernel_rfl) (fun _ _ _ h => h) (y_midI (by rfl) (.tmp 6) rfl g 0 rfl id (fun _ h => h.2)) (by assumption) ?_
      (try simp only [Act.put]); (try simp only [List.setIfInBounds_toArray]); (try simp only [List.set_cons_succ]); (try simp only [List.set_cons_zero])
      iterate 1
        (try dsimp only [List.getElem_toArray, List.getElem_cons_succ, List.getElem_cons_zero])
        (try simp only [Act.put]); (try simp only [List.setIfInBounds_toArray]); (try simp only [List.set_cons_succ]); (try simp only [List.set_cons_zero])
      refine wpAnyH_ready (rs := [5, 9]) (by kernel_rfl) (by simp) ?_
      refine AllReadyH.cons rfl (fun K hK => ?_) ?_
      · go_simp
        go_wp2_with (go_at_call 30; (with_reducible refine (HC.out _ b0).mono ?_); rintro e w1 ⟨rfl, k1⟩)
        have b1 := b0.trans (k1.mono b0.size)
        refine hK.out _ _ ?_ (fun hHeld => ?_)
        · exact HS.out _ b1
        clear hK K
        (try simp only [Act.put]); (try simp only [List.setIfInBounds_toArray]); (try simp only [List.set_cons_succ]); (try simp only [List.set_cons_zero])
        iterate 1
          (try dsimp only [List.getElem_toArray, List.getElem_cons_succ, List.getElem_cons_zero])
          (try simp only [Act.put]); (try simp only [List.setIfInBounds_toArray]); (try simp only [List.set_cons_succ]); (try simp only [List.set_cons_zero])
        refine wpAnyH_take (i := 6) (v := ?_) rfl (by kernel_rfl) (by kernel_rfl) (by kernel_rfl) (fun _ _ _ h => h) (Or.inl ⟨by rfl, ?_⟩) (by assumption) ?_
        rotate_left
        · intro w9 hSw
          (try dsimp only at hSw)
          go_simp
          (try with_reducible rfl)
        (try simp only [Act.put]); (try simp only [List.setIfInBounds_toArray]); (try simp only [List.set_cons_succ]); (try simp only [List.set_cons_zero])
        iterate 1
          (try dsimp only [List.getElem_toArray, List.getElem_cons_succ, List.getElem_cons_zero])
          (try simp only [Act.put]); (try simp only [List.setIfInBounds_toArray]); (try simp only [List.set_cons_succ]); (try simp only [List.set_cons_zero])
        refine wpAnyH_take (i := 7) (v := ?_) rfl (by kernel_rfl) (by kernel_rfl) (by kernel_rfl) (fun _ _ _ h => h) (Or.inl ⟨by rfl, ?_⟩) (by assumption) ?_
        rotate_left
        · intro w9 hSw
          (try dsimp only at hSw)
          go_simp
          (try with_reducible rfl)
        (try simp only [Act.put]); (try simp only [List.setIfInBounds_toArray]); (try simp only [List.set_cons_succ]); (try simp only [List.set_cons_zero])
        iterate 1
          (try dsimp only [List.getElem_toArray, List.getElem_cons_succ, List.getElem_cons_zero])
          (try simp only [Act.put]); (try simp only [List.setIfInBounds_toArray]); (try simp only [List.set_cons_succ]); (try simp only [List.set_cons_zero])
        refine wpAnyH_take (i := 8) (v := ?_) rfl (by kernel_rfl) (by kernel_rfl) (by kernel_rfl) (fun _ _ _ h => h) (Or.inl ⟨by rfl, ?_⟩) (by assumption) ?_
        rotate_left
        · intro w9 hSw
          (try dsimp only at hSw)
          go_simp
          (try with_reducible rfl)
        (try simp only [Act.put]); (try simp only [List.setIfInBounds_toArray]); (try simp only [List.set_cons_succ]); (try simp only [List.set_cons_zero])
        iterate 1
          (try dsimp only [List.getElem_toArray, List.getElem_cons_succ, List.getElem_cons_zero])
          (try simp only [Act.put]); (try simp only [List.setIfInBounds_toArray]); (try simp only [List.set_cons_succ]); (try simp only [List.set_cons_zero])
        refine wpAnyH_ready (rs := [9]) (by kernel_rfl) (by simp) ?_
        refine AllReadyH.cons rfl (fun K hK => ?_) ?_
        rotate_left
        · exact AllReadyH.nil
        go_simp
        have x2 := PB.zero w1
        have b2 := b1.alloc b1.size (.cells (peA (0, 0)) 28)
        have l2 := b1.size
        refine hK.out _ _ ?_ (fun hHeld => ?_)
        · (try rw [peer_zero]); exact HS.out _ b2
        clear hK K
        try rw [peer_zero] at hHeld
        (try simp only [Act.put]); (try simp only [List.setIfInBounds_toArray]); (try simp only [List.set_cons_succ]); (try simp only [List.set_cons_zero])
        try rw [peer_zero]
        generalize w1.heap.size = gp at *
        generalize w1.alloc _ = w2 at *
        iterate 1
          (try dsimp only [List.getElem_toArray, List.getElem_cons_succ, List.getElem_cons_zero])
          (try simp only [Act.put]); (try simp only [List.setIfInBounds_toArray]); (try simp only [List.set_cons_succ]); (try simp only [List.set_cons_zero])
        refine wpAnyH_ready (rs := [10]) (by kernel_rfl) (by simp) ?_
        refine AllReadyH.cons rfl (fun K hK => ?_) ?_
        rotate_left
        · exact AllReadyH.nil
        rw [if_pos (by rfl)]
        have b9 := bel_setRow b2 l2 (peA (fp x))
        have x9 := x2.set (fp x)
        refine wp_store_row 28 _ _ rfl gp (peA (fp x)) rfl rfl 28 (peA (0, 0)) x2 (by rw [peA_size]; exact sizeP) (by rw [peA_size, peA_size]) (peA_one (fp x)) ?_
        refine hK.out _ _ ?_ (fun hHeld => ?_)
        · exact HS.out _ b9
        clear hK K
        (try simp only [Act.put]); (try simp only [List.setIfInBounds_toArray]); (try simp only [List.set_cons_succ]); (try simp only [List.set_cons_zero])
        generalize w2.setRow gp _ = w9 at *
        iterate 1
          (try dsimp only [List.getElem_toArray, List.getElem_cons_succ, List.getElem_cons_zero])
          (try simp only [Act.put]); (try simp only [List.setIfInBounds_toArray]); (try simp only [List.set_cons_succ]); (try simp only [List.set_cons_zero])
        refine wpAnyH_take (i := 11) (v := ?_) rfl (by kernel_rfl) (by kernel_rfl) (by kernel_rfl) (fun _ _ _ h => h) (Or.inl ⟨by rfl, ?_⟩) (by assumption) ?_
        rotate_left
        · intro w9 hSw
          (try dsimp only at hSw)
          go_simp
          (try with_reducible rfl)
        (try simp only [Act.put]); (try simp only [List.setIfInBounds_toArray]); (try simp only [List.set_cons_succ]); (try simp only [List.set_cons_zero])
        iterate 1
          (try dsimp only [List.getElem_toArray, List.getElem_cons_succ, List.getElem_cons_zero])
          (try simp only [Act.put]); (try simp only [List.setIfInBounds_toArray]); (try simp only [List.set_cons_succ]); (try simp only [List.set_cons_zero])
        refine wpAnyH_done (by kernel_rfl) ?_ _
        go_wp2
        go_meet
        exact CaQ.mk b9 x9 l2
      refine AllReadyH.cons rfl (fun K hK => ?_) ?_
      · go_simp
        have x2 := PB.zero w0
        have b1 := b0.alloc b0.size (.cells (peA (0, 0)) 28)
        have l2 := b0.size
        refine hK.out _ _ ?_ (fun hHeld => ?_)
        · (try rw [peer_zero]); exact HS.out _ b1
        clear hK K
        try rw [peer_zero] at hHeld
        (try simp only [Act.put]); (try simp only [List.setIfInBounds_toArray]); (try simp only [List.set_cons_succ]); (try simp only [List.set_cons_zero])
        try rw [peer_zero]
        generalize w0.heap.size = gp at *
        generalize w0.alloc _ = w1 at *
        iterate 1
          (try dsimp only [List.getElem_toArray, List.getElem_cons_succ, List.getElem_cons_zero])
          (try simp only [Act.put]); (try simp only [List.setIfInBounds_toArray]); (try simp only [List.set_cons_succ]); (try simp only [List.set_cons_zero])
        refine wpAnyH_ready (rs := [5]) (by kernel_rfl) (by simp) ?_
        refine AllReadyH.cons rfl (fun K hK => ?_) ?_
        rotate_left
        · exact AllReadyH.nil
        go_simp
        go_wp2_with (go_at_call 30; (with_reducible refine (HC.out _ b1).mono ?_); rintro e w2 ⟨rfl, k1⟩)
        have b2 := b1.trans (k1.mono b1.size)
        have x2 := x2.bel k1
        refine hK.out _ _ ?_ (fun hHeld => ?_)
        · exact HS.out _ b2
        clear hK K
        (try simp only [Act.put]); (try simp only [List.setIfInBounds_toArray]); (try simp only [List.set_cons_succ]); (try simp only [List.set_cons_zero])
        iterate 1
          (try dsimp only [List.getElem_toArray, List.getElem_cons_succ, List.getElem_cons_zero])
          (try simp only [Act.put]); (try simp only [List.setIfInBounds_toArray]); (try simp only [List.set_cons_succ]); (try simp only [List.set_cons_zero])
        refine wpAnyH_take (i := 6) (v := ?_) rfl (by kernel_rfl) (by kernel_rfl) (by kernel_rfl) (fun _ _ _ h => h) (Or.inl ⟨by rfl, ?_⟩) (by assumption) ?_
        rotate_left
        · intro w9 hSw
          (try dsimp only at hSw)
          go_simp
          (try with_reducible rfl)
        (try simp only [Act.put]); (try simp only [List.setIfInBounds_toArray]); (try simp only [List.set_cons_succ]); (try simp only [List.set_cons_zero])
        iterate 1
          (try dsimp only [List.getElem_toArray, List.getElem_cons_succ, List.getElem_cons_zero])
          (try simp only [Act.put]); (try simp only [List.setIfInBounds_toArray]); (try simp only [List.set_cons_succ]); (try simp only [List.set_cons_zero])
        refine wpAnyH_take (i := 7) (v := ?_) rfl (by kernel_rfl) (by kernel_rfl) (by kernel_rfl) (fun _ _ _ h => h) (Or.inl ⟨by rfl, ?_⟩) (by assumption) ?_
        rotate_left
        · intro w9 hSw
          (try dsimp only at hSw)
          go_simp
          (try with_reducible rfl)
        (try simp only [Act.put]); (try simp only [List.setIfInBounds_toArray]); (try simp only [List.set_cons_succ]); (try simp only [List.set_cons_zero])
        iterate 1
          (try dsimp only [List.getElem_toArray, List.getElem_cons_succ, List.getElem_cons_zero])
          (try simp only [Act.put]); (try simp only [List.setIfInBounds_toArray]); (try simp only [List.set_cons_succ]); (try simp only [List.set_cons_zero])
        refine wpAnyH_take (i := 8) (v := ?_) rfl (by kernel_rfl) (by kernel_rfl) (by kernel_rfl) (fun _ _ _ h => h) (Or.inl ⟨by rfl, ?_⟩) (by assumption) ?_
        rotate_left
        · intro w9 hSw
          (try dsimp only at hSw)
          go_simp
          (try with_reducible rfl)
        (try simp only [Act.put]); (try simp only [List.setIfInBounds_toArray]); (try simp only [List.set_cons_succ]); (try simp only [List.set_cons_zero])
        iterate 1
          (try dsimp only [List.getElem_toArray, List.getElem_cons_succ, List.getElem_cons_zero])
          (try simp only [Act.put]); (try simp only [List.setIfInBounds_toArray]); (try simp only [List.set_cons_succ]); (try simp only [List.set_cons_zero])
        refine wpAnyH_ready (rs := [10]) (by kernel_rfl) (by simp) ?_
        refine AllReadyH.cons rfl (fun K hK => ?_) ?_
        rotate_left
        · exact AllReadyH.nil
        rw [if_pos (by rfl)]
        have b9 := bel_setRow b2 l2 (peA (fp x))
        have x9 := x2.set (fp x)
        refine wp_store_row 28 _ _ rfl gp (peA (fp x)) rfl rfl 28 (peA (0, 0)) x2 (by rw [peA_size]; exact sizeP) (by rw [peA_size, peA_size]) (peA_one (fp x)) ?_
        refine hK.out _ _ ?_ (fun hHeld => ?_)
        · exact HS.out _ b9
        clear hK K
        (try simp only [Act.put]); (try simp only [List.setIfInBounds_toArray]); (try simp only [List.set_cons_succ]); (try simp only [List.set_cons_zero])
        generalize w2.setRow gp _ = w9 at *
        iterate 1
          (try dsimp only [List.getElem_toArray, List.getElem_cons_succ, List.getElem_cons_zero])
          (try simp only [Act.put]); (try simp only [List.setIfInBounds_toArray]); (try simp only [List.set_cons_succ]); (try simp only [List.set_cons_zero])
        refine wpAnyH_take (i := 11) (v := ?_) rfl (by kernel_rfl) (by kernel_rfl) (by kernel_rfl) (fun _ _ _ h => h) (Or.inl ⟨by rfl, ?_⟩) (by assumption) ?_
        rotate_left
        · intro w9 hSw
          (try dsimp only at hSw)
          go_simp
          (try with_reducible rfl)
        (try simp only [Act.put]); (try simp only [List.setIfInBounds_toArray]); (try simp only [List.set_cons_succ]); (try simp only [List.set_cons_zero])
        iterate 1
          (try dsimp only [List.getElem_toArray, List.getElem_cons_succ, List.getElem_cons_zero])
          (try simp only [Act.put]); (try simp only [List.setIfInBounds_toArray]); (try simp only [List.set_cons_succ]); (try simp only [List.set_cons_zero])
        refine wpAnyH_done (by kernel_rfl) ?_ _
        go_wp2
        go_meet
        exact CaQ.mk b9 x9 l2
      exact AllReadyH.nil
    case rest =>
      obtain ⟨gp, rfl, rfl, hb1, hpb, hlo⟩ := hcut
      have HP1 := Lib.hid (HP.out.bel2 hg hb1)
      have F1 := hpb.range
      have hRR := HP1.out.r
      have lr := HP1.out.r.lt
      cases hdn : dn x
      rotate_left
      · have hR := wv_done (X := X) (fp := fp) (nx := nx) hdn n H
        rw [HE.out] at hR
        subst hR
        clear HE
        go_wp2_with (first
          | (refine p_midP rfl _ rfl gp 0 rfl (fp x) F1 ?_)
          | (refine p_buildR2 rfl _ _ rfl _ _ _ rfl (fp x) rfl ?_)
          | (refine p_putR rfl _ _ rfl (g + 1) rfl rfl rfl hRR ?_))
        exact bodyPost_ret (results_R2 Try.results11 _ _ (g + 1) _ rfl rfl (hRR.set _ _)) rfl ⟨rou_ok HR.out (by
          rw [hg]
          refine own_baseI (own_keep HP1.out.o fun j hj => Go.setRow_other _ _ _ _ (fun e => ?_)) (show g ≤ g + 2 by omega)
          have := (HP1.out.o.lt j hj).1
          omega), by rw [hg]; exact bel_setRow HP1.out.bel (by omega) _⟩
      clear hRR lr F1 HC
      go_upto_region 8 with (fail)
      have HS1 : Hid (∀ wx, Below wc.heap.size wc wx → wx.rangeAt b (o + q * 44) (tvC x) ∧ wx.rangeAt g 0 (row (dig 20 id)).toList) := fun wx hb => HS.out wx (hb1.trans (hb.mono hb1.size))
      have HC : Hid (∀ wx, Below wc.heap.size wc wx → Calls Try.prog 31 #[.agg (tvA x), idv id, nilS] wx fun e w' => e = .returned (.tuple #[.agg (peA (nx x).1), .bool (nx x).2]) ∧ Below wx.heap.size wx w') := fun wx hb => HC2.out wx (hb1.trans (hb.mono hb1.size))
      clear HS HC2 HP hpb hlo hb1
      have HS := HS1
      clear HS1
      generalize wc = wd at *
      go_cut [14, 15] from 44 to 85 (fun v u wx => CaQ wd (nx x).1 (nx x).2 v u wx)
      case first => as_aux_lemma =>
        refine wp_region_held_drew (S := (fun w9 => w9.rangeAt b (o + q * 44) (tvC x) ∧ w9.rangeAt g 0 (row (dig 20 id)).toList)) (by kernel_rfl) ?_ (fun hHeld => ?_)
        · exact HS.out _ (drew_bel wd)
        have b0 : Below wd.heap.size wd wd.drew := drew_bel wd
        generalize World.drew wd = w0 at *
        refine wpAnyH_take (i := 0) (v := ?_) rfl (by kernel_rfl) (by kernel_rfl) (by kernel_rfl) (fun _ _ _ h => h) (Or.inl ⟨by rfl, ?_⟩) (by assumption) ?_
        rotate_left
        · intro w9 hSw
          (try dsimp only at hSw)
          go_simp
          (try with_reducible rfl)
        (try simp only [Act.put]); (try simp only [List.setIfInBounds_toArray]); (try simp only [List.set_cons_succ]); (try simp only [List.set_cons_zero])
        iterate 1
          (try dsimp only [List.getElem_toArray, List.getElem_cons_succ, List.getElem_cons_zero])
          (try simp only [Act.put]); (try simp only [List.setIfInBounds_toArray]); (try simp only [List.set_cons_succ]); (try simp only [List.set_cons_zero])
        refine wpAnyH_take (i := 1) (v := ?_) rfl (by kernel_rfl) (by kernel_rfl) (by kernel_rfl) (fun _ _ _ h => h) (Or.inl ⟨by rfl, ?_⟩) (by assumption) ?_
        rotate_left
        · intro w9 hSw
          (try dsimp only at hSw)
          go_simp
          (try with_reducible rfl)
        (try simp only [Act.put]); (try simp only [List.setIfInBounds_toArray]); (try simp only [List.set_cons_succ]); (try simp only [List.set_cons_zero])
        iterate 1
          (try dsimp only [List.getElem_toArray, List.getElem_cons_succ, List.getElem_cons_zero])
          (try simp only [Act.put]); (try simp only [List.setIfInBounds_toArray]); (try simp only [List.set_cons_succ]); (try simp only [List.set_cons_zero])
        refine wpAnyH_take (i := 2) (v := ?_) rfl (by kernel_rfl) (by kernel_rfl) (by kernel_rfl) (fun _ _ _ h => h) (Or.inl ⟨by rfl, ?_⟩) (by assumption) ?_
        rotate_left
        · intro w9 hSw
          (try dsimp only at hSw)
          go_simp
          (try with_reducible rfl)
        (try simp only [Act.put]); (try simp only [List.setIfInBounds_toArray]); (try simp only [List.set_cons_succ]); (try simp only [List.set_cons_zero])
        iterate 1
          (try dsimp only [List.getElem_toArray, List.getElem_cons_succ, List.getElem_cons_zero])
          (try simp only [Act.put]); (try simp only [List.setIfInBounds_toArray]); (try simp only [List.set_cons_succ]); (try simp only [List.set_cons_zero])
        refine wpAnyH_take (i := 3) (oi := { dst := some 61, op := Op.load 43 (Operand.tmp 60), type := 43, pos := "ref.go:71", after := #[{ on := 2, ground := Ground.data }], guard := none }) (v := .agg (tvA x)) rfl (by kernel_rfl) (by kernel_rfl) (by kernel_rfl) (fun _ _ _ h => h) (y_rowT (by rfl) (.tmp 60) rfl b (o + q * 44) rfl x (fun _ h => h.1)) (by assumption) ?_
        (try simp only [Act.put]); (try simp only [List.setIfInBounds_toArray]); (try simp only [List.set_cons_succ]); (try simp only [List.set_cons_zero])
        iterate 1
          (try dsimp only [List.getElem_toArray, List.getElem_cons_succ, List.getElem_cons_zero])
          (try simp only [Act.put]); (try simp only [List.setIfInBounds_toArray]); (try simp only [List.set_cons_succ]); (try simp only [List.set_cons_zero])
        refine wpAnyH_take (i := 4) (oi := { dst := some 62, op := Op.load 24 (Operand.tmp 6), type := 24, pos := "ref.go:71", after := #[], guard := none }) (v := (idv id)) rfl (by kernel_rfl) (by kernel_rfl) (by kernel_rfl) (fun _ _ _ h => h) (y_midI (by rfl) (.tmp 6) rfl g 0 rfl id (fun _ h => h.2)) (by assumption) ?_
        (try simp only [Act.put]); (try simp only [List.setIfInBounds_toArray]); (try simp only [List.set_cons_succ]); (try simp only [List.set_cons_zero])
        iterate 1
          (try dsimp only [List.getElem_toArray, List.getElem_cons_succ, List.getElem_cons_zero])
          (try simp only [Act.put]); (try simp only [List.setIfInBounds_toArray]); (try simp only [List.set_cons_succ]); (try simp only [List.set_cons_zero])
        refine wpAnyH_ready (rs := [5, 9]) (by kernel_rfl) (by simp) ?_
        refine AllReadyH.cons rfl (fun K hK => ?_) ?_
        · go_simp
          go_wp2_with (go_at_call 31; (with_reducible refine (HC.out _ b0).mono ?_); rintro e w1 ⟨rfl, k1⟩)
          have b1 := b0.trans (k1.mono b0.size)
          refine hK.out _ _ ?_ (fun hHeld => ?_)
          · exact HS.out _ b1
          clear hK K
          (try simp only [Act.put]); (try simp only [List.setIfInBounds_toArray]); (try simp only [List.set_cons_succ]); (try simp only [List.set_cons_zero])
          iterate 1
            (try dsimp only [List.getElem_toArray, List.getElem_cons_succ, List.getElem_cons_zero])
            (try simp only [Act.put]); (try simp only [List.setIfInBounds_toArray]); (try simp only [List.set_cons_succ]); (try simp only [List.set_cons_zero])
          refine wpAnyH_take (i := 6) (v := ?_) rfl (by kernel_rfl) (by kernel_rfl) (by kernel_rfl) (fun _ _ _ h => h) (Or.inl ⟨by rfl, ?_⟩) (by assumption) ?_
          rotate_left
          · intro w9 hSw
            (try dsimp only at hSw)
            go_simp
            (try with_reducible rfl)
          (try simp only [Act.put]); (try simp only [List.setIfInBounds_toArray]); (try simp only [List.set_cons_succ]); (try simp only [List.set_cons_zero])
          iterate 1
            (try dsimp only [List.getElem_toArray, List.getElem_cons_succ, List.getElem_cons_zero])
            (try simp only [Act.put]); (try simp only [List.setIfInBounds_toArray]); (try simp only [List.set_cons_succ]); (try simp only [List.set_cons_zero])
          refine wpAnyH_take (i := 7) (v := ?_) rfl (by kernel_rfl) (by kernel_rfl) (by kernel_rfl) (fun _ _ _ h => h) (Or.inl ⟨by rfl, ?_⟩) (by assumption) ?_
          rotate_left
          · intro w9 hSw
            (try dsimp only at hSw)
            go_simp
            (try with_reducible rfl)
          (try simp only [Act.put]); (try simp only [List.setIfInBounds_toArray]); (try simp only [List.set_cons_succ]); (try simp only [List.set_cons_zero])
          iterate 1
            (try dsimp only [List.getElem_toArray, List.getElem_cons_succ, List.getElem_cons_zero])
            (try simp only [Act.put]); (try simp only [List.setIfInBounds_toArray]); (try simp only [List.set_cons_succ]); (try simp only [List.set_cons_zero])
          refine wpAnyH_take (i := 8) (v := ?_) rfl (by kernel_rfl) (by kernel_rfl) (by kernel_rfl) (fun _ _ _ h => h) (Or.inl ⟨by rfl, ?_⟩) (by assumption) ?_
          rotate_left
          · intro w9 hSw
            (try dsimp only at hSw)
            go_simp
            (try with_reducible rfl)
          (try simp only [Act.put]); (try simp only [List.setIfInBounds_toArray]); (try simp only [List.set_cons_succ]); (try simp only [List.set_cons_zero])
          iterate 1
            (try dsimp only [List.getElem_toArray, List.getElem_cons_succ, List.getElem_cons_zero])
            (try simp only [Act.put]); (try simp only [List.setIfInBounds_toArray]); (try simp only [List.set_cons_succ]); (try simp only [List.set_cons_zero])
          refine wpAnyH_ready (rs := [9]) (by kernel_rfl) (by simp) ?_
          refine AllReadyH.cons rfl (fun K hK => ?_) ?_
          rotate_left
          · exact AllReadyH.nil
          go_simp
          have x2 := PB.zero w1
          have b2 := b1.alloc b1.size (.cells (peA (0, 0)) 28)
          have l2 := b1.size
          refine hK.out _ _ ?_ (fun hHeld => ?_)
          · (try rw [peer_zero]); exact HS.out _ b2
          clear hK K
          try rw [peer_zero] at hHeld
          (try simp only [Act.put]); (try simp only [List.setIfInBounds_toArray]); (try simp only [List.set_cons_succ]); (try simp only [List.set_cons_zero])
          try rw [peer_zero]
          generalize w1.heap.size = gp at *
          generalize w1.alloc _ = w2 at *
          iterate 1
            (try dsimp only [List.getElem_toArray, List.getElem_cons_succ, List.getElem_cons_zero])
            (try simp only [Act.put]); (try simp only [List.setIfInBounds_toArray]); (try simp only [List.set_cons_succ]); (try simp only [List.set_cons_zero])
          refine wpAnyH_ready (rs := [10]) (by kernel_rfl) (by simp) ?_
          refine AllReadyH.cons rfl (fun K hK => ?_) ?_
          rotate_left
          · exact AllReadyH.nil
          rw [if_pos (by rfl)]
          have b9 := bel_setRow b2 l2 (peA (nx x).1)
          have x9 := x2.set (nx x).1
          refine wp_store_row 28 _ _ rfl gp (peA (nx x).1) rfl rfl 28 (peA (0, 0)) x2 (by rw [peA_size]; exact sizeP) (by rw [peA_size, peA_size]) (peA_one (nx x).1) ?_
          refine hK.out _ _ ?_ (fun hHeld => ?_)
          · exact HS.out _ b9
          clear hK K
          (try simp only [Act.put]); (try simp only [List.setIfInBounds_toArray]); (try simp only [List.set_cons_succ]); (try simp only [List.set_cons_zero])
          generalize w2.setRow gp _ = w9 at *
          iterate 1
            (try dsimp only [List.getElem_toArray, List.getElem_cons_succ, List.getElem_cons_zero])
            (try simp only [Act.put]); (try simp only [List.setIfInBounds_toArray]); (try simp only [List.set_cons_succ]); (try simp only [List.set_cons_zero])
          refine wpAnyH_take (i := 11) (v := ?_) rfl (by kernel_rfl) (by kernel_rfl) (by kernel_rfl) (fun _ _ _ h => h) (Or.inl ⟨by rfl, ?_⟩) (by assumption) ?_
          rotate_left
          · intro w9 hSw
            (try dsimp only at hSw)
            go_simp
            (try with_reducible rfl)
          (try simp only [Act.put]); (try simp only [List.setIfInBounds_toArray]); (try simp only [List.set_cons_succ]); (try simp only [List.set_cons_zero])
          iterate 1
            (try dsimp only [List.getElem_toArray, List.getElem_cons_succ, List.getElem_cons_zero])
            (try simp only [Act.put]); (try simp only [List.setIfInBounds_toArray]); (try simp only [List.set_cons_succ]); (try simp only [List.set_cons_zero])
          refine wpAnyH_done (by kernel_rfl) ?_ _
          go_wp2
          go_meet
          exact CaQ.mk b9 x9 l2
        refine AllReadyH.cons rfl (fun K hK => ?_) ?_
        · go_simp
          have x2 := PB.zero w0
          have b1 := b0.alloc b0.size (.cells (peA (0, 0)) 28)
          have l2 := b0.size
          refine hK.out _ _ ?_ (fun hHeld => ?_)
          · (try rw [peer_zero]); exact HS.out _ b1
          clear hK K
          try rw [peer_zero] at hHeld
          (try simp only [Act.put]); (try simp only [List.setIfInBounds_toArray]); (try simp only [List.set_cons_succ]); (try simp only [List.set_cons_zero])
          try rw [peer_zero]
          generalize w0.heap.size = gp at *
          generalize w0.alloc _ = w1 at *
          iterate 1
            (try dsimp only [List.getElem_toArray, List.getElem_cons_succ, List.getElem_cons_zero])
            (try simp only [Act.put]); (try simp only [List.setIfInBounds_toArray]); (try simp only [List.set_cons_succ]); (try simp only [List.set_cons_zero])
          refine wpAnyH_ready (rs := [5]) (by kernel_rfl) (by simp) ?_
          refine AllReadyH.cons rfl (fun K hK => ?_) ?_
          rotate_left
          · exact AllReadyH.nil
          go_simp
          go_wp2_with (go_at_call 31; (with_reducible refine (HC.out _ b1).mono ?_); rintro e w2 ⟨rfl, k1⟩)
          have b2 := b1.trans (k1.mono b1.size)
          have x2 := x2.bel k1
          refine hK.out _ _ ?_ (fun hHeld => ?_)
          · exact HS.out _ b2
          clear hK K
          (try simp only [Act.put]); (try simp only [List.setIfInBounds_toArray]); (try simp only [List.set_cons_succ]); (try simp only [List.set_cons_zero])
          iterate 1
            (try dsimp only [List.getElem_toArray, List.getElem_cons_succ, List.getElem_cons_zero])
            (try simp only [Act.put]); (try simp only [List.setIfInBounds_toArray]); (try simp only [List.set_cons_succ]); (try simp only [List.set_cons_zero])
          refine wpAnyH_take (i := 6) (v := ?_) rfl (by kernel_rfl) (by kernel_rfl) (by kernel_rfl) (fun _ _ _ h => h) (Or.inl ⟨by rfl, ?_⟩) (by assumption) ?_
          rotate_left
          · intro w9 hSw
            (try dsimp only at hSw)
            go_simp
            (try with_reducible rfl)
          (try simp only [Act.put]); (try simp only [List.setIfInBounds_toArray]); (try simp only [List.set_cons_succ]); (try simp only [List.set_cons_zero])
          iterate 1
            (try dsimp only [List.getElem_toArray, List.getElem_cons_succ, List.getElem_cons_zero])
            (try simp only [Act.put]); (try simp only [List.setIfInBounds_toArray]); (try simp only [List.set_cons_succ]); (try simp only [List.set_cons_zero])
          refine wpAnyH_take (i := 7) (v := ?_) rfl (by kernel_rfl) (by kernel_rfl) (by kernel_rfl) (fun _ _ _ h => h) (Or.inl ⟨by rfl, ?_⟩) (by assumption) ?_
          rotate_left
          · intro w9 hSw
            (try dsimp only at hSw)
            go_simp
            (try with_reducible rfl)
          (try simp only [Act.put]); (try simp only [List.setIfInBounds_toArray]); (try simp only [List.set_cons_succ]); (try simp only [List.set_cons_zero])
          iterate 1
            (try dsimp only [List.getElem_toArray, List.getElem_cons_succ, List.getElem_cons_zero])
            (try simp only [Act.put]); (try simp only [List.setIfInBounds_toArray]); (try simp only [List.set_cons_succ]); (try simp only [List.set_cons_zero])
          refine wpAnyH_take (i := 8) (v := ?_) rfl (by kernel_rfl) (by kernel_rfl) (by kernel_rfl) (fun _ _ _ h => h) (Or.inl ⟨by rfl, ?_⟩) (by assumption) ?_
          rotate_left
          · intro w9 hSw
            (try dsimp only at hSw)
            go_simp
            (try with_reducible rfl)
          (try simp only [Act.put]); (try simp only [List.setIfInBounds_toArray]); (try simp only [List.set_cons_succ]); (try simp only [List.set_cons_zero])
          iterate 1
            (try dsimp only [List.getElem_toArray, List.getElem_cons_succ, List.getElem_cons_zero])
            (try simp only [Act.put]); (try simp only [List.setIfInBounds_toArray]); (try simp only [List.set_cons_succ]); (try simp only [List.set_cons_zero])
          refine wpAnyH_ready (rs := [10]) (by kernel_rfl) (by simp) ?_
          refine AllReadyH.cons rfl (fun K hK => ?_) ?_
          rotate_left
          · exact AllReadyH.nil
          rw [if_pos (by rfl)]
          have b9 := bel_setRow b2 l2 (peA (nx x).1)
          have x9 := x2.set (nx x).1
          refine wp_store_row 28 _ _ rfl gp (peA (nx x).1) rfl rfl 28 (peA (0, 0)) x2 (by rw [peA_size]; exact sizeP) (by rw [peA_size, peA_size]) (peA_one (nx x).1) ?_
          refine hK.out _ _ ?_ (fun hHeld => ?_)
          · exact HS.out _ b9
          clear hK K
          (try simp only [Act.put]); (try simp only [List.setIfInBounds_toArray]); (try simp only [List.set_cons_succ]); (try simp only [List.set_cons_zero])
          generalize w2.setRow gp _ = w9 at *
          iterate 1
            (try dsimp only [List.getElem_toArray, List.getElem_cons_succ, List.getElem_cons_zero])
            (try simp only [Act.put]); (try simp only [List.setIfInBounds_toArray]); (try simp only [List.set_cons_succ]); (try simp only [List.set_cons_zero])
          refine wpAnyH_take (i := 11) (v := ?_) rfl (by kernel_rfl) (by kernel_rfl) (by kernel_rfl) (fun _ _ _ h => h) (Or.inl ⟨by rfl, ?_⟩) (by assumption) ?_
          rotate_left
          · intro w9 hSw
            (try dsimp only at hSw)
            go_simp
            (try with_reducible rfl)
          (try simp only [Act.put]); (try simp only [List.setIfInBounds_toArray]); (try simp only [List.set_cons_succ]); (try simp only [List.set_cons_zero])
          iterate 1
            (try dsimp only [List.getElem_toArray, List.getElem_cons_succ, List.getElem_cons_zero])
            (try simp only [Act.put]); (try simp only [List.setIfInBounds_toArray]); (try simp only [List.set_cons_succ]); (try simp only [List.set_cons_zero])
          refine wpAnyH_done (by kernel_rfl) ?_ _
          go_wp2
          go_meet
          exact CaQ.mk b9 x9 l2
        exact AllReadyH.nil
      case rest =>
        obtain ⟨gq, rfl, rfl, hb2, hpq, hlo2⟩ := hcut
        have HP2 := Lib.hid (HP1.out.bel2 hg hb2)
        have c7 := hpq.A
        have hRR := HP2.out.r
        have lr := HP2.out.r.lt
        have hcf := HFi.out (nx x).1.1 wc HP2.out.bel
        clear HS HC hpq HP1
        cases hnx : (nx x).2
        · have hR := wv_none (X := X) (fp := fp) hdn hnx n H
          rw [HE.out] at hR
          subst hR
          clear HE
          go_wp2_with (first
            | (refine p_buildR0 rfl rfl ?_)
            | (refine p_putR rfl _ _ rfl (g + 1) rfl rfl rfl hRR ?_))
          exact bodyPost_ret (results_R2 Try.results11 _ _ (g + 1) _ rfl rfl (hRR.set nilS (0, 0))) rfl ⟨rou_bad HR.out, by rw [hg]; exact bel_setRow HP2.out.bel (by omega) _⟩
        · cases n with
          | zero =>
            have hR := wv_lim (X := X) (fp := fp) hdn hnx H
            rw [HE.out] at hR
            subst hR
            clear HE
            have b1 : (m : Int) < (H.length : Int) := by omega
            have b2 : decide ((m : Int) < (H.length : Int)) = true := decide_eq_true b1
            go_wp2_with (first
              | (refine p_buildR0 rfl rfl ?_)
              | (refine p_putR rfl _ _ rfl (g + 1) rfl rfl rfl hRR ?_))
            exact bodyPost_ret (results_R2 Try.results11 _ _ (g + 1) _ rfl rfl (hRR.set nilS (0, 0))) rfl ⟨rou_bad HR.out, by rw [hg]; exact bel_setRow HP2.out.bel (by omega) _⟩
          | succ n =>
            have b1 : ¬ (m : Int) < (H.length : Int) := by omega
            have b2 : decide ((m : Int) < (H.length : Int)) = false := decide_eq_false b1
            have hneg := idxV_neg X (nx x).1.1
            cases hf : findV X (nx x).1.1 with
            | none =>
              rw [hf] at hneg
              have hi : idxV X (nx x).1.1 < 0 := hneg.2 rfl
              have hi2 : decide (idxV X (nx x).1.1 < 0) = true := decide_eq_true hi
              have hR := wv_off (fp := fp) hdn hnx hf n H
              rw [HE.out] at hR
              subst hR
              clear HE hf hneg
              generalize idxV X (nx x).1.1 = iv at *
              go_wp2_with (first
                | (go_at_call 29; (with_reducible refine hcf.mono ?_); rintro e w5 ⟨rfl, rfl⟩)
                | (refine p_buildR0 rfl rfl ?_)
                | (refine p_putR rfl _ _ rfl (g + 1) rfl rfl rfl hRR ?_))
              exact bodyPost_ret (results_R2 Try.results11 _ _ (g + 1) _ rfl rfl (hRR.set nilS (0, 0))) rfl ⟨rou_bad HR.out, by rw [hg]; exact bel_setRow HP2.out.bel (by omega) _⟩
            | some y =>
              have hq3 : ∃ q1 : Nat, idxV X (nx x).1.1 = (q1 : Int) ∧ X[q1]? = some y := by
                have h1 := idx_get X (nx x).1.1
                rw [hf] at h1
                have h2 := (List.getElem?_eq_some_iff.1 h1.symm).1
                exact ⟨idxN X (nx x).1.1, by unfold idxV; rw [if_pos h2], h1.symm⟩
              obtain ⟨q1, hq4, hq5⟩ := hq3
              rw [hq4] at hcf
              have HQ5 := Lib.hid hq5
              have hR := wv_go (fp := fp) hdn hnx hf n H
              rw [HE.out] at hR
              have HR2 := Lib.hid hR
              have bi : ¬ (q1 : Int) < 0 := by omega
              have bj : decide ((q1 : Int) < 0) = false := decide_eq_false bi
              have A3 := (Below.refl wc.heap.size wc).alloc (Nat.le_refl _) (.cells #[.int .i64 (nx x).1.1] 3)
              have P10 := HP2.out.bel2 hg A3
              have HO10 := Lib.hid P10.o
              have HP10 := Lib.hid P10
              have lH : H.length ≤ 1000000 := by omega
              have lg9 : g + 2 ≤ wc.heap.size := by omega
              clear HE hf hR hq4 hq5 hneg hRR A3 P10
              go_wp2_with (first
                | (go_at_call 29; (with_reducible refine hcf.mono ?_); rintro e w5 ⟨rfl, rfl⟩)
                | (refine p_appI rfl _ _ rfl (g + 2) (Value.slice ha H.length hcap) H rfl wc.heap.size rfl HO10.out rfl lH lg9 ?_; intro h2 w10 o10 k10' a10'; have k10 : (wc.alloc (.cells #[.int .i64 (nx x).1.1] 3)).grownBy w10 (Value.slice ha H.length hcap).ownBlock := k10'; clear k10' a10'))
              exact ⟨RGo.mk n q1 y (H ++ [(nx x).1.1]) HQ5.out (by rw [List.length_append]; simp only [List.length_cons, List.length_nil]; omega) (HP10.out.hop o10 k10) HR2.out.symm, by
                obtain ⟨a9, c9, e9⟩ := Cr.own_form o10
                rw [e9]
                show m + 1 - (H.length + 1) < m + 1 - H.length
                omega⟩
end Go.Proofs.Ytfajfmcabpmchaa
