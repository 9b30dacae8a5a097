/- The document's own settled tables. -/
import Derived.Test.YtfajfmcabpmchaaWalSetl
import Derived.Test.YtfajfmcabpmchaaTabRefs2
import Derived.Deep.CutRange
import Derived.Deep.CutBlock
namespace Go.Proofs.Ytfajfmcabpmchaa
set_option maxRecDepth 100000
open Go Go.RowKit Go.Sort

/-- while those behind are put -/
structure SaW (bb gp b9 : Nat) (w0 wr : World) (s p : Pe) (u : Value) (A : List Pe) : Prop where
  bel : Below bb w0 wr
  t : TB wr gp s p u nilS
  a : wr.ownsRow b9 28 21 u A.length (flat A)
  ord : bb ≤ gp ∧ gp < b9
  sz : b9 ≤ wr.heap.size
theorem SaW.bel2 {bb gp b9 : Nat} {w0 wr w' : World} {s p : Pe} {u : Value} {A : List Pe} (h : SaW bb gp b9 w0 wr s p u A) (hb : Below wr.heap.size wr w') : SaW bb gp b9 w0 w' s p u A :=
  ⟨h.bel.trans (hb.mono (by have := h.ord; have := h.sz; omega)), h.t.bel hb, own_bel h.a hb, h.ord, Nat.le_trans h.sz hb.size⟩
theorem SaW.add {bb gp b9 : Nat} {w0 wr w4 : World} {s p x : Pe} {u v2 : Value} {A : List Pe} (h : SaW bb gp b9 w0 wr s p u A) (hgr : wr.grownBy w4 u.ownBlock) (ho : w4.ownsRow b9 28 21 v2 (A.length + 1) (flat (A ++ [x]))) :
    TB w4 gp s p u nilS ∧ SaW bb gp b9 w0 (w4.setRow gp (tabA s p v2 nilS)) s p v2 (A ++ [x]) := by
  have hv : ∀ k, u.ownBlock = some k → b9 ≤ k := fun k e => (h.a.lt k e).1
  have kp : ∀ i, i < b9 → i < wr.heap.size → w4.heap[i]? = wr.heap[i]? := fun i hi hl => hgr.block i hl fun e => by have := hv i e.symm; omega
  have hsz := h.sz
  obtain ⟨o1, o2⟩ := h.ord
  have t4 : TB w4 gp s p u nilS := (kp gp o2 (by omega)).trans h.t
  refine ⟨t4, ⟨bel_setRow ⟨hgr.os.trans h.bel.os, hgr.tape.trans h.bel.tape, hgr.output.trans h.bel.output, Nat.le_trans h.bel.size hgr.size, fun i hi => (kp i (by omega) (by omega)).trans (h.bel.block i hi)⟩ o1 _, t4.set _ _ _ _, ?_, h.ord, ?_⟩⟩
  · rw [List.length_append, List.length_singleton]; exact own_row ho _ o2
  · rw [World.setRow]; simpa using Nat.le_trans hsz hgr.size
theorem nums_same {w w' : World} {v : Value} {A : List Int} (h : Nums w v A) (hk : ∀ k, v.ownBlock = some k → k < w.heap.size → w'.heap[k]? = w.heap[k]?) : Nums w' v A := by
  rcases h with h1 | ⟨b, o, c, h1, h2⟩
  · exact .inl h1
  · refine .inr ⟨b, o, c, h1, ?_⟩
    cases A with
    | nil => intro j v hj; simp [ints] at hj
    | cons z A =>
      have hlb := range_lt h2 (by simp [ints])
      exact fun j v hj => (World.cell?_of_block (a := ⟨b, o + j, none⟩) (hk b (by rw [h1]; rfl) hlb)).trans (h2 j v hj)
/-- while the fingers are put -/
structure SbW (bb gp b9 : Nat) (w0 wr : World) (s p : Pe) (u v z : Value) (O : List Int) (A F : List Pe) : Prop where
  bel : Below bb w0 wr
  t : TB wr gp s p u v
  a : wr.ownsRow b9 28 21 v F.length (flat F)
  la : Lies wr u A
  ak : ∀ k, u.ownBlock = some k → gp < k ∧ k < b9
  nu : Nums wr z O
  nk : ∀ k, z.ownBlock = some k → gp < k ∧ k < b9
  ord : bb ≤ gp ∧ gp < b9
  sz : b9 ≤ wr.heap.size
theorem SbW.bel2 {bb gp b9 : Nat} {w0 wr w' : World} {s p : Pe} {u v z : Value} {O : List Int} {A F : List Pe} (h : SbW bb gp b9 w0 wr s p u v z O A F) (hb : Below wr.heap.size wr w') : SbW bb gp b9 w0 w' s p u v z O A F :=
  ⟨h.bel.trans (hb.mono (by have := h.ord; have := h.sz; omega)), h.t.bel hb, own_bel h.a hb, h.la.bel hb, h.ak, h.nu.bel hb, h.nk, h.ord, Nat.le_trans h.sz hb.size⟩
theorem SbW.add {bb gp b9 : Nat} {w0 wr w4 : World} {s p x : Pe} {u v v2 z : Value} {O : List Int} {A F : List Pe} (h : SbW bb gp b9 w0 wr s p u v z O A F) (hgr : wr.grownBy w4 v.ownBlock) (ho : w4.ownsRow b9 28 21 v2 (F.length + 1) (flat (F ++ [x]))) :
    TB w4 gp s p u v ∧ SbW bb gp b9 w0 (w4.setRow gp (tabA s p u v2)) s p u v2 z O A (F ++ [x]) := by
  have hv : ∀ k, v.ownBlock = some k → b9 ≤ k := fun k e => (h.a.lt k e).1
  have kp : ∀ i, i < b9 → i < wr.heap.size → w4.heap[i]? = wr.heap[i]? := fun i hi hl => hgr.block i hl fun e => by have := hv i e.symm; omega
  have hsz := h.sz
  obtain ⟨o1, o2⟩ := h.ord
  have t4 : TB w4 gp s p u v := (kp gp o2 (by omega)).trans h.t
  have l4 : Lies w4 u A := lies_grownO h.la hgr fun b hb _ e => by have := hv b hb; have := (h.ak b e).2; omega
  refine ⟨t4, ⟨bel_setRow ⟨hgr.os.trans h.bel.os, hgr.tape.trans h.bel.tape, hgr.output.trans h.bel.output, Nat.le_trans h.bel.size hgr.size, fun i hi => (kp i (by omega) (by omega)).trans (h.bel.block i hi)⟩ o1 _, t4.set _ _ _ _, ?_, lies_set l4 (fun _ e => by have := (h.ak gp e).1; omega) _, h.ak, nums_same h.nu (fun k e hl => (Go.setRow_other _ _ _ _ (by have := (h.nk k e).1; omega)).trans (kp k (h.nk k e).2 hl)), h.nk, h.ord, ?_⟩⟩
  · rw [List.length_append, List.length_singleton]; exact own_row ho _ o2
  · rw [World.setRow]; simpa using Nat.le_trans hsz hgr.size
/-- a table whose peer and none are drawn with a new block -/
def CaT (W : World) (s p : Pe) (v : Value) (wx : World) : Prop := ∃ gp, v = .pointer (some ⟨gp, 0, none⟩) ∧ Below W.heap.size W wx ∧ TB wx gp s p nilS nilS ∧ W.heap.size ≤ gp
theorem CaT.mk {W : World} {s p : Pe} {wx : World} {gp : Nat} (h1 : Below W.heap.size W wx) (h2 : TB wx gp s p nilS nilS) (h3 : W.heap.size ≤ gp) : CaT W s p (.pointer (some ⟨gp, 0, none⟩)) wx := ⟨gp, rfl, h1, h2, h3⟩
def SaR (bb gp b9 : Nat) (w0 wr : World) (s p : Pe) (A : List Pe) : Prop := ∃ u, SaW bb gp b9 w0 wr s p u A
theorem setT_Sl {L : List Pe} (r i : Nat) : (setT L r i).S.length = min r (L.length - 1) := by unfold setT; dsimp only; rw [List.length_map, List.length_range]
theorem setT_Fl (L : List Pe) (r i : Nat) : (setT L r i).F.length = 160 := by unfold setT; dsimp only; rw [List.length_map, List.length_range]
theorem setT_Sn {L : List Pe} {r i j : Nat} (h : j < min r (L.length - 1)) : (setT L r i).S.take (j + 1) = (setT L r i).S.take j ++ [L.getD ((i + (j + 1)) % L.length) (0, 0)] := by
  rw [List.take_add_one]
  unfold setT
  dsimp only
  rw [List.getElem?_map, List.getElem?_range h, Option.map_some, show i + 1 + j = i + (j + 1) by omega]; rfl
theorem setT_Fn (L : List Pe) (r i : Nat) {j : Nat} (h : j < 160) : (setT L r i).F.take (j + 1) = (setT L r i).F.take j ++ [fgT L i j] := by
  rw [List.take_add_one]
  unfold setT fgT
  dsimp only
  rw [List.getElem?_map, List.getElem?_range h]; rfl
set_option maxHeartbeats 4000000 in
theorem refSettled_no {w : World} {v : Value} {L : List Pe} (r : Int) (hL : Lies w v L) (hw : Wf L) (hn : L.length ≤ 1000000) (hno : (isB L && okS r) = false) :
    Calls Try.prog 15 #[v, .int .i64 r] w fun e w' => StP L r.toNat (isB L && okS r) e w' ∧ Below w.heap.size w w' := by
  have hI := Cr.refIs_any hL hw hn
  rw [hno]
  cases hb : isB L
  · rw [hb] at hI
    go_enter Try.func15, Try.ntmps15
    go_wp2_with (go_at_call 36; (with_reducible refine hI.mono ?_); rintro e w1 ⟨rfl, k1⟩)
    exact bodyPost_ret (results_tt Try.results15 _ _) rfl ⟨.inl ⟨rfl, rfl⟩, k1⟩
  · rw [hb] at hI
    rw [hb, Bool.true_and] at hno
    by_cases h1 : r < 1
    · have d1 : decide (r < 1) = true := decide_eq_true h1
      clear hno
      go_enter Try.func15, Try.ntmps15
      go_wp2_with (go_at_call 36; (with_reducible refine hI.mono ?_); rintro e w1 ⟨rfl, k1⟩)
      exact bodyPost_ret (results_tt Try.results15 _ _) rfl ⟨.inl ⟨rfl, rfl⟩, k1⟩
    · have d1 : decide (r < 1) = false := decide_eq_false h1
      have h2 : 8 < r := by
        unfold okS at hno
        rw [decide_eq_true (p := 1 ≤ r) (by omega), Bool.true_and, decide_eq_false_iff_not] at hno
        omega
      have d2 : decide (8 < r) = true := decide_eq_true h2
      clear hno
      go_enter Try.func15, Try.ntmps15
      go_wp2_with (go_at_call 36; (with_reducible refine hI.mono ?_); rintro e w1 ⟨rfl, k1⟩)
      exact bodyPost_ret (results_tt Try.results15 _ _) rfl ⟨.inl ⟨rfl, rfl⟩, k1⟩
set_option maxHeartbeats 16000000 in
theorem refSettled_yes {w : World} {v : Value} {L : List Pe} (r : Nat) (hL : Lies w v L) (hw : Wf L) (hC : Circ L) (h1 : 1 ≤ r) (h8 : r ≤ 8) :
    Calls Try.prog 15 #[v, .int .i64 (r : Int)] w fun e w' => StP L r true e w' ∧ Below w.heap.size w w' := by
  have hn16 := hC.1
  have hI := Cr.refIs_any hL hw (by omega)
  rw [Cr.isB_yes hC] at hI
  have HFI : Hid (∀ (i : Nat) (W : World), i < L.length → Below w.heap.size w W → Calls Try.prog 38 #[v, .int .i64 (i : Int)] W fun e w' => ∃ u, e = .returned (.tuple #[u, .int .i64 0]) ∧ Cr.Row W.heap.size w' u (Cr.fingN L i 160) ∧ Below W.heap.size W w') := fun i W hi hb => Cr.refFingers_yes i (hL.bel hb) hw hC hi
  have HNN := Lib.hid refnone_any
  obtain ⟨b, o, c, rfl, hc, hrg, hlb⟩ := hL.some (by omega)
  obtain ⟨n, hn⟩ : ∃ n, n = L.length := ⟨_, rfl⟩
  have HRG := Lib.hid hrg
  rw [← hn] at hn16 HFI hI hc ⊢
  have HN := Lib.hid hn
  have d1 : ¬ (r : Int) < 1 := by omega
  have d2 : ¬ (8 : Int) < (r : Int) := by omega
  have d3 : decide ((r : Int) < 1) = false := decide_eq_false d1
  have d4 : decide ((8 : Int) < (r : Int)) = false := decide_eq_false d2
  clear hn hw hL hC hrg
  go_enter Try.func15, Try.ntmps15
  go_upto_region 6 with (go_at_call 36; (with_reducible refine hI.mono ?_); rintro e w1 ⟨rfl, k1⟩)
  generalize hg : w.heap.size = g at *
  have HK := Lib.hid k1
  clear k1 hI d1 d2 d3 d4
  go_loopw [6, 8, 9, 10, 11, 12, 13] (fun v6 i _ _ _ _ _ wr => ∃ k : Nat, i = .int .i64 (k : Int) ∧ k ≤ n ∧ StR g w L r k v6 wr) (fun _ i _ _ _ _ _ _ => n - (intOf i).toNat)
  case atStart => exact ⟨0, rfl, Nat.zero_le _, StR.mk HK.out (RowT.nil g _) rfl⟩
  case round =>
    obtain ⟨k, rfl, hk, X, hB, hR, hT⟩ := hrel
    have HT := Lib.hid hT
    have HR := Lib.hid hR
    have HB := Lib.hid hB
    obtain ⟨ra, rc, rfl⟩ := Cr.own_form hR.own
    have hXl : X.length = k := by
      have := congrArg List.length hT
      rw [tabsOf_length, List.length_take, setL_length] at this
      have h2 := HN.out
      omega
    have HXL := Lib.hid hXl
    clear hB hR hT hXl
    by_cases hlt : k < n
    · have bk : (k : Int) < (n : Int) := by omega
      have bz : (0 : Int) ≤ (k : Int) := by omega
      have hkL : k < L.length := by rw [← HN.out]; exact hlt
      have HSS := Lib.hid (setL_succ L r hkL)
      have hself : (setT L r k).s = L.getD k (0, 0) := rfl
      have HPL : Hid (∀ (j : Nat) (wx : World), j < n → Below g w wx → wx.rangeAt b (o + j * 21) (peC (L.getD j (0, 0)))) := fun j wx hj hb => range_bel (row_peer HRG.out (getD_at (by rw [← HN.out]; exact hj))) hb hlb
      have HS : Hid (∀ wx, Below wr.heap.size wr wx → wx.rangeAt b (o + k * 21) (peC (L.getD k (0, 0)))) := fun wx hb => HPL.out k wx hlt (HB.out.trans (hb.mono (by have := HB.out.size; omega)))
      have HC : Hid (∀ wx, Below wr.heap.size wr wx → Calls Try.prog 37 #[] wx fun e w' => e = .returned (.agg (peA (-1, 0))) ∧ Below wx.heap.size wx w') := fun wx _ => HNN.out wx
      generalize hse : L.getD k (0, 0) = self at *
      have HSE := Lib.hid hse
      clear hse
      go_upto_region 8 with (fail)
      go_cut [9] from 27 to 112 (fun v9 wx => CaT wr self (-1, 0) v9 wx)
      case first => as_aux_lemma =>
          refine wp_region_held_drew (S := (fun w9 => w9.rangeAt b (o + k * 21) (peC self))) (by kernel_rfl) ?_ (fun hHeld => ?_)
          · exact HS.out _ (drew_bel wr)
          have b0 : Below wr.heap.size wr wr.drew := drew_bel wr
          generalize World.drew wr = w0 at *
          refine wpAnyH_take (i := 0) (v := ?_) rfl (by kernel_rfl) (by kernel_rfl) (by kernel_rfl) (fun _ _ _ h => h) (Or.inl ⟨by rfl, ?_⟩) (by assumption) ?_
          rotate_left
          · intro w9 hSw
            (try dsimp only at hSw)
            go_simp
            (try with_reducible rfl)
          (try simp only [Act.put]); (try simp only [List.setIfInBounds_toArray]); (try simp only [List.set_cons_succ]); (try simp only [List.set_cons_zero])
          iterate 1
            (try dsimp only [List.getElem_toArray, List.getElem_cons_succ, List.getElem_cons_zero])
            (try simp only [Act.put]); (try simp only [List.setIfInBounds_toArray]); (try simp only [List.set_cons_succ]); (try simp only [List.set_cons_zero])
          refine wpAnyH_take (i := 1) (v := ?_) rfl (by kernel_rfl) (by kernel_rfl) (by kernel_rfl) (fun _ _ _ h => h) (Or.inl ⟨by rfl, ?_⟩) (by assumption) ?_
          rotate_left
          · intro w9 hSw
            (try dsimp only at hSw)
            go_simp
            (try with_reducible rfl)
          (try simp only [Act.put]); (try simp only [List.setIfInBounds_toArray]); (try simp only [List.set_cons_succ]); (try simp only [List.set_cons_zero])
          iterate 1
            (try dsimp only [List.getElem_toArray, List.getElem_cons_succ, List.getElem_cons_zero])
            (try simp only [Act.put]); (try simp only [List.setIfInBounds_toArray]); (try simp only [List.set_cons_succ]); (try simp only [List.set_cons_zero])
          refine wpAnyH_take (i := 2) (v := ?_) rfl (by kernel_rfl) (by kernel_rfl) (by kernel_rfl) (fun _ _ _ h => h) (Or.inl ⟨by rfl, ?_⟩) (by assumption) ?_
          rotate_left
          · intro w9 hSw
            (try dsimp only at hSw)
            go_simp
            (try with_reducible rfl)
          (try simp only [Act.put]); (try simp only [List.setIfInBounds_toArray]); (try simp only [List.set_cons_succ]); (try simp only [List.set_cons_zero])
          iterate 1
            (try dsimp only [List.getElem_toArray, List.getElem_cons_succ, List.getElem_cons_zero])
            (try simp only [Act.put]); (try simp only [List.setIfInBounds_toArray]); (try simp only [List.set_cons_succ]); (try simp only [List.set_cons_zero])
          refine wpAnyH_take (i := 3) (oi := { dst := some 35, op := Op.load 28 (Operand.tmp 34), type := 28, pos := "ref.go:19", after := #[{ on := 2, ground := Ground.data }], guard := none }) (v := (.agg (peA self))) rfl (by kernel_rfl) (by kernel_rfl) (by kernel_rfl) (fun _ _ _ h => h) (y_midP (by rfl) (.tmp 34) rfl b (o + k * 21) rfl self (fun _ h => h)) (by assumption) ?_
          (try simp only [Act.put]); (try simp only [List.setIfInBounds_toArray]); (try simp only [List.set_cons_succ]); (try simp only [List.set_cons_zero])
          iterate 1
            (try dsimp only [List.getElem_toArray, List.getElem_cons_succ, List.getElem_cons_zero])
            (try simp only [Act.put]); (try simp only [List.setIfInBounds_toArray]); (try simp only [List.set_cons_succ]); (try simp only [List.set_cons_zero])
          refine wpAnyH_ready (rs := [4, 6]) (by kernel_rfl) (by simp) ?_
          refine AllReadyH.cons rfl (fun K hK => ?_) ?_
          · go_simp
            go_wp2_with (go_at_call 37; (with_reducible refine (HC.out _ b0).mono ?_); rintro e w1 ⟨rfl, k1⟩)
            have b1 := b0.trans (k1.mono b0.size)
            refine hK.out _ _ ?_ (fun hHeld => ?_)
            · exact HS.out _ b1
            clear hK K
            (try simp only [Act.put]); (try simp only [List.setIfInBounds_toArray]); (try simp only [List.set_cons_succ]); (try simp only [List.set_cons_zero])
            iterate 1
              (try dsimp only [List.getElem_toArray, List.getElem_cons_succ, List.getElem_cons_zero])
              (try simp only [Act.put]); (try simp only [List.setIfInBounds_toArray]); (try simp only [List.set_cons_succ]); (try simp only [List.set_cons_zero])
            refine wpAnyH_take (i := 5) (oi := { dst := some 37, op := Op.build 43 #[(0, Operand.tmp 35), (1, Operand.tmp 36)], type := 43, pos := "ref.go:19", after := #[{ on := 3, ground := Ground.data }, { on := 4, ground := Ground.data }], guard := none }) (v := (.agg (tabA self (-1, 0) nilS nilS))) rfl (by kernel_rfl) (by kernel_rfl) (by kernel_rfl) (fun _ _ _ h => h) (y_buildT2 (by rfl) (.tmp 35) (.tmp 36) rfl self (-1, 0) rfl rfl) (by assumption) ?_
            (try simp only [Act.put]); (try simp only [List.setIfInBounds_toArray]); (try simp only [List.set_cons_succ]); (try simp only [List.set_cons_zero])
            iterate 1
              (try dsimp only [List.getElem_toArray, List.getElem_cons_succ, List.getElem_cons_zero])
              (try simp only [Act.put]); (try simp only [List.setIfInBounds_toArray]); (try simp only [List.set_cons_succ]); (try simp only [List.set_cons_zero])
            refine wpAnyH_ready (rs := [6]) (by kernel_rfl) (by simp) ?_
            refine AllReadyH.cons rfl (fun K hK => ?_) ?_
            rotate_left
            · exact AllReadyH.nil
            go_simp
            have x2 := TB.zero w1
            have b2 := b1.alloc b1.size (.cells (tabA (0, 0) (0, 0) nilS nilS) 43)
            have l2 := b1.size
            refine hK.out _ _ ?_ (fun hHeld => ?_)
            · (try rw [tab_zero]); exact HS.out _ b2
            clear hK K
            try rw [tab_zero] at hHeld
            (try simp only [Act.put]); (try simp only [List.setIfInBounds_toArray]); (try simp only [List.set_cons_succ]); (try simp only [List.set_cons_zero])
            try rw [tab_zero]
            generalize w1.heap.size = gp at *
            generalize w1.alloc _ = w2 at *
            iterate 1
              (try dsimp only [List.getElem_toArray, List.getElem_cons_succ, List.getElem_cons_zero])
              (try simp only [Act.put]); (try simp only [List.setIfInBounds_toArray]); (try simp only [List.set_cons_succ]); (try simp only [List.set_cons_zero])
            refine wpAnyH_ready (rs := [7]) (by kernel_rfl) (by simp) ?_
            refine AllReadyH.cons rfl (fun K hK => ?_) ?_
            rotate_left
            · exact AllReadyH.nil
            rw [if_pos (by rfl)]
            have b9 := bel_setRow b2 l2 (tabA self (-1, 0) nilS nilS)
            have x9 := x2.set self (-1, 0) nilS nilS
            refine wp_store_row 43 _ _ rfl gp (tabA self (-1, 0) nilS nilS) rfl rfl 43 (tabA (0, 0) (0, 0) nilS nilS) x2 (by rw [tabA_size]; exact sizeT) (by rw [tabA_size, tabA_size]) (tabA_one rfl rfl) ?_
            refine hK.out _ _ ?_ (fun hHeld => ?_)
            · exact HS.out _ b9
            clear hK K
            (try simp only [Act.put]); (try simp only [List.setIfInBounds_toArray]); (try simp only [List.set_cons_succ]); (try simp only [List.set_cons_zero])
            generalize w2.setRow gp _ = w9 at *
            iterate 1
              (try dsimp only [List.getElem_toArray, List.getElem_cons_succ, List.getElem_cons_zero])
              (try simp only [Act.put]); (try simp only [List.setIfInBounds_toArray]); (try simp only [List.set_cons_succ]); (try simp only [List.set_cons_zero])
            refine wpAnyH_done (by kernel_rfl) ?_ _
            go_wp2
            go_meet
            exact CaT.mk b9 x9 l2
          refine AllReadyH.cons rfl (fun K hK => ?_) ?_
          · go_simp
            have x2 := TB.zero w0
            have b1 := b0.alloc b0.size (.cells (tabA (0, 0) (0, 0) nilS nilS) 43)
            have l2 := b0.size
            refine hK.out _ _ ?_ (fun hHeld => ?_)
            · (try rw [tab_zero]); exact HS.out _ b1
            clear hK K
            try rw [tab_zero] at hHeld
            (try simp only [Act.put]); (try simp only [List.setIfInBounds_toArray]); (try simp only [List.set_cons_succ]); (try simp only [List.set_cons_zero])
            try rw [tab_zero]
            generalize w0.heap.size = gp at *
            generalize w0.alloc _ = w1 at *
            iterate 1
              (try dsimp only [List.getElem_toArray, List.getElem_cons_succ, List.getElem_cons_zero])
              (try simp only [Act.put]); (try simp only [List.setIfInBounds_toArray]); (try simp only [List.set_cons_succ]); (try simp only [List.set_cons_zero])
            refine wpAnyH_ready (rs := [4]) (by kernel_rfl) (by simp) ?_
            refine AllReadyH.cons rfl (fun K hK => ?_) ?_
            rotate_left
            · exact AllReadyH.nil
            go_simp
            go_wp2_with (go_at_call 37; (with_reducible refine (HC.out _ b1).mono ?_); rintro e w2 ⟨rfl, k1⟩)
            have b2 := b1.trans (k1.mono b1.size)
            have x2 := x2.bel k1
            refine hK.out _ _ ?_ (fun hHeld => ?_)
            · exact HS.out _ b2
            clear hK K
            (try simp only [Act.put]); (try simp only [List.setIfInBounds_toArray]); (try simp only [List.set_cons_succ]); (try simp only [List.set_cons_zero])
            iterate 1
              (try dsimp only [List.getElem_toArray, List.getElem_cons_succ, List.getElem_cons_zero])
              (try simp only [Act.put]); (try simp only [List.setIfInBounds_toArray]); (try simp only [List.set_cons_succ]); (try simp only [List.set_cons_zero])
            refine wpAnyH_take (i := 5) (oi := { dst := some 37, op := Op.build 43 #[(0, Operand.tmp 35), (1, Operand.tmp 36)], type := 43, pos := "ref.go:19", after := #[{ on := 3, ground := Ground.data }, { on := 4, ground := Ground.data }], guard := none }) (v := (.agg (tabA self (-1, 0) nilS nilS))) rfl (by kernel_rfl) (by kernel_rfl) (by kernel_rfl) (fun _ _ _ h => h) (y_buildT2 (by rfl) (.tmp 35) (.tmp 36) rfl self (-1, 0) rfl rfl) (by assumption) ?_
            (try simp only [Act.put]); (try simp only [List.setIfInBounds_toArray]); (try simp only [List.set_cons_succ]); (try simp only [List.set_cons_zero])
            iterate 1
              (try dsimp only [List.getElem_toArray, List.getElem_cons_succ, List.getElem_cons_zero])
              (try simp only [Act.put]); (try simp only [List.setIfInBounds_toArray]); (try simp only [List.set_cons_succ]); (try simp only [List.set_cons_zero])
            refine wpAnyH_ready (rs := [7]) (by kernel_rfl) (by simp) ?_
            refine AllReadyH.cons rfl (fun K hK => ?_) ?_
            rotate_left
            · exact AllReadyH.nil
            rw [if_pos (by rfl)]
            have b9 := bel_setRow b2 l2 (tabA self (-1, 0) nilS nilS)
            have x9 := x2.set self (-1, 0) nilS nilS
            refine wp_store_row 43 _ _ rfl gp (tabA self (-1, 0) nilS nilS) rfl rfl 43 (tabA (0, 0) (0, 0) nilS nilS) x2 (by rw [tabA_size]; exact sizeT) (by rw [tabA_size, tabA_size]) (tabA_one rfl rfl) ?_
            refine hK.out _ _ ?_ (fun hHeld => ?_)
            · exact HS.out _ b9
            clear hK K
            (try simp only [Act.put]); (try simp only [List.setIfInBounds_toArray]); (try simp only [List.set_cons_succ]); (try simp only [List.set_cons_zero])
            generalize w2.setRow gp _ = w9 at *
            iterate 1
              (try dsimp only [List.getElem_toArray, List.getElem_cons_succ, List.getElem_cons_zero])
              (try simp only [Act.put]); (try simp only [List.setIfInBounds_toArray]); (try simp only [List.set_cons_succ]); (try simp only [List.set_cons_zero])
            refine wpAnyH_done (by kernel_rfl) ?_ _
            go_wp2
            go_meet
            exact CaT.mk b9 x9 l2
          exact AllReadyH.nil
      case rest =>
        obtain ⟨gp, rfl, hb1, ht1, hlo1⟩ := hcut
        clear HS HC
        have HB1 := Lib.hid hb1
        have l1 := ht1.lt
        go_upto_if 39 with (fail)
        go_cut [] from 27 to 112 (fun wx => Hid (CaT wr self (setT L r k).p (.pointer (some ⟨gp, 0, none⟩)) wx))
        case first => as_aux_lemma =>
          by_cases hn1 : n = 1
          · have hz : ¬ (1 : Int) < (n : Int) := by omega
            have hz2 : decide ((1 : Int) < (n : Int)) = false := decide_eq_false hz
            have hp : (setT L r k).p = (-1, 0) := by unfold setT; dsimp only; rw [if_pos (by rw [← HN.out]; exact hn1)]
            have HD : Hid (CaT wr self (setT L r k).p (.pointer (some ⟨gp, 0, none⟩)) wc) := by rw [hp]; exact CaT.mk HB1.out ht1 hlo1
            clear hp hn1
            go_wp2
            go_meet
            exact HD
          · have hz : (1 : Int) < (n : Int) := by omega
            have hz2 : decide ((1 : Int) < (n : Int)) = true := decide_eq_true hz
            have hp : (setT L r k).p = L.getD ((k + n - 1) % n) (0, 0) := by unfold setT; dsimp only; rw [if_neg (by rw [← HN.out]; exact hn1), ← HN.out]
            have hlt2 : (k + n - 1) % n < n := Nat.mod_lt _ (by omega)
            have hadd : IntKind.i64.wrap ((k : Int) + (n : Int)) = (k : Int) + (n : Int) := IntWalk.i64_in _ (by omega)
            obtain ⟨q, hq⟩ : ∃ q : Nat, q = k + n - 1 := ⟨_, rfl⟩
            have hsub : IntKind.i64.wrap ((k : Int) + (n : Int) - 1) = (q : Int) := by rw [IntWalk.i64_in _ (by omega)]; omega
            rw [← hq] at hp hlt2
            have hz3 : ¬ (n : Int) = 0 := by omega
            have hq0 : (0 : Int) ≤ (q : Int) := by omega
            have HD : ∀ y, (setT L r k).p = y → Hid (CaT wr self (setT L r k).p (.pointer (some ⟨gp, 0, none⟩)) (wc.setRow gp (tabA self y nilS nilS))) := fun y e => by rw [e]; exact CaT.mk (bel_setRow HB1.out hlo1 _) (ht1.set _ _ _ _) hlo1
            have HD := Lib.hid (HD _ hp)
            have hr9 := HPL.out (q % n) wc hlt2 (HB.out.trans (HB1.out.mono (by have := HB.out.size; omega)))
            have hm9 : (q : Int) % (n : Int) = ((q % n : Nat) : Int) := by omega
            generalize hqn : q % n = qn at *
            have bqn : (qn : Int) < (n : Int) := by omega
            have bq0 : (0 : Int) ≤ (qn : Int) := by omega
            generalize L.getD qn (0, 0) = y at *
            clear hp hn1 hq hqn hz
            have hz : (1 : Int) < (n : Int) := by simpa using hz2
            go_wp2_with (first
              | (refine p_midP rfl _ rfl b (o + qn * 21) rfl y hr9 ?_)
              | (refine p_putP rfl _ _ rfl gp rfl y rfl ht1 ?_))
            go_meet
            exact HD.out
        case rest =>
          have hcc := hcut.out
          clear hcut ht1 hb1 HB1 hlo1 l1
          obtain ⟨gp', e1, hb2, ht2, hlo2⟩ := hcc
          obtain rfl : gp = gp' := by injection e1 with e1; injection e1 with e1; injection e1
          clear e1
          have hSl : (setT L r k).S.length = min r (n - 1) := by rw [setT_Sl, ← HN.out]
          have HSN : Hid (∀ j, j < min r (n - 1) → (setT L r k).S.take (j + 1) = (setT L r k).S.take j ++ [L.getD ((k + (j + 1)) % n) (0, 0)]) := fun j hj => by
            have := setT_Sn (L := L) (r := r) (i := k) (j := j) (by rw [← HN.out]; exact hj)
            rwa [← HN.out] at this
          have H15 := Lib.hid (fun j (hj : j < 160) => setT_Fn L r k hj)
          have HFL := Lib.hid (setT_Fl L r k)
          have HSL := Lib.hid hSl
          have HFING := Lib.hid (fun (q : Nat) (hq : q < 160) => fing_at L k hq)
          have HFLEN := Lib.hid (Cr.fingN_len L k 160)
          have HFGT := Lib.hid (fun (q : Nat) => (show fgT L k q = if ownN L ((pn L k + 2 ^ q) % M) = k then (-1, 0) else L.getD (ownN L ((pn L k + 2 ^ q) % M)) (0, 0) from rfl))
          have HOWN := Lib.hid (fun (q : Nat) => own_lt (L := L) (by omega) ((pn L k + 2 ^ q) % M))
          have hfcall := HFI.out k
          have HFC := Lib.hid hfcall
          have HSE2 : Hid ((setT L r k).s = self) := hself
          clear hSl hfcall hself
          generalize Cr.fingN L k 160 = OW at *
          generalize fgT L k = fg at *
          generalize htt : setT L r k = tt at *
          generalize wc = wd at *
          obtain ⟨wo, rfl⟩ : ∃ wo : World, wo = wr := ⟨_, rfl⟩
          generalize hbb : wo.heap.size = bb at *
          have hgb : g ≤ bb := by have := HB.out.size; omega
          have P0 : Hid (SaW bb gp wd.heap.size wo wd self tt.p nilS []) := ⟨hb2, ht2, ⟨rfl, .inl ⟨rfl, rfl⟩⟩, ⟨hlo2, ht2.lt⟩, Nat.le_refl _⟩
          clear hb2 ht2 hlo2
          generalize hb9 : wd.heap.size = b9 at *
          clear hb9
          go_upto_block 2 with (fail)
          go_cut [10] from 27 to 112 (fun _ wx => Hid (SaR bb gp b9 wo wx self tt.p tt.S))
          case first => as_aux_lemma =>
            go_upto_region 12 with (fail)
            go_loopw [10] (fun i wr => ∃ (j : Nat) (u : Value), i = .int .i64 ((j : Int) + 1) ∧ j ≤ min r (n - 1) ∧ SaW bb gp b9 wo wr self tt.p u (tt.S.take j)) (fun i _ => n - (intOf i).toNat)
            case atStart => exact ⟨0, nilS, rfl, Nat.zero_le _, by rw [List.take_zero]; exact P0.out⟩
            case round =>
              clear P0
              obtain ⟨j, u, rfl, hj, hW⟩ := hrel
              have HW := Lib.hid hW
              obtain ⟨ua, uc, rfl⟩ := Cr.own_form hW.a
              clear hW
              by_cases hjm : j < min r (n - 1)
              · have b1 : (j : Int) + 1 < (n : Int) := by omega
                have b2 : decide ((j : Int) + 1 < (n : Int)) = true := decide_eq_true b1
                have b3 : (j : Int) + 1 ≤ (r : Int) := by omega
                have b4 : decide ((j : Int) + 1 ≤ (r : Int)) = true := decide_eq_true b3
                have s2 : IntKind.i64.wrap ((j : Int) + 1 + 1) = (j : Int) + 1 + 1 := IntWalk.i64_in _ (by omega)
                have hsn := HSN.out j hjm
                obtain ⟨q, hq⟩ : ∃ q : Nat, q = k + (j + 1) := ⟨_, rfl⟩
                rw [← hq] at hsn
                have hadd : IntKind.i64.wrap ((k : Int) + ((j : Int) + 1)) = (q : Int) := by rw [IntWalk.i64_in _ (by omega)]; omega
                have hz3 : ¬ (n : Int) = 0 := by omega
                have hq0 : (0 : Int) ≤ (q : Int) := by omega
                have hlt2 : q % n < n := Nat.mod_lt _ (by omega)
                have htm : (q : Int).tmod (n : Int) = ((q % n : Nat) : Int) := by rw [Int.tmod_eq_emod_of_nonneg hq0]; omega
                have hz4 : ¬ n = 0 := by omega
                have HRP : Hid (∀ wx, Below bb wo wx → wx.rangeAt b (o + q % n * 21) (peC (L.getD (q % n) (0, 0)))) := fun wx hb => HPL.out (q % n) wx hlt2 (HB.out.trans (hb.mono hgb))
                generalize hqn : q % n = qn at *
                have bqn : (qn : Int) < (n : Int) := by omega
                have bq0 : (0 : Int) ≤ (qn : Int) := by omega
                generalize L.getD qn (0, 0) = x at *
                have HSNN := Lib.hid hsn
                have HLB : Hid ((tt.S.take j).length ≤ 1000) := Nat.le_trans (List.length_take_le _ _) (by omega)
                generalize tt.S.take j = A at *
                clear hsn hqn hq
                go_upto_region 14 with (fail)
                refine wp_region_any (by kernel_rfl) ?_
                change wpAny _ _ _ _ _ _ _ (World.drew _)
                replace HW := Lib.hid (HW.out.bel2 (drew_bel wr))
                generalize World.drew wr = wd at *
                refine wpAny_take (i := 0) (v := ?_) rfl (by kernel_rfl) (by kernel_rfl) (by kernel_rfl) (fun _ _ _ h => h) (Or.inl ⟨by rfl, ?_⟩) ?_
                rotate_left
                · intro w9
                  go_simp
                  (try with_reducible rfl)
                (try simp only [Act.put]); (try simp only [List.setIfInBounds_toArray]); (try simp only [List.set_cons_succ]); (try simp only [List.set_cons_zero])
                (try dsimp only [List.getElem_toArray, List.getElem_cons_succ, List.getElem_cons_zero])
                (try simp only [Act.put]); (try simp only [List.setIfInBounds_toArray]); (try simp only [List.set_cons_succ]); (try simp only [List.set_cons_zero])
                refine wpAny_take (i := 2) (v := ?_) rfl (by kernel_rfl) (by kernel_rfl) (by kernel_rfl) (fun _ _ _ h => h) (Or.inl ⟨by rfl, ?_⟩) ?_
                rotate_left
                · intro w9
                  go_simp
                  (try with_reducible rfl)
                (try simp only [Act.put]); (try simp only [List.setIfInBounds_toArray]); (try simp only [List.set_cons_succ]); (try simp only [List.set_cons_zero])
                (try dsimp only [List.getElem_toArray, List.getElem_cons_succ, List.getElem_cons_zero])
                (try simp only [Act.put]); (try simp only [List.setIfInBounds_toArray]); (try simp only [List.set_cons_succ]); (try simp only [List.set_cons_zero])
                refine wpAny_take (i := 3) (v := ?_) rfl (by kernel_rfl) (by kernel_rfl) (by kernel_rfl) (fun _ _ _ h => h) (Or.inl ⟨by rfl, ?_⟩) ?_
                rotate_left
                · intro w9
                  go_simp
                  (try with_reducible rfl)
                (try simp only [Act.put]); (try simp only [List.setIfInBounds_toArray]); (try simp only [List.set_cons_succ]); (try simp only [List.set_cons_zero])
                (try dsimp only [List.getElem_toArray, List.getElem_cons_succ, List.getElem_cons_zero])
                (try simp only [Act.put]); (try simp only [List.setIfInBounds_toArray]); (try simp only [List.set_cons_succ]); (try simp only [List.set_cons_zero])
                refine wpAny_take (i := 4) (v := ?_) rfl (by kernel_rfl) (by kernel_rfl) (by kernel_rfl) (fun _ _ _ h => h) (Or.inl ⟨by rfl, ?_⟩) ?_
                rotate_left
                · intro w9
                  go_simp
                  (try with_reducible rfl)
                (try simp only [Act.put]); (try simp only [List.setIfInBounds_toArray]); (try simp only [List.set_cons_succ]); (try simp only [List.set_cons_zero])
                (try dsimp only [List.getElem_toArray, List.getElem_cons_succ, List.getElem_cons_zero])
                (try simp only [Act.put]); (try simp only [List.setIfInBounds_toArray]); (try simp only [List.set_cons_succ]); (try simp only [List.set_cons_zero])
                refine wpAny_take (i := 6) (v := ?_) rfl (by kernel_rfl) (by kernel_rfl) (by kernel_rfl) (fun _ _ _ h => h) (Or.inl ⟨by rfl, ?_⟩) ?_
                rotate_left
                · intro w9
                  go_simp
                  (try with_reducible rfl)
                (try simp only [Act.put]); (try simp only [List.setIfInBounds_toArray]); (try simp only [List.set_cons_succ]); (try simp only [List.set_cons_zero])
                (try dsimp only [List.getElem_toArray, List.getElem_cons_succ, List.getElem_cons_zero])
                (try simp only [Act.put]); (try simp only [List.setIfInBounds_toArray]); (try simp only [List.set_cons_succ]); (try simp only [List.set_cons_zero])
                refine wpAny_take (i := 5) (v := ?_) rfl (by kernel_rfl) (by kernel_rfl) (by kernel_rfl) (fun _ _ _ h => h) (Or.inl ⟨by rfl, ?_⟩) ?_
                rotate_left
                · intro w9
                  go_simp
                  (try with_reducible rfl)
                (try simp only [Act.put]); (try simp only [List.setIfInBounds_toArray]); (try simp only [List.set_cons_succ]); (try simp only [List.set_cons_zero])
                (try dsimp only [List.getElem_toArray, List.getElem_cons_succ, List.getElem_cons_zero])
                (try simp only [Act.put]); (try simp only [List.setIfInBounds_toArray]); (try simp only [List.set_cons_succ]); (try simp only [List.set_cons_zero])
                refine wpAny_take (i := 7) (v := ?_) rfl (by kernel_rfl) (by kernel_rfl) (by kernel_rfl) (fun _ _ _ h => h) (Or.inl ⟨by rfl, ?_⟩) ?_
                rotate_left
                · intro w9
                  go_simp
                  (try with_reducible rfl)
                (try simp only [Act.put]); (try simp only [List.setIfInBounds_toArray]); (try simp only [List.set_cons_succ]); (try simp only [List.set_cons_zero])
                (try dsimp only [List.getElem_toArray, List.getElem_cons_succ, List.getElem_cons_zero])
                (try simp only [Act.put]); (try simp only [List.setIfInBounds_toArray]); (try simp only [List.set_cons_succ]); (try simp only [List.set_cons_zero])
                refine wpAny_take (i := 8) (v := ?_) rfl (by kernel_rfl) (by kernel_rfl) (by kernel_rfl) (fun _ _ _ h => h) (Or.inl ⟨by rfl, ?_⟩) ?_
                rotate_left
                · intro w9
                  go_simp
                  (try with_reducible rfl)
                (try simp only [Act.put]); (try simp only [List.setIfInBounds_toArray]); (try simp only [List.set_cons_succ]); (try simp only [List.set_cons_zero])
                (try dsimp only [List.getElem_toArray, List.getElem_cons_succ, List.getElem_cons_zero])
                (try simp only [Act.put]); (try simp only [List.setIfInBounds_toArray]); (try simp only [List.set_cons_succ]); (try simp only [List.set_cons_zero])
                refine wpAny_ready (rs := [1, 9]) (by kernel_rfl) (by simp) ?_
                refine AllReady.cons rfl (fun K hK => ?_) ?_
                · replace hK := Lib.hid hK
                  have c9 := HW.out.t.cu
                  go_simp
                  refine hK.out _ _ ?_
                  clear hK K
                  (try simp only [Act.put]); (try simp only [List.setIfInBounds_toArray]); (try simp only [List.set_cons_succ]); (try simp only [List.set_cons_zero])
                  (try dsimp only [List.getElem_toArray, List.getElem_cons_succ, List.getElem_cons_zero])
                  (try simp only [Act.put]); (try simp only [List.setIfInBounds_toArray]); (try simp only [List.set_cons_succ]); (try simp only [List.set_cons_zero])
                  clear c9
                  refine wpAny_ready (rs := [9]) (by kernel_rfl) (by simp) ?_
                  refine AllReady.cons rfl (fun K hK => ?_) ?_
                  · replace hK := Lib.hid hK
                    have R6 := HRP.out _ HW.out.bel
                    rw [if_pos (by rfl)]
                    refine o_midP _ rfl _ _ rfl x R6 ?_
                    refine hK.out _ _ ?_
                    clear hK K
                    (try simp only [Act.put]); (try simp only [List.setIfInBounds_toArray]); (try simp only [List.set_cons_succ]); (try simp only [List.set_cons_zero])
                    (try dsimp only [List.getElem_toArray, List.getElem_cons_succ, List.getElem_cons_zero])
                    (try simp only [Act.put]); (try simp only [List.setIfInBounds_toArray]); (try simp only [List.set_cons_succ]); (try simp only [List.set_cons_zero])
                    clear R6
                    refine any_tail 10 (by kernel_rfl) (by kernel_rfl) (by kernel_rfl) (fun _ _ _ _ _ h => h) ?_
                    simp only [List.drop_succ_cons, List.drop_zero]
                    have P5 := PB.new wd x
                    replace HW := Lib.hid (HW.out.bel2 ((Below.refl wd.heap.size wd).alloc (Nat.le_refl _) (.cells (peA x) 28)))
                    have R5 := P5.range
                    go_wp2_with (first
                      | (refine p_sliceP rfl _ rfl x rfl ?_)
                      | (refine wpList_addG rfl _ _ rfl b9 (.slice ua A.length uc) (A) A.length rfl HW.out.a wd.heap.size 1 x rfl R5 (by have := HLB.out; omega) HW.out.sz ?_; intro v2 w4 ho2 hg2; have HN2 := Lib.hid (HW.out.add hg2 ho2); have E6 := Lib.hid (own_one ho2); clear ho2 hg2)
                      | (refine p_putS rfl _ _ rfl gp rfl v2 rfl E6.out HN2.out.1 ?_))
                    exact ⟨⟨j + 1, v2, by go_num, by omega, by rw [HSNN.out]; exact HN2.out.2⟩, by simp [intOf]; omega⟩
                  exact AllReady.nil
                refine AllReady.cons rfl (fun K hK => ?_) ?_
                · replace hK := Lib.hid hK
                  have R6 := HRP.out _ HW.out.bel
                  rw [if_pos (by rfl)]
                  refine o_midP _ rfl _ _ rfl x R6 ?_
                  refine hK.out _ _ ?_
                  clear hK K
                  (try simp only [Act.put]); (try simp only [List.setIfInBounds_toArray]); (try simp only [List.set_cons_succ]); (try simp only [List.set_cons_zero])
                  (try dsimp only [List.getElem_toArray, List.getElem_cons_succ, List.getElem_cons_zero])
                  (try simp only [Act.put]); (try simp only [List.setIfInBounds_toArray]); (try simp only [List.set_cons_succ]); (try simp only [List.set_cons_zero])
                  clear R6
                  refine wpAny_ready (rs := [1, 10]) (by kernel_rfl) (by simp) ?_
                  refine AllReady.cons rfl (fun K hK => ?_) ?_
                  · replace hK := Lib.hid hK
                    have c9 := HW.out.t.cu
                    go_simp
                    refine hK.out _ _ ?_
                    clear hK K
                    (try simp only [Act.put]); (try simp only [List.setIfInBounds_toArray]); (try simp only [List.set_cons_succ]); (try simp only [List.set_cons_zero])
                    (try dsimp only [List.getElem_toArray, List.getElem_cons_succ, List.getElem_cons_zero])
                    (try simp only [Act.put]); (try simp only [List.setIfInBounds_toArray]); (try simp only [List.set_cons_succ]); (try simp only [List.set_cons_zero])
                    clear c9
                    refine any_tail 10 (by kernel_rfl) (by kernel_rfl) (by kernel_rfl) (fun _ _ _ _ _ h => h) ?_
                    simp only [List.drop_succ_cons, List.drop_zero]
                    have P5 := PB.new wd x
                    replace HW := Lib.hid (HW.out.bel2 ((Below.refl wd.heap.size wd).alloc (Nat.le_refl _) (.cells (peA x) 28)))
                    have R5 := P5.range
                    go_wp2_with (first
                      | (refine p_sliceP rfl _ rfl x rfl ?_)
                      | (refine wpList_addG rfl _ _ rfl b9 (.slice ua A.length uc) (A) A.length rfl HW.out.a wd.heap.size 1 x rfl R5 (by have := HLB.out; omega) HW.out.sz ?_; intro v2 w4 ho2 hg2; have HN2 := Lib.hid (HW.out.add hg2 ho2); have E6 := Lib.hid (own_one ho2); clear ho2 hg2)
                      | (refine p_putS rfl _ _ rfl gp rfl v2 rfl E6.out HN2.out.1 ?_))
                    exact ⟨⟨j + 1, v2, by go_num, by omega, by rw [HSNN.out]; exact HN2.out.2⟩, by simp [intOf]; omega⟩
                  refine AllReady.cons rfl (fun K hK => ?_) ?_
                  · replace hK := Lib.hid hK
                    have P5 := PB.new wd x
                    replace HW := Lib.hid (HW.out.bel2 ((Below.refl wd.heap.size wd).alloc (Nat.le_refl _) (.cells (peA x) 28)))
                    rw [if_pos (by rfl)]
                    refine o_sliceP _ rfl x rfl ?_
                    refine hK.out _ _ ?_
                    clear hK K
                    (try simp only [Act.put]); (try simp only [List.setIfInBounds_toArray]); (try simp only [List.set_cons_succ]); (try simp only [List.set_cons_zero])
                    (try dsimp only [List.getElem_toArray, List.getElem_cons_succ, List.getElem_cons_zero])
                    (try simp only [Act.put]); (try simp only [List.setIfInBounds_toArray]); (try simp only [List.set_cons_succ]); (try simp only [List.set_cons_zero])
                    generalize wd.heap.size = q3 at *
                    generalize wd.alloc _ = W3 at *
                    refine wpAny_ready (rs := [1]) (by kernel_rfl) (by simp) ?_
                    refine AllReady.cons rfl (fun K hK => ?_) ?_
                    · replace hK := Lib.hid hK
                      have c9 := HW.out.t.cu
                      go_simp
                      refine hK.out _ _ ?_
                      clear hK K
                      (try simp only [Act.put]); (try simp only [List.setIfInBounds_toArray]); (try simp only [List.set_cons_succ]); (try simp only [List.set_cons_zero])
                      (try dsimp only [List.getElem_toArray, List.getElem_cons_succ, List.getElem_cons_zero])
                      (try simp only [Act.put]); (try simp only [List.setIfInBounds_toArray]); (try simp only [List.set_cons_succ]); (try simp only [List.set_cons_zero])
                      clear c9
                      refine any_tail 11 (by kernel_rfl) (by kernel_rfl) (by kernel_rfl) (fun _ _ _ _ _ h => h) ?_
                      simp only [List.drop_succ_cons, List.drop_zero]
                      have R5 := P5.range
                      go_wp2_with (first
                        | (refine wpList_addG rfl _ _ rfl b9 (.slice ua A.length uc) (A) A.length rfl HW.out.a q3 1 x rfl R5 (by have := HLB.out; omega) HW.out.sz ?_; intro v2 w4 ho2 hg2; have HN2 := Lib.hid (HW.out.add hg2 ho2); have E6 := Lib.hid (own_one ho2); clear ho2 hg2)
                        | (refine p_putS rfl _ _ rfl gp rfl v2 rfl E6.out HN2.out.1 ?_))
                      exact ⟨⟨j + 1, v2, by go_num, by omega, by rw [HSNN.out]; exact HN2.out.2⟩, by simp [intOf]; omega⟩
                    exact AllReady.nil
                  exact AllReady.nil
                exact AllReady.nil
              · have hje : j = min r (n - 1) := by omega
                have HFIN : Hid (SaR bb gp b9 wo wr self tt.p tt.S) := by
                  have h1 := HW.out
                  rw [hje, List.take_of_length_le (by rw [HSL.out]; exact Nat.le_refl _)] at h1
                  exact ⟨_, h1⟩
                by_cases hjn : j + 1 < n
                · have b1 : (j : Int) + 1 < (n : Int) := by omega
                  have b2 : decide ((j : Int) + 1 < (n : Int)) = true := decide_eq_true b1
                  have b3 : ¬ (j : Int) + 1 ≤ (r : Int) := by omega
                  have b4 : decide ((j : Int) + 1 ≤ (r : Int)) = false := decide_eq_false b3
                  clear hje hjn hjm HW
                  go_wp2
                  go_meet
                  exact HFIN
                · have b1 : ¬ (j : Int) + 1 < (n : Int) := by omega
                  have b2 : decide ((j : Int) + 1 < (n : Int)) = false := decide_eq_false b1
                  clear hje hjn hjm HW
                  go_wp2
                  go_meet
                  exact HFIN
          case rest =>
            clear P0
            have hcc := hcut.out
            clear hcut
            obtain ⟨su, hSA⟩ := hcc
            have HSA := Lib.hid hSA
            clear hSA
            obtain ⟨sa, sc, rfl⟩ := Cr.own_form HSA.out.a
            have hBg : Below g w wc := HB.out.trans (HSA.out.bel.mono hgb)
            have hcall := HFC.out wc hlt hBg
            go_upto_region 16 with (go_at_call 38; (with_reducible refine hcall.mono ?_); rintro e w10 ⟨z, rfl, hrow, k10⟩)
            have hnum : Nums w10 z OW := nums_own hrow
            obtain ⟨za, zc, rfl⟩ := hnum.form
            have hSA10 := HSA.out.bel2 k10
            have lgp := HSA.out.ord
            have lsz := HSA.out.sz
            have P3 : Hid (SbW bb gp w10.heap.size wo w10 self tt.p (.slice sa tt.S.length sc) nilS (.slice za OW.length zc) OW tt.S []) :=
              ⟨hSA10.bel, hSA10.t, ⟨rfl, .inl ⟨rfl, rfl⟩⟩, own_lies hSA10.a, fun q e => ⟨by have := (hSA10.a.lt q e).1; omega, (hSA10.a.lt q e).2⟩, hnum, fun q e => ⟨by have := (hrow.lt q e).1; omega, (hrow.lt q e).2⟩, ⟨lgp.1, by have := k10.size; omega⟩, Nat.le_refl _⟩
            clear hSA10 hrow hnum k10 hcall HSA hBg lgp lsz
            rw [HFLEN.out] at P3 ⊢
            generalize hbc : w10.heap.size = bc at *
            clear hbc
            go_upto_region 17 with (fail)
            go_loopw [13] (fun i wr => ∃ (q : Nat) (v9 : Value), i = .int .i64 (q : Int) ∧ q ≤ 160 ∧ SbW bb gp bc wo wr self tt.p (.slice sa tt.S.length sc) v9 (.slice za 160 zc) OW tt.S (tt.F.take q)) (fun i _ => 160 - (intOf i).toNat)
            case atStart => exact ⟨0, nilS, rfl, Nat.zero_le _, by rw [List.take_zero]; exact P3.out⟩
            case round =>
              clear P3
              obtain ⟨q, v9, rfl, hq, hW⟩ := hrel
              have HW := Lib.hid hW
              obtain ⟨fa, fc, rfl⟩ := Cr.own_form hW.a
              clear hW
              by_cases hq6 : q < 160
              · have bq : (q : Int) < (160 : Int) := by omega
                have bq0 : (0 : Int) ≤ (q : Int) := by omega
                have s2 : IntKind.i64.wrap ((q : Int) + 1) = (q : Int) + 1 := IntWalk.i64_in _ (by omega)
                have hfn := H15.out q hq6
                have hgt := HFGT.out q
                have hown := HOWN.out q
                have hov := HFING.out q hq6
                generalize ownN L ((pn L k + 2 ^ q) % M) = at_ at *
                obtain ⟨zb, zo, zc', e1, _, _⟩ := HW.out.nu.some (by rw [HFLEN.out]; omega)
                simp only [Value.slice.injEq] at e1
                obtain ⟨rfl, en9, rfl⟩ := e1
                clear en9
                have HCO : Hid (∀ wx, Nums wx (.slice (some ⟨zb, zo, none⟩) 160 zc) OW → wx.cell? ⟨zb, zo + q, none⟩ = some (.int .i64 (at_ : Int))) := fun wx h => by
                  have := nums_at h (j := q) (by rw [HFLEN.out]; exact hq6)
                  rwa [hov] at this
                have H15N := Lib.hid hfn
                have HLB : Hid ((tt.F.take q).length ≤ 1000) := Nat.le_trans (List.length_take_le _ _) (by omega)
                have c7 := HCO.out _ HW.out.nu
                generalize tt.F.take q = A at *
                clear hfn hov
                by_cases he : at_ = k
                · have hne : ((at_ : Int) == (k : Int)) = true := by rw [he]; simp
                  rw [if_pos he] at hgt
                  have HG := Lib.hid hgt
                  clear hgt he
                  go_upto_region 20 with (fail)
                  clear c7 hne
                  refine wp_region_any (by kernel_rfl) ?_
                  change wpAny _ _ _ _ _ _ _ (World.drew _)
                  replace HW := Lib.hid (HW.out.bel2 (drew_bel wr))
                  generalize World.drew wr = wd at *
                  refine wpAny_take (i := 0) (v := ?_) rfl (by kernel_rfl) (by kernel_rfl) (by kernel_rfl) (fun _ _ _ h => h) (Or.inl ⟨by rfl, ?_⟩) ?_
                  rotate_left
                  · intro w9
                    go_simp
                    (try with_reducible rfl)
                  (try simp only [Act.put]); (try simp only [List.setIfInBounds_toArray]); (try simp only [List.set_cons_succ]); (try simp only [List.set_cons_zero])
                  (try dsimp only [List.getElem_toArray, List.getElem_cons_succ, List.getElem_cons_zero])
                  (try simp only [Act.put]); (try simp only [List.setIfInBounds_toArray]); (try simp only [List.set_cons_succ]); (try simp only [List.set_cons_zero])
                  refine wpAny_ready (rs := [1, 2]) (by kernel_rfl) (by simp) ?_
                  refine AllReady.cons rfl (fun K hK => ?_) ?_
                  · replace hK := Lib.hid hK
                    have c9 := HW.out.t.cv
                    go_simp
                    refine hK.out _ _ ?_
                    clear hK K
                    (try simp only [Act.put]); (try simp only [List.setIfInBounds_toArray]); (try simp only [List.set_cons_succ]); (try simp only [List.set_cons_zero])
                    (try dsimp only [List.getElem_toArray, List.getElem_cons_succ, List.getElem_cons_zero])
                    (try simp only [Act.put]); (try simp only [List.setIfInBounds_toArray]); (try simp only [List.set_cons_succ]); (try simp only [List.set_cons_zero])
                    clear c9
                    refine wpAny_ready (rs := [2]) (by kernel_rfl) (by simp) ?_
                    refine AllReady.cons rfl (fun K hK => ?_) ?_
                    · replace hK := Lib.hid hK
                      go_simp
                      go_wp2_with (go_at_call 37; (with_reducible refine (HNN.out _).mono ?_); rintro e w3 ⟨rfl, k3⟩; replace HW := Lib.hid (HW.out.bel2 k3); clear k3)
                      refine hK.out _ _ ?_
                      clear hK K
                      (try simp only [Act.put]); (try simp only [List.setIfInBounds_toArray]); (try simp only [List.set_cons_succ]); (try simp only [List.set_cons_zero])
                      (try dsimp only [List.getElem_toArray, List.getElem_cons_succ, List.getElem_cons_zero])
                      (try simp only [Act.put]); (try simp only [List.setIfInBounds_toArray]); (try simp only [List.set_cons_succ]); (try simp only [List.set_cons_zero])
                      refine any_tail 3 (by kernel_rfl) (by kernel_rfl) (by kernel_rfl) (fun _ _ _ _ _ h => h) ?_
                      simp only [List.drop_succ_cons, List.drop_zero]
                      have P5 := PB.new w3 (-1, 0)
                      replace HW := Lib.hid (HW.out.bel2 ((Below.refl w3.heap.size w3).alloc (Nat.le_refl _) (.cells (peA (-1, 0)) 28)))
                      have R5 := P5.range
                      go_wp2_with (first
                        | (refine p_sliceP rfl _ rfl (-1, 0) rfl ?_)
                        | (refine wpList_addG rfl _ _ rfl bc (.slice fa A.length fc) (A) A.length rfl HW.out.a w3.heap.size 1 (-1, 0) rfl R5 (by have := HLB.out; omega) HW.out.sz ?_; intro v2 w4 ho2 hg2; have HN2 := Lib.hid (HW.out.add hg2 ho2); have E6 := Lib.hid (own_one ho2); clear ho2 hg2)
                        | (refine p_putF rfl _ _ rfl gp rfl v2 rfl E6.out HN2.out.1 ?_))
                      exact ⟨⟨q + 1, v2, by go_num, by omega, by rw [H15N.out, HG.out]; exact HN2.out.2⟩, by simp [intOf]; omega⟩
                    exact AllReady.nil
                  refine AllReady.cons rfl (fun K hK => ?_) ?_
                  · replace hK := Lib.hid hK
                    go_simp
                    go_wp2_with (go_at_call 37; (with_reducible refine (HNN.out _).mono ?_); rintro e w3 ⟨rfl, k3⟩; replace HW := Lib.hid (HW.out.bel2 k3); clear k3)
                    refine hK.out _ _ ?_
                    clear hK K
                    (try simp only [Act.put]); (try simp only [List.setIfInBounds_toArray]); (try simp only [List.set_cons_succ]); (try simp only [List.set_cons_zero])
                    (try dsimp only [List.getElem_toArray, List.getElem_cons_succ, List.getElem_cons_zero])
                    (try simp only [Act.put]); (try simp only [List.setIfInBounds_toArray]); (try simp only [List.set_cons_succ]); (try simp only [List.set_cons_zero])
                    refine wpAny_ready (rs := [1, 3]) (by kernel_rfl) (by simp) ?_
                    refine AllReady.cons rfl (fun K hK => ?_) ?_
                    · replace hK := Lib.hid hK
                      have c9 := HW.out.t.cv
                      go_simp
                      refine hK.out _ _ ?_
                      clear hK K
                      (try simp only [Act.put]); (try simp only [List.setIfInBounds_toArray]); (try simp only [List.set_cons_succ]); (try simp only [List.set_cons_zero])
                      (try dsimp only [List.getElem_toArray, List.getElem_cons_succ, List.getElem_cons_zero])
                      (try simp only [Act.put]); (try simp only [List.setIfInBounds_toArray]); (try simp only [List.set_cons_succ]); (try simp only [List.set_cons_zero])
                      clear c9
                      refine any_tail 3 (by kernel_rfl) (by kernel_rfl) (by kernel_rfl) (fun _ _ _ _ _ h => h) ?_
                      simp only [List.drop_succ_cons, List.drop_zero]
                      have P5 := PB.new w3 (-1, 0)
                      replace HW := Lib.hid (HW.out.bel2 ((Below.refl w3.heap.size w3).alloc (Nat.le_refl _) (.cells (peA (-1, 0)) 28)))
                      have R5 := P5.range
                      go_wp2_with (first
                        | (refine p_sliceP rfl _ rfl (-1, 0) rfl ?_)
                        | (refine wpList_addG rfl _ _ rfl bc (.slice fa A.length fc) (A) A.length rfl HW.out.a w3.heap.size 1 (-1, 0) rfl R5 (by have := HLB.out; omega) HW.out.sz ?_; intro v2 w4 ho2 hg2; have HN2 := Lib.hid (HW.out.add hg2 ho2); have E6 := Lib.hid (own_one ho2); clear ho2 hg2)
                        | (refine p_putF rfl _ _ rfl gp rfl v2 rfl E6.out HN2.out.1 ?_))
                      exact ⟨⟨q + 1, v2, by go_num, by omega, by rw [H15N.out, HG.out]; exact HN2.out.2⟩, by simp [intOf]; omega⟩
                    refine AllReady.cons rfl (fun K hK => ?_) ?_
                    · replace hK := Lib.hid hK
                      have P5 := PB.new w3 (-1, 0)
                      replace HW := Lib.hid (HW.out.bel2 ((Below.refl w3.heap.size w3).alloc (Nat.le_refl _) (.cells (peA (-1, 0)) 28)))
                      rw [if_pos (by rfl)]
                      refine o_sliceP _ rfl (-1, 0) rfl ?_
                      refine hK.out _ _ ?_
                      clear hK K
                      (try simp only [Act.put]); (try simp only [List.setIfInBounds_toArray]); (try simp only [List.set_cons_succ]); (try simp only [List.set_cons_zero])
                      (try dsimp only [List.getElem_toArray, List.getElem_cons_succ, List.getElem_cons_zero])
                      (try simp only [Act.put]); (try simp only [List.setIfInBounds_toArray]); (try simp only [List.set_cons_succ]); (try simp only [List.set_cons_zero])
                      generalize w3.heap.size = q3 at *
                      generalize w3.alloc _ = W3 at *
                      refine wpAny_ready (rs := [1]) (by kernel_rfl) (by simp) ?_
                      refine AllReady.cons rfl (fun K hK => ?_) ?_
                      · replace hK := Lib.hid hK
                        have c9 := HW.out.t.cv
                        go_simp
                        refine hK.out _ _ ?_
                        clear hK K
                        (try simp only [Act.put]); (try simp only [List.setIfInBounds_toArray]); (try simp only [List.set_cons_succ]); (try simp only [List.set_cons_zero])
                        (try dsimp only [List.getElem_toArray, List.getElem_cons_succ, List.getElem_cons_zero])
                        (try simp only [Act.put]); (try simp only [List.setIfInBounds_toArray]); (try simp only [List.set_cons_succ]); (try simp only [List.set_cons_zero])
                        clear c9
                        refine any_tail 4 (by kernel_rfl) (by kernel_rfl) (by kernel_rfl) (fun _ _ _ _ _ h => h) ?_
                        simp only [List.drop_succ_cons, List.drop_zero]
                        have R5 := P5.range
                        go_wp2_with (first
                          | (refine wpList_addG rfl _ _ rfl bc (.slice fa A.length fc) (A) A.length rfl HW.out.a q3 1 (-1, 0) rfl R5 (by have := HLB.out; omega) HW.out.sz ?_; intro v2 w4 ho2 hg2; have HN2 := Lib.hid (HW.out.add hg2 ho2); have E6 := Lib.hid (own_one ho2); clear ho2 hg2)
                          | (refine p_putF rfl _ _ rfl gp rfl v2 rfl E6.out HN2.out.1 ?_))
                        exact ⟨⟨q + 1, v2, by go_num, by omega, by rw [H15N.out, HG.out]; exact HN2.out.2⟩, by simp [intOf]; omega⟩
                      exact AllReady.nil
                    exact AllReady.nil
                  exact AllReady.nil
                · have hne : ((at_ : Int) == (k : Int)) = false := by simpa using fun h : (at_ : Int) = (k : Int) => he (by omega)
                  rw [if_neg he] at hgt
                  have HG := Lib.hid hgt
                  have han : at_ < n := by rw [HN.out]; exact hown
                  have HRP : Hid (∀ wx, Below bb wo wx → wx.rangeAt b (o + at_ * 21) (peC (L.getD at_ (0, 0)))) := fun wx hb => HPL.out at_ wx han (HB.out.trans (hb.mono hgb))
                  have ban : (at_ : Int) < (n : Int) := by omega
                  have baz : (0 : Int) ≤ (at_ : Int) := by omega
                  clear hgt he
                  generalize L.getD at_ (0, 0) = x at *
                  go_upto_region 21 with (fail)
                  clear c7 hne
                  refine wp_region_any (by kernel_rfl) ?_
                  change wpAny _ _ _ _ _ _ _ (World.drew _)
                  replace HW := Lib.hid (HW.out.bel2 (drew_bel wr))
                  generalize World.drew wr = wd at *
                  refine wpAny_take (i := 0) (v := ?_) rfl (by kernel_rfl) (by kernel_rfl) (by kernel_rfl) (fun _ _ _ h => h) (Or.inl ⟨by rfl, ?_⟩) ?_
                  rotate_left
                  · intro w9
                    go_simp
                    (try with_reducible rfl)
                  (try simp only [Act.put]); (try simp only [List.setIfInBounds_toArray]); (try simp only [List.set_cons_succ]); (try simp only [List.set_cons_zero])
                  (try dsimp only [List.getElem_toArray, List.getElem_cons_succ, List.getElem_cons_zero])
                  (try simp only [Act.put]); (try simp only [List.setIfInBounds_toArray]); (try simp only [List.set_cons_succ]); (try simp only [List.set_cons_zero])
                  refine wpAny_take (i := 2) (v := ?_) rfl (by kernel_rfl) (by kernel_rfl) (by kernel_rfl) (fun _ _ _ h => h) (Or.inl ⟨by rfl, ?_⟩) ?_
                  rotate_left
                  · intro w9
                    go_simp
                    (try with_reducible rfl)
                  (try simp only [Act.put]); (try simp only [List.setIfInBounds_toArray]); (try simp only [List.set_cons_succ]); (try simp only [List.set_cons_zero])
                  (try dsimp only [List.getElem_toArray, List.getElem_cons_succ, List.getElem_cons_zero])
                  (try simp only [Act.put]); (try simp only [List.setIfInBounds_toArray]); (try simp only [List.set_cons_succ]); (try simp only [List.set_cons_zero])
                  refine wpAny_take (i := 3) (v := ?_) rfl (by kernel_rfl) (by kernel_rfl) (by kernel_rfl) (fun _ _ _ h => h) (Or.inl ⟨by rfl, ?_⟩) ?_
                  rotate_left
                  · intro w9
                    go_simp
                    (try with_reducible rfl)
                  (try simp only [Act.put]); (try simp only [List.setIfInBounds_toArray]); (try simp only [List.set_cons_succ]); (try simp only [List.set_cons_zero])
                  (try dsimp only [List.getElem_toArray, List.getElem_cons_succ, List.getElem_cons_zero])
                  (try simp only [Act.put]); (try simp only [List.setIfInBounds_toArray]); (try simp only [List.set_cons_succ]); (try simp only [List.set_cons_zero])
                  refine wpAny_take (i := 4) (v := ?_) rfl (by kernel_rfl) (by kernel_rfl) (by kernel_rfl) (fun _ _ _ h => h) (Or.inl ⟨by rfl, ?_⟩) ?_
                  rotate_left
                  · intro w9
                    go_simp
                    (try with_reducible rfl)
                  (try simp only [Act.put]); (try simp only [List.setIfInBounds_toArray]); (try simp only [List.set_cons_succ]); (try simp only [List.set_cons_zero])
                  (try dsimp only [List.getElem_toArray, List.getElem_cons_succ, List.getElem_cons_zero])
                  (try simp only [Act.put]); (try simp only [List.setIfInBounds_toArray]); (try simp only [List.set_cons_succ]); (try simp only [List.set_cons_zero])
                  refine wpAny_take (i := 5) (v := ?_) rfl (by kernel_rfl) (by kernel_rfl) (by kernel_rfl) (fun _ _ _ h => h) (Or.inl ⟨by rfl, ?_⟩) ?_
                  rotate_left
                  · intro w9
                    go_simp
                    (try with_reducible rfl)
                  (try simp only [Act.put]); (try simp only [List.setIfInBounds_toArray]); (try simp only [List.set_cons_succ]); (try simp only [List.set_cons_zero])
                  (try dsimp only [List.getElem_toArray, List.getElem_cons_succ, List.getElem_cons_zero])
                  (try simp only [Act.put]); (try simp only [List.setIfInBounds_toArray]); (try simp only [List.set_cons_succ]); (try simp only [List.set_cons_zero])
                  refine wpAny_ready (rs := [1, 6]) (by kernel_rfl) (by simp) ?_
                  refine AllReady.cons rfl (fun K hK => ?_) ?_
                  · replace hK := Lib.hid hK
                    have c9 := HW.out.t.cv
                    go_simp
                    refine hK.out _ _ ?_
                    clear hK K
                    (try simp only [Act.put]); (try simp only [List.setIfInBounds_toArray]); (try simp only [List.set_cons_succ]); (try simp only [List.set_cons_zero])
                    (try dsimp only [List.getElem_toArray, List.getElem_cons_succ, List.getElem_cons_zero])
                    (try simp only [Act.put]); (try simp only [List.setIfInBounds_toArray]); (try simp only [List.set_cons_succ]); (try simp only [List.set_cons_zero])
                    clear c9
                    refine wpAny_ready (rs := [6]) (by kernel_rfl) (by simp) ?_
                    refine AllReady.cons rfl (fun K hK => ?_) ?_
                    · replace hK := Lib.hid hK
                      have c7 := HCO.out _ HW.out.nu
                      go_simp
                      refine hK.out _ _ ?_
                      clear hK K
                      (try simp only [Act.put]); (try simp only [List.setIfInBounds_toArray]); (try simp only [List.set_cons_succ]); (try simp only [List.set_cons_zero])
                      (try dsimp only [List.getElem_toArray, List.getElem_cons_succ, List.getElem_cons_zero])
                      (try simp only [Act.put]); (try simp only [List.setIfInBounds_toArray]); (try simp only [List.set_cons_succ]); (try simp only [List.set_cons_zero])
                      clear c7
                      refine wpAny_take (i := 7) (v := ?_) rfl (by kernel_rfl) (by kernel_rfl) (by kernel_rfl) (fun _ _ _ h => h) (Or.inl ⟨by rfl, ?_⟩) ?_
                      rotate_left
                      · intro w9
                        go_simp
                        (try with_reducible rfl)
                      (try simp only [Act.put]); (try simp only [List.setIfInBounds_toArray]); (try simp only [List.set_cons_succ]); (try simp only [List.set_cons_zero])
                      (try dsimp only [List.getElem_toArray, List.getElem_cons_succ, List.getElem_cons_zero])
                      (try simp only [Act.put]); (try simp only [List.setIfInBounds_toArray]); (try simp only [List.set_cons_succ]); (try simp only [List.set_cons_zero])
                      refine wpAny_ready (rs := [8]) (by kernel_rfl) (by simp) ?_
                      refine AllReady.cons rfl (fun K hK => ?_) ?_
                      · replace hK := Lib.hid hK
                        have R6 := HRP.out _ HW.out.bel
                        rw [if_pos (by rfl)]
                        refine o_midP _ rfl _ _ rfl x R6 ?_
                        refine hK.out _ _ ?_
                        clear hK K
                        (try simp only [Act.put]); (try simp only [List.setIfInBounds_toArray]); (try simp only [List.set_cons_succ]); (try simp only [List.set_cons_zero])
                        (try dsimp only [List.getElem_toArray, List.getElem_cons_succ, List.getElem_cons_zero])
                        (try simp only [Act.put]); (try simp only [List.setIfInBounds_toArray]); (try simp only [List.set_cons_succ]); (try simp only [List.set_cons_zero])
                        clear R6
                        refine any_tail 9 (by kernel_rfl) (by kernel_rfl) (by kernel_rfl) (fun _ _ _ _ _ h => h) ?_
                        simp only [List.drop_succ_cons, List.drop_zero]
                        have P5 := PB.new wd x
                        replace HW := Lib.hid (HW.out.bel2 ((Below.refl wd.heap.size wd).alloc (Nat.le_refl _) (.cells (peA x) 28)))
                        have R5 := P5.range
                        go_wp2_with (first
                          | (refine p_sliceP rfl _ rfl x rfl ?_)
                          | (refine wpList_addG rfl _ _ rfl bc (.slice fa A.length fc) (A) A.length rfl HW.out.a wd.heap.size 1 x rfl R5 (by have := HLB.out; omega) HW.out.sz ?_; intro v2 w4 ho2 hg2; have HN2 := Lib.hid (HW.out.add hg2 ho2); have E6 := Lib.hid (own_one ho2); clear ho2 hg2)
                          | (refine p_putF rfl _ _ rfl gp rfl v2 rfl E6.out HN2.out.1 ?_))
                        exact ⟨⟨q + 1, v2, by go_num, by omega, by rw [H15N.out, HG.out]; exact HN2.out.2⟩, by simp [intOf]; omega⟩
                      exact AllReady.nil
                    exact AllReady.nil
                  refine AllReady.cons rfl (fun K hK => ?_) ?_
                  · replace hK := Lib.hid hK
                    have c7 := HCO.out _ HW.out.nu
                    go_simp
                    refine hK.out _ _ ?_
                    clear hK K
                    (try simp only [Act.put]); (try simp only [List.setIfInBounds_toArray]); (try simp only [List.set_cons_succ]); (try simp only [List.set_cons_zero])
                    (try dsimp only [List.getElem_toArray, List.getElem_cons_succ, List.getElem_cons_zero])
                    (try simp only [Act.put]); (try simp only [List.setIfInBounds_toArray]); (try simp only [List.set_cons_succ]); (try simp only [List.set_cons_zero])
                    clear c7
                    refine wpAny_take (i := 7) (v := ?_) rfl (by kernel_rfl) (by kernel_rfl) (by kernel_rfl) (fun _ _ _ h => h) (Or.inl ⟨by rfl, ?_⟩) ?_
                    rotate_left
                    · intro w9
                      go_simp
                      (try with_reducible rfl)
                    (try simp only [Act.put]); (try simp only [List.setIfInBounds_toArray]); (try simp only [List.set_cons_succ]); (try simp only [List.set_cons_zero])
                    (try dsimp only [List.getElem_toArray, List.getElem_cons_succ, List.getElem_cons_zero])
                    (try simp only [Act.put]); (try simp only [List.setIfInBounds_toArray]); (try simp only [List.set_cons_succ]); (try simp only [List.set_cons_zero])
                    refine wpAny_ready (rs := [1, 8]) (by kernel_rfl) (by simp) ?_
                    refine AllReady.cons rfl (fun K hK => ?_) ?_
                    · replace hK := Lib.hid hK
                      have c9 := HW.out.t.cv
                      go_simp
                      refine hK.out _ _ ?_
                      clear hK K
                      (try simp only [Act.put]); (try simp only [List.setIfInBounds_toArray]); (try simp only [List.set_cons_succ]); (try simp only [List.set_cons_zero])
                      (try dsimp only [List.getElem_toArray, List.getElem_cons_succ, List.getElem_cons_zero])
                      (try simp only [Act.put]); (try simp only [List.setIfInBounds_toArray]); (try simp only [List.set_cons_succ]); (try simp only [List.set_cons_zero])
                      clear c9
                      refine wpAny_ready (rs := [8]) (by kernel_rfl) (by simp) ?_
                      refine AllReady.cons rfl (fun K hK => ?_) ?_
                      · replace hK := Lib.hid hK
                        have R6 := HRP.out _ HW.out.bel
                        rw [if_pos (by rfl)]
                        refine o_midP _ rfl _ _ rfl x R6 ?_
                        refine hK.out _ _ ?_
                        clear hK K
                        (try simp only [Act.put]); (try simp only [List.setIfInBounds_toArray]); (try simp only [List.set_cons_succ]); (try simp only [List.set_cons_zero])
                        (try dsimp only [List.getElem_toArray, List.getElem_cons_succ, List.getElem_cons_zero])
                        (try simp only [Act.put]); (try simp only [List.setIfInBounds_toArray]); (try simp only [List.set_cons_succ]); (try simp only [List.set_cons_zero])
                        clear R6
                        refine any_tail 9 (by kernel_rfl) (by kernel_rfl) (by kernel_rfl) (fun _ _ _ _ _ h => h) ?_
                        simp only [List.drop_succ_cons, List.drop_zero]
                        have P5 := PB.new wd x
                        replace HW := Lib.hid (HW.out.bel2 ((Below.refl wd.heap.size wd).alloc (Nat.le_refl _) (.cells (peA x) 28)))
                        have R5 := P5.range
                        go_wp2_with (first
                          | (refine p_sliceP rfl _ rfl x rfl ?_)
                          | (refine wpList_addG rfl _ _ rfl bc (.slice fa A.length fc) (A) A.length rfl HW.out.a wd.heap.size 1 x rfl R5 (by have := HLB.out; omega) HW.out.sz ?_; intro v2 w4 ho2 hg2; have HN2 := Lib.hid (HW.out.add hg2 ho2); have E6 := Lib.hid (own_one ho2); clear ho2 hg2)
                          | (refine p_putF rfl _ _ rfl gp rfl v2 rfl E6.out HN2.out.1 ?_))
                        exact ⟨⟨q + 1, v2, by go_num, by omega, by rw [H15N.out, HG.out]; exact HN2.out.2⟩, by simp [intOf]; omega⟩
                      exact AllReady.nil
                    refine AllReady.cons rfl (fun K hK => ?_) ?_
                    · replace hK := Lib.hid hK
                      have R6 := HRP.out _ HW.out.bel
                      rw [if_pos (by rfl)]
                      refine o_midP _ rfl _ _ rfl x R6 ?_
                      refine hK.out _ _ ?_
                      clear hK K
                      (try simp only [Act.put]); (try simp only [List.setIfInBounds_toArray]); (try simp only [List.set_cons_succ]); (try simp only [List.set_cons_zero])
                      (try dsimp only [List.getElem_toArray, List.getElem_cons_succ, List.getElem_cons_zero])
                      (try simp only [Act.put]); (try simp only [List.setIfInBounds_toArray]); (try simp only [List.set_cons_succ]); (try simp only [List.set_cons_zero])
                      clear R6
                      refine wpAny_ready (rs := [1, 9]) (by kernel_rfl) (by simp) ?_
                      refine AllReady.cons rfl (fun K hK => ?_) ?_
                      · replace hK := Lib.hid hK
                        have c9 := HW.out.t.cv
                        go_simp
                        refine hK.out _ _ ?_
                        clear hK K
                        (try simp only [Act.put]); (try simp only [List.setIfInBounds_toArray]); (try simp only [List.set_cons_succ]); (try simp only [List.set_cons_zero])
                        (try dsimp only [List.getElem_toArray, List.getElem_cons_succ, List.getElem_cons_zero])
                        (try simp only [Act.put]); (try simp only [List.setIfInBounds_toArray]); (try simp only [List.set_cons_succ]); (try simp only [List.set_cons_zero])
                        clear c9
                        refine any_tail 9 (by kernel_rfl) (by kernel_rfl) (by kernel_rfl) (fun _ _ _ _ _ h => h) ?_
                        simp only [List.drop_succ_cons, List.drop_zero]
                        have P5 := PB.new wd x
                        replace HW := Lib.hid (HW.out.bel2 ((Below.refl wd.heap.size wd).alloc (Nat.le_refl _) (.cells (peA x) 28)))
                        have R5 := P5.range
                        go_wp2_with (first
                          | (refine p_sliceP rfl _ rfl x rfl ?_)
                          | (refine wpList_addG rfl _ _ rfl bc (.slice fa A.length fc) (A) A.length rfl HW.out.a wd.heap.size 1 x rfl R5 (by have := HLB.out; omega) HW.out.sz ?_; intro v2 w4 ho2 hg2; have HN2 := Lib.hid (HW.out.add hg2 ho2); have E6 := Lib.hid (own_one ho2); clear ho2 hg2)
                          | (refine p_putF rfl _ _ rfl gp rfl v2 rfl E6.out HN2.out.1 ?_))
                        exact ⟨⟨q + 1, v2, by go_num, by omega, by rw [H15N.out, HG.out]; exact HN2.out.2⟩, by simp [intOf]; omega⟩
                      refine AllReady.cons rfl (fun K hK => ?_) ?_
                      · replace hK := Lib.hid hK
                        have P5 := PB.new wd x
                        replace HW := Lib.hid (HW.out.bel2 ((Below.refl wd.heap.size wd).alloc (Nat.le_refl _) (.cells (peA x) 28)))
                        rw [if_pos (by rfl)]
                        refine o_sliceP _ rfl x rfl ?_
                        refine hK.out _ _ ?_
                        clear hK K
                        (try simp only [Act.put]); (try simp only [List.setIfInBounds_toArray]); (try simp only [List.set_cons_succ]); (try simp only [List.set_cons_zero])
                        (try dsimp only [List.getElem_toArray, List.getElem_cons_succ, List.getElem_cons_zero])
                        (try simp only [Act.put]); (try simp only [List.setIfInBounds_toArray]); (try simp only [List.set_cons_succ]); (try simp only [List.set_cons_zero])
                        generalize wd.heap.size = q3 at *
                        generalize wd.alloc _ = W3 at *
                        refine wpAny_ready (rs := [1]) (by kernel_rfl) (by simp) ?_
                        refine AllReady.cons rfl (fun K hK => ?_) ?_
                        · replace hK := Lib.hid hK
                          have c9 := HW.out.t.cv
                          go_simp
                          refine hK.out _ _ ?_
                          clear hK K
                          (try simp only [Act.put]); (try simp only [List.setIfInBounds_toArray]); (try simp only [List.set_cons_succ]); (try simp only [List.set_cons_zero])
                          (try dsimp only [List.getElem_toArray, List.getElem_cons_succ, List.getElem_cons_zero])
                          (try simp only [Act.put]); (try simp only [List.setIfInBounds_toArray]); (try simp only [List.set_cons_succ]); (try simp only [List.set_cons_zero])
                          clear c9
                          refine any_tail 10 (by kernel_rfl) (by kernel_rfl) (by kernel_rfl) (fun _ _ _ _ _ h => h) ?_
                          simp only [List.drop_succ_cons, List.drop_zero]
                          have R5 := P5.range
                          go_wp2_with (first
                            | (refine wpList_addG rfl _ _ rfl bc (.slice fa A.length fc) (A) A.length rfl HW.out.a q3 1 x rfl R5 (by have := HLB.out; omega) HW.out.sz ?_; intro v2 w4 ho2 hg2; have HN2 := Lib.hid (HW.out.add hg2 ho2); have E6 := Lib.hid (own_one ho2); clear ho2 hg2)
                            | (refine p_putF rfl _ _ rfl gp rfl v2 rfl E6.out HN2.out.1 ?_))
                          exact ⟨⟨q + 1, v2, by go_num, by omega, by rw [H15N.out, HG.out]; exact HN2.out.2⟩, by simp [intOf]; omega⟩
                        exact AllReady.nil
                      exact AllReady.nil
                    exact AllReady.nil
                  exact AllReady.nil
              · obtain rfl : q = 160 := by omega
                have e9 : tt.F.take 160 = tt.F := List.take_of_length_le (by rw [HFL.out]; exact Nat.le_refl _)
                rw [e9] at HW
                clear e9
                have hB1 := HW.out.bel
                have hTB := HW.out.t
                have HR1 := Lib.hid (HR.out.bel (w' := wr) (by rw [hbb]; exact hB1))
                have hBw : Below g w wr := HB.out.trans (hB1.mono hgb)
                have HBw := Lib.hid hBw
                have hszr : g ≤ wr.heap.size := by have := hBw.size; omega
                have lx : X.length ≤ 1000000 := by rw [HXL.out]; omega
                have s2 : IntKind.i64.wrap ((k : Int) + 1) = (k : Int) + 1 := IntWalk.i64_in _ (by omega)
                have hLF := own_lies HW.out.a
                have hLS := HW.out.la
                have hall := HW.out.a
                have HKS : Hid (∀ q, (Value.slice sa tt.S.length sc).ownBlock = some q → bb ≤ q) := fun q e => by have := (HW.out.ak q e).1; have := HW.out.ord; omega
                have HKF : Hid (∀ q, (Value.slice fa tt.F.length fc).ownBlock = some q → bb ≤ q) := fun q e => by have := (hall.lt q e).1; have := HW.out.ord; omega
                have HLF := Lib.hid hLF
                have HLS := Lib.hid hLS
                have HA5 := Lib.hid (HR1.out.own.alloc (.cells (tabA self tt.p (.slice sa tt.S.length sc) (.slice fa tt.F.length fc)) 43))
                have hlo := fun q (hb : (Value.slice ra X.length rc).ownBlock = some q) => (HR.out.own.lt q hb).2
                have HLO := Lib.hid hlo
                clear hB1 hBw hLF hLS hall hlo HW
                go_upto_region 7 with (first
                  | (refine p_midT rfl _ rfl gp rfl hTB ?_)
                  | (refine p_sliceT rfl _ rfl self tt.p sa fa tt.S.length sc tt.F.length fc rfl ?_)
                  | (refine p_addV (x := ⟨⟨self, tt.p, tt.S, tt.F⟩, .slice sa tt.S.length sc, .slice fa tt.F.length fc⟩) rfl _ _ rfl g (Value.slice ra X.length rc) X rfl wr.heap.size rfl HA5.out rfl lx hszr rfl rfl ?_; intro v2 w6 o6 g6 a6; have HO6 := Lib.hid o6; have HG6 := Lib.hid g6; have HA6 := Lib.hid a6; clear o6 g6 a6))
                have hR6 := HR1.out.add (x := ⟨⟨self, tt.p, tt.S, tt.F⟩, .slice sa tt.S.length sc, .slice fa tt.F.length fc⟩) HLS.out HLF.out (fun b hb => ⟨fun _ e => by have := HKS.out b e; have := HLO.out b hb; omega, fun _ e => by have := HKF.out b e; have := HLO.out b hb; omega⟩) HO6.out HG6.out HA6.out
                have hB6 : Below g w w6 := by
                  have ka := HBw.out.alloc hszr (.cells (tabA self tt.p (.slice sa tt.S.length sc) (.slice fa tt.F.length fc)) 43)
                  exact ka.grown HG6.out (by simp; omega) fun b hb => (HA5.out.lt b hb).1
                have hT6 : tabsOf (X ++ [⟨⟨self, tt.p, tt.S, tt.F⟩, .slice sa tt.S.length sc, .slice fa tt.F.length fc⟩]) = (setL L r).take (k + 1) := by
                  have h1 := HSS.out
                  unfold tabsOf at *
                  rw [List.map_append, h1, ← HT.out, ← HSE2.out]; rfl
                have HST := Lib.hid (StR.mk hB6 hR6 hT6)
                clear hR6 hB6 hT6
                go_wp2
                exact ⟨⟨k + 1, by go_num, by omega, HST.out⟩, by simp [intOf]; omega⟩
    · obtain rfl : k = n := by omega
      have e9 : (setL L r).take k = setL L r := List.take_of_length_le (by rw [setL_length, ← HN.out]; exact Nat.le_refl _)
      have HT9 : Hid (tabsOf X = setL L r) := by rw [← e9]; exact HT.out
      clear e9
      go_wp2
      exact bodyPost_ret (results_tt Try.results15 _ _) rfl ⟨.inr ⟨rfl, _, X, rfl, HR.out.lies, HT9.out⟩, by rw [hg]; exact HB.out⟩
end Go.Proofs.Ytfajfmcabpmchaa
