/- The document's example of a walk. -/
import Derived.Test.YtfajfmcabpmchaaWalKit
import Derived.Test.YtfajfmcabpmchaaWalSetl
namespace Go.Proofs.Ytfajfmcabpmchaa
set_option maxRecDepth 100000
open Go Go.RowKit Go.Sort

theorem set_smal {X : List Tv} {L : List Pe} {r : Nat} (hC : Circ L) (h : tabsOf X = setL L r) (h8 : r ≤ 8) : Smal X ∧ ∀ x ∈ X, Fit x.t.s.1 := by
  have hl : X.length = L.length := by rw [← tabsOf_length, h, setL_length]
  have hx : ∀ x ∈ X, ∃ i, i < L.length ∧ x.t = setT L r i := fun x hx => by
    have hm : x.t ∈ setL L r := by rw [← h]; exact List.mem_map_of_mem hx
    unfold setL at hm
    obtain ⟨i, hi, he⟩ := List.mem_map.1 hm
    exact ⟨i, List.mem_range.1 hi, he.symm⟩
  refine ⟨⟨by have := hC.1; omega, fun x h1 => ?_⟩, fun x h1 => ?_⟩
  · obtain ⟨i, hi, e⟩ := hx x h1
    rw [e]
    unfold setT
    dsimp only
    rw [List.length_map, List.length_map, List.length_range, List.length_range]
    omega
  · obtain ⟨i, hi, e⟩ := hx x h1
    rw [e]
    have := (hC.2 i hi).1
    have := (hC.2 i hi).2.1
    exact fit_of (show -9223372036854775808 ≤ ad L i ∧ ad L i ≤ 9223372036854775807 by omega)
/-- Settled, of any peers and number -/
theorem Settled_any {w : World} {v : Value} {L : List Pe} (r : Int) (hL : Lies w v L) (hw : Wf L) (hn : L.length ≤ 1000000) :
    Calls Try.prog 14 #[v, .int .i64 r] w fun e w' => StP L r.toNat (isB L && okS r) e w' ∧ Below w.heap.size w w' := by
  cases hok : isB L && okS r
  · have := Settled_no r hL hw hn hok
    rw [hok] at this
    exact this
  · rw [Bool.and_eq_true] at hok
    have hC : Circ L := of_decide_eq_true hok.1
    have h2 := hok.2
    unfold okS at h2
    rw [Bool.and_eq_true, decide_eq_true_eq, decide_eq_true_eq] at h2
    obtain ⟨m, rfl⟩ : ∃ m : Nat, r = (m : Int) := ⟨r.toNat, by omega⟩
    rw [Int.toNat_natCast]
    exact Settled_yes m hL hw hC (by omega) (by omega)
/-! the document's row -/
def E3 : List Pe := [(1, 10), (2, 20), (3, 30)]
theorem e3_circ : Circ E3 := by decide +kernel
theorem e3_wf : Wf E3 := by unfold Wf; decide +kernel
theorem e3_walk : walkR (setL E3 2) 1 25 5 = (([1, 2], (3, 30)), 0) := by decide +kernel
theorem e3_lim : walkR (setL E3 2) 1 25 0 = badR 2 := by decide +kernel
theorem e3_no : walkR (setL E3 2) 4 25 5 = badR 1 := by decide +kernel
theorem sm10 (w : World) : Calls Try.prog 32 #[.int .i64 10] w fun e w' => e = .returned (idv 10) ∧ Below w.heap.size w w' := small_all 10 w (by omega) (by decide +kernel)
theorem sm20 (w : World) : Calls Try.prog 32 #[.int .i64 20] w fun e w' => e = .returned (idv 20) ∧ Below w.heap.size w w' := small_all 20 w (by omega) (by decide +kernel)
theorem sm30 (w : World) : Calls Try.prog 32 #[.int .i64 30] w fun e w' => e = .returned (idv 30) ∧ Below w.heap.size w w' := small_all 30 w (by omega) (by decide +kernel)
theorem sm25 (w : World) : Calls Try.prog 32 #[.int .i64 25] w fun e w' => e = .returned (idv 25) ∧ Below w.heap.size w w' := small_all 25 w (by omega) (by decide +kernel)
theorem st_yes {w' : World} {e : Ending} {L : List Pe} {r : Nat} (h : StP L r true e w') : ∃ v X, e = .returned (.tuple #[v, .int .i64 0]) ∧ LiesT w' v X ∧ tabsOf X = setL L r := by
  rcases h with ⟨h, _⟩ | ⟨_, h⟩
  · cases h
  · exact h
theorem ex_walk {w : World} {v : Value} {X : List Tv} (fr most : Int) (hX : LiesT w v X) (hT : tabsOf X = setL E3 2) (hf : Fit fr) :
    Calls Try.prog 10 #[v, .int .i64 fr, idv 25, .int .i64 most] w fun e w' => RouP w.heap.size (walkR (setL E3 2) fr 25 most) e w' ∧ Below w.heap.size w w' := by
  obtain ⟨h1, h2⟩ := set_smal e3_circ hT (by omega)
  have h := walk_any fr 25 most hX h1 h2 hf
  rw [hT] at h
  exact h
theorem ex_1 {w : World} {v : Value} {X : List Tv} (hX : LiesT w v X) (hT : tabsOf X = setL E3 2) :
    Calls Try.prog 10 #[v, .int .i64 1, idv 25, .int .i64 5] w fun e w' => ∃ h, e = .returned (.tuple #[.agg (rtA h (3, 30)), .int .i64 0]) ∧ Nums w' h [1, 2] ∧ Below w.heap.size w w' := by
  have h := ex_walk 1 5 hX hT (fit_of (by decide))
  rw [e3_walk] at h
  exact h.mono fun e w' ⟨⟨h, he, ho⟩, hb⟩ => ⟨h, he, nums_own ho, hb⟩
theorem ex_2 {w : World} {v : Value} {X : List Tv} (hX : LiesT w v X) (hT : tabsOf X = setL E3 2) :
    Calls Try.prog 10 #[v, .int .i64 1, idv 25, .int .i64 0] w fun e w' => ∃ h, e = .returned (.tuple #[.agg (rtA h (0, 0)), .int .i64 2]) ∧ h.oneCell' = true ∧ Below w.heap.size w w' := by
  have h := ex_walk 1 0 hX hT (fit_of (by decide))
  rw [e3_lim] at h
  exact h.mono fun e w' ⟨⟨h, he, ho⟩, hb⟩ => ⟨h, he, own_one ho, hb⟩
theorem ex_3 {w : World} {v : Value} {X : List Tv} (hX : LiesT w v X) (hT : tabsOf X = setL E3 2) :
    Calls Try.prog 10 #[v, .int .i64 4, idv 25, .int .i64 5] w fun e w' => ∃ h, e = .returned (.tuple #[.agg (rtA h (0, 0)), .int .i64 1]) ∧ h.oneCell' = true ∧ Below w.heap.size w w' := by
  have h := ex_walk 4 5 hX hT (fit_of (by decide))
  rw [e3_no] at h
  exact h.mono fun e w' ⟨⟨h, he, ho⟩, hb⟩ => ⟨h, he, own_one ho, hb⟩
theorem two_ints (w : World) : Nums (w.alloc (.cells #[.int .i64 1, .int .i64 2] 3)) (.slice (some ⟨w.heap.size, 0, none⟩) 2 2) [1, 2] := .inr ⟨w.heap.size, 0, 2, rfl, blk_range (Blk.new w #[.int .i64 1, .int .i64 2] 3)⟩
set_option maxHeartbeats 8000000 in
theorem walked_any (w : World) : Calls Try.prog 12 #[] w fun e w' => e = .returned (.bool true) ∧ Below w.heap.size w w' := by
  have hB0 := Below.refl w.heap.size w
  obtain ⟨g, hg⟩ : ∃ g, w.heap.size = g := ⟨_, rfl⟩
  rw [hg] at hB0
  go_enter Try.func12, Try.ntmps12
  go_upto_region 2 with (first
    | (go_at_call 32; (with_reducible refine (sm10 _).mono ?_); rintro e w1 ⟨rfl, k1⟩; have b1 := belTo hg hB0 k1)
    | (go_at_call 32; (with_reducible refine (sm20 _).mono ?_); rintro e w2 ⟨rfl, k2⟩; have b2 := belTo hg b1 k2)
    | (go_at_call 32; (with_reducible refine (sm30 _).mono ?_); rintro e w3 ⟨rfl, k3⟩; have b3 := belTo hg b2 k3)
    | (refine p_buildP rfl _ _ rfl 1 10 rfl rfl ?_)
    | (refine p_buildP rfl _ _ rfl 2 20 rfl rfl ?_)
    | (refine p_buildP rfl _ _ rfl 3 30 rfl rfl ?_)
    | (refine p_slice3 rfl _ _ _ rfl (1, 10) (2, 20) (3, 30) rfl rfl rfl ?_))
  have k4 := (Below.refl w3.heap.size w3).alloc (Nat.le_refl _) (.cells (flat E3).toArray 28)
  have hL : Lies (w3.alloc (.cells (flat E3).toArray 28)) (.slice (some ⟨w3.heap.size, 0, none⟩) 3 3) E3 := .inr ⟨w3.heap.size, 0, 3, rfl, Nat.le_refl _, blk_range (Blk.new w3 (flat E3).toArray 28)⟩
  have b4 := belTo hg b3 k4
  clear k1 k2 k3 b1 b2 b3 hB0 k4
  rw [show (flat [(1, 10), (2, 20), (3, 30)] : List Value) = flat E3 from rfl]
  generalize w3.heap.size = lb at *
  generalize w3.alloc _ = w4 at *
  have hst := Settled_yes 2 hL e3_wf e3_circ (by omega) (by omega)
  rw [show ((2 : Nat) : Int) = 2 from rfl] at hst
  have hL30 : w4.rangeAt lb 42 (peC (3, 30)) := by
    have := row_at hL (k := 2) (x := (3, 30)) rfl
    rwa [show 0 + 2 * 21 = 42 from rfl] at this
  have hlb := range_lt hL30 (pe_ne _)
  go_upto_region 3 with (go_at_call 14; (with_reducible refine hst.mono ?_); rintro e w5 ⟨hP, k5⟩; obtain ⟨tv, X, rfl, hX, hT⟩ := st_yes hP)
  have b5 := belTo hg b4 k5
  have r5 := range_bel hL30 k5 hlb
  have hxl : X.length = 3 := by rw [← tabsOf_length, hT]; rfl
  have HX := Lib.hid hX
  have HT := Lib.hid hT
  obtain ⟨ta, tc, rfl⟩ := hX.form
  rw [hxl] at HX
  rw [hxl]
  clear hst hP k5 hL hL30 b4 hX hT hxl
  have hlb5 := range_lt r5 (pe_ne _)
  have R5 := Lib.hid r5
  clear r5 hlb
  go_upto_region 4 with (first
    | (go_at_call 32; (with_reducible refine (sm25 _).mono ?_); rintro e w6 ⟨rfl, k6⟩; have b6 := belTo hg b5 k6; have hw6 := ex_1 (HX.out.bel k6) HT.out)
    | (go_at_call 10; (with_reducible refine hw6.mono ?_); rintro e w7 ⟨h1, rfl, n1, k7⟩; obtain ⟨ha, hc, rfl⟩ := n1.form; have b7 := belTo hg b6 k7)
    | (refine p_storeR rfl rfl _ _ rfl rfl rfl rfl ?_))
  (try simp only [Act.put])
  have k8 := (Below.refl w7.heap.size w7).alloc (Nat.le_refl _) (.cells (rtA (.slice ha 2 hc) (3, 30)) 30)
  have Q8 := RB.new w7 (.slice ha 2 hc) (3, 30)
  have N8 := n1.bel k8
  have b8 := belTo hg b7 k8
  have HX8 := Lib.hid (((HX.out.bel k6).bel k7).bel k8)
  have R8 := Lib.hid (range_bel (range_bel (range_bel R5.out k6 hlb5) k7 (Nat.lt_of_lt_of_le hlb5 k6.size)) k8 (Nat.lt_of_lt_of_le hlb5 (Nat.le_trans k6.size k7.size)))
  clear n1 k6 k7 k8 b5 b6 b7 HX R5 hw6 hlb5
  have N8' : Hid (Nums (w7.alloc (.cells (rtA (.slice ha 2 hc) (3, 30)) 30)) (.slice ha 2 hc) [1, 2]) := N8
  clear N8
  try rw [show ([1, 2] : List Int).length = 2 from rfl]
  generalize w7.heap.size = q8 at *
  generalize w7.alloc _ = w8 at *
  go_upto_region 5 with (first
    | (go_at_call 32; (with_reducible refine (sm25 _).mono ?_); rintro e w9 ⟨rfl, k9⟩; have hw9 := ex_2 (HX8.out.bel k9) HT.out)
    | (go_at_call 10; (with_reducible refine hw9.mono ?_); rintro e w10 ⟨h2, rfl, o2, k10⟩)
    | (refine p_storeR rfl rfl _ _ rfl rfl rfl o2 ?_))
  (try simp only [Act.put])
  have k11 := (Below.refl w10.heap.size w10).alloc (Nat.le_refl _) (.cells (rtA h2 (0, 0)) 30)
  have kk := (k9.trans (k10.mono k9.size)).trans (k11.mono (Nat.le_trans k9.size k10.size))
  clear k9 k10 k11 hw9
  generalize w10.heap.size = q11 at *
  generalize w10.alloc _ = w11 at *
  have hw11 := HX8.out.bel kk
  go_upto_region 6 with (first
    | (go_at_call 32; (with_reducible refine (sm25 _).mono ?_); rintro e w12 ⟨rfl, k12⟩; have hw12 := ex_3 (hw11.bel k12) HT.out)
    | (go_at_call 10; (with_reducible refine hw12.mono ?_); rintro e w13 ⟨h3, rfl, o3, k13⟩)
    | (refine p_storeR rfl rfl _ _ rfl rfl rfl o3 ?_))
  (try simp only [Act.put])
  have k14 := (Below.refl w13.heap.size w13).alloc (Nat.le_refl _) (.cells (rtA h3 (0, 0)) 30)
  have kl := kk.trans (((k12.trans (k13.mono k12.size)).trans (k14.mono (Nat.le_trans k12.size k13.size))).mono kk.size)
  clear k12 k13 k14 hw12 hw11 kk
  generalize w13.heap.size = q14 at *
  generalize w13.alloc _ = w14 at *
  have b14 := belTo hg b8 kl
  have q14 := Q8.bel kl
  have n14 := N8'.out.bel kl
  have hl8 : lb < w8.heap.size := range_lt R8.out (pe_ne _)
  have r14 := range_bel R8.out kl hl8
  have hl14 : lb < w14.heap.size := range_lt r14 (pe_ne _)
  clear Q8 N8' R8 HX8 HT kl b8 hl8
  have HS : Hid (∀ wx, Below w14.heap.size w14 wx → wx.cell? ⟨q8, 0, none⟩ = some (.slice ha 2 hc) ∧ wx.rangeAt q8 1 (peC (3, 30)) ∧ wx.rangeAt lb 42 (peC (3, 30))) := fun wx hb => ⟨(q14.bel hb).ch, (q14.bel hb).pe, range_bel r14 hb hl14⟩
  have HN : Hid (∀ wx, Below w14.heap.size w14 wx → Nums wx (.slice ha 2 hc) [1, 2]) := fun wx hb => n14.bel hb
  have e33 : eqP (3, 30) (3, 30) = true := eqP_self _
  clear q14 n14 r14 hl14
  refine wp_region_held_drew (S := (fun w9 => w9.cell? ⟨q8, 0, none⟩ = some (.slice ha 2 hc) ∧ w9.rangeAt q8 1 (peC (3, 30)) ∧ w9.rangeAt lb 42 (peC (3, 30)))) (by kernel_rfl) ?_ (fun hHeld => ?_)
  · exact HS.out _ (drew_bel w14)
  have b0 : Below w14.heap.size w14 w14.drew := drew_bel w14
  generalize World.drew w14 = w0 at *
  refine wpAnyH_take (i := 0) (v := ?_) rfl (by kernel_rfl) (by kernel_rfl) (by kernel_rfl) (fun _ _ _ h => h) (Or.inl ⟨by rfl, ?_⟩) (by assumption) ?_
  rotate_left
  · intro w9 hSw
    (try dsimp only at hSw)
    go_simp
    (try with_reducible rfl)
  (try simp only [Act.put]); (try simp only [List.setIfInBounds_toArray]); (try simp only [List.set_cons_succ]); (try simp only [List.set_cons_zero])
  iterate 1
    (try dsimp only [List.getElem_toArray, List.getElem_cons_succ, List.getElem_cons_zero])
    (try simp only [Act.put]); (try simp only [List.setIfInBounds_toArray]); (try simp only [List.set_cons_succ]); (try simp only [List.set_cons_zero])
  refine wpAnyH_take (i := 1) (v := ?_) rfl (by kernel_rfl) (by kernel_rfl) (by kernel_rfl) (fun _ _ _ h => h) (Or.inl ⟨by rfl, ?_⟩) (by assumption) ?_
  rotate_left
  · intro w9 hSw
    (try dsimp only at hSw)
    go_simp
    (try with_reducible rfl)
  (try simp only [Act.put]); (try simp only [List.setIfInBounds_toArray]); (try simp only [List.set_cons_succ]); (try simp only [List.set_cons_zero])
  iterate 1
    (try dsimp only [List.getElem_toArray, List.getElem_cons_succ, List.getElem_cons_zero])
    (try simp only [Act.put]); (try simp only [List.setIfInBounds_toArray]); (try simp only [List.set_cons_succ]); (try simp only [List.set_cons_zero])
  refine wpAnyH_take (i := 2) (v := ?_) rfl (by kernel_rfl) (by kernel_rfl) (by kernel_rfl) (fun _ _ _ h => h) (Or.inl ⟨by rfl, ?_⟩) (by assumption) ?_
  rotate_left
  · intro w9 hSw
    (try dsimp only at hSw)
    go_simp
    (try with_reducible rfl)
  (try simp only [Act.put]); (try simp only [List.setIfInBounds_toArray]); (try simp only [List.set_cons_succ]); (try simp only [List.set_cons_zero])
  iterate 1
    (try dsimp only [List.getElem_toArray, List.getElem_cons_succ, List.getElem_cons_zero])
    (try simp only [Act.put]); (try simp only [List.setIfInBounds_toArray]); (try simp only [List.set_cons_succ]); (try simp only [List.set_cons_zero])
  refine wpAnyH_take (i := 3) (v := ?_) rfl (by kernel_rfl) (by kernel_rfl) (by kernel_rfl) (fun _ _ _ h => h) (Or.inl ⟨by rfl, ?_⟩) (by assumption) ?_
  rotate_left
  · intro w9 hSw
    (try dsimp only at hSw)
    go_simp
    (try with_reducible rfl)
  (try simp only [Act.put]); (try simp only [List.setIfInBounds_toArray]); (try simp only [List.set_cons_succ]); (try simp only [List.set_cons_zero])
  iterate 1
    (try dsimp only [List.getElem_toArray, List.getElem_cons_succ, List.getElem_cons_zero])
    (try simp only [Act.put]); (try simp only [List.setIfInBounds_toArray]); (try simp only [List.set_cons_succ]); (try simp only [List.set_cons_zero])
  refine wpAnyH_take (i := 4) (v := ?_) rfl (by kernel_rfl) (by kernel_rfl) (by kernel_rfl) (fun _ _ _ h => h) (Or.inl ⟨by rfl, ?_⟩) (by assumption) ?_
  rotate_left
  · intro w9 hSw
    (try dsimp only at hSw)
    go_simp
    (try with_reducible rfl)
  (try simp only [Act.put]); (try simp only [List.setIfInBounds_toArray]); (try simp only [List.set_cons_succ]); (try simp only [List.set_cons_zero])
  iterate 1
    (try dsimp only [List.getElem_toArray, List.getElem_cons_succ, List.getElem_cons_zero])
    (try simp only [Act.put]); (try simp only [List.setIfInBounds_toArray]); (try simp only [List.set_cons_succ]); (try simp only [List.set_cons_zero])
  refine wpAnyH_take (i := 5) (v := ?_) rfl (by kernel_rfl) (by kernel_rfl) (by kernel_rfl) (fun _ _ _ h => h) (Or.inl ⟨by rfl, ?_⟩) (by assumption) ?_
  rotate_left
  · intro w9 hSw
    (try dsimp only at hSw)
    go_simp
    (try with_reducible rfl)
  (try simp only [Act.put]); (try simp only [List.setIfInBounds_toArray]); (try simp only [List.set_cons_succ]); (try simp only [List.set_cons_zero])
  iterate 1
    (try dsimp only [List.getElem_toArray, List.getElem_cons_succ, List.getElem_cons_zero])
    (try simp only [Act.put]); (try simp only [List.setIfInBounds_toArray]); (try simp only [List.set_cons_succ]); (try simp only [List.set_cons_zero])
  refine wpAnyH_take (i := 6) (v := ?_) rfl (by kernel_rfl) (by kernel_rfl) (by kernel_rfl) (fun _ _ _ h => h) (Or.inl ⟨by rfl, ?_⟩) (by assumption) ?_
  rotate_left
  · intro w9 hSw
    (try dsimp only at hSw)
    go_simp
    (try with_reducible rfl)
  (try simp only [Act.put]); (try simp only [List.setIfInBounds_toArray]); (try simp only [List.set_cons_succ]); (try simp only [List.set_cons_zero])
  iterate 1
    (try dsimp only [List.getElem_toArray, List.getElem_cons_succ, List.getElem_cons_zero])
    (try simp only [Act.put]); (try simp only [List.setIfInBounds_toArray]); (try simp only [List.set_cons_succ]); (try simp only [List.set_cons_zero])
  refine wpAnyH_take (i := 7) (v := ?_) rfl (by kernel_rfl) (by kernel_rfl) (by kernel_rfl) (fun _ _ _ h => h) (Or.inl ⟨by rfl, ?_⟩) (by assumption) ?_
  rotate_left
  · intro w9 hSw
    (try dsimp only at hSw)
    go_simp
    (try with_reducible rfl)
  (try simp only [Act.put]); (try simp only [List.setIfInBounds_toArray]); (try simp only [List.set_cons_succ]); (try simp only [List.set_cons_zero])
  iterate 1
    (try dsimp only [List.getElem_toArray, List.getElem_cons_succ, List.getElem_cons_zero])
    (try simp only [Act.put]); (try simp only [List.setIfInBounds_toArray]); (try simp only [List.set_cons_succ]); (try simp only [List.set_cons_zero])
  refine wpAnyH_take (i := 8) (v := ?_) rfl (by kernel_rfl) (by kernel_rfl) (by kernel_rfl) (fun _ _ _ h => h) (Or.inl ⟨by rfl, ?_⟩) (by assumption) ?_
  rotate_left
  · intro w9 hSw
    (try dsimp only at hSw)
    go_simp
    (try with_reducible rfl)
  (try simp only [Act.put]); (try simp only [List.setIfInBounds_toArray]); (try simp only [List.set_cons_succ]); (try simp only [List.set_cons_zero])
  iterate 1
    (try dsimp only [List.getElem_toArray, List.getElem_cons_succ, List.getElem_cons_zero])
    (try simp only [Act.put]); (try simp only [List.setIfInBounds_toArray]); (try simp only [List.set_cons_succ]); (try simp only [List.set_cons_zero])
  refine wpAnyH_take (i := 9) (v := ?_) rfl (by kernel_rfl) (by kernel_rfl) (by kernel_rfl) (fun _ _ _ h => h) (Or.inl ⟨by rfl, ?_⟩) (by assumption) ?_
  rotate_left
  · intro w9 hSw
    (try dsimp only at hSw)
    go_simp
    (try with_reducible rfl)
  (try simp only [Act.put]); (try simp only [List.setIfInBounds_toArray]); (try simp only [List.set_cons_succ]); (try simp only [List.set_cons_zero])
  iterate 1
    (try dsimp only [List.getElem_toArray, List.getElem_cons_succ, List.getElem_cons_zero])
    (try simp only [Act.put]); (try simp only [List.setIfInBounds_toArray]); (try simp only [List.set_cons_succ]); (try simp only [List.set_cons_zero])
  refine wpAnyH_take (i := 10) (v := ?_) rfl (by kernel_rfl) (by kernel_rfl) (by kernel_rfl) (fun _ _ _ h => h) (Or.inl ⟨by rfl, ?_⟩) (by assumption) ?_
  rotate_left
  · intro w9 hSw
    (try dsimp only at hSw)
    go_simp
    (try with_reducible rfl)
  (try simp only [Act.put]); (try simp only [List.setIfInBounds_toArray]); (try simp only [List.set_cons_succ]); (try simp only [List.set_cons_zero])
  iterate 1
    (try dsimp only [List.getElem_toArray, List.getElem_cons_succ, List.getElem_cons_zero])
    (try simp only [Act.put]); (try simp only [List.setIfInBounds_toArray]); (try simp only [List.set_cons_succ]); (try simp only [List.set_cons_zero])
  refine wpAnyH_take (i := 11) (v := ?_) rfl (by kernel_rfl) (by kernel_rfl) (by kernel_rfl) (fun _ _ _ h => h) (Or.inl ⟨by rfl, ?_⟩) (by assumption) ?_
  rotate_left
  · intro w9 hSw
    (try dsimp only at hSw)
    go_simp
    (try with_reducible rfl)
  (try simp only [Act.put]); (try simp only [List.setIfInBounds_toArray]); (try simp only [List.set_cons_succ]); (try simp only [List.set_cons_zero])
  iterate 1
    (try dsimp only [List.getElem_toArray, List.getElem_cons_succ, List.getElem_cons_zero])
    (try simp only [Act.put]); (try simp only [List.setIfInBounds_toArray]); (try simp only [List.set_cons_succ]); (try simp only [List.set_cons_zero])
  refine wpAnyH_take (i := 12) (v := ?_) rfl (by kernel_rfl) (by kernel_rfl) (by kernel_rfl) (fun _ _ _ h => h) (Or.inl ⟨by rfl, ?_⟩) (by assumption) ?_
  rotate_left
  · intro w9 hSw
    (try dsimp only at hSw)
    go_simp
    (try with_reducible rfl)
  (try simp only [Act.put]); (try simp only [List.setIfInBounds_toArray]); (try simp only [List.set_cons_succ]); (try simp only [List.set_cons_zero])
  iterate 1
    (try dsimp only [List.getElem_toArray, List.getElem_cons_succ, List.getElem_cons_zero])
    (try simp only [Act.put]); (try simp only [List.setIfInBounds_toArray]); (try simp only [List.set_cons_succ]); (try simp only [List.set_cons_zero])
  refine wpAnyH_take (i := 13) (v := ?_) rfl (by kernel_rfl) (by kernel_rfl) (by kernel_rfl) (fun _ _ _ h => h) (Or.inl ⟨by rfl, ?_⟩) (by assumption) ?_
  rotate_left
  · intro w9 hSw
    (try dsimp only at hSw)
    go_simp
    (try with_reducible rfl)
  (try simp only [Act.put]); (try simp only [List.setIfInBounds_toArray]); (try simp only [List.set_cons_succ]); (try simp only [List.set_cons_zero])
  iterate 1
    (try dsimp only [List.getElem_toArray, List.getElem_cons_succ, List.getElem_cons_zero])
    (try simp only [Act.put]); (try simp only [List.setIfInBounds_toArray]); (try simp only [List.set_cons_succ]); (try simp only [List.set_cons_zero])
  refine wpAnyH_take (i := 14) (v := ?_) rfl (by kernel_rfl) (by kernel_rfl) (by kernel_rfl) (fun _ _ _ h => h) (Or.inl ⟨by rfl, ?_⟩) (by assumption) ?_
  rotate_left
  · intro w9 hSw
    (try dsimp only at hSw)
    have c14 := hSw.1
    go_simp
    (try with_reducible rfl)
  (try simp only [Act.put]); (try simp only [List.setIfInBounds_toArray]); (try simp only [List.set_cons_succ]); (try simp only [List.set_cons_zero])
  iterate 1
    (try dsimp only [List.getElem_toArray, List.getElem_cons_succ, List.getElem_cons_zero])
    (try simp only [Act.put]); (try simp only [List.setIfInBounds_toArray]); (try simp only [List.set_cons_succ]); (try simp only [List.set_cons_zero])
  refine wpAnyH_ready (rs := [15]) (by kernel_rfl) (by simp) ?_
  refine AllReadyH.cons rfl (fun K hK => ?_) ?_
  rotate_left
  · exact AllReadyH.nil
  go_simp
  have b1 := b0.alloc b0.size (.cells #[.int .i64 1, .int .i64 2] 3)
  have n1 := HN.out _ b1
  have m1 := two_ints w0
  refine hK.out _ _ ?_ (fun hHeld => ?_)
  · exact HS.out _ b1
  clear b0
  generalize w0.heap.size = q15 at *
  generalize w0.alloc _ = w1 at *
  have hci := ints_self n1 m1 (by simp)
  clear hK K
  (try simp only [Act.put]); (try simp only [List.setIfInBounds_toArray]); (try simp only [List.set_cons_succ]); (try simp only [List.set_cons_zero])
  iterate 1
    (try dsimp only [List.getElem_toArray, List.getElem_cons_succ, List.getElem_cons_zero])
    (try simp only [Act.put]); (try simp only [List.setIfInBounds_toArray]); (try simp only [List.set_cons_succ]); (try simp only [List.set_cons_zero])
  refine wpAnyH_ready (rs := [16]) (by kernel_rfl) (by simp) ?_
  refine AllReadyH.cons rfl (fun K hK => ?_) ?_
  rotate_left
  · exact AllReadyH.nil
  go_simp
  go_wp2_with (go_at_call 33; (with_reducible refine hci.mono ?_); rintro e w3 ⟨rfl, k3⟩)
  have b3 := b1.trans (k3.mono b1.size)
  refine hK.out _ _ ?_ (fun hHeld => ?_)
  · exact HS.out _ b3
  clear n1 m1 hci k3 b1
  clear hK K
  (try simp only [Act.put]); (try simp only [List.setIfInBounds_toArray]); (try simp only [List.set_cons_succ]); (try simp only [List.set_cons_zero])
  iterate 1
    (try dsimp only [List.getElem_toArray, List.getElem_cons_succ, List.getElem_cons_zero])
    (try simp only [Act.put]); (try simp only [List.setIfInBounds_toArray]); (try simp only [List.set_cons_succ]); (try simp only [List.set_cons_zero])
  refine wpAnyH_take (i := 17) (v := ?_) rfl (by kernel_rfl) (by kernel_rfl) (by kernel_rfl) (fun _ _ _ h => h) (Or.inl ⟨by rfl, ?_⟩) (by assumption) ?_
  rotate_left
  · intro w9 hSw
    (try dsimp only at hSw)
    go_simp
    (try with_reducible rfl)
  (try simp only [Act.put]); (try simp only [List.setIfInBounds_toArray]); (try simp only [List.set_cons_succ]); (try simp only [List.set_cons_zero])
  iterate 1
    (try dsimp only [List.getElem_toArray, List.getElem_cons_succ, List.getElem_cons_zero])
    (try simp only [Act.put]); (try simp only [List.setIfInBounds_toArray]); (try simp only [List.set_cons_succ]); (try simp only [List.set_cons_zero])
  refine wpAnyH_take (i := 18) (v := ?_) rfl (by kernel_rfl) (by kernel_rfl) (by kernel_rfl) (fun _ _ _ h => h) (Or.inl ⟨by rfl, ?_⟩) (by assumption) ?_
  rotate_left
  · intro w9 hSw
    (try dsimp only at hSw)
    go_simp
    (try with_reducible rfl)
  (try simp only [Act.put]); (try simp only [List.setIfInBounds_toArray]); (try simp only [List.set_cons_succ]); (try simp only [List.set_cons_zero])
  iterate 1
    (try dsimp only [List.getElem_toArray, List.getElem_cons_succ, List.getElem_cons_zero])
    (try simp only [Act.put]); (try simp only [List.setIfInBounds_toArray]); (try simp only [List.set_cons_succ]); (try simp only [List.set_cons_zero])
  refine wpAnyH_take (i := 19) (v := ?_) rfl (by kernel_rfl) (by kernel_rfl) (by kernel_rfl) (fun _ _ _ h => h) (Or.inl ⟨by rfl, ?_⟩) (by assumption) ?_
  rotate_left
  · intro w9 hSw
    (try dsimp only at hSw)
    go_simp
    (try with_reducible rfl)
  (try simp only [Act.put]); (try simp only [List.setIfInBounds_toArray]); (try simp only [List.set_cons_succ]); (try simp only [List.set_cons_zero])
  iterate 1
    (try dsimp only [List.getElem_toArray, List.getElem_cons_succ, List.getElem_cons_zero])
    (try simp only [Act.put]); (try simp only [List.setIfInBounds_toArray]); (try simp only [List.set_cons_succ]); (try simp only [List.set_cons_zero])
  refine wpAnyH_take (i := 20) (oi := { dst := some 60, op := Op.load 28 (Operand.tmp 59), type := 28, pos := "law.go:22", after := #[{ on := 19, ground := Ground.data }, { on := 18, ground := Ground.guard }], guard := some (18, true) }) (v := (.agg (peA (3, 30)))) rfl (by kernel_rfl) (by kernel_rfl) (by kernel_rfl) (fun _ _ _ h => h) (y_midP (by rfl) (.tmp 59) rfl q8 1 rfl (3, 30) (fun _ h => h.2.1)) (by assumption) ?_
  (try simp only [Act.put]); (try simp only [List.setIfInBounds_toArray]); (try simp only [List.set_cons_succ]); (try simp only [List.set_cons_zero])
  iterate 1
    (try dsimp only [List.getElem_toArray, List.getElem_cons_succ, List.getElem_cons_zero])
    (try simp only [Act.put]); (try simp only [List.setIfInBounds_toArray]); (try simp only [List.set_cons_succ]); (try simp only [List.set_cons_zero])
  refine wpAnyH_take (i := 21) (v := ?_) rfl (by kernel_rfl) (by kernel_rfl) (by kernel_rfl) (fun _ _ _ h => h) (Or.inl ⟨by rfl, ?_⟩) (by assumption) ?_
  rotate_left
  · intro w9 hSw
    (try dsimp only at hSw)
    go_simp
    (try with_reducible rfl)
  (try simp only [Act.put]); (try simp only [List.setIfInBounds_toArray]); (try simp only [List.set_cons_succ]); (try simp only [List.set_cons_zero])
  iterate 1
    (try dsimp only [List.getElem_toArray, List.getElem_cons_succ, List.getElem_cons_zero])
    (try simp only [Act.put]); (try simp only [List.setIfInBounds_toArray]); (try simp only [List.set_cons_succ]); (try simp only [List.set_cons_zero])
  refine wpAnyH_take (i := 22) (v := ?_) rfl (by kernel_rfl) (by kernel_rfl) (by kernel_rfl) (fun _ _ _ h => h) (Or.inl ⟨by rfl, ?_⟩) (by assumption) ?_
  rotate_left
  · intro w9 hSw
    (try dsimp only at hSw)
    go_simp
    (try with_reducible rfl)
  (try simp only [Act.put]); (try simp only [List.setIfInBounds_toArray]); (try simp only [List.set_cons_succ]); (try simp only [List.set_cons_zero])
  iterate 1
    (try dsimp only [List.getElem_toArray, List.getElem_cons_succ, List.getElem_cons_zero])
    (try simp only [Act.put]); (try simp only [List.setIfInBounds_toArray]); (try simp only [List.set_cons_succ]); (try simp only [List.set_cons_zero])
  refine wpAnyH_take (i := 23) (oi := { dst := some 63, op := Op.load 28 (Operand.tmp 62), type := 28, pos := "law.go:22", after := #[{ on := 22, ground := Ground.data }, { on := 18, ground := Ground.guard }], guard := some (18, true) }) (v := (.agg (peA (3, 30)))) rfl (by kernel_rfl) (by kernel_rfl) (by kernel_rfl) (fun _ _ _ h => h) (y_midP (by rfl) (.tmp 62) rfl lb 42 rfl (3, 30) (fun _ h => h.2.2)) (by assumption) ?_
  (try simp only [Act.put]); (try simp only [List.setIfInBounds_toArray]); (try simp only [List.set_cons_succ]); (try simp only [List.set_cons_zero])
  iterate 1
    (try dsimp only [List.getElem_toArray, List.getElem_cons_succ, List.getElem_cons_zero])
    (try simp only [Act.put]); (try simp only [List.setIfInBounds_toArray]); (try simp only [List.set_cons_succ]); (try simp only [List.set_cons_zero])
  refine wpAnyH_take (i := 24) (oi := { dst := some 64, op := Op.binOp BinOp.eql 28 (Operand.tmp 60) (Operand.tmp 63) 28, type := 4, pos := "law.go:22", after := #[{ on := 20, ground := Ground.data }, { on := 23, ground := Ground.data }, { on := 18, ground := Ground.guard }], guard := some (18, true) }) (v := (.bool true)) rfl (by kernel_rfl) (by kernel_rfl) (by kernel_rfl) (fun _ _ _ h => h) (y_eqlP (by rfl) (.tmp 60) (.tmp 63) rfl (3, 30) (3, 30) rfl rfl e33) (by assumption) ?_
  (try simp only [Act.put]); (try simp only [List.setIfInBounds_toArray]); (try simp only [List.set_cons_succ]); (try simp only [List.set_cons_zero])
  iterate 1
    (try dsimp only [List.getElem_toArray, List.getElem_cons_succ, List.getElem_cons_zero])
    (try simp only [Act.put]); (try simp only [List.setIfInBounds_toArray]); (try simp only [List.set_cons_succ]); (try simp only [List.set_cons_zero])
  refine wpAnyH_take (i := 25) (v := ?_) rfl (by kernel_rfl) (by kernel_rfl) (by kernel_rfl) (fun _ _ _ h => h) (Or.inl ⟨by rfl, ?_⟩) (by assumption) ?_
  rotate_left
  · intro w9 hSw
    (try dsimp only at hSw)
    go_simp
    (try with_reducible rfl)
  (try simp only [Act.put]); (try simp only [List.setIfInBounds_toArray]); (try simp only [List.set_cons_succ]); (try simp only [List.set_cons_zero])
  iterate 1
    (try dsimp only [List.getElem_toArray, List.getElem_cons_succ, List.getElem_cons_zero])
    (try simp only [Act.put]); (try simp only [List.setIfInBounds_toArray]); (try simp only [List.set_cons_succ]); (try simp only [List.set_cons_zero])
  refine wpAnyH_take (i := 26) (v := ?_) rfl (by kernel_rfl) (by kernel_rfl) (by kernel_rfl) (fun _ _ _ h => h) (Or.inl ⟨by rfl, ?_⟩) (by assumption) ?_
  rotate_left
  · intro w9 hSw
    (try dsimp only at hSw)
    go_simp
    (try with_reducible rfl)
  (try simp only [Act.put]); (try simp only [List.setIfInBounds_toArray]); (try simp only [List.set_cons_succ]); (try simp only [List.set_cons_zero])
  iterate 1
    (try dsimp only [List.getElem_toArray, List.getElem_cons_succ, List.getElem_cons_zero])
    (try simp only [Act.put]); (try simp only [List.setIfInBounds_toArray]); (try simp only [List.set_cons_succ]); (try simp only [List.set_cons_zero])
  refine wpAnyH_take (i := 27) (v := ?_) rfl (by kernel_rfl) (by kernel_rfl) (by kernel_rfl) (fun _ _ _ h => h) (Or.inl ⟨by rfl, ?_⟩) (by assumption) ?_
  rotate_left
  · intro w9 hSw
    (try dsimp only at hSw)
    go_simp
    (try with_reducible rfl)
  (try simp only [Act.put]); (try simp only [List.setIfInBounds_toArray]); (try simp only [List.set_cons_succ]); (try simp only [List.set_cons_zero])
  iterate 1
    (try dsimp only [List.getElem_toArray, List.getElem_cons_succ, List.getElem_cons_zero])
    (try simp only [Act.put]); (try simp only [List.setIfInBounds_toArray]); (try simp only [List.set_cons_succ]); (try simp only [List.set_cons_zero])
  refine wpAnyH_take (i := 28) (v := ?_) rfl (by kernel_rfl) (by kernel_rfl) (by kernel_rfl) (fun _ _ _ h => h) (Or.inl ⟨by rfl, ?_⟩) (by assumption) ?_
  rotate_left
  · intro w9 hSw
    (try dsimp only at hSw)
    go_simp
    (try with_reducible rfl)
  (try simp only [Act.put]); (try simp only [List.setIfInBounds_toArray]); (try simp only [List.set_cons_succ]); (try simp only [List.set_cons_zero])
  iterate 1
    (try dsimp only [List.getElem_toArray, List.getElem_cons_succ, List.getElem_cons_zero])
    (try simp only [Act.put]); (try simp only [List.setIfInBounds_toArray]); (try simp only [List.set_cons_succ]); (try simp only [List.set_cons_zero])
  refine wpAnyH_take (i := 29) (v := ?_) rfl (by kernel_rfl) (by kernel_rfl) (by kernel_rfl) (fun _ _ _ h => h) (Or.inl ⟨by rfl, ?_⟩) (by assumption) ?_
  rotate_left
  · intro w9 hSw
    (try dsimp only at hSw)
    go_simp
    (try with_reducible rfl)
  (try simp only [Act.put]); (try simp only [List.setIfInBounds_toArray]); (try simp only [List.set_cons_succ]); (try simp only [List.set_cons_zero])
  iterate 1
    (try dsimp only [List.getElem_toArray, List.getElem_cons_succ, List.getElem_cons_zero])
    (try simp only [Act.put]); (try simp only [List.setIfInBounds_toArray]); (try simp only [List.set_cons_succ]); (try simp only [List.set_cons_zero])
  refine wpAnyH_take (i := 30) (v := ?_) rfl (by kernel_rfl) (by kernel_rfl) (by kernel_rfl) (fun _ _ _ h => h) (Or.inl ⟨by rfl, ?_⟩) (by assumption) ?_
  rotate_left
  · intro w9 hSw
    (try dsimp only at hSw)
    go_simp
    (try with_reducible rfl)
  (try simp only [Act.put]); (try simp only [List.setIfInBounds_toArray]); (try simp only [List.set_cons_succ]); (try simp only [List.set_cons_zero])
  iterate 1
    (try dsimp only [List.getElem_toArray, List.getElem_cons_succ, List.getElem_cons_zero])
    (try simp only [Act.put]); (try simp only [List.setIfInBounds_toArray]); (try simp only [List.set_cons_succ]); (try simp only [List.set_cons_zero])
  refine wpAnyH_take (i := 31) (v := ?_) rfl (by kernel_rfl) (by kernel_rfl) (by kernel_rfl) (fun _ _ _ h => h) (Or.inl ⟨by rfl, ?_⟩) (by assumption) ?_
  rotate_left
  · intro w9 hSw
    (try dsimp only at hSw)
    go_simp
    (try with_reducible rfl)
  (try simp only [Act.put]); (try simp only [List.setIfInBounds_toArray]); (try simp only [List.set_cons_succ]); (try simp only [List.set_cons_zero])
  iterate 1
    (try dsimp only [List.getElem_toArray, List.getElem_cons_succ, List.getElem_cons_zero])
    (try simp only [Act.put]); (try simp only [List.setIfInBounds_toArray]); (try simp only [List.set_cons_succ]); (try simp only [List.set_cons_zero])
  refine wpAnyH_take (i := 32) (v := ?_) rfl (by kernel_rfl) (by kernel_rfl) (by kernel_rfl) (fun _ _ _ h => h) (Or.inl ⟨by rfl, ?_⟩) (by assumption) ?_
  rotate_left
  · intro w9 hSw
    (try dsimp only at hSw)
    go_simp
    (try with_reducible rfl)
  (try simp only [Act.put]); (try simp only [List.setIfInBounds_toArray]); (try simp only [List.set_cons_succ]); (try simp only [List.set_cons_zero])
  iterate 1
    (try dsimp only [List.getElem_toArray, List.getElem_cons_succ, List.getElem_cons_zero])
    (try simp only [Act.put]); (try simp only [List.setIfInBounds_toArray]); (try simp only [List.set_cons_succ]); (try simp only [List.set_cons_zero])
  refine wpAnyH_take (i := 33) (v := ?_) rfl (by kernel_rfl) (by kernel_rfl) (by kernel_rfl) (fun _ _ _ h => h) (Or.inl ⟨by rfl, ?_⟩) (by assumption) ?_
  rotate_left
  · intro w9 hSw
    (try dsimp only at hSw)
    go_simp
    (try with_reducible rfl)
  (try simp only [Act.put]); (try simp only [List.setIfInBounds_toArray]); (try simp only [List.set_cons_succ]); (try simp only [List.set_cons_zero])
  iterate 1
    (try dsimp only [List.getElem_toArray, List.getElem_cons_succ, List.getElem_cons_zero])
    (try simp only [Act.put]); (try simp only [List.setIfInBounds_toArray]); (try simp only [List.set_cons_succ]); (try simp only [List.set_cons_zero])
  refine wpAnyH_take (i := 34) (v := ?_) rfl (by kernel_rfl) (by kernel_rfl) (by kernel_rfl) (fun _ _ _ h => h) (Or.inl ⟨by rfl, ?_⟩) (by assumption) ?_
  rotate_left
  · intro w9 hSw
    (try dsimp only at hSw)
    go_simp
    (try with_reducible rfl)
  (try simp only [Act.put]); (try simp only [List.setIfInBounds_toArray]); (try simp only [List.set_cons_succ]); (try simp only [List.set_cons_zero])
  iterate 1
    (try dsimp only [List.getElem_toArray, List.getElem_cons_succ, List.getElem_cons_zero])
    (try simp only [Act.put]); (try simp only [List.setIfInBounds_toArray]); (try simp only [List.set_cons_succ]); (try simp only [List.set_cons_zero])
  refine wpAnyH_done (by kernel_rfl) ?_ _
  go_wp2
  go_ret
  exact ⟨rfl, by rw [hg]; exact belTo hg b14 (by with_reducible exact b3)⟩
end Go.Proofs.Ytfajfmcabpmchaa
