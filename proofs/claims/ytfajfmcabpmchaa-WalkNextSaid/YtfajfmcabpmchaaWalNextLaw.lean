/- WalkNext: for all tables, every address, place and number the call returns true: tables that are too large are let go; else a walk that is refused has no end, and in one that is not each hop but the last is done at no table and goes on at the nearest known node, and the last one is done with the end. -/
import Derived.Test.YtfajfmcabpmchaaWalRefGo
import Derived.Test.YtfajfmcabpmchaaWalFin
import Derived.Deep.CutRange
namespace Go.Proofs.Ytfajfmcabpmchaa.NextLaw
set_option maxRecDepth 100000
open Go Go.ChangeShapes Go.WideShapes Go.ChangeAt Go.RowKit Go.Sort

theorem wk_code (T : List Tb) (id : Nat) : ∀ (n : Nat) (t : Tb) (H : List Int), (∃ A e, wkG T id n t H = ((A, e), 0)) ∨ ∃ c, c ≠ 0 ∧ c ≠ 1 ∧ wkG T id n t H = badR c := by
  intro n
  induction n with
  | zero =>
    intro t H
    cases hd : doneB t id
    · cases h2 : (nextT t id).2
      · exact .inr ⟨7, by omega, by omega, wk_none hd h2 0 H⟩
      · exact .inr ⟨2, by omega, by omega, wk_lim hd h2 H⟩
    · exact .inl ⟨_, _, wk_done hd 0 H⟩
  | succ n ih =>
    intro t H
    cases hd : doneB t id
    · cases h2 : (nextT t id).2
      · exact .inr ⟨7, by omega, by omega, wk_none hd h2 _ H⟩
      · cases h3 : findT T (nextT t id).1.1 with
        | none => exact .inr ⟨5, by omega, by omega, wk_off hd h2 h3 n H⟩
        | some t' =>
          rw [wk_go hd h2 h3]
          exact ih t' _
    · exact .inl ⟨_, _, wk_done hd _ H⟩
def Way (T : List Tb) (id : Nat) (en : Pe) : List Int → Prop
  | [] => False
  | a :: r => ∃ t, findT T a = some t ∧ ((r = [] ∧ doneB t id = true ∧ firstP t.s t.S = en) ∨ (doneB t id = false ∧ (nextT t id).2 = true ∧ r.head? = some (nextT t id).1.1 ∧ Way T id en r))
theorem wk_way {T : List Tb} {id : Nat} {A : List Int} {en : Pe} : ∀ (n : Nat) (t : Tb) (H : List Int) (a : Int), findT T a = some t → wkG T id n t (H ++ [a]) = ((A, en), 0) →
    ∃ B, A = H ++ B ∧ Way T id en B ∧ B.head? = some a ∧ B.length ≤ n + 1 := by
  intro n
  induction n with
  | zero =>
    intro t H a hf h
    cases hd : doneB t id
    · cases h2 : (nextT t id).2
      · rw [wk_none hd h2] at h; simp [badR] at h
      · rw [wk_lim hd h2] at h; simp [badR] at h
    · rw [wk_done hd] at h
      simp only [Prod.mk.injEq, and_true] at h
      exact ⟨[a], h.1.symm, ⟨t, hf, .inl ⟨rfl, hd, h.2⟩⟩, rfl, Nat.le_refl _⟩
  | succ n ih =>
    intro t H a hf h
    cases hd : doneB t id
    · cases h2 : (nextT t id).2
      · rw [wk_none hd h2] at h; simp [badR] at h
      · cases h3 : findT T (nextT t id).1.1 with
        | none => rw [wk_off hd h2 h3] at h; simp [badR] at h
        | some t' =>
          rw [wk_go hd h2 h3] at h
          obtain ⟨B, h4, h5, h6, h7⟩ := ih t' (H ++ [a]) _ h3 h
          exact ⟨a :: B, by rw [h4, List.append_assoc]; rfl, ⟨t, hf, .inr ⟨hd, h2, h6, h5⟩⟩, rfl, by rw [List.length_cons]; omega⟩
    · rw [wk_done hd] at h
      simp only [Prod.mk.injEq, and_true] at h
      exact ⟨[a], h.1.symm, ⟨t, hf, .inl ⟨rfl, hd, h.2⟩⟩, rfl, by simp⟩
theorem way_at {T : List Tb} {id : Nat} {en : Pe} : ∀ {B : List Int}, Way T id en B → ∀ k, k < B.length →
    ∃ t, findT T (B.getD k 0) = some t ∧ doneB t id = decide (k + 1 = B.length) ∧ (k + 1 = B.length → firstP t.s t.S = en) ∧ (k + 1 < B.length → (nextT t id).2 = true ∧ (nextT t id).1.1 = B.getD (k + 1) 0) := by
  intro B
  induction B with
  | nil => intro h; exact h.elim
  | cons a r ih =>
    rintro ⟨t, hf, hh⟩ k hk
    rw [List.length_cons] at hk ⊢
    rcases hh with ⟨rfl, h1, h2⟩ | ⟨h1, h2, h3, h4⟩
    · obtain rfl : k = 0 := by rw [List.length_nil] at hk; omega
      exact ⟨t, hf, by rw [h1]; rfl, fun _ => h2, fun h => absurd h (by simp)⟩
    · cases k with
      | zero =>
        cases r with
        | nil => cases h3
        | cons b r =>
          rw [List.head?_cons, Option.some.injEq] at h3
          exact ⟨t, hf, by rw [h1, List.length_cons]; exact (decide_eq_false (by omega)).symm, fun h => by rw [List.length_cons] at h; omega, fun _ => ⟨h2, h3.symm⟩⟩
      | succ k =>
        obtain ⟨u, e1, e2, e3, e4⟩ := ih h4 k (by omega)
        refine ⟨u, e1, ?_, fun h => e3 (by omega), fun h => e4 (by omega)⟩
        rw [e2]
        by_cases h : k + 1 = r.length
        · rw [decide_eq_true h, decide_eq_true (by omega)]
        · rw [decide_eq_false h, decide_eq_false (by omega)]
theorem ok_find {T : List Tb} (h : okT T T.length = true) {i : Nat} {t : Tb} (hi : T[i]? = some t) : findT T t.s.1 = some t := by
  obtain ⟨hl, he⟩ := List.getElem?_eq_some_iff.1 hi
  have h1 : okT T (i + 1) = true := by
    cases h2 : okT T (i + 1)
    · rw [ok_leT T (i := i + 1) (j := T.length) hl h2] at h; cases h
    · rfl
  unfold okT at h1
  rw [List.getD_eq_getElem?_getD, hi] at h1
  simp only [Option.getD_some, Bool.and_eq_true, Bool.not_eq_true'] at h1
  have h3 := h1.2.1
  unfold hasT findT at h3
  unfold findT
  rw [Option.isSome_eq_false_iff, Option.isNone_iff_eq_none] at h3
  have e : T = T.take i ++ t :: T.drop (i + 1) := by
    rw [← he, ← List.drop_eq_getElem_cons hl, List.take_append_drop]
  rw [e, List.find?_append, h3]
  simp
/-- what is known of a walk that came to an end -/
structure WayF (X : List Tv) (id : Nat) (A : List Int) (en : Pe) : Prop where
  pos : 1 ≤ A.length
  len : A.length ≤ 65
  has : 0 < X.length
  at_ : ∀ (k i : Nat) (x : Tv), k < A.length → X[i]? = some x → x.t.s.1 = A.getD k 0 → doneB x.t id = decide (k + 1 = A.length) ∧ (k + 1 = A.length → firstP x.t.s x.t.S = en) ∧ (k + 1 < A.length → (nextT x.t id).2 = true ∧ (nextT x.t id).1.1 = A.getD (k + 1) 0)
theorem walk_two (X : List Tv) (fr : Int) (id : Nat) (most : Int) : (∃ c, c ≠ 0 ∧ walkR (tabsOf X) fr id most = badR c) ∨ ∃ A en, walkR (tabsOf X) fr id most = ((A, en), 0) ∧ WayF X id A en := by
  by_cases h : mayB (tabsOf X) fr most = true
  · have h' := h
    unfold mayB rgtT hasT at h'
    simp only [Bool.and_eq_true, decide_eq_true_eq] at h'
    obtain ⟨⟨_, hok⟩, hs, h0, h64⟩ := h'
    obtain ⟨t, ht⟩ := Option.isSome_iff_exists.1 hs
    unfold walkR
    rw [if_pos h, ht, Option.getD_some]
    rcases wk_code (tabsOf X) id most.toNat t [fr] with ⟨A, e, h1⟩ | ⟨c, hc, _, h1⟩
    · refine .inr ⟨A, e, h1, ?_⟩
      obtain ⟨B, hAB, hw, hh, hl⟩ := wk_way most.toNat t [] fr ht h1
      rw [List.nil_append] at hAB
      subst hAB
      refine ⟨?_, by omega, ?_, fun k i x hk hx hxa => ?_⟩
      · cases A with
        | nil => cases hh
        | cons b A => simp
      · have := (find_some ht).2
        rw [← tabsOf_length]
        exact List.length_pos_of_mem this
      · obtain ⟨u, e1, e2⟩ := way_at hw k hk
        rw [← hxa, ok_find hok (tabsOf_get hx), Option.some.injEq] at e1
        subst e1
        exact e2
    · exact .inl ⟨c, hc, h1⟩
  · exact .inl ⟨1, by omega, walkR_no h⟩
theorem builtP0 : Try.prog.built 28 [] = some (peA (0, 0)) := by kernel_rfl
theorem o_build0P {o : Oper} {a : Act} {w : World} {K : Act → World → Prop} {Q : Exit → Act → World → Prop} (ho : o.op = .build 28 #[]) (h : K (a.put o.dst (.agg (peA (0, 0)))) w) : o.wp Try.prog a w K Q := by
  have e := run_build (P := Try.prog) w 28 #[] _ builtP0
  unfold Oper.wp execOp
  simp only [ho, List.map_toArray, List.map_nil, Sem.run_bind, e, Sem.run_pure, Result.andThen_ok]
  exact h
set_option maxHeartbeats 4000000 in
theorem next_bad {w : World} {v : Value} {X : List Tv} (fr : Int) (id : Nat) (most : Int) (c : Int) (hc : c ≠ 0) (hX : LiesT w v X) (hb : bigX X = false) (hfit : ∀ x ∈ X, Fit x.t.s.1) (hft : Fit fr) (hR : walkR (tabsOf X) fr id most = badR c) :
    Calls Try.prog 8 #[v, .int .i64 fr, idv id, .int .i64 most] w fun e w' => e = .returned (.bool true) ∧ Below w.heap.size w w' := by
  have hS := bigX_no hb
  have hBg : Hid (∀ W, Below w.heap.size w W → Calls Try.prog 9 #[v] W fun e w' => e = .returned (.bool false) ∧ Below W.heap.size W w') := fun W k => by
    have := bigX_any (hX.bel k)
    rwa [hb] at this
  have hWk : Hid (∀ W, Below w.heap.size w W → Calls Try.prog 10 #[v, .int .i64 fr, idv id, .int .i64 most] W fun e w' => (∃ a h, e = .returned (.tuple #[.agg (rtA (.slice a 0 h) (0, 0)), .int .i64 c]) ∧ Nums w' (.slice a 0 h) []) ∧ Below W.heap.size W w') := fun W k => (walk_any fr id most (hX.bel k) hS hfit hft).mono fun e w' ⟨x, y⟩ => ⟨by
    rw [hR] at x
    obtain ⟨h, rfl, ho⟩ := x
    have hn := nums_own ho
    obtain ⟨a, c', rfl⟩ := hn.form
    exact ⟨a, c', rfl, hn⟩, y⟩
  clear hb hS hfit hft hR
  obtain ⟨av, cv, rfl⟩ := hX.form
  clear hX
  have hWd : Hid (∀ W, Calls Try.prog 12 #[] W fun e w' => e = .returned (.bool true) ∧ Below W.heap.size W w') := fun W => walked_any W
  have ec : (c == 0) = false := by simpa using hc
  have es := eqP_self (0, 0)
  have i1 := At.new w id
  have B1 := (Below.refl w.heap.size w).alloc (Nat.le_refl _) (.cells (row (dig 20 id)) 24)
  clear hc
  rw [show idv id = .agg (row (dig 20 id)) from rfl]
  go_enter Try.func8, Try.ntmps8
  go_upto_region 1 with (fail)
  generalize hg : w.heap.size = g at *
  generalize w.alloc _ = w1 at *
  go_upto_region 3 with (go_at_call 9; (with_reducible refine (hBg.out _ B1).mono ?_); rintro e w2 ⟨rfl, k2⟩)
  have B2 := belTo hg B1 k2
  have i2 := At.below i1 k2
  have r2 : w2.rangeAt g 0 (row (dig 20 id)).toList := blk_range i2
  go_upto_region 4 with (first
    | (refine p_midI rfl _ rfl g 0 rfl id r2 ?_)
    | (go_at_call 10; (with_reducible refine (hWk.out _ B2).mono ?_); rintro e w3 ⟨⟨a3, c3, rfl, n3⟩, k3⟩)
    | ((with_reducible show wpList _ _ _ (Oper.mk _ (Op.store _ _ _) _ _ _ _ :: _) _ _); refine p_storeR rfl rfl _ _ rfl rfl rfl rfl ?_))
  (try simp only [Act.put])
  have k4 := (Below.refl w3.heap.size w3).alloc (Nat.le_refl _) (.cells (rtA (.slice a3 0 c3) (0, 0)) 30)
  have Q4 := RB.new w3 (.slice a3 0 c3) (0, 0)
  have B4 := belTo hg (belTo hg B2 k3) k4
  clear n3 k3 k4 r2 i2 k2 i1 B1 B2
  generalize w3.heap.size = q4 at *
  generalize w3.alloc _ = w4 at *
  go_wp2_with (first
    | (go_at_call 12; (with_reducible refine (hWd.out _).mono ?_); rintro e w7 ⟨rfl, k7⟩; have B7 := belTo hg B4 k7; have P7 := (Q4.bel k7).pe)
    | (go_guarded; refine o_midP _ rfl q4 1 rfl (0, 0) P7 ?_; simp only [Act.put, List.setIfInBounds_toArray, List.set_cons_succ, List.set_cons_zero])
    | (go_guarded; refine o_build0P rfl ?_; simp only [Act.put, List.setIfInBounds_toArray, List.set_cons_succ, List.set_cons_zero])
    | (go_guarded; refine o_eqlP _ _ rfl (0, 0) (0, 0) rfl rfl es ?_; simp only [Act.put, List.setIfInBounds_toArray, List.set_cons_succ, List.set_cons_zero]))
  go_ret
  exact ⟨rfl, by (try rw [hg]); exact B7⟩
set_option maxHeartbeats 16000000 in
theorem next_good {w : World} {v : Value} {X : List Tv} (fr : Int) (id : Nat) (most : Int) (A : List Int) (en : Pe) (hX : LiesT w v X) (hb : bigX X = false) (hfit : ∀ x ∈ X, Fit x.t.s.1) (hft : Fit fr) (hR : walkR (tabsOf X) fr id most = ((A, en), 0)) (hF : WayF X id A en) :
    Calls Try.prog 8 #[v, .int .i64 fr, idv id, .int .i64 most] w fun e w' => e = .returned (.bool true) ∧ Below w.heap.size w w' := by
  have hS := bigX_no hb
  have hBg : Hid (∀ W, Below w.heap.size w W → Calls Try.prog 9 #[v] W fun e w' => e = .returned (.bool false) ∧ Below W.heap.size W w') := fun W k => by
    have := bigX_any (hX.bel k)
    rwa [hb] at this
  have hWk : Hid (∀ W, Below w.heap.size w W → Calls Try.prog 10 #[v, .int .i64 fr, idv id, .int .i64 most] W fun e w' => (∃ a h, e = .returned (.tuple #[.agg (rtA (.slice a A.length h) en), .int .i64 0]) ∧ Nums w' (.slice a A.length h) A) ∧ Below W.heap.size W w') := fun W k => (walk_any fr id most (hX.bel k) hS hfit hft).mono fun e w' ⟨x, y⟩ => ⟨by
    rw [hR] at x
    obtain ⟨h, rfl, ho⟩ := x
    have hn := nums_own ho
    obtain ⟨a, c', rfl⟩ := hn.form
    exact ⟨a, c', rfl, hn⟩, y⟩
  have HD := Lib.hid (done_tv hX.ins id)
  have HN := Lib.hid (near_tv hX.ins hS id)
  obtain ⟨n, hn⟩ : ∃ n, n = X.length := ⟨_, rfl⟩
  have n16 : n ≤ 1000000 := by have := hS.1; omega
  have hWd : Hid (∀ W, Calls Try.prog 12 #[] W fun e w' => e = .returned (.bool true) ∧ Below W.heap.size W w') := fun W => walked_any W
  have hpos := hF.has
  rcases hX.row with ⟨_, rfl⟩ | ⟨bv, ov, cv, rfl, hcv, hrv⟩
  · simp at hpos
  have hlv : bv < w.heap.size := range_lt (row_tv (j := 0) hrv (tab_at hpos)) (tv_ne _)
  have HRv := Lib.hid hrv
  have HF := Lib.hid hF
  have HNn := Lib.hid hn
  have HLv := Lib.hid hlv
  rw [← hn] at hBg hWk ⊢
  obtain ⟨m, hm⟩ : ∃ m, m = A.length := ⟨_, rfl⟩
  have HM := Lib.hid hm
  rw [← hm] at hWk
  have HN16 := Lib.hid n16
  clear hb hS hfit hft hR hX hn hrv hcv hpos hF hm hlv n16
  have i1 := At.new w id
  have B1 := (Below.refl w.heap.size w).alloc (Nat.le_refl _) (.cells (row (dig 20 id)) 24)
  rw [show idv id = .agg (row (dig 20 id)) from rfl]
  go_enter Try.func8, Try.ntmps8
  go_upto_region 1 with (fail)
  generalize hg : w.heap.size = g at *
  generalize w.alloc _ = w1 at *
  go_upto_region 3 with (go_at_call 9; (with_reducible refine (hBg.out _ B1).mono ?_); rintro e w2 ⟨rfl, k2⟩)
  have B2 := belTo hg B1 k2
  have i2 := At.below i1 k2
  have r2 : w2.rangeAt g 0 (row (dig 20 id)).toList := blk_range i2
  go_upto_region 4 with (first
    | (refine p_midI rfl _ rfl g 0 rfl id r2 ?_)
    | (go_at_call 10; (with_reducible refine (hWk.out _ B2).mono ?_); rintro e w3 ⟨⟨a3, c3, rfl, n3⟩, k3⟩)
    | ((with_reducible show wpList _ _ _ (Oper.mk _ (Op.store _ _ _) _ _ _ _ :: _) _ _); refine p_storeR rfl rfl _ _ rfl rfl rfl rfl ?_))
  (try simp only [Act.put])
  have k4 := (Below.refl w3.heap.size w3).alloc (Nat.le_refl _) (.cells (rtA (.slice a3 m c3) en) 30)
  have Q4 := RB.new w3 (.slice a3 m c3) en
  have N4 := n3.bel k4
  have B4 := belTo hg (belTo hg B2 k3) k4
  have i4 := At.below (At.below i2 k3) k4
  clear n3 k3 k4 r2 i2 k2 i1 B1 B2 hBg hWk
  generalize w3.heap.size = q4 at *
  generalize w3.alloc _ = w4 at *
  obtain ⟨bh, oh, ch, e1, r6, l1⟩ : ∃ b o c, Value.slice a3 m c3 = .slice (some ⟨b, o, none⟩) m c ∧ w4.rangeAt b o (ints A) ∧ b < w4.heap.size := by
    have h := HM.out
    rw [h] at N4 ⊢
    obtain ⟨b, o, c, e, r, l⟩ := N4.some (by have := HF.out.pos; omega)
    exact ⟨b, o, c, e, r, l⟩
  simp only [Value.slice.injEq] at e1
  obtain ⟨rfl, en1, rfl⟩ := e1
  have hm1 : 1 ≤ m := by have := HF.out.pos; have := HM.out; omega
  have hm2 : m ≤ 65 := by have := HF.out.len; have := HM.out; omega
  obtain ⟨mm, hmm⟩ : ∃ mm, m = mm + 1 := ⟨m - 1, by omega⟩
  have HMM := Lib.hid hmm
  have lq := Q4.lt
  have lg := i4.lt
  have lv : bv < w4.heap.size := by have := HLv.out; have := B4.size; omega
  have rv4 := range_bel HRv.out B4 HLv.out
  have HV : Hid (∀ wx, Below w4.heap.size w4 wx → wx.cell? ⟨q4, 0, none⟩ = some (.slice (some ⟨bh, oh, none⟩) m c3) ∧ wx.rangeAt q4 1 (peC en) ∧ wx.rangeAt bh oh (ints A) ∧ wx.rangeAt bv ov (flatV X) ∧ wx.rangeAt g 0 (row (dig 20 id)).toList ∧ Below g w wx) := fun wx hx => ⟨(Q4.bel hx).ch, (Q4.bel hx).pe, range_bel r6 hx l1, range_bel rv4 hx lv, blk_range (i4.below hx), belTo hg B4 hx⟩
  have HL : Hid (q4 < w4.heap.size ∧ bh < w4.heap.size ∧ bv < w4.heap.size ∧ g < w4.heap.size) := ⟨lq, l1, lv, lg⟩
  have HM1 := Lib.hid hm1
  have HM2 := Lib.hid hm2
  clear rv4 HRv Q4 N4 r6 l1 lq lg lv i4 B4 HLv hmm hm1 hm2 en1
  generalize hg4 : w4.heap.size = g4 at *
  go_upto_region 7 with (fail)
  go_loopw [11] (fun iv wr => ∃ k : Nat, iv = .int .i64 (k : Int) ∧ k ≤ m ∧ Below g4 w4 wr) (fun iv _ => m - (intOf iv).toNat)
  case atStart => exact ⟨0, rfl, Nat.zero_le _, Below.refl _ _⟩
  case round =>
    obtain ⟨k, rfl, hk, hB⟩ := hrel
    have HB := Lib.hid hB
    have c0 := (HV.out wr hB).1
    clear hB
    by_cases hlt : k < m
    · have d1 : (k : Int) < (m : Int) := by omega
      have d2 : decide (k < m) = true := decide_eq_true hlt
      have HLT := Lib.hid hlt
      clear hk hlt
      go_upto_region 10 with (fail)
      clear c0 d1 d2
      go_loopw [12] (fun iv wv => ∃ i : Nat, iv = .int .i64 (i : Int) ∧ i ≤ n ∧ Below g4 w4 wv) (fun iv _ => n - (intOf iv).toNat)
      case atStart => exact ⟨0, rfl, Nat.zero_le _, HB.out⟩
      case round =>
        obtain ⟨i, rfl, hi, hB⟩ := hrel
        have HB2 := Lib.hid hB
        clear hB
        by_cases hin : i < n
        · obtain ⟨x, hx⟩ : ∃ x, X[i]? = some x := ⟨_, tab_at (by have := HNn.out; omega)⟩
          have HX := Lib.hid hx
          have HIN := Lib.hid hin
          have e1 : (i : Int) < (n : Int) := by omega
          have e2 : decide (i < n) = true := decide_eq_true hin
          have e3 : (0 : Int) ≤ (i : Int) := by omega
          have e4 : (0 : Int) ≤ (k : Int) := by omega
          have e5 : (k : Int) < (m : Int) := by have := HLT.out; omega
          clear hi hin hx
          go_upto_region 12 with (fail)
          have v1 := (HV.out wr HB2.out).1
          have v2 := tv_ad (row_tv (HV.out wr HB2.out).2.2.2.1 HX.out)
          have v3 := nums_cell (HV.out wr HB2.out).2.2.1 (i := k) (by have := HLT.out; have := HM.out; omega)
          have hsz := HB2.out.size
          have l1 : q4 < wr.heap.size := by have := HL.out; omega
          have l2 : bh < wr.heap.size := by have := HL.out; omega
          have l3 : bv < wr.heap.size := by have := HL.out; omega
          by_cases hxa : x.t.s.1 = A.getD k 0
          · have hf := HF.out.at_ k i x (by have := HLT.out; have := HM.out; omega) HX.out hxa
            rw [← hxa] at v3
            have ex : (x.t.s.1 == x.t.s.1) = true := by simp
            rw [← HM.out] at hf
            have HFX := Lib.hid hf
            clear hf hxa
            refine wp_region_quiet_below (by kernel_rfl) (by kernel_rfl) ?_
            repeat (first
              | go_big_quiet_skip
              | (go_big_quiet_want
                 first
                 | (first | (refine q_cellN _ rfl bv (ov + i * 44) rfl _ v2 l3 ?_) | (refine q_cellS _ rfl q4 0 rfl _ v1 l1 ?_) | (refine q_cellN _ rfl bh (oh + k) rfl _ v3 l2 ?_)
                    simp only [Act.put, List.setIfInBounds_toArray, List.set_cons_succ, List.set_cons_zero]
                    go_big_quiet_on)
                 | (go_big_quiet_op
                    first | go_big_quiet_on | go_big_quiet_call (first | fail))))
            refine wpQuiet_nil ?_
            intro w5 hw'
            have kq := quiet_end hw'
            clear hw'
            have HB5 := Lib.hid (belTo hg4 HB2.out kq)
            clear kq v1 v2 v3 l1 l2 l3 ex hsz
            go_upto_region 13 with (fail)
            have HS : Hid (∀ wx, Below w5.heap.size w5 wx → wx.rangeAt bv (ov + i * 44) (tvC x) ∧ wx.rangeAt g 0 (row (dig 20 id)).toList) := fun wx hb => by
              have h := HV.out wx (belTo hg4 HB5.out hb)
              exact ⟨row_tv h.2.2.2.1 HX.out, h.2.2.2.2.1⟩
            have HC : Hid (∀ wx, Below w5.heap.size w5 wx → Calls Try.prog 24 #[.agg (tvA x), idv id] wx fun e w' => e = .returned (.tuple #[.agg (peA (firstP x.t.s x.t.S)), .bool (doneB x.t id)]) ∧ Below wx.heap.size wx w') := fun wx hb => HD.out x (List.mem_of_getElem? HX.out) wx (by rw [hg]; exact (HV.out wx (belTo hg4 HB5.out hb)).2.2.2.2.2)
            have HC2 : Hid (∀ wx, Below w5.heap.size w5 wx → Calls Try.prog 25 #[.agg (tvA x), idv id, nilS] wx fun e w' => e = .returned (.tuple #[.agg (peA (nextT x.t id).1), .bool (nextT x.t id).2]) ∧ Below wx.heap.size wx w') := fun wx hb => HN.out x (List.mem_of_getElem? HX.out) wx (by rw [hg]; exact (HV.out wx (belTo hg4 HB5.out hb)).2.2.2.2.2)
            generalize firstP x.t.s x.t.S = fp at *
            generalize doneB x.t id = dn at *
            generalize nextT x.t id = nx at *
            go_cut [13, 14] from 62 to 116 (fun v u wx => CaQ w5 fp dn v u wx)
            case first => as_aux_lemma =>
              refine wp_region_held_drew (S := (fun w9 => w9.rangeAt bv (ov + i * 44) (tvC x) ∧ w9.rangeAt g 0 (row (dig 20 id)).toList)) (by kernel_rfl) ?_ (fun hHeld => ?_)
              · exact HS.out _ (drew_bel w5)
              have b0 : Below w5.heap.size w5 w5.drew := drew_bel w5
              generalize World.drew w5 = w0 at *
              refine wpAnyH_take (i := 0) (v := ?_) rfl (by kernel_rfl) (by kernel_rfl) (by kernel_rfl) (fun _ _ _ h => h) (Or.inl ⟨by rfl, ?_⟩) (by assumption) ?_
              rotate_left
              · intro w9 hSw
                (try dsimp only at hSw)
                go_simp
                (try with_reducible rfl)
              (try simp only [Act.put]); (try simp only [List.setIfInBounds_toArray]); (try simp only [List.set_cons_succ]); (try simp only [List.set_cons_zero])
              iterate 1
                (try dsimp only [List.getElem_toArray, List.getElem_cons_succ, List.getElem_cons_zero])
                (try simp only [Act.put]); (try simp only [List.setIfInBounds_toArray]); (try simp only [List.set_cons_succ]); (try simp only [List.set_cons_zero])
              refine wpAnyH_take (i := 1) (v := ?_) rfl (by kernel_rfl) (by kernel_rfl) (by kernel_rfl) (fun _ _ _ h => h) (Or.inl ⟨by rfl, ?_⟩) (by assumption) ?_
              rotate_left
              · intro w9 hSw
                (try dsimp only at hSw)
                go_simp
                (try with_reducible rfl)
              (try simp only [Act.put]); (try simp only [List.setIfInBounds_toArray]); (try simp only [List.set_cons_succ]); (try simp only [List.set_cons_zero])
              iterate 1
                (try dsimp only [List.getElem_toArray, List.getElem_cons_succ, List.getElem_cons_zero])
                (try simp only [Act.put]); (try simp only [List.setIfInBounds_toArray]); (try simp only [List.set_cons_succ]); (try simp only [List.set_cons_zero])
              refine wpAnyH_take (i := 2) (v := ?_) rfl (by kernel_rfl) (by kernel_rfl) (by kernel_rfl) (fun _ _ _ h => h) (Or.inl ⟨by rfl, ?_⟩) (by assumption) ?_
              rotate_left
              · intro w9 hSw
                (try dsimp only at hSw)
                go_simp
                (try with_reducible rfl)
              (try simp only [Act.put]); (try simp only [List.setIfInBounds_toArray]); (try simp only [List.set_cons_succ]); (try simp only [List.set_cons_zero])
              iterate 1
                (try dsimp only [List.getElem_toArray, List.getElem_cons_succ, List.getElem_cons_zero])
                (try simp only [Act.put]); (try simp only [List.setIfInBounds_toArray]); (try simp only [List.set_cons_succ]); (try simp only [List.set_cons_zero])
              refine wpAnyH_take (i := 3) (oi := { dst := some 66, op := Op.load 43 (Operand.tmp 65), type := 43, pos := "law.go:142", after := #[{ on := 2, ground := Ground.data }], guard := none }) (v := .agg (tvA x)) rfl (by kernel_rfl) (by kernel_rfl) (by kernel_rfl) (fun _ _ _ h => h) (y_rowT (by rfl) (.tmp 65) rfl bv (ov + i * 44) rfl x (fun _ h => h.1)) (by assumption) ?_
              (try simp only [Act.put]); (try simp only [List.setIfInBounds_toArray]); (try simp only [List.set_cons_succ]); (try simp only [List.set_cons_zero])
              iterate 1
                (try dsimp only [List.getElem_toArray, List.getElem_cons_succ, List.getElem_cons_zero])
                (try simp only [Act.put]); (try simp only [List.setIfInBounds_toArray]); (try simp only [List.set_cons_succ]); (try simp only [List.set_cons_zero])
              refine wpAnyH_take (i := 4) (oi := { dst := some 67, op := Op.load 24 (Operand.tmp 6), type := 24, pos := "law.go:142", after := #[], guard := none }) (v := (idv id)) rfl (by kernel_rfl) (by kernel_rfl) (by kernel_rfl) (fun _ _ _ h => h) (y_midI (by rfl) (.tmp 6) rfl g 0 rfl id (fun _ h => h.2)) (by assumption) ?_
              (try simp only [Act.put]); (try simp only [List.setIfInBounds_toArray]); (try simp only [List.set_cons_succ]); (try simp only [List.set_cons_zero])
              iterate 1
                (try dsimp only [List.getElem_toArray, List.getElem_cons_succ, List.getElem_cons_zero])
                (try simp only [Act.put]); (try simp only [List.setIfInBounds_toArray]); (try simp only [List.set_cons_succ]); (try simp only [List.set_cons_zero])
              refine wpAnyH_ready (rs := [5, 9]) (by kernel_rfl) (by simp) ?_
              refine AllReadyH.cons rfl (fun K hK => ?_) ?_
              · go_simp
                go_wp2_with (go_at_call 24; (with_reducible refine (HC.out _ b0).mono ?_); rintro e w1 ⟨rfl, k1⟩)
                have b1 := b0.trans (k1.mono b0.size)
                refine hK.out _ _ ?_ (fun hHeld => ?_)
                · exact HS.out _ b1
                clear hK K
                (try simp only [Act.put]); (try simp only [List.setIfInBounds_toArray]); (try simp only [List.set_cons_succ]); (try simp only [List.set_cons_zero])
                iterate 1
                  (try dsimp only [List.getElem_toArray, List.getElem_cons_succ, List.getElem_cons_zero])
                  (try simp only [Act.put]); (try simp only [List.setIfInBounds_toArray]); (try simp only [List.set_cons_succ]); (try simp only [List.set_cons_zero])
                refine wpAnyH_take (i := 6) (v := ?_) rfl (by kernel_rfl) (by kernel_rfl) (by kernel_rfl) (fun _ _ _ h => h) (Or.inl ⟨by rfl, ?_⟩) (by assumption) ?_
                rotate_left
                · intro w9 hSw
                  (try dsimp only at hSw)
                  go_simp
                  (try with_reducible rfl)
                (try simp only [Act.put]); (try simp only [List.setIfInBounds_toArray]); (try simp only [List.set_cons_succ]); (try simp only [List.set_cons_zero])
                iterate 1
                  (try dsimp only [List.getElem_toArray, List.getElem_cons_succ, List.getElem_cons_zero])
                  (try simp only [Act.put]); (try simp only [List.setIfInBounds_toArray]); (try simp only [List.set_cons_succ]); (try simp only [List.set_cons_zero])
                refine wpAnyH_take (i := 7) (v := ?_) rfl (by kernel_rfl) (by kernel_rfl) (by kernel_rfl) (fun _ _ _ h => h) (Or.inl ⟨by rfl, ?_⟩) (by assumption) ?_
                rotate_left
                · intro w9 hSw
                  (try dsimp only at hSw)
                  go_simp
                  (try with_reducible rfl)
                (try simp only [Act.put]); (try simp only [List.setIfInBounds_toArray]); (try simp only [List.set_cons_succ]); (try simp only [List.set_cons_zero])
                iterate 1
                  (try dsimp only [List.getElem_toArray, List.getElem_cons_succ, List.getElem_cons_zero])
                  (try simp only [Act.put]); (try simp only [List.setIfInBounds_toArray]); (try simp only [List.set_cons_succ]); (try simp only [List.set_cons_zero])
                refine wpAnyH_take (i := 8) (v := ?_) rfl (by kernel_rfl) (by kernel_rfl) (by kernel_rfl) (fun _ _ _ h => h) (Or.inl ⟨by rfl, ?_⟩) (by assumption) ?_
                rotate_left
                · intro w9 hSw
                  (try dsimp only at hSw)
                  go_simp
                  (try with_reducible rfl)
                (try simp only [Act.put]); (try simp only [List.setIfInBounds_toArray]); (try simp only [List.set_cons_succ]); (try simp only [List.set_cons_zero])
                iterate 1
                  (try dsimp only [List.getElem_toArray, List.getElem_cons_succ, List.getElem_cons_zero])
                  (try simp only [Act.put]); (try simp only [List.setIfInBounds_toArray]); (try simp only [List.set_cons_succ]); (try simp only [List.set_cons_zero])
                refine wpAnyH_ready (rs := [9]) (by kernel_rfl) (by simp) ?_
                refine AllReadyH.cons rfl (fun K hK => ?_) ?_
                rotate_left
                · exact AllReadyH.nil
                go_simp
                have x2 := PB.zero w1
                have b2 := b1.alloc b1.size (.cells (peA (0, 0)) 28)
                have l2 := b1.size
                refine hK.out _ _ ?_ (fun hHeld => ?_)
                · (try rw [peer_zero]); exact HS.out _ b2
                clear hK K
                try rw [peer_zero] at hHeld
                (try simp only [Act.put]); (try simp only [List.setIfInBounds_toArray]); (try simp only [List.set_cons_succ]); (try simp only [List.set_cons_zero])
                try rw [peer_zero]
                generalize w1.heap.size = gp at *
                generalize w1.alloc _ = w2 at *
                iterate 1
                  (try dsimp only [List.getElem_toArray, List.getElem_cons_succ, List.getElem_cons_zero])
                  (try simp only [Act.put]); (try simp only [List.setIfInBounds_toArray]); (try simp only [List.set_cons_succ]); (try simp only [List.set_cons_zero])
                refine wpAnyH_ready (rs := [10]) (by kernel_rfl) (by simp) ?_
                refine AllReadyH.cons rfl (fun K hK => ?_) ?_
                rotate_left
                · exact AllReadyH.nil
                rw [if_pos (by rfl)]
                have b9 := bel_setRow b2 l2 (peA fp)
                have x9 := x2.set fp
                refine wp_store_row 28 _ _ rfl gp (peA fp) rfl rfl 28 (peA (0, 0)) x2 (by rw [peA_size]; exact sizeP) (by rw [peA_size, peA_size]) (peA_one fp) ?_
                refine hK.out _ _ ?_ (fun hHeld => ?_)
                · exact HS.out _ b9
                clear hK K
                (try simp only [Act.put]); (try simp only [List.setIfInBounds_toArray]); (try simp only [List.set_cons_succ]); (try simp only [List.set_cons_zero])
                generalize w2.setRow gp _ = w9 at *
                iterate 1
                  (try dsimp only [List.getElem_toArray, List.getElem_cons_succ, List.getElem_cons_zero])
                  (try simp only [Act.put]); (try simp only [List.setIfInBounds_toArray]); (try simp only [List.set_cons_succ]); (try simp only [List.set_cons_zero])
                refine wpAnyH_take (i := 11) (v := ?_) rfl (by kernel_rfl) (by kernel_rfl) (by kernel_rfl) (fun _ _ _ h => h) (Or.inl ⟨by rfl, ?_⟩) (by assumption) ?_
                rotate_left
                · intro w9 hSw
                  (try dsimp only at hSw)
                  go_simp
                  (try with_reducible rfl)
                (try simp only [Act.put]); (try simp only [List.setIfInBounds_toArray]); (try simp only [List.set_cons_succ]); (try simp only [List.set_cons_zero])
                iterate 1
                  (try dsimp only [List.getElem_toArray, List.getElem_cons_succ, List.getElem_cons_zero])
                  (try simp only [Act.put]); (try simp only [List.setIfInBounds_toArray]); (try simp only [List.set_cons_succ]); (try simp only [List.set_cons_zero])
                refine wpAnyH_done (by kernel_rfl) ?_ _
                go_wp2
                go_meet
                exact CaQ.mk b9 x9 l2
              refine AllReadyH.cons rfl (fun K hK => ?_) ?_
              · go_simp
                have x2 := PB.zero w0
                have b1 := b0.alloc b0.size (.cells (peA (0, 0)) 28)
                have l2 := b0.size
                refine hK.out _ _ ?_ (fun hHeld => ?_)
                · (try rw [peer_zero]); exact HS.out _ b1
                clear hK K
                try rw [peer_zero] at hHeld
                (try simp only [Act.put]); (try simp only [List.setIfInBounds_toArray]); (try simp only [List.set_cons_succ]); (try simp only [List.set_cons_zero])
                try rw [peer_zero]
                generalize w0.heap.size = gp at *
                generalize w0.alloc _ = w1 at *
                iterate 1
                  (try dsimp only [List.getElem_toArray, List.getElem_cons_succ, List.getElem_cons_zero])
                  (try simp only [Act.put]); (try simp only [List.setIfInBounds_toArray]); (try simp only [List.set_cons_succ]); (try simp only [List.set_cons_zero])
                refine wpAnyH_ready (rs := [5]) (by kernel_rfl) (by simp) ?_
                refine AllReadyH.cons rfl (fun K hK => ?_) ?_
                rotate_left
                · exact AllReadyH.nil
                go_simp
                go_wp2_with (go_at_call 24; (with_reducible refine (HC.out _ b1).mono ?_); rintro e w2 ⟨rfl, k1⟩)
                have b2 := b1.trans (k1.mono b1.size)
                have x2 := x2.bel k1
                refine hK.out _ _ ?_ (fun hHeld => ?_)
                · exact HS.out _ b2
                clear hK K
                (try simp only [Act.put]); (try simp only [List.setIfInBounds_toArray]); (try simp only [List.set_cons_succ]); (try simp only [List.set_cons_zero])
                iterate 1
                  (try dsimp only [List.getElem_toArray, List.getElem_cons_succ, List.getElem_cons_zero])
                  (try simp only [Act.put]); (try simp only [List.setIfInBounds_toArray]); (try simp only [List.set_cons_succ]); (try simp only [List.set_cons_zero])
                refine wpAnyH_take (i := 6) (v := ?_) rfl (by kernel_rfl) (by kernel_rfl) (by kernel_rfl) (fun _ _ _ h => h) (Or.inl ⟨by rfl, ?_⟩) (by assumption) ?_
                rotate_left
                · intro w9 hSw
                  (try dsimp only at hSw)
                  go_simp
                  (try with_reducible rfl)
                (try simp only [Act.put]); (try simp only [List.setIfInBounds_toArray]); (try simp only [List.set_cons_succ]); (try simp only [List.set_cons_zero])
                iterate 1
                  (try dsimp only [List.getElem_toArray, List.getElem_cons_succ, List.getElem_cons_zero])
                  (try simp only [Act.put]); (try simp only [List.setIfInBounds_toArray]); (try simp only [List.set_cons_succ]); (try simp only [List.set_cons_zero])
                refine wpAnyH_take (i := 7) (v := ?_) rfl (by kernel_rfl) (by kernel_rfl) (by kernel_rfl) (fun _ _ _ h => h) (Or.inl ⟨by rfl, ?_⟩) (by assumption) ?_
                rotate_left
                · intro w9 hSw
                  (try dsimp only at hSw)
                  go_simp
                  (try with_reducible rfl)
                (try simp only [Act.put]); (try simp only [List.setIfInBounds_toArray]); (try simp only [List.set_cons_succ]); (try simp only [List.set_cons_zero])
                iterate 1
                  (try dsimp only [List.getElem_toArray, List.getElem_cons_succ, List.getElem_cons_zero])
                  (try simp only [Act.put]); (try simp only [List.setIfInBounds_toArray]); (try simp only [List.set_cons_succ]); (try simp only [List.set_cons_zero])
                refine wpAnyH_take (i := 8) (v := ?_) rfl (by kernel_rfl) (by kernel_rfl) (by kernel_rfl) (fun _ _ _ h => h) (Or.inl ⟨by rfl, ?_⟩) (by assumption) ?_
                rotate_left
                · intro w9 hSw
                  (try dsimp only at hSw)
                  go_simp
                  (try with_reducible rfl)
                (try simp only [Act.put]); (try simp only [List.setIfInBounds_toArray]); (try simp only [List.set_cons_succ]); (try simp only [List.set_cons_zero])
                iterate 1
                  (try dsimp only [List.getElem_toArray, List.getElem_cons_succ, List.getElem_cons_zero])
                  (try simp only [Act.put]); (try simp only [List.setIfInBounds_toArray]); (try simp only [List.set_cons_succ]); (try simp only [List.set_cons_zero])
                refine wpAnyH_ready (rs := [10]) (by kernel_rfl) (by simp) ?_
                refine AllReadyH.cons rfl (fun K hK => ?_) ?_
                rotate_left
                · exact AllReadyH.nil
                rw [if_pos (by rfl)]
                have b9 := bel_setRow b2 l2 (peA fp)
                have x9 := x2.set fp
                refine wp_store_row 28 _ _ rfl gp (peA fp) rfl rfl 28 (peA (0, 0)) x2 (by rw [peA_size]; exact sizeP) (by rw [peA_size, peA_size]) (peA_one fp) ?_
                refine hK.out _ _ ?_ (fun hHeld => ?_)
                · exact HS.out _ b9
                clear hK K
                (try simp only [Act.put]); (try simp only [List.setIfInBounds_toArray]); (try simp only [List.set_cons_succ]); (try simp only [List.set_cons_zero])
                generalize w2.setRow gp _ = w9 at *
                iterate 1
                  (try dsimp only [List.getElem_toArray, List.getElem_cons_succ, List.getElem_cons_zero])
                  (try simp only [Act.put]); (try simp only [List.setIfInBounds_toArray]); (try simp only [List.set_cons_succ]); (try simp only [List.set_cons_zero])
                refine wpAnyH_take (i := 11) (v := ?_) rfl (by kernel_rfl) (by kernel_rfl) (by kernel_rfl) (fun _ _ _ h => h) (Or.inl ⟨by rfl, ?_⟩) (by assumption) ?_
                rotate_left
                · intro w9 hSw
                  (try dsimp only at hSw)
                  go_simp
                  (try with_reducible rfl)
                (try simp only [Act.put]); (try simp only [List.setIfInBounds_toArray]); (try simp only [List.set_cons_succ]); (try simp only [List.set_cons_zero])
                iterate 1
                  (try dsimp only [List.getElem_toArray, List.getElem_cons_succ, List.getElem_cons_zero])
                  (try simp only [Act.put]); (try simp only [List.setIfInBounds_toArray]); (try simp only [List.set_cons_succ]); (try simp only [List.set_cons_zero])
                refine wpAnyH_done (by kernel_rfl) ?_ _
                go_wp2
                go_meet
                exact CaQ.mk b9 x9 l2
              exact AllReadyH.nil
            case rest =>
              obtain ⟨gp, rfl, rfl, hb1, hpb, hlo⟩ := hcut
              have HB6 := Lib.hid (belTo hg4 HB5.out hb1)
              have HP := Lib.hid hpb
              have HS1 : Hid (∀ wx, Below wc.heap.size wc wx → wx.rangeAt bv (ov + i * 44) (tvC x) ∧ wx.rangeAt g 0 (row (dig 20 id)).toList) := fun wx hb => HS.out wx (hb1.trans (hb.mono hb1.size))
              have HC1 : Hid (∀ wx, Below wc.heap.size wc wx → Calls Try.prog 25 #[.agg (tvA x), idv id, nilS] wx fun e w' => e = .returned (.tuple #[.agg (peA nx.1), .bool nx.2]) ∧ Below wx.heap.size wx w') := fun wx hb => HC2.out wx (hb1.trans (hb.mono hb1.size))
              clear HS HC HC2 hb1 hpb hlo HB5
              have HS := HS1
              have HC := HC1
              clear HS1 HC1
              go_upto_region 14 with (fail)
              generalize wc = wd at *
              go_cut [15, 16] from 62 to 116 (fun v u wx => CaQ wd nx.1 nx.2 v u wx)
              case first => as_aux_lemma =>
                refine wp_region_held_drew (S := (fun w9 => w9.rangeAt bv (ov + i * 44) (tvC x) ∧ w9.rangeAt g 0 (row (dig 20 id)).toList)) (by kernel_rfl) ?_ (fun hHeld => ?_)
                · exact HS.out _ (drew_bel wd)
                have b0 : Below wd.heap.size wd wd.drew := drew_bel wd
                generalize World.drew wd = w0 at *
                refine wpAnyH_take (i := 0) (v := ?_) rfl (by kernel_rfl) (by kernel_rfl) (by kernel_rfl) (fun _ _ _ h => h) (Or.inl ⟨by rfl, ?_⟩) (by assumption) ?_
                rotate_left
                · intro w9 hSw
                  (try dsimp only at hSw)
                  go_simp
                  (try with_reducible rfl)
                (try simp only [Act.put]); (try simp only [List.setIfInBounds_toArray]); (try simp only [List.set_cons_succ]); (try simp only [List.set_cons_zero])
                iterate 1
                  (try dsimp only [List.getElem_toArray, List.getElem_cons_succ, List.getElem_cons_zero])
                  (try simp only [Act.put]); (try simp only [List.setIfInBounds_toArray]); (try simp only [List.set_cons_succ]); (try simp only [List.set_cons_zero])
                refine wpAnyH_take (i := 1) (v := ?_) rfl (by kernel_rfl) (by kernel_rfl) (by kernel_rfl) (fun _ _ _ h => h) (Or.inl ⟨by rfl, ?_⟩) (by assumption) ?_
                rotate_left
                · intro w9 hSw
                  (try dsimp only at hSw)
                  go_simp
                  (try with_reducible rfl)
                (try simp only [Act.put]); (try simp only [List.setIfInBounds_toArray]); (try simp only [List.set_cons_succ]); (try simp only [List.set_cons_zero])
                iterate 1
                  (try dsimp only [List.getElem_toArray, List.getElem_cons_succ, List.getElem_cons_zero])
                  (try simp only [Act.put]); (try simp only [List.setIfInBounds_toArray]); (try simp only [List.set_cons_succ]); (try simp only [List.set_cons_zero])
                refine wpAnyH_take (i := 2) (v := ?_) rfl (by kernel_rfl) (by kernel_rfl) (by kernel_rfl) (fun _ _ _ h => h) (Or.inl ⟨by rfl, ?_⟩) (by assumption) ?_
                rotate_left
                · intro w9 hSw
                  (try dsimp only at hSw)
                  go_simp
                  (try with_reducible rfl)
                (try simp only [Act.put]); (try simp only [List.setIfInBounds_toArray]); (try simp only [List.set_cons_succ]); (try simp only [List.set_cons_zero])
                iterate 1
                  (try dsimp only [List.getElem_toArray, List.getElem_cons_succ, List.getElem_cons_zero])
                  (try simp only [Act.put]); (try simp only [List.setIfInBounds_toArray]); (try simp only [List.set_cons_succ]); (try simp only [List.set_cons_zero])
                refine wpAnyH_take (i := 3) (oi := { dst := some 75, op := Op.load 43 (Operand.tmp 74), type := 43, pos := "law.go:143", after := #[{ on := 2, ground := Ground.data }], guard := none }) (v := .agg (tvA x)) rfl (by kernel_rfl) (by kernel_rfl) (by kernel_rfl) (fun _ _ _ h => h) (y_rowT (by rfl) (.tmp 74) rfl bv (ov + i * 44) rfl x (fun _ h => h.1)) (by assumption) ?_
                (try simp only [Act.put]); (try simp only [List.setIfInBounds_toArray]); (try simp only [List.set_cons_succ]); (try simp only [List.set_cons_zero])
                iterate 1
                  (try dsimp only [List.getElem_toArray, List.getElem_cons_succ, List.getElem_cons_zero])
                  (try simp only [Act.put]); (try simp only [List.setIfInBounds_toArray]); (try simp only [List.set_cons_succ]); (try simp only [List.set_cons_zero])
                refine wpAnyH_take (i := 4) (oi := { dst := some 76, op := Op.load 24 (Operand.tmp 6), type := 24, pos := "law.go:143", after := #[], guard := none }) (v := (idv id)) rfl (by kernel_rfl) (by kernel_rfl) (by kernel_rfl) (fun _ _ _ h => h) (y_midI (by rfl) (.tmp 6) rfl g 0 rfl id (fun _ h => h.2)) (by assumption) ?_
                (try simp only [Act.put]); (try simp only [List.setIfInBounds_toArray]); (try simp only [List.set_cons_succ]); (try simp only [List.set_cons_zero])
                iterate 1
                  (try dsimp only [List.getElem_toArray, List.getElem_cons_succ, List.getElem_cons_zero])
                  (try simp only [Act.put]); (try simp only [List.setIfInBounds_toArray]); (try simp only [List.set_cons_succ]); (try simp only [List.set_cons_zero])
                refine wpAnyH_ready (rs := [5, 9]) (by kernel_rfl) (by simp) ?_
                refine AllReadyH.cons rfl (fun K hK => ?_) ?_
                · go_simp
                  go_wp2_with (go_at_call 25; (with_reducible refine (HC.out _ b0).mono ?_); rintro e w1 ⟨rfl, k1⟩)
                  have b1 := b0.trans (k1.mono b0.size)
                  refine hK.out _ _ ?_ (fun hHeld => ?_)
                  · exact HS.out _ b1
                  clear hK K
                  (try simp only [Act.put]); (try simp only [List.setIfInBounds_toArray]); (try simp only [List.set_cons_succ]); (try simp only [List.set_cons_zero])
                  iterate 1
                    (try dsimp only [List.getElem_toArray, List.getElem_cons_succ, List.getElem_cons_zero])
                    (try simp only [Act.put]); (try simp only [List.setIfInBounds_toArray]); (try simp only [List.set_cons_succ]); (try simp only [List.set_cons_zero])
                  refine wpAnyH_take (i := 6) (v := ?_) rfl (by kernel_rfl) (by kernel_rfl) (by kernel_rfl) (fun _ _ _ h => h) (Or.inl ⟨by rfl, ?_⟩) (by assumption) ?_
                  rotate_left
                  · intro w9 hSw
                    (try dsimp only at hSw)
                    go_simp
                    (try with_reducible rfl)
                  (try simp only [Act.put]); (try simp only [List.setIfInBounds_toArray]); (try simp only [List.set_cons_succ]); (try simp only [List.set_cons_zero])
                  iterate 1
                    (try dsimp only [List.getElem_toArray, List.getElem_cons_succ, List.getElem_cons_zero])
                    (try simp only [Act.put]); (try simp only [List.setIfInBounds_toArray]); (try simp only [List.set_cons_succ]); (try simp only [List.set_cons_zero])
                  refine wpAnyH_take (i := 7) (v := ?_) rfl (by kernel_rfl) (by kernel_rfl) (by kernel_rfl) (fun _ _ _ h => h) (Or.inl ⟨by rfl, ?_⟩) (by assumption) ?_
                  rotate_left
                  · intro w9 hSw
                    (try dsimp only at hSw)
                    go_simp
                    (try with_reducible rfl)
                  (try simp only [Act.put]); (try simp only [List.setIfInBounds_toArray]); (try simp only [List.set_cons_succ]); (try simp only [List.set_cons_zero])
                  iterate 1
                    (try dsimp only [List.getElem_toArray, List.getElem_cons_succ, List.getElem_cons_zero])
                    (try simp only [Act.put]); (try simp only [List.setIfInBounds_toArray]); (try simp only [List.set_cons_succ]); (try simp only [List.set_cons_zero])
                  refine wpAnyH_take (i := 8) (v := ?_) rfl (by kernel_rfl) (by kernel_rfl) (by kernel_rfl) (fun _ _ _ h => h) (Or.inl ⟨by rfl, ?_⟩) (by assumption) ?_
                  rotate_left
                  · intro w9 hSw
                    (try dsimp only at hSw)
                    go_simp
                    (try with_reducible rfl)
                  (try simp only [Act.put]); (try simp only [List.setIfInBounds_toArray]); (try simp only [List.set_cons_succ]); (try simp only [List.set_cons_zero])
                  iterate 1
                    (try dsimp only [List.getElem_toArray, List.getElem_cons_succ, List.getElem_cons_zero])
                    (try simp only [Act.put]); (try simp only [List.setIfInBounds_toArray]); (try simp only [List.set_cons_succ]); (try simp only [List.set_cons_zero])
                  refine wpAnyH_ready (rs := [9]) (by kernel_rfl) (by simp) ?_
                  refine AllReadyH.cons rfl (fun K hK => ?_) ?_
                  rotate_left
                  · exact AllReadyH.nil
                  go_simp
                  have x2 := PB.zero w1
                  have b2 := b1.alloc b1.size (.cells (peA (0, 0)) 28)
                  have l2 := b1.size
                  refine hK.out _ _ ?_ (fun hHeld => ?_)
                  · (try rw [peer_zero]); exact HS.out _ b2
                  clear hK K
                  try rw [peer_zero] at hHeld
                  (try simp only [Act.put]); (try simp only [List.setIfInBounds_toArray]); (try simp only [List.set_cons_succ]); (try simp only [List.set_cons_zero])
                  try rw [peer_zero]
                  generalize w1.heap.size = gp at *
                  generalize w1.alloc _ = w2 at *
                  iterate 1
                    (try dsimp only [List.getElem_toArray, List.getElem_cons_succ, List.getElem_cons_zero])
                    (try simp only [Act.put]); (try simp only [List.setIfInBounds_toArray]); (try simp only [List.set_cons_succ]); (try simp only [List.set_cons_zero])
                  refine wpAnyH_ready (rs := [10]) (by kernel_rfl) (by simp) ?_
                  refine AllReadyH.cons rfl (fun K hK => ?_) ?_
                  rotate_left
                  · exact AllReadyH.nil
                  rw [if_pos (by rfl)]
                  have b9 := bel_setRow b2 l2 (peA nx.1)
                  have x9 := x2.set nx.1
                  refine wp_store_row 28 _ _ rfl gp (peA nx.1) rfl rfl 28 (peA (0, 0)) x2 (by rw [peA_size]; exact sizeP) (by rw [peA_size, peA_size]) (peA_one nx.1) ?_
                  refine hK.out _ _ ?_ (fun hHeld => ?_)
                  · exact HS.out _ b9
                  clear hK K
                  (try simp only [Act.put]); (try simp only [List.setIfInBounds_toArray]); (try simp only [List.set_cons_succ]); (try simp only [List.set_cons_zero])
                  generalize w2.setRow gp _ = w9 at *
                  iterate 1
                    (try dsimp only [List.getElem_toArray, List.getElem_cons_succ, List.getElem_cons_zero])
                    (try simp only [Act.put]); (try simp only [List.setIfInBounds_toArray]); (try simp only [List.set_cons_succ]); (try simp only [List.set_cons_zero])
                  refine wpAnyH_take (i := 11) (v := ?_) rfl (by kernel_rfl) (by kernel_rfl) (by kernel_rfl) (fun _ _ _ h => h) (Or.inl ⟨by rfl, ?_⟩) (by assumption) ?_
                  rotate_left
                  · intro w9 hSw
                    (try dsimp only at hSw)
                    go_simp
                    (try with_reducible rfl)
                  (try simp only [Act.put]); (try simp only [List.setIfInBounds_toArray]); (try simp only [List.set_cons_succ]); (try simp only [List.set_cons_zero])
                  iterate 1
                    (try dsimp only [List.getElem_toArray, List.getElem_cons_succ, List.getElem_cons_zero])
                    (try simp only [Act.put]); (try simp only [List.setIfInBounds_toArray]); (try simp only [List.set_cons_succ]); (try simp only [List.set_cons_zero])
                  refine wpAnyH_done (by kernel_rfl) ?_ _
                  go_wp2
                  go_meet
                  exact CaQ.mk b9 x9 l2
                refine AllReadyH.cons rfl (fun K hK => ?_) ?_
                · go_simp
                  have x2 := PB.zero w0
                  have b1 := b0.alloc b0.size (.cells (peA (0, 0)) 28)
                  have l2 := b0.size
                  refine hK.out _ _ ?_ (fun hHeld => ?_)
                  · (try rw [peer_zero]); exact HS.out _ b1
                  clear hK K
                  try rw [peer_zero] at hHeld
                  (try simp only [Act.put]); (try simp only [List.setIfInBounds_toArray]); (try simp only [List.set_cons_succ]); (try simp only [List.set_cons_zero])
                  try rw [peer_zero]
                  generalize w0.heap.size = gp at *
                  generalize w0.alloc _ = w1 at *
                  iterate 1
                    (try dsimp only [List.getElem_toArray, List.getElem_cons_succ, List.getElem_cons_zero])
                    (try simp only [Act.put]); (try simp only [List.setIfInBounds_toArray]); (try simp only [List.set_cons_succ]); (try simp only [List.set_cons_zero])
                  refine wpAnyH_ready (rs := [5]) (by kernel_rfl) (by simp) ?_
                  refine AllReadyH.cons rfl (fun K hK => ?_) ?_
                  rotate_left
                  · exact AllReadyH.nil
                  go_simp
                  go_wp2_with (go_at_call 25; (with_reducible refine (HC.out _ b1).mono ?_); rintro e w2 ⟨rfl, k1⟩)
                  have b2 := b1.trans (k1.mono b1.size)
                  have x2 := x2.bel k1
                  refine hK.out _ _ ?_ (fun hHeld => ?_)
                  · exact HS.out _ b2
                  clear hK K
                  (try simp only [Act.put]); (try simp only [List.setIfInBounds_toArray]); (try simp only [List.set_cons_succ]); (try simp only [List.set_cons_zero])
                  iterate 1
                    (try dsimp only [List.getElem_toArray, List.getElem_cons_succ, List.getElem_cons_zero])
                    (try simp only [Act.put]); (try simp only [List.setIfInBounds_toArray]); (try simp only [List.set_cons_succ]); (try simp only [List.set_cons_zero])
                  refine wpAnyH_take (i := 6) (v := ?_) rfl (by kernel_rfl) (by kernel_rfl) (by kernel_rfl) (fun _ _ _ h => h) (Or.inl ⟨by rfl, ?_⟩) (by assumption) ?_
                  rotate_left
                  · intro w9 hSw
                    (try dsimp only at hSw)
                    go_simp
                    (try with_reducible rfl)
                  (try simp only [Act.put]); (try simp only [List.setIfInBounds_toArray]); (try simp only [List.set_cons_succ]); (try simp only [List.set_cons_zero])
                  iterate 1
                    (try dsimp only [List.getElem_toArray, List.getElem_cons_succ, List.getElem_cons_zero])
                    (try simp only [Act.put]); (try simp only [List.setIfInBounds_toArray]); (try simp only [List.set_cons_succ]); (try simp only [List.set_cons_zero])
                  refine wpAnyH_take (i := 7) (v := ?_) rfl (by kernel_rfl) (by kernel_rfl) (by kernel_rfl) (fun _ _ _ h => h) (Or.inl ⟨by rfl, ?_⟩) (by assumption) ?_
                  rotate_left
                  · intro w9 hSw
                    (try dsimp only at hSw)
                    go_simp
                    (try with_reducible rfl)
                  (try simp only [Act.put]); (try simp only [List.setIfInBounds_toArray]); (try simp only [List.set_cons_succ]); (try simp only [List.set_cons_zero])
                  iterate 1
                    (try dsimp only [List.getElem_toArray, List.getElem_cons_succ, List.getElem_cons_zero])
                    (try simp only [Act.put]); (try simp only [List.setIfInBounds_toArray]); (try simp only [List.set_cons_succ]); (try simp only [List.set_cons_zero])
                  refine wpAnyH_take (i := 8) (v := ?_) rfl (by kernel_rfl) (by kernel_rfl) (by kernel_rfl) (fun _ _ _ h => h) (Or.inl ⟨by rfl, ?_⟩) (by assumption) ?_
                  rotate_left
                  · intro w9 hSw
                    (try dsimp only at hSw)
                    go_simp
                    (try with_reducible rfl)
                  (try simp only [Act.put]); (try simp only [List.setIfInBounds_toArray]); (try simp only [List.set_cons_succ]); (try simp only [List.set_cons_zero])
                  iterate 1
                    (try dsimp only [List.getElem_toArray, List.getElem_cons_succ, List.getElem_cons_zero])
                    (try simp only [Act.put]); (try simp only [List.setIfInBounds_toArray]); (try simp only [List.set_cons_succ]); (try simp only [List.set_cons_zero])
                  refine wpAnyH_ready (rs := [10]) (by kernel_rfl) (by simp) ?_
                  refine AllReadyH.cons rfl (fun K hK => ?_) ?_
                  rotate_left
                  · exact AllReadyH.nil
                  rw [if_pos (by rfl)]
                  have b9 := bel_setRow b2 l2 (peA nx.1)
                  have x9 := x2.set nx.1
                  refine wp_store_row 28 _ _ rfl gp (peA nx.1) rfl rfl 28 (peA (0, 0)) x2 (by rw [peA_size]; exact sizeP) (by rw [peA_size, peA_size]) (peA_one nx.1) ?_
                  refine hK.out _ _ ?_ (fun hHeld => ?_)
                  · exact HS.out _ b9
                  clear hK K
                  (try simp only [Act.put]); (try simp only [List.setIfInBounds_toArray]); (try simp only [List.set_cons_succ]); (try simp only [List.set_cons_zero])
                  generalize w2.setRow gp _ = w9 at *
                  iterate 1
                    (try dsimp only [List.getElem_toArray, List.getElem_cons_succ, List.getElem_cons_zero])
                    (try simp only [Act.put]); (try simp only [List.setIfInBounds_toArray]); (try simp only [List.set_cons_succ]); (try simp only [List.set_cons_zero])
                  refine wpAnyH_take (i := 11) (v := ?_) rfl (by kernel_rfl) (by kernel_rfl) (by kernel_rfl) (fun _ _ _ h => h) (Or.inl ⟨by rfl, ?_⟩) (by assumption) ?_
                  rotate_left
                  · intro w9 hSw
                    (try dsimp only at hSw)
                    go_simp
                    (try with_reducible rfl)
                  (try simp only [Act.put]); (try simp only [List.setIfInBounds_toArray]); (try simp only [List.set_cons_succ]); (try simp only [List.set_cons_zero])
                  iterate 1
                    (try dsimp only [List.getElem_toArray, List.getElem_cons_succ, List.getElem_cons_zero])
                    (try simp only [Act.put]); (try simp only [List.setIfInBounds_toArray]); (try simp only [List.set_cons_succ]); (try simp only [List.set_cons_zero])
                  refine wpAnyH_done (by kernel_rfl) ?_ _
                  go_wp2
                  go_meet
                  exact CaQ.mk b9 x9 l2
                exact AllReadyH.nil
              case rest =>
                obtain ⟨gq, rfl, rfl, hb2, hpq, hlo2⟩ := hcut
                have HB7 := Lib.hid (belTo hg4 HB6.out hb2)
                have pA := (HP.out.bel hb2).range
                have lA := (HP.out.bel hb2).lt
                have cq := hpq.A
                have lQ := hpq.lt
                have c0 := (HV.out wc HB7.out).1
                have hsz := HB7.out.size
                have l1 : q4 < wc.heap.size := by have := HL.out; omega
                have l2 : bh < wc.heap.size := by have := HL.out; omega
                clear HS HC hb2 hpq hlo2 HB6 HP
                have s1 : IntKind.i64.wrap ((m : Int) - 1) = (mm : Int) := by have := HMM.out; have := HM2.out; rw [IntWalk.i64_in _ (by omega)]; omega
                by_cases hl : k = mm
                · have f1 : dn = true := by rw [HFX.out.1]; exact decide_eq_true (by have := HMM.out; omega)
                  have f2 : fp = en := HFX.out.2.1 (by have := HMM.out; omega)
                  subst hl f1 f2
                  have pB := (HV.out wc HB7.out).2.1
                  have es : (!eqP fp fp) = false := by rw [eqP_self]; rfl
                  have el : ((k : Int) == (k : Int)) = true := by simp
                  go_upto_region 16 with (fail)
                  refine wp_region_quiet_below (by kernel_rfl) (by kernel_rfl) ?_
                  repeat (first
                    | go_big_quiet_skip
                    | (go_big_quiet_want
                       first
                       | (first | (refine q_midP _ rfl gp 0 rfl fp pA ?_) | (refine q_midP _ rfl q4 1 rfl fp pB ?_) | (refine q_neqP _ _ rfl fp fp rfl rfl es ?_)
                          simp only [Act.put, List.setIfInBounds_toArray, List.set_cons_succ, List.set_cons_zero]
                          go_big_quiet_on)
                       | (go_big_quiet_op
                          first | go_big_quiet_on | go_big_quiet_call (first | fail))))
                  refine wpQuiet_nil ?_
                  intro w8 hw'
                  have kq := quiet_end hw'
                  clear hw'
                  have HB8 := Lib.hid (belTo hg4 HB7.out kq)
                  clear kq
                  have hn16 := HN16.out
                  have hin := HIN.out
                  go_wp2
                  exact ⟨⟨i + 1, by go_num, by omega, HB8.out⟩, by simp [intOf]; omega⟩
                · have hk1 : k + 1 < m := by have := HMM.out; have := HLT.out; omega
                  have f1 : dn = false := by rw [HFX.out.1]; exact decide_eq_false (by omega)
                  have f2 := HFX.out.2.2 hk1
                  obtain ⟨nq, nb⟩ := nx
                  dsimp only at f2 cq ⊢
                  obtain ⟨f2, f3⟩ := f2
                  subst f2 f1
                  have el : ((k : Int) == (mm : Int)) = false := by simp; omega
                  have el2 : (k == mm) = false := by simp; omega
                  have s2 : IntKind.i64.wrap ((k : Int) + 1) = ((k + 1 : Nat) : Int) := by have := HM2.out; rw [IntWalk.i64_in _ (by omega)]; omega
                  have c2 := nums_cell (HV.out wc HB7.out).2.2.1 (i := k + 1) (by have := HM.out; omega)
                  rw [← f3] at c2
                  have ex : (nq.1 == nq.1) = true := by simp
                  have e6 : ((k + 1 : Nat) : Int) < (m : Int) := by omega
                  have e7 : (0 : Int) ≤ ((k + 1 : Nat) : Int) := by omega
                  generalize k + 1 = k1 at *
                  go_upto_region 16 with (fail)
                  refine wp_region_quiet_below (by kernel_rfl) (by kernel_rfl) ?_
                  repeat (first
                    | go_big_quiet_skip
                    | (go_big_quiet_want
                       first
                       | (first | (refine q_cellN _ rfl gq 0 rfl _ cq lQ ?_) | (refine q_cellS _ rfl q4 0 rfl _ c0 l1 ?_) | (refine q_cellN _ rfl bh (oh + k1) rfl _ c2 l2 ?_)
                          simp only [Act.put, List.setIfInBounds_toArray, List.set_cons_succ, List.set_cons_zero]
                          go_big_quiet_on)
                       | (go_big_quiet_op
                          first | go_big_quiet_on | go_big_quiet_call (first | fail))))
                  refine wpQuiet_nil ?_
                  intro w8 hw'
                  have kq := quiet_end hw'
                  clear hw'
                  have HB8 := Lib.hid (belTo hg4 HB7.out kq)
                  clear kq
                  have hn16 := HN16.out
                  have hin := HIN.out
                  go_wp2
                  exact ⟨⟨i + 1, by go_num, by omega, HB8.out⟩, by simp [intOf]; omega⟩
          · have ex : (x.t.s.1 == A.getD k 0) = false := by simpa using hxa
            clear hxa
            generalize x.t.s.1 = xa at *
            generalize A.getD k 0 = xk at *
            refine wp_region_quiet_below (by kernel_rfl) (by kernel_rfl) ?_
            repeat (first
              | go_big_quiet_skip
              | (go_big_quiet_want
                 first
                 | (first | (refine q_cellN _ rfl bv (ov + i * 44) rfl _ v2 l3 ?_) | (refine q_cellS _ rfl q4 0 rfl _ v1 l1 ?_) | (refine q_cellN _ rfl bh (oh + k) rfl _ v3 l2 ?_)
                    simp only [Act.put, List.setIfInBounds_toArray, List.set_cons_succ, List.set_cons_zero]
                    go_big_quiet_on)
                 | (go_big_quiet_op
                    first | go_big_quiet_on | go_big_quiet_call (first | fail))))
            refine wpQuiet_nil ?_
            intro w5 hw'
            have kq := quiet_end hw'
            clear hw'
            have HB5 := Lib.hid (belTo hg4 HB2.out kq)
            clear kq
            have hn16 := HN16.out
            have hin := HIN.out
            go_wp2
            exact ⟨⟨i + 1, by go_num, by omega, HB5.out⟩, by simp [intOf]; omega⟩
        · obtain rfl : i = n := by omega
          have e1 : ¬ (i : Int) < (i : Int) := by omega
          have e2 : decide (i < i) = false := decide_eq_false (by omega)
          clear hi hin
          have hm2 := HM2.out
          have hlt := HLT.out
          go_wp2
          exact ⟨⟨k + 1, by go_num, by omega, HB2.out⟩, by simp [intOf]; omega⟩
    · obtain rfl : k = m := by omega
      have d1 : ¬ (k : Int) < (k : Int) := by omega
      have d2 : decide (k < k) = false := decide_eq_false (by omega)
      have d3 : (0 : Int) < (k : Int) := by have := HM1.out; omega
      have d4 : decide ((0 : Int) < (k : Int)) = true := decide_eq_true d3
      have d5 : decide (0 < k) = true := decide_eq_true HM1.out
      clear hk hlt
      go_wp2_with (go_at_call 12; (with_reducible refine (hWd.out _).mono ?_); rintro e y2 ⟨rfl, k2⟩; have HB2 := Lib.hid (belTo hg4 HB.out k2); have c1 := (HV.out y2 HB2.out).1)
      go_ret
      exact ⟨rfl, by (try rw [hg]); exact (HV.out y2 HB2.out).2.2.2.2.2⟩
set_option maxHeartbeats 2000000 in
theorem walk {w : World} {v : Value} {X : List Tv} (hX : LiesT w v X) (hfit : ∀ x ∈ X, Fit x.t.s.1) (fr : Int) (bf : -9223372036854775808 ≤ fr ∧ fr ≤ 9223372036854775807) (id : Nat) (_ : id < M) (most : Int) (_ : -9223372036854775808 ≤ most ∧ most ≤ 9223372036854775807) :
    Calls Try.prog 8 #[v, .int .i64 fr, idv id, .int .i64 most] w fun e w' => e = .returned (.bool true) ∧ Below w.heap.size w w' := by
  cases hb : bigX X
  · rcases walk_two X fr id most with ⟨c, hc, hR⟩ | ⟨A, en, hR, hF⟩
    · exact next_bad fr id most c hc hX hb hfit (fit_of bf) hR
    · exact next_good fr id most A en hX hb hfit (fit_of bf) hR hF
  · have hBg : Hid (∀ W, Below w.heap.size w W → Calls Try.prog 9 #[v] W fun e w' => e = .returned (.bool true) ∧ Below W.heap.size W w') := fun W k => by
      have := bigX_any (hX.bel k)
      rwa [hb] at this
    have B1 := (Below.refl w.heap.size w).alloc (Nat.le_refl _) (.cells (row (dig 20 id)) 24)
    clear hX hfit
    rw [show idv id = .agg (row (dig 20 id)) from rfl]
    go_enter Try.func8, Try.ntmps8
    go_upto_region 1 with (fail)
    generalize hg : w.heap.size = g at *
    generalize w.alloc _ = w1 at *
    go_wp2_with (go_at_call 9; (with_reducible refine (hBg.out _ B1).mono ?_); rintro e w2 ⟨rfl, k2⟩)
    have B2 := belTo hg B1 k2
    go_ret
    exact ⟨rfl, by (try rw [hg]); exact B2⟩
set_option maxRecDepth 100000 in
theorem lifted (os : Os) (started : os.Started) (H : Type) (enc : TypeId × Value → H) :
    ReturnsInHanded {} Try.checked os 8 .any (Rows.walkNextSpec.pre6 enc Try.prog Try.f8 Rows.walkNextRow.domain false) (Rows.walkNextSpec.post enc Try.prog Try.f8 false true false false) := by
  refine returnsInHanded_of_change (C := Try.checked) own started (by kernel_rfl) Try.func8
    (ChangeSpec.witness6 (enc := enc) (C := Try.checked) false ⟨#[], #[.slice none 0 0, .int .i64 0, .agg #[.int .u8 0, .int .u8 0, .int .u8 0, .int .u8 0, .int .u8 0, .int .u8 0, .int .u8 0, .int .u8 0, .int .u8 0, .int .u8 0, .int .u8 0, .int .u8 0, .int .u8 0, .int .u8 0, .int .u8 0, .int .u8 0, .int .u8 0, .int .u8 0, .int .u8 0, .int .u8 0], .int .i64 0], []⟩ 8 (by kernel_rfl) (by kernel_rfl) (by kernel_rfl) (by kernel_rfl)) ?_
  intro W base args ds gs before hval0 hW hcnd _
  have hval : ∀ (j : Nat) t v, Try.f8.params[j]? = some t → args[j]? = some v → Value.okWide Try.prog W .any base t v := hval0
  have hW' := hW
  obtain ⟨p, q, hA0, hV, rfl, hfz, hnd⟩ := hW
  have hA : DataW.TrodAll enc Try.prog W 0 (fun _ => true) true Try.f8.params.toList args.toList ds p := hA0
  rw [Try.params8] at hA hval
  obtain ⟨v0, vs0, d0, ds0, p0, q0, hargs, rfl, rfl, h0, r0⟩ := trodAll_cons hA
  obtain ⟨v1, vs1, d1, ds1, p1, q1, rfl, rfl, rfl, h1, r1⟩ := trodAll_cons r0
  obtain ⟨v2, vs2, d2, ds2, p2, q2, rfl, rfl, rfl, h2, r2⟩ := trodAll_cons r1
  obtain ⟨v3, vs3, d3, ds3, p3, q3, rfl, rfl, rfl, h3, r3⟩ := trodAll_cons r2
  obtain ⟨rfl, rfl, rfl⟩ := trodAll_nil r3
  obtain rfl : args = #[v0, v1, v2, v3] := by cases args; simp_all
  obtain ⟨rfl, rfl⟩ := trodVars_none hV
  have k0 := h0
  have lt0 : ∀ x ∈ p0, x.block < W.heap.size := by obtain ⟨m, hm⟩ := k0; exact DataW.trod_lt m _ _ _ hm
  obtain ⟨X0, xs0, ft0⟩ := open_tabs (hval 0 22 v0 rfl rfl) h0
  have k1 := h1
  have lt1 : ∀ x ∈ p1, x.block < W.heap.size := by obtain ⟨m, hm⟩ := k1; exact DataW.trod_lt m _ _ _ hm
  obtain ⟨n1, bd1, rfl⟩ := open_i64 (hval 1 3 v1 rfl rfl) h1
  have k2 := h2
  have lt2 : ∀ x ∈ p2, x.block < W.heap.size := by obtain ⟨m, hm⟩ := k2; exact DataW.trod_lt m _ _ _ hm
  obtain ⟨n2, il2, rfl⟩ := open_id (hval 2 24 v2 rfl rfl) h2
  have k3 := h3
  have lt3 : ∀ x ∈ p3, x.block < W.heap.size := by obtain ⟨m, hm⟩ := k3; exact DataW.trod_lt m _ _ _ hm
  obtain ⟨n3, bd3, rfl⟩ := open_i64 (hval 3 3 v3 rfl rfl) h3
  clear hA0 hval0
  refine (walk xs0 ft0 n1 bd1 n2 il2 n3 bd3).mono fun e W' ⟨he, bel⟩ => ?_
  subst he
  exact ⟨_, rfl, _, _, _, [], _, [], hW', trodAll_mk1 (shut_bool Try.underlying4 _), (trodAll_cons_mk (Below.trod laidOut (by kernel_rfl) (of_decide_eq_true (by kernel_rfl)) k0 bel lt0) (trodAll_cons_mk (Below.trod laidOut (by kernel_rfl) (of_decide_eq_true (by kernel_rfl)) k1 bel lt1) (trodAll_cons_mk (Below.trod laidOut (by kernel_rfl) (of_decide_eq_true (by kernel_rfl)) k2 bel lt2) (trodAll_cons_mk (Below.trod laidOut (by kernel_rfl) (of_decide_eq_true (by kernel_rfl)) k3 bel lt3) trodAll_mk0)))), rfl, bel.frame _, fun h => by cases h⟩

theorem proved : Rows.WalkNextSaid :=
  OpenClaim.holds_of_wide 8 Try.f8 rfl rfl rfl rfl rfl rfl rfl ⟨rfl, rfl, rfl, rfl, rfl⟩ rfl rfl rfl rfl rfl (by kernel_rfl) Try.func8 (by kernel_rfl)
    (of_decide_eq_true (by kernel_rfl)) (by unfold Func.isWrapper; first | (rw [if_pos (by decide +kernel)]; kernel_rfl) | (rw [if_neg (by decide +kernel)]; exact ⟨rfl, rfl⟩))
    (fun os started H enc _ => lifted os started H enc)
end Go.Proofs.Ytfajfmcabpmchaa.NextLaw
