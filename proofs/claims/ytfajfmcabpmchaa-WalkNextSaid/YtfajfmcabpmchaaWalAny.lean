/- Walks that are refused, and any walk, of the program and of the document. -/
import Derived.Test.YtfajfmcabpmchaaWalGoD
import Derived.Test.YtfajfmcabpmchaaWalRef
import Derived.Test.YtfajfmcabpmchaaWalGo
import Derived.Test.YtfajfmcabpmchaaWalRefGo
import Derived.WalkMore
namespace Go.Proofs.Ytfajfmcabpmchaa
set_option maxRecDepth 100000
open Go Go.RowKit Go.Sort

theorem by_false {B : Nat} {X : List Tv} {e : Ending} {w' : World} (h : ByP B X false e w') : e = .returned (.tuple #[.map none, .bool false]) := by
  rcases h with ⟨_, h⟩ | ⟨h, _⟩
  · exact h
  · cases h
/-- the boxes that a walk begins with -/
structure BoxW (w W : World) (id : Nat) : Prop where
  bel : Below w.heap.size w W
  i : At W w.heap.size id
  r : RB W (w.heap.size + 1) nilS (0, 0)
theorem BoxW.made (w : World) (id : Nat) : BoxW w ((w.alloc (.cells (row (dig 20 id)) 24)).alloc (.cells (rtA nilS (0, 0)) 30)) id := by
  refine ⟨((Below.refl w.heap.size w).alloc (Nat.le_refl _) _).alloc (by simp) _, (At.new w id).alloc _, ?_⟩
  have := RB.new (w.alloc (.cells (row (dig 20 id)) 24)) nilS (0, 0)
  rwa [World.size_alloc] at this
set_option maxHeartbeats 4000000 in
theorem walk_no1 {w : World} {v : Value} {X : List Tv} (fr : Int) (id : Nat) (most : Int) (hft : Fit fr)
    (hBy : ∀ W, Below w.heap.size w W → Calls Try.prog 27 #[v] W fun e w' => ByP W.heap.size X false e w' ∧ Below W.heap.size W w') :
    Calls Try.prog 10 #[v, .int .i64 fr, idv id, .int .i64 most] w fun e w' => RouP w.heap.size (badR 1) e w' ∧ Below w.heap.size w w' := by
  have HBy := Lib.hid hBy
  have HZ := Lib.hid zeroTab
  have HB := BoxW.made w id
  clear hBy
  rw [show idv id = .agg (row (dig 20 id)) from rfl]
  go_enter Try.func10, Try.ntmps10
  go_upto_region 1 with (fail)
  rw [route_zero]
  generalize (w.alloc _).alloc _ = W at *
  have hcall := HBy.out W HB.bel
  obtain ⟨B0, I0, R0⟩ := HB
  generalize hg : w.heap.size = g at *
  go_step3
  go_upto_region 2 with (go_at_call 27; (with_reducible refine hcall.mono ?_); rintro e w1 ⟨hP, k1⟩; obtain rfl := by_false hP)
  have R1 := R0.bel k1
  have B1 := belTo hg B0 k1
  have lR := R1.lt
  have hlook := look_none w1 Try.underlying58 (HZ.out w1) hft
  clear k1 hcall I0 R0 B0 hP
  go_upto_region 3 with (refine p_storeT rfl rfl _ _ rfl rfl rfl rfl rfl ?_)
  (try simp only [Act.put])
  have K2 := (Below.refl w1.heap.size w1).alloc (Nat.le_refl _) (.cells (tvA tv0) 43)
  have R2 := R1.bel K2
  have B2 := belTo hg B1 K2
  have l2 := R2.lt
  clear hlook K2 R1 B1
  generalize w1.alloc _ = W2 at *
  go_wp2_with (first
    | (refine p_buildR0 rfl rfl ?_)
    | (refine p_putR rfl _ _ rfl (g + 1) rfl rfl rfl R2 ?_))
  (try rw [Exit.noGoto_ret])
  exact bodyPost_ret (results_R2 Try.results10 _ _ (g + 1) _ rfl rfl (R2.set nilS (0, 0))) rfl ⟨rou_bad rfl, by rw [hg]; exact bel_setRow B2 (by omega) _⟩
set_option maxHeartbeats 4000000 in
theorem walk_no2 {w : World} {v : Value} {X : List Tv} (fr : Int) (id : Nat) (most : Int) (hft : Fit fr) (hX : Ins w X) (hno : ((findV X fr).isSome && (decide (0 ≤ most) && decide (most ≤ 64))) = false)
    (hBy : ∀ W, Below w.heap.size w W → Calls Try.prog 27 #[v] W fun e w' => ByP W.heap.size X true e w' ∧ Below W.heap.size W w') :
    Calls Try.prog 10 #[v, .int .i64 fr, idv id, .int .i64 most] w fun e w' => RouP w.heap.size (badR 1) e w' ∧ Below w.heap.size w w' := by
  have HBy := Lib.hid hBy
  have HZ := Lib.hid zeroTab
  have HB := BoxW.made w id
  obtain ⟨y, hy⟩ : ∃ y, y = (findV X fr).getD tv0 := ⟨_, rfl⟩
  have hyu : y.u.oneCell' = true ∧ y.v.oneCell' = true := by
    rw [hy]
    cases hf : findV X fr with
    | none => exact ⟨rfl, rfl⟩
    | some z =>
      have hz := hX z (findV_mem hf)
      exact ⟨lies_one hz.1, lies_one hz.2⟩
  have hyv : (mapV X fr).getD (.agg (tvA tv0)) = .agg (tvA y) ∧ (mapV X fr).isSome = (findV X fr).isSome := by
    rw [hy]
    unfold mapV
    cases findV X fr <;> exact ⟨rfl, rfl⟩
  obtain ⟨yu, yv⟩ := hyu
  have HY := Lib.hid hyv
  clear hBy hX hyv hy
  generalize hhas : (findV X fr).isSome = has at *
  clear hhas
  have HNO := Lib.hid hno
  clear hno
  rw [show idv id = .agg (row (dig 20 id)) from rfl]
  go_enter Try.func10, Try.ntmps10
  go_upto_region 1 with (fail)
  rw [route_zero]
  generalize (w.alloc _).alloc _ = W at *
  have hcall := HBy.out W HB.bel
  obtain ⟨B0, I0, R0⟩ := HB
  generalize hg : w.heap.size = g at *
  go_step3
  go_upto_region 2 with (go_at_call 27; (with_reducible refine hcall.mono ?_); rintro e w1 ⟨hP, k1⟩; obtain ⟨mb, rfl, M1, hmb⟩ := by_true hP)
  have R1 := R0.bel k1
  have B1 := belTo hg B0 k1
  have lR := R1.lt
  have hlook := M1.look Try.underlying58 (HZ.out w1) hft
  rw [HY.out.1, HY.out.2] at hlook
  clear k1 hcall I0 R0 B0 hP M1 hmb
  go_upto_region 3 with (refine p_storeT rfl rfl _ _ rfl rfl rfl yu yv ?_)
  (try simp only [Act.put])
  have K2 := (Below.refl w1.heap.size w1).alloc (Nat.le_refl _) (.cells (tvA y) 43)
  have R2 := R1.bel K2
  have B2 := belTo hg B1 K2
  have l2 := R2.lt
  clear hlook K2 R1 B1
  generalize w1.alloc _ = W2 at *
  cases has
  · clear HNO
    go_wp2_with (first
      | (refine p_buildR0 rfl rfl ?_)
      | (refine p_putR rfl _ _ rfl (g + 1) rfl rfl rfl R2 ?_))
    (try rw [Exit.noGoto_ret])
    exact bodyPost_ret (results_R2 Try.results10 _ _ (g + 1) _ rfl rfl (R2.set nilS (0, 0))) rfl ⟨rou_bad rfl, by rw [hg]; exact bel_setRow B2 (by omega) _⟩
  · by_cases h0 : most < 0
    · have d0 : decide (most < 0) = true := decide_eq_true h0
      clear HNO
      go_wp2_with (first
        | (refine p_buildR0 rfl rfl ?_)
        | (refine p_putR rfl _ _ rfl (g + 1) rfl rfl rfl R2 ?_))
      (try rw [Exit.noGoto_ret])
      exact bodyPost_ret (results_R2 Try.results10 _ _ (g + 1) _ rfl rfl (R2.set nilS (0, 0))) rfl ⟨rou_bad rfl, by rw [hg]; exact bel_setRow B2 (by omega) _⟩
    · have d0 : decide (most < 0) = false := decide_eq_false h0
      have h1 : 64 < most := by
        have := HNO.out
        rw [Bool.true_and, decide_eq_true (p := 0 ≤ most) (by omega), Bool.true_and, decide_eq_false_iff_not] at this
        omega
      have d1 : decide (64 < most) = true := decide_eq_true h1
      clear HNO
      go_wp2_with (first
        | (refine p_buildR0 rfl rfl ?_)
        | (refine p_putR rfl _ _ rfl (g + 1) rfl rfl rfl R2 ?_))
      (try rw [Exit.noGoto_ret])
      exact bodyPost_ret (results_R2 Try.results10 _ _ (g + 1) _ rfl rfl (R2.set nilS (0, 0))) rfl ⟨rou_bad rfl, by rw [hg]; exact bel_setRow B2 (by omega) _⟩
set_option maxHeartbeats 4000000 in
theorem refwalk_no {w : World} {v : Value} {X : List Tv} (fr : Int) (id : Nat) (most : Int) (rg : Bool) (hX : LiesT w v X) (hrg : rg = true → X.length ≤ 16) (hno : (rg && ((findV X fr).isSome && (decide (0 ≤ most) && decide (most ≤ 64)))) = false)
    (hRi : ∀ W, Below w.heap.size w W → Calls Try.prog 28 #[v] W fun e w' => e = .returned (.bool rg) ∧ Below W.heap.size W w')
    (hFi : ∀ a W, Below w.heap.size w W → Calls Try.prog 29 #[v, .int .i64 a] W fun e w' => e = .returned (.int .i64 (idxV X a)) ∧ W = w') :
    Calls Try.prog 11 #[v, .int .i64 fr, idv id, .int .i64 most] w fun e w' => RouP w.heap.size (badR 1) e w' ∧ Below w.heap.size w w' := by
  have HRi := Lib.hid hRi
  have HFi := Lib.hid (hFi fr)
  have HB := BoxW.made w id
  obtain ⟨av, cv, rfl⟩ := hX.form
  obtain ⟨n16, hn16⟩ : ∃ n, n = X.length := ⟨_, rfl⟩
  rw [← hn16] at hrg HRi HFi ⊢
  have hneg := idxV_neg X fr
  generalize (findV X fr).isSome = has at *
  generalize idxV X fr = iv at *
  clear hX hRi hFi hn16
  have HNO := Lib.hid hno
  have HNEG := Lib.hid hneg
  have HRG := Lib.hid hrg
  clear hno hneg hrg
  rw [show idv id = .agg (row (dig 20 id)) from rfl]
  go_enter Try.func11, Try.ntmps11
  go_upto_region 1 with (fail)
  rw [route_zero]
  generalize (w.alloc _).alloc _ = W at *
  have hcall := HRi.out W HB.bel
  obtain ⟨B0, I0, R0⟩ := HB
  generalize hg : w.heap.size = g at *
  have lR := R0.lt
  by_cases h16 : n16 ≤ 16
  rotate_left
  · have b16 : (16 : Int) < (n16 : Int) := by omega
    have c16 : decide ((16 : Int) < (n16 : Int)) = true := decide_eq_true b16
    clear HNO HNEG HRG hcall
    go_wp2_with (first
      | (refine p_buildR0 rfl rfl ?_)
      | (refine p_putR rfl _ _ rfl (g + 1) rfl rfl rfl R0 ?_))
    exact bodyPost_ret (results_R2 Try.results11 _ _ (g + 1) _ rfl rfl (R0.set nilS (0, 0))) rfl ⟨rou_bad rfl, by rw [hg]; exact bel_setRow B0 (by omega) _⟩
  have b16 : ¬ (16 : Int) < (n16 : Int) := by omega
  have c16 : decide ((16 : Int) < (n16 : Int)) = false := decide_eq_false b16
  clear HRG h16
  cases rg
  · clear HNO HNEG
    go_wp2_with (first
      | (go_at_call 28; (with_reducible refine hcall.mono ?_); rintro e w1 ⟨rfl, k1⟩; have R1 := R0.bel k1; have B1 := belTo hg B0 k1; clear k1)
      | (refine p_buildR0 rfl rfl ?_)
      | (refine p_putR rfl _ _ rfl (g + 1) rfl rfl rfl R1 ?_))
    exact bodyPost_ret (results_R2 Try.results11 _ _ (g + 1) _ rfl rfl (R1.set nilS (0, 0))) rfl ⟨rou_bad rfl, by rw [hg]; exact bel_setRow B1 (by omega) _⟩
  cases has
  · have hi : iv < 0 := HNEG.out.2 rfl
    have hi2 : decide (iv < 0) = true := decide_eq_true hi
    clear HNO HNEG
    go_wp2_with (first
      | (go_at_call 28; (with_reducible refine hcall.mono ?_); rintro e w1 ⟨rfl, k1⟩; have R1 := R0.bel k1; have B1 := belTo hg B0 k1; have hcf := HFi.out w1 B1; clear k1)
      | (go_at_call 29; (with_reducible refine hcf.mono ?_); rintro e w2 ⟨rfl, rfl⟩)
      | (refine p_buildR0 rfl rfl ?_)
      | (refine p_putR rfl _ _ rfl (g + 1) rfl rfl rfl R1 ?_))
    exact bodyPost_ret (results_R2 Try.results11 _ _ (g + 1) _ rfl rfl (R1.set nilS (0, 0))) rfl ⟨rou_bad rfl, by rw [hg]; exact bel_setRow B1 (by omega) _⟩
  have hi : ¬ iv < 0 := fun h => by have := HNEG.out.1 h; cases this
  have hi2 : decide (iv < 0) = false := decide_eq_false hi
  by_cases h0 : most < 0
  · have d0 : decide (most < 0) = true := decide_eq_true h0
    clear HNO HNEG
    go_wp2_with (first
      | (go_at_call 28; (with_reducible refine hcall.mono ?_); rintro e w1 ⟨rfl, k1⟩; have R1 := R0.bel k1; have B1 := belTo hg B0 k1; have hcf := HFi.out w1 B1; clear k1)
      | (go_at_call 29; (with_reducible refine hcf.mono ?_); rintro e w2 ⟨rfl, rfl⟩)
      | (refine p_buildR0 rfl rfl ?_)
      | (refine p_putR rfl _ _ rfl (g + 1) rfl rfl rfl R1 ?_))
    exact bodyPost_ret (results_R2 Try.results11 _ _ (g + 1) _ rfl rfl (R1.set nilS (0, 0))) rfl ⟨rou_bad rfl, by rw [hg]; exact bel_setRow B1 (by omega) _⟩
  · have d0 : decide (most < 0) = false := decide_eq_false h0
    have h1 : 64 < most := by
      have := HNO.out
      rw [Bool.true_and, Bool.true_and, decide_eq_true (p := 0 ≤ most) (by omega), Bool.true_and, decide_eq_false_iff_not] at this
      omega
    have d1 : decide (64 < most) = true := decide_eq_true h1
    clear HNO HNEG
    go_wp2_with (first
      | (go_at_call 28; (with_reducible refine hcall.mono ?_); rintro e w1 ⟨rfl, k1⟩; have R1 := R0.bel k1; have B1 := belTo hg B0 k1; have hcf := HFi.out w1 B1; clear k1)
      | (go_at_call 29; (with_reducible refine hcf.mono ?_); rintro e w2 ⟨rfl, rfl⟩)
      | (refine p_buildR0 rfl rfl ?_)
      | (refine p_putR rfl _ _ rfl (g + 1) rfl rfl rfl R1 ?_))
    exact bodyPost_ret (results_R2 Try.results11 _ _ (g + 1) _ rfl rfl (R1.set nilS (0, 0))) rfl ⟨rou_bad rfl, by rw [hg]; exact bel_setRow B1 (by omega) _⟩
end Go.Proofs.Ytfajfmcabpmchaa

namespace Go.Proofs.Ytfajfmcabpmchaa
set_option maxRecDepth 100000
open Go Go.RowKit Go.Sort

/-- tables that are no larger than are looked at -/
def Smal (X : List Tv) : Prop := X.length ≤ 20 ∧ ∀ x ∈ X, x.t.S.length ≤ 40 ∧ x.t.F.length ≤ 200
theorem okT_all {T : List Tb} : ∀ n, n ≤ T.length → okT T n = true → ∀ i, i < n → tbB (T.getD i tb0) = true := by
  intro n
  induction n with
  | zero => intro _ _ i hi; omega
  | succ n ih =>
    intro hn h i hi
    rw [okT, Bool.and_eq_true, Bool.and_eq_true] at h
    rcases Nat.lt_or_ge i n with h1 | h1
    · exact ih (by omega) h.1 i h1
    · obtain rfl : i = n := by omega
      exact h.2.2
theorem rgt_all {X : List Tv} (h : rgtT (tabsOf X) = true) {x : Tv} (hx : x ∈ X) : tbB x.t = true := by
  unfold rgtT at h
  rw [Bool.and_eq_true] at h
  obtain ⟨i, hi⟩ := List.getElem?_of_mem hx
  have := okT_all (T := tabsOf X) _ (Nat.le_refl _) h.2 i (by rw [tabsOf_length]; exact (List.getElem?_eq_some_iff.1 hi).1)
  rwa [tabsOf_getD hi] at this
theorem rgt_len {X : List Tv} (h : rgtT (tabsOf X) = true) : X.length ≤ 16 := by
  unfold rgtT at h
  rw [Bool.and_eq_true, decide_eq_true_eq, tabsOf_length] at h
  exact h.1
theorem addr_of {s x : Pe} (h : otherB s x = true) : 0 ≤ x.1 ∧ x.1 ≤ 999 := by
  unfold otherB at h
  rw [Bool.and_eq_true] at h
  exact addr_iff.1 h.1
/-- the next one's address is a number that fits -/
theorem next_fit {t : Tb} (h : tbB t = true) (id : Nat) : Fit (nextT t id).1.1 := by
  unfold tbB at h
  rw [isT_iff] at h
  have hN := near_of t.s id [] (knL t.s t.p t.S t.F)
  unfold nextT
  generalize nrG (fun a b => openB a b id) [] (t.s, false) (knL t.s t.p t.S t.F) = r at *
  obtain ⟨y, b⟩ := r
  cases b with
  | false =>
    have e : nrR (y, false) = ((-1, 0), false) := by unfold nrR; rw [if_neg (by simp)]
    rw [e]
    exact fit_of (by decide)
  | true =>
    have hy := (hN.yes rfl).1
    unfold knL at hy
    have hm := List.mem_of_find?_eq_some (((firsts_kn _).mem y).1 hy)
    unfold fil at hm
    have hm := (List.mem_filter.1 hm).1
    show Fit y.1
    have hpf : y ∈ t.p :: t.F → -1 ≤ y.1 ∧ y.1 ≤ 999 := fun h1 => by
      rcases h.all y h1 with h2 | h2
      · unfold eqP at h2
        rw [Bool.and_eq_true, decide_eq_true_eq] at h2
        have : y.1 = -1 := h2.1
        omega
      · have := addr_of h2
        omega
    have : -1 ≤ y.1 ∧ y.1 ≤ 999 := by
      rcases List.mem_cons.1 hm with h1 | h1
      · exact hpf (h1 ▸ List.mem_cons_self ..)
      · rcases List.mem_append.1 h1 with h1 | h1
        · have := addr_of (h.ots y h1)
          omega
        · exact hpf (List.mem_cons_of_mem _ h1)
    exact fit_of (by omega)
theorem done_tv {w : World} {X : List Tv} (hX : Ins w X) (id : Nat) : ∀ x ∈ X, GivesW w 24 #[.agg (tvA x), idv id] (.tuple #[.agg (peA (firstP x.t.s x.t.S)), .bool (doneB x.t id)]) :=
  fun x hx _ hb => done_any id ((hX x hx).1.bel hb)
theorem refdone_tv {w : World} {X : List Tv} (hX : Ins w X) (id : Nat) : ∀ x ∈ X, GivesW w 30 #[.agg (tvA x), idv id] (.tuple #[.agg (peA (firstP x.t.s x.t.S)), .bool (doneB x.t id)]) :=
  fun x hx _ hb => refdone_any id ((hX x hx).1.bel hb)
theorem near_tv {w : World} {X : List Tv} (hX : Ins w X) (hS : Smal X) (id : Nat) : ∀ x ∈ X, GivesW w 25 #[.agg (tvA x), idv id, nilS] (.tuple #[.agg (peA (nextT x.t id).1), .bool (nextT x.t id).2]) :=
  fun x hx _ hb => near_any (A := []) id ((hX x hx).1.bel hb) ((hX x hx).2.bel hb) (.inl ⟨rfl, rfl⟩) (by have := hS.2 x hx; omega) (by simp)
theorem refnear_tv {w : World} {X : List Tv} (hX : Ins w X) (hS : Smal X) (id : Nat) : ∀ x ∈ X, GivesW w 31 #[.agg (tvA x), idv id, nilS] (.tuple #[.agg (peA (nextT x.t id).1), .bool (nextT x.t id).2]) :=
  fun x hx _ hb => refnear_any (A := []) id ((hX x hx).1.bel hb) ((hX x hx).2.bel hb) (.inl ⟨rfl, rfl⟩) (by have := hS.2 x hx; omega) (by simp)
theorem smal_len {X : List Tv} (hS : Smal X) : (∀ x ∈ X, x.t.S.length ≤ 1000000 ∧ x.t.F.length ≤ 1000000) ∧ X.length ≤ 1000000 := ⟨fun x hx => by have := hS.2 x hx; omega, by have := hS.1; omega⟩
theorem may_no {X : List Tv} {fr most : Int} (h : ¬ mayB (tabsOf X) fr most = true) : (rgtT (tabsOf X) && ((findV X fr).isSome && (decide (0 ≤ most) && decide (most ≤ 64)))) = false := by
  unfold mayB hasT at h
  rwa [findV_T, Option.isSome_map, Bool.not_eq_true] at h
theorem may_yes {X : List Tv} {fr most : Int} (h : mayB (tabsOf X) fr most = true) : rgtT (tabsOf X) = true ∧ (∃ x0, findV X fr = some x0) ∧ ∃ m : Nat, most = (m : Int) ∧ m ≤ 64 := by
  unfold mayB hasT at h
  rw [findV_T, Option.isSome_map, Bool.and_eq_true, Bool.and_eq_true, Bool.and_eq_true, decide_eq_true_eq, decide_eq_true_eq] at h
  exact ⟨h.1, Option.isSome_iff_exists.1 h.2.1, most.toNat, by omega, by omega⟩
theorem walkR_yes {X : List Tv} {fr : Int} {id m : Nat} {x0 : Tv} (h : mayB (tabsOf X) fr (m : Int) = true) (hx : findV X fr = some x0) :
    walkR (tabsOf X) fr id (m : Int) = wkV X (fun x => firstP x.t.s x.t.S) (fun x => doneB x.t id) (fun x => nextT x.t id) m x0 [fr] := by
  unfold walkR
  rw [if_pos h, findV_T, hx, Int.toNat_natCast, wkV_T]; rfl
theorem walkR_no {T : List Tb} {fr : Int} {id : Nat} {most : Int} (h : ¬ mayB T fr most = true) : walkR T fr id most = badR 1 := by unfold walkR; rw [if_neg h]
theorem walk_any {w : World} {v : Value} {X : List Tv} (fr : Int) (id : Nat) (most : Int) (hX : LiesT w v X) (hS : Smal X) (hfit : ∀ x ∈ X, Fit x.t.s.1) (hft : Fit fr) :
    Calls Try.prog 10 #[v, .int .i64 fr, idv id, .int .i64 most] w fun e w' => RouP w.heap.size (walkR (tabsOf X) fr id most) e w' ∧ Below w.heap.size w w' := by
  obtain ⟨hl, hn⟩ := smal_len hS
  have hBy := fun (W : World) (hb : Below w.heap.size w W) => byAddr_any (hX.bel hb) hl hfit hn
  by_cases h : mayB (tabsOf X) fr most = true
  · obtain ⟨h1, ⟨x0, hx0⟩, m, rfl, hm⟩ := may_yes h
    rw [h1] at hBy
    rw [walkR_yes h hx0]
    exact walk_good fr id m x0 _ _ _ hX.ins hm hx0 hft (fun x hx => next_fit (rgt_all h1 hx) id) hBy (done_tv hX.ins id) (near_tv hX.ins hS id)
  · rw [walkR_no h]
    have h1 := may_no h
    cases hr : rgtT (tabsOf X)
    · rw [hr] at hBy
      exact walk_no1 fr id most hft hBy
    · rw [hr] at hBy h1
      exact walk_no2 fr id most hft hX.ins (by rwa [Bool.true_and] at h1) hBy
theorem refwalk_any {w : World} {v : Value} {X : List Tv} (fr : Int) (id : Nat) (most : Int) (hX : LiesT w v X) (hS : Smal X) :
    Calls Try.prog 11 #[v, .int .i64 fr, idv id, .int .i64 most] w fun e w' => RouP w.heap.size (walkR (tabsOf X) fr id most) e w' ∧ Below w.heap.size w w' := by
  obtain ⟨hl, hn⟩ := smal_len hS
  have hRi := fun (W : World) (hb : Below w.heap.size w W) => right_any (hX.bel hb) hl hn
  have hFi := fun (a : Int) (W : World) (hb : Below w.heap.size w W) => find_any a (hX.bel hb) hn
  by_cases h : mayB (tabsOf X) fr most = true
  · obtain ⟨h1, ⟨x0, hx0⟩, m, rfl, hm⟩ := may_yes h
    rw [h1] at hRi
    rw [walkR_yes h hx0]
    exact refwalk_good fr id m x0 _ _ _ hX (rgt_len h1) hm hx0 hRi hFi (refdone_tv hX.ins id) (refnear_tv hX.ins hS id)
  · rw [walkR_no h]
    exact refwalk_no fr id most _ hX (fun h => rgt_len h) (may_no h) hRi hFi
end Go.Proofs.Ytfajfmcabpmchaa
