/- The document's own: a table is found by its address; tables may be walked. -/
import Derived.Test.YtfajfmcabpmchaaWalBy
import Derived.Test.YtfajfmcabpmchaaTabRefs
namespace Go.Proofs.Ytfajfmcabpmchaa
set_option maxRecDepth 100000
open Go Go.RowKit Go.Sort

/-- the place of an address -/
def idxN (X : List Tv) (a : Int) : Nat := X.findIdx fun x => decide (x.t.s.1 = a)
def idxV (X : List Tv) (a : Int) : Int := if idxN X a < X.length then ((idxN X a : Nat) : Int) else -1
theorem idx_get (X : List Tv) (a : Int) : findV X a = X[idxN X a]? := by
  unfold findV idxN
  induction X with
  | nil => rfl
  | cons x X ih =>
    by_cases h : x.t.s.1 = a
    · rw [List.find?_cons_of_pos (by simpa using h), List.findIdx_cons, decide_eq_true h]; rfl
    · rw [List.find?_cons_of_neg (by simpa using h), List.findIdx_cons, decide_eq_false h, ih]; rfl
theorem idx_of {X : List Tv} {a : Int} {k : Nat} {x : Tv} (h : X[k]? = some x) (hx : x.t.s.1 = a) (hj : ∀ (j : Nat) (y : Tv), j < k → X[j]? = some y → y.t.s.1 ≠ a) : idxN X a = k := by
  obtain ⟨hk, he⟩ := List.getElem?_eq_some_iff.1 h
  unfold idxN
  rw [List.findIdx_eq hk]
  refine ⟨by rw [he]; exact decide_eq_true hx, fun j hjk => decide_eq_false (hj j _ hjk (List.getElem?_eq_getElem (by omega)))⟩
theorem idx_none {X : List Tv} {a : Int} (hj : ∀ (j : Nat) (y : Tv), X[j]? = some y → y.t.s.1 ≠ a) : idxN X a = X.length := by
  unfold idxN
  rw [List.findIdx_eq_length]
  intro x hx
  obtain ⟨j, hj'⟩ := List.getElem?_of_mem hx
  exact decide_eq_false (hj j x hj')
theorem idx_le (X : List Tv) (a : Int) : idxN X a ≤ X.length := List.findIdx_le_length
theorem idxV_neg (X : List Tv) (a : Int) : idxV X a < 0 ↔ (findV X a).isSome = false := by
  rw [idx_get]
  unfold idxV
  split
  · rename_i h
    rw [List.getElem?_eq_getElem h]
    constructor
    · intro h2; omega
    · intro h2; cases h2
  · rename_i h
    rw [List.getElem?_eq_none (by omega)]
    exact ⟨fun _ => rfl, fun _ => by omega⟩
theorem idxV_self {X : List Tv} {k : Nat} {x : Tv} (h : X[k]? = some x) : idxV X x.t.s.1 = (k : Int) ↔ (findV (X.take k) x.t.s.1).isSome = false := by
  obtain ⟨hk, he⟩ := List.getElem?_eq_some_iff.1 h
  constructor
  · intro hi
    rw [Option.isSome_eq_false_iff, Option.isNone_iff_eq_none]
    unfold findV
    rw [List.find?_eq_none]
    intro y hy
    obtain ⟨j, hj⟩ := List.getElem?_of_mem hy
    rw [List.getElem?_take] at hj
    split at hj
    · rename_i hjk
      intro hd
      have hd : y.t.s.1 = x.t.s.1 := by simpa using hd
      have hle : idxN X x.t.s.1 ≤ j := by
        unfold idxN
        rcases Nat.lt_or_ge j (X.findIdx fun x_1 => decide (x_1.t.s.1 = x.t.s.1)) with h1 | h1
        · have := List.not_of_lt_findIdx h1
          obtain ⟨hjl, hje⟩ := List.getElem?_eq_some_iff.1 hj
          rw [hje, hd] at this
          simp at this
        · exact h1
      unfold idxV at hi
      rw [if_pos (by omega)] at hi
      omega
    · cases hj
  · intro hn
    rw [Option.isSome_eq_false_iff, Option.isNone_iff_eq_none] at hn
    unfold findV at hn
    rw [List.find?_eq_none] at hn
    have e := idx_of h rfl fun j y hjk hy hd => by
      have hm : y ∈ X.take k := List.mem_of_getElem? (i := j) (by rw [List.getElem?_take, if_pos hjk]; exact hy)
      have := hn y hm
      simp [hd] at this
    unfold idxV
    rw [e, if_pos hk]
set_option maxHeartbeats 1000000 in
theorem find_any {w : World} {v : Value} {X : List Tv} (a : Int) (hX : LiesT w v X) (hn : X.length ≤ 1000000) :
    Calls Try.prog 29 #[v, .int .i64 a] w fun e w' => e = .returned (.int .i64 (idxV X a)) ∧ w = w' := by
  obtain ⟨av, cv, rfl⟩ := hX.form
  have HX := Lib.hid hX
  obtain ⟨n, hn'⟩ : ∃ n, n = X.length := ⟨_, rfl⟩
  rw [← hn'] at hn HX ⊢
  have HN := Lib.hid hn'
  generalize hv : idxV X a = iv
  have HV := Lib.hid hv
  clear hn' hX hv
  go_enter Try.func29, Try.ntmps29
  go_upto_region 2 with (fail)
  go_loopw [5] (fun i wr => ∃ k : Nat, i = .int .i64 (k : Int) ∧ k ≤ n ∧ (∀ (j : Nat) (y : Tv), j < k → X[j]? = some y → y.t.s.1 ≠ a) ∧ wr = w) (fun i _ => n - (intOf i).toNat)
  case atStart => exact ⟨0, rfl, Nat.zero_le _, fun j y hj => absurd hj (Nat.not_lt_zero _), rfl⟩
  case round =>
    obtain ⟨k, rfl, hk, hno, rfl⟩ := hrel
    have HNO := Lib.hid hno
    clear hno
    by_cases hlt : k < n
    · have hx : X[k]? = some (X.getD k tv0) := tab_at (by have := HN.out; omega)
      obtain ⟨b, o, c, e1, hc, r0, hlb⟩ := HX.out.at hx
      simp only [Value.slice.injEq] at e1
      obtain ⟨rfl, en, rfl⟩ := e1
      clear en
      have c1 := tv_ad r0
      have bk : (k : Int) < (n : Int) := by omega
      have bz : (0 : Int) ≤ (k : Int) := by omega
      have s1 : IntKind.i64.wrap ((k : Int) + 1) = (k : Int) + 1 := IntWalk.i64_in _ (by omega)
      generalize hxx : X.getD k tv0 = x at *
      have HXX := Lib.hid hx
      clear hx r0 hlb hc hxx
      by_cases he : x.t.s.1 = a
      · have hb : (x.t.s.1 == a) = true := by simpa using he
        have hi : iv = (k : Int) := by
          rw [← HV.out]
          have e := idx_of HXX.out he HNO.out
          unfold idxV
          rw [e, if_pos (by have := HN.out; omega)]
        have HI := Lib.hid hi
        clear he hi
        go_wp2
        go_ret
        exact ⟨by rw [HI.out]; rfl, rfl⟩
      · have hb : (x.t.s.1 == a) = false := by simpa using he
        have hno2 : ∀ (j : Nat) (y : Tv), j < k + 1 → X[j]? = some y → y.t.s.1 ≠ a := fun j y hj hy => by
          rcases Nat.lt_or_ge j k with h | h
          · exact HNO.out j y h hy
          · obtain rfl : j = k := by omega
            rw [HXX.out, Option.some.injEq] at hy
            rw [← hy]; exact he
        have HNO2 := Lib.hid hno2
        clear he hno2
        go_wp2
        exact ⟨⟨k + 1, by go_num, by omega, HNO2.out, trivial⟩, by simp [intOf]; omega⟩
    · obtain rfl : k = n := by omega
      have hi : iv = -1 := by
        rw [← HV.out]
        have e := idx_none (X := X) (a := a) fun j y hy => HNO.out j y (by have := (List.getElem?_eq_some_iff.1 hy).1; have := HN.out; omega) hy
        unfold idxV
        rw [e, if_neg (by omega)]
      have HI := Lib.hid hi
      clear hi
      go_wp2
      go_ret
      exact ⟨by rw [HI.out]; rfl, rfl⟩
set_option maxHeartbeats 2000000 in
theorem right_core {w : World} {v : Value} {X : List Tv} (it : Tv → Bool) (hX : LiesT w v X) (hI : ∀ x ∈ X, GivesW w 53 #[.agg (tvA x)] (.bool (it x))) (hn : X.length ≤ 1000000) :
    Calls Try.prog 28 #[v] w fun e w' => e = .returned (.bool (okV it X X.length && decide (X.length ≤ 16))) ∧ Below w.heap.size w w' := by
  obtain ⟨av, cv, rfl⟩ := hX.form
  have HX := Lib.hid hX
  have HI := Lib.hid hI
  obtain ⟨n, hn'⟩ : ∃ n, n = X.length := ⟨_, rfl⟩
  rw [← hn'] at hn HX ⊢
  have HN := Lib.hid hn'
  generalize hg : w.heap.size = g at *
  clear hn' hX hI
  go_enter Try.func28, Try.ntmps28
  go_upto_region 2 with (fail)
  go_loopw [3] (fun i wr => ∃ k : Nat, i = .int .i64 (k : Int) ∧ k ≤ n ∧ okV it X k = true ∧ Below g w wr) (fun i _ => n - (intOf i).toNat)
  case atStart => exact ⟨0, rfl, Nat.zero_le _, rfl, Below.refl _ _⟩
  case round =>
    obtain ⟨k, rfl, hk, hok, hB⟩ := hrel
    have HOK := Lib.hid hok
    clear hok
    by_cases hlt : k < n
    · have hx : X[k]? = some (X.getD k tv0) := tab_at (by have := HN.out; omega)
      have hgd : (X.getD k tv0) ∈ X := List.mem_of_getElem? hx
      have hbad : (!(findV (X.take k) (X.getD k tv0).t.s.1).isSome && it (X.getD k tv0)) = false → okV it X n = false := fun h => by
        refine okV_le it X (show k + 1 ≤ n by omega) ?_
        rw [okV, h, Bool.and_false]
      have hgood : (!(findV (X.take k) (X.getD k tv0).t.s.1).isSome && it (X.getD k tv0)) = true → okV it X (k + 1) = true := fun h => by rw [okV, h, HOK.out]; rfl
      have hself := idxV_self hx
      have hXr := HX.out.bel (hg ▸ hB)
      obtain ⟨b, o, c, e1, hc, r0, hlb⟩ := hXr.at hx
      simp only [Value.slice.injEq] at e1
      obtain ⟨rfl, en, rfl⟩ := e1
      clear en
      have hcall := HI.out _ hgd wr (by rw [hg]; exact hB)
      have hF : Hid (∀ w2, Below wr.heap.size wr w2 → Calls Try.prog 29 #[.slice (some ⟨b, o, none⟩) n cv, .int .i64 (X.getD k tv0).t.s.1] w2 fun e w' => e = .returned (.int .i64 (idxV X (X.getD k tv0).t.s.1)) ∧ w2 = w') := fun w2 hb => find_any _ (hXr.bel hb) (by have := HN.out; omega)
      have bk : (k : Int) < (n : Int) := by omega
      have bz : (0 : Int) ≤ (k : Int) := by omega
      have s1 : IntKind.i64.wrap ((k : Int) + 1) = (k : Int) + 1 := IntWalk.i64_in _ (by omega)
      generalize (findV (X.take k) (X.getD k tv0).t.s.1).isSome = tw at *
      generalize X.getD k tv0 = x at *
      generalize idxV X x.t.s.1 = iv at *
      have HR0 : Hid (∀ w2, Below wr.heap.size wr w2 → w2.cell? ⟨b, o + k * 44, none⟩ = some (.int .i64 x.t.s.1)) := fun w2 hb => tv_ad (range_bel r0 hb hlb)
      have HBAD := Lib.hid hbad
      have HGOOD := Lib.hid hgood
      have HSELF := Lib.hid hself
      have HB := Lib.hid hB
      have hsz : g ≤ wr.heap.size := by have := hB.size; omega
      clear hbad hgood hself hXr hgd hx hB hlb hc
      generalize hit : it x = ix at *
      cases ix
      · have HE := Lib.hid (HBAD.out (by cases tw <;> rfl))
        clear HBAD HGOOD HSELF
        go_wp2_with (first
          | (refine p_rowT rfl _ rfl b (o + k * 44) rfl x r0 ?_)
          | (go_at_call 53; (with_reducible refine hcall.mono ?_); rintro e w3 ⟨rfl, k3⟩; have B3 := HB.out.trans (k3.mono hsz); clear k3))
        go_ret
        exact ⟨by rw [HE.out]; rfl, B3⟩
      · cases tw
        · have HE := Lib.hid (HGOOD.out rfl)
          have hiv : iv = (k : Int) := HSELF.out.2 rfl
          have hb : (iv != (k : Int)) = false := by rw [hiv]; simp
          have HH := Lib.hid hb
          clear HBAD HGOOD HSELF hiv
          go_wp2_with (first
            | (refine p_rowT rfl _ rfl b (o + k * 44) rfl x r0 ?_)
            | (go_at_call 53; (with_reducible refine hcall.mono ?_); rintro e w3 ⟨rfl, k3⟩; have B3 := Lib.hid (HB.out.trans (k3.mono hsz)); have c3 := HR0.out _ k3; have hF3 := hF.out _ k3; clear k3)
            | (go_at_call 29; (with_reducible refine hF3.mono ?_); rintro e w4 ⟨rfl, rfl⟩))
          exact ⟨⟨k + 1, by go_num, by omega, HE.out, B3.out⟩, by simp [intOf]; omega⟩
        · have HE := Lib.hid (HBAD.out rfl)
          have hiv : iv ≠ (k : Int) := fun e => by have := HSELF.out.1 e; cases this
          have hb : (iv != (k : Int)) = true := by simpa using hiv
          clear HBAD HGOOD HSELF hiv
          go_wp2_with (first
            | (refine p_rowT rfl _ rfl b (o + k * 44) rfl x r0 ?_)
            | (go_at_call 53; (with_reducible refine hcall.mono ?_); rintro e w3 ⟨rfl, k3⟩; have B3 := Lib.hid (HB.out.trans (k3.mono hsz)); have c3 := HR0.out _ k3; have hF3 := hF.out _ k3; clear k3)
            | (go_at_call 29; (with_reducible refine hF3.mono ?_); rintro e w4 ⟨rfl, rfl⟩))
          go_ret
          exact ⟨by rw [HE.out]; rfl, B3.out⟩
    · obtain rfl : k = n := by omega
      have HE := Lib.hid HOK.out
      have HB := Lib.hid hB
      clear hB
      by_cases h16 : k ≤ 16
      · have hd : decide ((k : Int) ≤ 16) = true := decide_eq_true (by omega)
        have h16' : (k : Int) ≤ 16 := by omega
        have e2 : decide (k ≤ 16) = true := decide_eq_true h16
        have HE2 := Lib.hid e2
        clear e2
        go_wp2
        go_ret
        exact ⟨by first | rfl | (rw [HE.out]; rfl) | (rw [HE.out, HE2.out]; rfl), HB.out⟩
      · have hd : decide ((k : Int) ≤ 16) = false := decide_eq_false (by omega)
        have h16' : ¬ (k : Int) ≤ 16 := by omega
        have e2 : decide (k ≤ 16) = false := decide_eq_false h16
        have HE2 := Lib.hid e2
        clear e2
        go_wp2
        go_ret
        exact ⟨by first | rfl | (rw [HE.out]; rfl) | (rw [HE.out, HE2.out]; rfl), HB.out⟩
theorem right_any {w : World} {v : Value} {X : List Tv} (hX : LiesT w v X) (hS : ∀ x ∈ X, x.t.S.length ≤ 1000000 ∧ x.t.F.length ≤ 1000000) (hn : X.length ≤ 1000000) :
    Calls Try.prog 28 #[v] w fun e w' => e = .returned (.bool (rgtT (tabsOf X))) ∧ Below w.heap.size w w' := by
  have h := right_core (fun x => tbB x.t) hX (fun x hx => fun _ hb => refis_any ((hX.ins x hx).1.bel hb) ((hX.ins x hx).2.bel hb) (hS x hx).1 (hS x hx).2) hn
  have e : (okV (fun x => tbB x.t) X X.length && decide (X.length ≤ 16)) = rgtT (tabsOf X) := by
    unfold rgtT
    rw [tabsOf_length, okV_T X _ (Nat.le_refl _), Bool.and_comm]
  rw [e] at h
  exact h
end Go.Proofs.Ytfajfmcabpmchaa
