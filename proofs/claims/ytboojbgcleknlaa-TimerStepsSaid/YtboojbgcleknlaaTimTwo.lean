/- Timers of a row of times; two of them side by side; rows of numbers put behind one another. -/
import Derived.Test.YtboojbgcleknlaaTimOpen
namespace Go.Proofs.Ytboojbgcleknlaa
open Go Go.RowKit Go.Sort

/-- the row behind the first j times of a row -/
def rowA (A : List Int) : Nat → List Du
  | 0 => []
  | j + 1 => rowS 0 (rowA A j) (j : Int) (A.getD j 0)
theorem len_rowS (now : Int) (K : List Du) (k t : Int) : (rowS now K k t).length ≤ K.length + 1 := by
  unfold rowS
  split
  · omega
  · split
    · omega
    · rw [setK, len_insK]; have := delK_le k K; omega
theorem len_rowA (A : List Int) (j : Nat) : (rowA A j).length ≤ j := by
  induction j with
  | zero => exact Nat.le_refl _
  | succ j ih => have := len_rowS 0 (rowA A j) (j : Int) (A.getD j 0); rw [rowA]; omega
theorem mem_rowA {A : List Int} {j : Nat} (hj : j ≤ A.length) (hl : j ≤ 500) (d : Du) : d ∈ rowA A j ↔ ∃ k, k < j ∧ A[k]? = some d.tm ∧ d.id = (k : Int) ∧ 0 ≤ d.tm := by
  induction j generalizing d with
  | zero => simp [rowA]
  | succ j ih =>
    have hA : A[j]? = some (A.getD j 0) := by rw [List.getD_eq_getElem?_getD, List.getElem?_eq_getElem (by omega)]; rfl
    have ih := ih (by omega) (by omega)
    have hll := len_rowA A j
    rw [rowA]
    unfold rowS
    by_cases h0 : A.getD j 0 < 0
    · rw [if_pos h0, ih]
      constructor
      · rintro ⟨k, h1, h2⟩
        exact ⟨k, by omega, h2⟩
      · rintro ⟨k, h1, h2, h3, h4⟩
        refine ⟨k, ?_, h2, h3, h4⟩
        rcases Nat.lt_or_ge k j with h | h
        · exact h
        · obtain rfl : k = j := by omega
          rw [hA] at h2
          have := Option.some.inj h2
          omega
    · rw [if_neg h0, if_neg (fun h => by omega), mem_setK]
      constructor
      · rintro (rfl | ⟨h1, h2⟩)
        · exact ⟨j, by omega, hA, rfl, by simp only; omega⟩
        · obtain ⟨k, k1, k2⟩ := (ih d).1 h1
          exact ⟨k, by omega, k2⟩
      · rintro ⟨k, h1, h2, h3, h4⟩
        rcases Nat.lt_or_ge k j with h | h
        · exact .inr ⟨(ih d).2 ⟨k, h, h2, h3, h4⟩, by omega⟩
        · obtain rfl : k = j := by omega
          rw [hA] at h2
          exact .inl (Du.same h3 (Option.some.inj h2).symm)
theorem fit_small (j : Nat) (h : j ≤ 1000000) : Fit (j : Int) := fit_of (by omega)
set_option maxHeartbeats 2000000 in
theorem set_of {w0 w : World} {v : Value} {A : List Int} (hA : Num w0 v A) (hw : Below w0.heap.size w0 w) (hl : A.length ≤ 100) :
    Calls Try.prog 20 #[v] w fun e w' => e = .returned (.pointer (some ⟨w.heap.size + 1, 0, none⟩)) ∧ HasT w.heap.size w w' (w.heap.size + 1) 0 (rowA A A.length) := by
  obtain ⟨va, vc, rfl⟩ := hA.form
  have H0 := Lib.hid (ht_new (Below.refl w.heap.size w) (Nat.le_refl _))
  obtain ⟨n, hn⟩ : ∃ n, n = A.length := ⟨_, rfl⟩
  have HN := Lib.hid hn
  have HA := Lib.hid hA
  have HW := Lib.hid hw
  rw [← hn] at hl HA ⊢
  clear hA hw hn
  go_enter Try.func20, Try.ntmps20
  go_upto_region 2 with (go_at_call 7; (with_reducible refine H0.out.mono ?_); rintro e w1 ⟨rfl, h1, _⟩; have H1 := Lib.hid h1; clear h1)
  go_wp2
  generalize hg : w.heap.size + 1 = g at *
  have HG := Lib.hid hg
  clear hg
  go_loopw [4] (fun i wr => ∃ p : Nat, p ≤ n ∧ i = .int .i64 p ∧ HasT w.heap.size w wr g 0 (rowA A p)) (fun i _ => n - (intOf i).toNat)
  case atStart => exact ⟨0, by omega, rfl, H1.out⟩
  case round =>
    obtain ⟨p, hp, rfl, hT⟩ := hrel
    by_cases hlt : p < n
    · obtain ⟨x, hx⟩ : ∃ x, A[p]? = some x := ⟨_, List.getElem?_eq_getElem (by have := HN.out; omega)⟩
      obtain ⟨b, o, rfl, c0, _⟩ := HA.out.at (HW.out.trans (hT.below.mono HW.out.size)) hx
      have HS : Hid (Calls Try.prog 8 #[.pointer (some ⟨g, 0, none⟩), .int .i64 (p : Int), .int .i64 x] wr fun e w' => e = .returned (.int .i64 (codeS 0 (rowA A p) (p : Int) x)) ∧ Hid (HasT w.heap.size w w' g 0 (rowA A (p + 1)))) := by
        have h := ht_set hT (k := (p : Int)) (fit_small p (by omega)) x
        have e : rowA A (p + 1) = rowS 0 (rowA A p) (p : Int) x := by rw [rowA, List.getD_eq_getElem?_getD, hx]; rfl
        rw [e]
        exact h
      clear hx hT
      generalize codeS 0 (rowA A p) (p : Int) x = cd at *
      go_wp2_with (go_at_call 8; (with_reducible refine HS.out.mono ?_); rintro e w2 ⟨rfl, h2⟩)
      exact ⟨⟨p + 1, by omega, by go_num, h2.out⟩, by simp [intOf]; omega⟩
    · obtain rfl : n = p := by omega
      have HT := Lib.hid hT
      clear hT
      go_wp2
      go_ret
      have e := HG.out
      subst e
      exact ⟨rfl, HT.out⟩

/-- two timers of a law's own, side by side -/
def Two (s : Nat) (w0 w : World) (g1 : Nat) (n1 : Int) (L1 : List Du) (g2 : Nat) (n2 : Int) (L2 : List Du) : Prop := ∃ m1 v1 m2 v2, Tm w g1 m1 v1 n1 L1 ∧ Tm w g2 m2 v2 n2 L2 ∧ Below s w0 w ∧ s ≤ w.heap.size ∧
  (s ≤ g1 ∧ s ≤ m1 ∧ ∀ k, v1.ownBlock = some k → s ≤ k) ∧ (s ≤ g2 ∧ s ≤ m2 ∧ ∀ k, v2.ownBlock = some k → s ≤ k) ∧ g1 ≠ g2 ∧ m1 ≠ m2 ∧ ∀ k, v1.ownBlock = some k → v2.ownBlock ≠ some k
section
variable {s : Nat} {w0 w w' : World} {g1 g2 : Nat} {n1 n2 : Int} {L1 L2 : List Du}
theorem Two.swap (h : Two s w0 w g1 n1 L1 g2 n2 L2) : Two s w0 w g2 n2 L2 g1 n1 L1 := by
  obtain ⟨m1, v1, m2, v2, T1, T2, hb, hs, a1, a2, b1, b2, b3⟩ := h
  exact ⟨m2, v2, m1, v1, T2, T1, hb, hs, a2, a1, b1.symm, b2.symm, fun k hk e => b3 k e hk⟩
theorem Two.bel (h : Two s w0 w g1 n1 L1 g2 n2 L2) (hb : Below w.heap.size w w') : Two s w0 w' g1 n1 L1 g2 n2 L2 := by
  obtain ⟨m1, v1, m2, v2, T1, T2, h1, h2, r⟩ := h
  exact ⟨m1, v1, m2, v2, T1.bel hb, T2.bel hb, h1.trans (hb.mono h2), Nat.le_trans h2 hb.size, r⟩
theorem Two.below (h : Two s w0 w g1 n1 L1 g2 n2 L2) : Below s w0 w := by obtain ⟨_, _, _, _, _, _, h, _⟩ := h; exact h
theorem Two.le (h : Two s w0 w g1 n1 L1 g2 n2 L2) : s ≤ w.heap.size := by obtain ⟨_, _, _, _, _, _, _, h, _⟩ := h; exact h
theorem Two.of {w1 : World} (h1 : HasT w0.heap.size w0 w1 g1 n1 L1) (h2 : HasT w1.heap.size w1 w g2 n2 L2) : Two w0.heap.size w0 w g1 n1 L1 g2 n2 L2 := by
  have h1' := h1.bel h2.below
  obtain ⟨m1, v1, T1, b1, s1, c1, d1, e1⟩ := h1
  obtain ⟨m2, v2, T2, b2, s2, c2, d2, e2⟩ := h2
  have T1' := T1.bel b2
  have hx : ∀ k, v1.ownBlock = some k → k < w1.heap.size := fun k hk => by
    obtain ⟨h, f, T1⟩ := T1
    exact (T1.me.own_lt hk).1
  have hm : m1 < w1.heap.size := by obtain ⟨h, f, T1⟩ := T1; exact T1.me.map.lt
  have hg := T1.lt
  refine ⟨m1, v1, m2, v2, T1', T2, b1.trans (b2.mono s1), by omega, ⟨c1, d1, e1⟩, ⟨by omega, by omega, fun k hk => by have := e2 k hk; omega⟩, by omega, by omega, fun k hk e => ?_⟩
  have := hx k hk
  have := e2 k e
  omega
/-- a change of the first of them -/
theorem Two.first {n1' : Int} {L1' : List Du} {m1 m2 : Nat} {v1 v2 : Value} (T1 : Tm w g1 m1 v1 n1 L1) (T2 : Tm w g2 m2 v2 n2 L2) (hb : Below s w0 w) (hs : s ≤ w.heap.size)
    (a1 : s ≤ g1 ∧ s ≤ m1 ∧ ∀ k, v1.ownBlock = some k → s ≤ k) (a2 : s ≤ g2 ∧ s ≤ m2 ∧ ∀ k, v2.ownBlock = some k → s ≤ k) (b1 : g1 ≠ g2) (b2 : m1 ≠ m2) (b3 : ∀ k, v1.ownBlock = some k → v2.ownBlock ≠ some k)
    (N : TmN w w' g1 m1 v1 n1' L1') : Two s w0 w' g1 n1' L1' g2 n2 L2 := by
  obtain ⟨v1', T1', K1, hv⟩ := N
  obtain ⟨h1, f1, U1⟩ := id T1
  obtain ⟨h2, f2, U2⟩ := id T2
  have due : ∀ {m : Nat} {v : Value} {n : Int} {L : List Du} {g : Nat} {h : Nat → Du} {f : Int → Option Nat}, Tk w g m v n L h f → ∀ k, v.ownBlock = some k → ∃ cur, Blk w k cur 53 := fun U k hk => by
    rcases U.me.row with ⟨rfl, _⟩ | ⟨b, c, rfl, r, _⟩
    · cases hk
    · obtain rfl : b = k := Option.some.inj hk
      obtain ⟨cur, r, _⟩ := r
      exact ⟨cur, r⟩
  have M2 : Me w' g2 m2 n2 v2 L2.length h2 L2.length f2 := by
    refine U2.me.other K1 b1.symm (U1.me.map.ne U2.me.blk) (fun e => ?_) (fun e => ?_) b2.symm (fun e => ?_) (fun k hk => ⟨?_, ?_, fun e => b3 k e hk⟩)
    · obtain ⟨cur, hc⟩ := due U1 _ e
      exact hc.type U2.me.blk (by decide) rfl
    · exact U2.me.map.ne U1.me.blk e.symm
    · obtain ⟨cur, hc⟩ := due U1 _ e
      exact U2.me.map.ne hc rfl
    · obtain ⟨cur, hc⟩ := due U2 k hk
      exact hc.type U1.me.blk (by decide)
    · obtain ⟨cur, hc⟩ := due U2 k hk
      exact U1.me.map.ne hc
  refine ⟨m1, v1', m2, v2, T1', ⟨h2, f2, M2, U2.heap, U2.gd, U2.con⟩, hb.trans ⟨K1.os, K1.tape, K1.output, K1.size, fun k hk => K1.block k (by omega) (by omega) (by omega) (fun e => by have := a1.2.2 k e; omega)⟩, Nat.le_trans hs K1.size, ⟨a1.1, a1.2.1, fun k hk => ?_⟩, a2, b1, b2, fun k hk e => ?_⟩
  · rcases hv with hv | ⟨b, hv, hl⟩
    · exact a1.2.2 k (hv ▸ hk)
    · rw [hv] at hk; have := Option.some.inj hk; omega
  · rcases hv with hv | ⟨b, hv, hl⟩
    · exact b3 k (hv ▸ hk) e
    · rw [hv] at hk
      have := Option.some.inj hk
      have := (U2.me.own_lt e).1
      omega
/-- rows of numbers stay -/
def Stay (w w' : World) : Prop := ∀ u l, IsI w u l → IsI w' u l
theorem two_tick1 (h : Two s w0 w g1 n1 L1 g2 n2 L2) {t : Int} (ht : ¬ t < n1) : Calls Try.prog 12 #[.pointer (some ⟨g1, 0, none⟩), .int .i64 t] w fun e w' => ∃ a c, e = .returned (.tuple #[.slice a (dueK t L1).length c, .int .i64 0]) ∧ IsI w' (.slice a (dueK t L1).length c) ((dueK t L1).map (·.id)) ∧ Two s w0 w' g1 t (restK t L1) g2 n2 L2 ∧ Stay w w' := by
  obtain ⟨m1, v1, m2, v2, T1, T2, hb, hs, a1, a2, b1, b2, b3⟩ := h
  refine (tick_any T1 ht).mono ?_
  rintro e w1 ⟨a, c, rfl, N, hI⟩
  exact ⟨a, c, rfl, hI, Two.first T1 T2 hb hs a1 a2 b1 b2 b3 N, fun u l hu => hu.tmN T1 N⟩
theorem two_tick2 (h : Two s w0 w g1 n1 L1 g2 n2 L2) {t : Int} (ht : ¬ t < n2) : Calls Try.prog 12 #[.pointer (some ⟨g2, 0, none⟩), .int .i64 t] w fun e w' => ∃ a c, e = .returned (.tuple #[.slice a (dueK t L2).length c, .int .i64 0]) ∧ IsI w' (.slice a (dueK t L2).length c) ((dueK t L2).map (·.id)) ∧ Two s w0 w' g1 n1 L1 g2 t (restK t L2) ∧ Stay w w' := by
  refine (two_tick1 h.swap ht).mono ?_
  rintro e w1 ⟨a, c, he, hI, hT, hS⟩
  exact ⟨a, c, he, hI, hT.swap, hS⟩
theorem two_size1 (h : Two s w0 w g1 n1 L1 g2 n2 L2) : Calls Try.prog 18 #[.pointer (some ⟨g1, 0, none⟩)] w fun e w' => e = .returned (.int .i64 (L1.length : Int)) ∧ w' = w := by
  obtain ⟨m1, v1, m2, v2, T1, _⟩ := h
  exact size_any T1
theorem two_size2 (h : Two s w0 w g1 n1 L1 g2 n2 L2) : Calls Try.prog 18 #[.pointer (some ⟨g2, 0, none⟩)] w fun e w' => e = .returned (.int .i64 (L2.length : Int)) ∧ w' = w := two_size1 h.swap
theorem two_now1 (h : Two s w0 w g1 n1 L1 g2 n2 L2) : Calls Try.prog 17 #[.pointer (some ⟨g1, 0, none⟩)] w fun e w' => e = .returned (.int .i64 n1) ∧ w' = w := by
  obtain ⟨m1, v1, m2, v2, T1, _⟩ := h
  exact now_any T1
theorem Two.ord (h : Two s w0 w g1 n1 L1 g2 n2 L2) : Ord L1 := by obtain ⟨m1, v1, m2, v2, T1, _⟩ := h; exact T1.ord
theorem Two.len (h : Two s w0 w g1 n1 L1 g2 n2 L2) : L1.length ≤ 1000 := by obtain ⟨m1, v1, m2, v2, T1, _⟩ := h; exact T1.len
end
theorem Stay.bel {w w' : World} (h : Below w.heap.size w w') : Stay w w' := fun _ _ hu => hu.bel h
/-- a row of numbers behind a row of the call's own -/
theorem app_ints {W : World} {B : Nat} {v u : Value} {l m : List Int} (h : W.ownsRow B 3 1 v l.length (ints l)) (hu : IsI W u m) (hB : B ≤ W.heap.size) (hn : l.length + m.length ≤ 1000000) : ∃ a c w',
    (Builtin.append_ #[34, 34] 34 #[v, u]).run Try.prog W = .ok (.slice a (l.length + m.length) c) w' ∧
    w'.ownsRow B 3 1 (.slice a (l.length + m.length) c) (l ++ m).length (ints (l ++ m)) ∧ W.grownBy w' v.ownBlock := by
  obtain ⟨i0, hi, hq⟩ := Option.map_eq_some_iff.1 infoN
  simp only [Prod.mk.injEq] at hq
  obtain ⟨q1, q2, q3⟩ := hq
  obtain ⟨a, c, rfl, ⟨rfl, rfl, rfl⟩ | ⟨b, cs, rfl, hb, hc⟩⟩ := hu
  · obtain ⟨a, c, rfl⟩ := own_form h
    refine ⟨a, c, W, run_append_owned_none (P := Try.prog) W B 34 34 3 i0 1 Try.underlying34 hi _ _ _ h, ?_, World.grownBy.refl _ _⟩
    rw [List.append_nil]
    exact h
  · obtain ⟨v', w', hr, h2, h3, _, h5⟩ := run_append_own_at (P := Try.prog) W B 34 34 3 i0 _ 1 8 Try.underlying34 hi q1 q2 q3 rfl (by omega) v l.length (ints l) h ⟨b, 0, none⟩ m.length c (ints m) (by simp [ints])
      (fun j x hj => by
        rw [Addr.add_mid, Nat.zero_add, hb.cell]
        simp only [ints, List.getElem?_map, Option.map_eq_some_iff] at hj
        obtain ⟨y, hy, rfl⟩ := hj
        exact hc j y hy) (fun x hx => by simp only [ints, List.mem_map] at hx; obtain ⟨y, _, rfl⟩ := hx; rfl) (by unfold maxLen; omega) (by omega) hB
    obtain ⟨a, c', rfl⟩ := own_form h2
    refine ⟨a, c', w', hr, ?_, h3⟩
    rw [List.length_append, ints, List.map_append]
    exact h2
end Go.Proofs.Ytboojbgcleknlaa
