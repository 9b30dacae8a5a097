/- WalkMore: for all tables, every address, place and two numbers the call returns true: with as many hops as it takes or more the walk is the same, with fewer it is over, and one that is refused has no hops. -/
import Derived.Test.YtfajfmcabpmchaaWalEx
namespace Go.Proofs.Ytfajfmcabpmchaa.MoreLaw
set_option maxRecDepth 100000
open Go Go.ChangeShapes Go.WideShapes Go.ChangeAt Go.RowKit Go.Sort

theorem wk_more (T : List Tb) (id : Nat) : ∀ (n : Nat) (t : Tb) (H A : List Int) (e : Pe), wkG T id n t H = ((A, e), 0) →
    H.length ≤ A.length ∧ A.length ≤ H.length + n ∧ ∀ m, (A.length ≤ H.length + m → wkG T id m t H = ((A, e), 0)) ∧ (H.length + m < A.length → wkG T id m t H = badR 2) := by
  intro n
  induction n with
  | zero =>
    intro t H A e h
    cases hd : doneB t id
    · cases h2 : (nextT t id).2
      · rw [wk_none hd h2] at h; simp [badR] at h
      · rw [wk_lim hd h2] at h; simp [badR] at h
    · rw [wk_done hd] at h
      simp only [Prod.mk.injEq, and_true] at h
      obtain ⟨rfl, rfl⟩ := h
      exact ⟨Nat.le_refl _, by omega, fun m => ⟨fun _ => wk_done hd m H, fun h => by omega⟩⟩
  | succ n ih =>
    intro t H A e h
    cases hd : doneB t id
    · cases h2 : (nextT t id).2
      · rw [wk_none hd h2] at h; simp [badR] at h
      · cases h3 : findT T (nextT t id).1.1 with
        | none => rw [wk_off hd h2 h3] at h; simp [badR] at h
        | some t' =>
          rw [wk_go hd h2 h3] at h
          obtain ⟨i1, i2, i3⟩ := ih t' _ A e h
          rw [List.length_append, List.length_singleton] at i1 i2 i3
          refine ⟨by omega, by omega, fun m => ?_⟩
          cases m with
          | zero => exact ⟨fun h => by omega, fun _ => wk_lim hd h2 H⟩
          | succ m =>
            rw [wk_go hd h2 h3]
            exact ⟨fun h => (i3 m).1 (by omega), fun h => (i3 m).2 (by omega)⟩
    · rw [wk_done hd] at h
      simp only [Prod.mk.injEq, and_true] at h
      obtain ⟨rfl, rfl⟩ := h
      exact ⟨Nat.le_refl _, by omega, fun m => ⟨fun _ => wk_done hd m H, fun h => by omega⟩⟩
theorem wk_code (T : List Tb) (id : Nat) : ∀ (n : Nat) (t : Tb) (H : List Int), (∃ A e, wkG T id n t H = ((A, e), 0)) ∨ ∃ c, c ≠ 0 ∧ c ≠ 1 ∧ wkG T id n t H = badR c := by
  intro n
  induction n with
  | zero =>
    intro t H
    cases hd : doneB t id
    · cases h2 : (nextT t id).2
      · exact .inr ⟨7, by omega, by omega, wk_none hd h2 0 H⟩
      · exact .inr ⟨2, by omega, by omega, wk_lim hd h2 H⟩
    · exact .inl ⟨_, _, wk_done hd 0 H⟩
  | succ n ih =>
    intro t H
    cases hd : doneB t id
    · cases h2 : (nextT t id).2
      · exact .inr ⟨7, by omega, by omega, wk_none hd h2 _ H⟩
      · cases h3 : findT T (nextT t id).1.1 with
        | none => exact .inr ⟨5, by omega, by omega, wk_off hd h2 h3 n H⟩
        | some t' =>
          rw [wk_go hd h2 h3]
          exact ih t' _
    · exact .inl ⟨_, _, wk_done hd _ H⟩
theorem may_any {T : List Tb} {fr : Int} {n m : Nat} (hn : n ≤ 64) (hm : m ≤ 64) : mayB T fr (n : Int) = mayB T fr (m : Int) := by
  unfold mayB
  rw [decide_eq_true (p := (0 : Int) ≤ (n : Int)) (by omega), decide_eq_true (p := (n : Int) ≤ 64) (by omega), decide_eq_true (p := (0 : Int) ≤ (m : Int)) (by omega), decide_eq_true (p := (m : Int) ≤ 64) (by omega)]
theorem walk_pair (T : List Tb) (fr : Int) (id : Nat) {n m : Nat} (hn : n ≤ 64) (hm : m ≤ 64) :
    (∃ c, c ≠ 0 ∧ walkR T fr id (n : Int) = badR c ∧ (c = 1 → walkR T fr id (m : Int) = badR 1)) ∨
    ∃ A e, walkR T fr id (n : Int) = ((A, e), 0) ∧ 1 ≤ A.length ∧ A.length ≤ n + 1 ∧ (A.length ≤ m + 1 → walkR T fr id (m : Int) = ((A, e), 0)) ∧ (m + 1 < A.length → walkR T fr id (m : Int) = badR 2) := by
  unfold walkR
  rw [may_any hn hm (T := T) (fr := fr)]
  split
  · rw [Int.toNat_natCast, Int.toNat_natCast]
    rcases wk_code T id n ((findT T fr).getD tb0) [fr] with ⟨A, e, h⟩ | ⟨c, h0, h1, h⟩
    · obtain ⟨i1, i2, i3⟩ := wk_more T id n _ _ A e h
      rw [List.length_singleton] at i1 i2 i3
      exact .inr ⟨A, e, h, i1, by omega, fun hl => (i3 m).1 (by omega), fun hl => (i3 m).2 (by omega)⟩
    · exact .inl ⟨c, h0, h, fun h => absurd h h1⟩
  · exact .inl ⟨1, by omega, rfl, fun _ => rfl⟩
theorem rou_form {B : Nat} {A : List Int} {en : Pe} {cd : Int} {e : Ending} {w' : World} (h : RouP B ((A, en), cd) e w') : ∃ a c, e = .returned (.tuple #[.agg (rtA (.slice a A.length c) en), .int .i64 cd]) ∧ Nums w' (.slice a A.length c) A := by
  obtain ⟨h, rfl, ho⟩ := h
  have hn := nums_own ho
  obtain ⟨a, c, rfl⟩ := hn.form
  exact ⟨a, c, rfl, hn⟩
/-- what is known of the two walks: their hops' numbers and codes -/
structure Two (n m k k' : Nat) (A A' : List Int) (en en' : Pe) (cd cd' : Int) : Prop where
  ok : (k = 0 ∧ (cd != 0) = true ∧ ((cd != 1) = true ∨ ((cd != 1) = false ∧ (cd' == cd) = true))) ∨ ((k == 0) = false ∧ 1 ≤ k ∧ k ≤ n + 1 ∧ cd = 0 ∧ ((k ≤ m + 1 ∧ cd' = 0 ∧ A' = A ∧ en' = en) ∨ (m + 1 < k ∧ cd' = 2)))
set_option maxHeartbeats 8000000 in
theorem walk_two {w : World} {v : Value} {A A' : List Int} {en en' : Pe} {cd cd' : Int} (fr : Int) (id : Nat) (n m k k' : Nat) (hn : n ≤ 64) (hm : m ≤ 64) (hk : k = A.length) (hk' : k' = A'.length)
    (hBg : Hid (∀ W, Below w.heap.size w W → Calls Try.prog 9 #[v] W fun e w' => e = .returned (.bool false) ∧ Below W.heap.size W w'))
    (hWk : Hid (∀ W, Below w.heap.size w W → Calls Try.prog 10 #[v, .int .i64 fr, idv id, .int .i64 (n : Int)] W fun e w' => (∃ a c, e = .returned (.tuple #[.agg (rtA (.slice a k c) en), .int .i64 cd]) ∧ Nums w' (.slice a k c) A) ∧ Below W.heap.size W w'))
    (hWm : Hid (∀ W, Below w.heap.size w W → Calls Try.prog 10 #[v, .int .i64 fr, idv id, .int .i64 (m : Int)] W fun e w' => (∃ a c, e = .returned (.tuple #[.agg (rtA (.slice a k' c) en'), .int .i64 cd']) ∧ Nums w' (.slice a k' c) A') ∧ Below W.heap.size W w'))
    (hv : ∃ a l c, v = .slice a l c) (hT : Two n m k k' A A' en en' cd cd') :
    Calls Try.prog 7 #[v, .int .i64 fr, idv id, .int .i64 (n : Int), .int .i64 (m : Int)] w fun e w' => e = .returned (.bool true) ∧ Below w.heap.size w w' := by
  obtain ⟨av, lv, cv, rfl⟩ := hv
  have hWd : Hid (∀ W, Calls Try.prog 12 #[] W fun e w' => e = .returned (.bool true) ∧ Below W.heap.size W w') := fun W => walked_any W
  have n1 : decide ((n : Int) < 0) = false := decide_eq_false (by omega)
  have n2 : decide ((64 : Int) < (n : Int)) = false := decide_eq_false (by omega)
  have m1 : decide ((m : Int) < 0) = false := decide_eq_false (by omega)
  have m2 : decide ((64 : Int) < (m : Int)) = false := decide_eq_false (by omega)
  have s1 : IntKind.i64.wrap ((n : Int) + 1) = (n : Int) + 1 := IntWalk.i64_in _ (by omega)
  have s2 : IntKind.i64.wrap ((m : Int) + 1) = (m : Int) + 1 := IntWalk.i64_in _ (by omega)
  have i1 := At.new w id
  have B1 := (Below.refl w.heap.size w).alloc (Nat.le_refl _) (.cells (row (dig 20 id)) 24)
  have HT := Lib.hid hT
  have HK := Lib.hid hk
  have HK' := Lib.hid hk'
  clear hT hk hk'
  rw [show idv id = .agg (row (dig 20 id)) from rfl]
  go_enter Try.func7, Try.ntmps7
  go_upto_region 1 with (fail)
  generalize hg : w.heap.size = g at *
  generalize w.alloc _ = w1 at *
  go_upto_region 3 with (go_at_call 9; (with_reducible refine (hBg.out _ B1).mono ?_); rintro e w2 ⟨rfl, k2⟩)
  have B2 := belTo hg B1 k2
  have i2 := At.below i1 k2
  have r2 : w2.rangeAt g 0 (row (dig 20 id)).toList := blk_range i2
  go_upto_region 4 with (first
    | (refine p_midI rfl _ rfl g 0 rfl id r2 ?_)
    | (go_at_call 10; (with_reducible refine (hWk.out _ B2).mono ?_); rintro e w3 ⟨⟨a3, c3, rfl, n3⟩, k3⟩)
    | (refine p_storeR rfl rfl _ _ rfl rfl rfl rfl ?_))
  (try simp only [Act.put])
  have k4 := (Below.refl w3.heap.size w3).alloc (Nat.le_refl _) (.cells (rtA (.slice a3 k c3) en) 30)
  have Q4 := RB.new w3 (.slice a3 k c3) en
  have N4 := Lib.hid (n3.bel k4)
  have B4 := belTo hg (belTo hg B2 k3) k4
  have i4 := At.below (At.below i2 k3) k4
  clear n3 k3 k4 r2 i2 k2 i1 B1 B2
  generalize w3.heap.size = q4 at *
  generalize w3.alloc _ = w4 at *
  have r4 : w4.rangeAt g 0 (row (dig 20 id)).toList := blk_range i4
  go_upto_region 5 with (first
    | (refine p_midI rfl _ rfl g 0 rfl id r4 ?_)
    | (go_at_call 10; (with_reducible refine (hWm.out _ B4).mono ?_); rintro e w5 ⟨⟨a5, c5, rfl, n5⟩, k5⟩)
    | (refine p_storeR rfl rfl _ _ rfl rfl rfl rfl ?_))
  (try simp only [Act.put])
  have k6 := (Below.refl w5.heap.size w5).alloc (Nat.le_refl _) (.cells (rtA (.slice a5 k' c5) en') 30)
  have Q6 := RB.new w5 (.slice a5 k' c5) en'
  have P6 := (Q4.bel k5).bel k6
  have N6 := Lib.hid (n5.bel k6)
  have M6 := Lib.hid ((N4.out.bel k5).bel k6)
  have B6 := belTo hg (belTo hg B4 k5) k6
  clear n5 k5 k6 r4 i4 B4 N4 Q4
  generalize w5.heap.size = q6 at *
  generalize w5.alloc _ = w6 at *
  rcases HT.out.ok with ⟨rfl, e1, hx⟩ | ⟨e0, h1, h2, rfl, hx⟩
  · rcases hx with e2 | ⟨e2, e3⟩
    all_goals
      go_wp2_with (go_at_call 12; (with_reducible refine (hWd.out _).mono ?_); rintro e w7 ⟨rfl, k7⟩; have B7 := belTo hg B6 k7; have c7 := (P6.bel k7).ch)
      go_ret
      exact ⟨rfl, by (try rw [hg]); exact B7⟩
  · have e0' : ((k : Int) == 0) = false := by simp; omega
    have l1 : decide ((n : Int) + 1 < (k : Int)) = false := decide_eq_false (by omega)
    have c6 := P6.ch
    rcases hx with ⟨h3, rfl, rfl, rfl⟩ | ⟨h3, rfl⟩
    · have l2 : decide ((m : Int) + 1 < (k : Int)) = false := decide_eq_false (by omega)
      obtain rfl : k' = k := HK'.out.trans HK.out.symm
      have hSm : Hid (∀ W h h', Nums W h A' → Nums W h' A' → Calls Try.prog 13 #[.agg (rtA h en'), .agg (rtA h' en')] W fun e w' => e = .returned (.bool true) ∧ Below W.heap.size W w') := fun W h h' x y => same_route en' x y (by have := HK.out; omega)
      go_wp2_with (first
        | (go_at_call 12; (with_reducible refine (hWd.out _).mono ?_); rintro e w7 ⟨rfl, k7⟩; have B7 := belTo hg B6 k7; have P7 := P6.bel k7; have Q7 := Q6.bel k7; have hc := hSm.out _ _ _ (M6.out.bel k7) (N6.out.bel k7))
        | (go_guarded; refine o_midR _ rfl q4 rfl P7 ?_; simp only [Act.put, List.setIfInBounds_toArray, List.set_cons_succ, List.set_cons_zero])
        | (go_guarded; refine o_midR _ rfl q6 rfl Q7 ?_; simp only [Act.put, List.setIfInBounds_toArray, List.set_cons_succ, List.set_cons_zero])
        | (go_at_call 13; (with_reducible refine hc.mono ?_); rintro e w8 ⟨rfl, k8⟩; have B8 := belTo hg B7 k8))
      go_ret
      exact ⟨rfl, by (try rw [hg]); exact B8⟩
    · have l2 : decide ((m : Int) + 1 < (k : Int)) = true := decide_eq_true (by omega)
      go_wp2_with (go_at_call 12; (with_reducible refine (hWd.out _).mono ?_); rintro e w7 ⟨rfl, k7⟩; have B7 := belTo hg B6 k7)
      go_ret
      exact ⟨rfl, by (try rw [hg]); exact B7⟩
set_option maxHeartbeats 4000000 in
theorem walk_out {w : World} {v : Value} (fr : Int) (id : Nat) (most more : Int) (b : Bool)
    (hBg : Hid (∀ W, Below w.heap.size w W → Calls Try.prog 9 #[v] W fun e w' => e = .returned (.bool b) ∧ Below W.heap.size W w'))
    (hv : ∃ a l c, v = .slice a l c) (hb : b = true ∨ (b = false ∧ (most < 0 ∨ (¬ most < 0 ∧ (64 < most ∨ (¬ 64 < most ∧ (more < 0 ∨ (¬ more < 0 ∧ 64 < more)))))))) :
    Calls Try.prog 7 #[v, .int .i64 fr, idv id, .int .i64 most, .int .i64 more] w fun e w' => e = .returned (.bool true) ∧ Below w.heap.size w w' := by
  obtain ⟨av, lv, cv, rfl⟩ := hv
  have hWd : Hid (∀ W, Calls Try.prog 12 #[] W fun e w' => e = .returned (.bool true) ∧ Below W.heap.size W w') := fun W => walked_any W
  have B1 := (Below.refl w.heap.size w).alloc (Nat.le_refl _) (.cells (row (dig 20 id)) 24)
  have HB := Lib.hid hb
  clear hb
  rw [show idv id = .agg (row (dig 20 id)) from rfl]
  go_enter Try.func7, Try.ntmps7
  go_upto_region 1 with (fail)
  generalize hg : w.heap.size = g at *
  generalize w.alloc _ = w1 at *
  have hb := HB.out
  clear HB
  rcases hb with rfl | ⟨rfl, h | ⟨h1, h | ⟨h2, h | ⟨h3, h⟩⟩⟩⟩
  rotate_left
  · have d1 := decide_eq_true h
    go_wp2_with (first | (go_at_call 9; (with_reducible refine (hBg.out _ B1).mono ?_); rintro e w2 ⟨rfl, k2⟩; have B2 := belTo hg B1 k2) | (go_at_call 12; (with_reducible refine (hWd.out _).mono ?_); rintro e w7 ⟨rfl, k7⟩; have B7 := belTo hg B2 k7))
    go_ret
    exact ⟨rfl, by (try rw [hg]); exact B7⟩
  · have d0 := decide_eq_false h1
    have d1 := decide_eq_true h
    go_wp2_with (first | (go_at_call 9; (with_reducible refine (hBg.out _ B1).mono ?_); rintro e w2 ⟨rfl, k2⟩; have B2 := belTo hg B1 k2) | (go_at_call 12; (with_reducible refine (hWd.out _).mono ?_); rintro e w7 ⟨rfl, k7⟩; have B7 := belTo hg B2 k7))
    go_ret
    exact ⟨rfl, by (try rw [hg]); exact B7⟩
  · have d0 := decide_eq_false h1
    have d2 := decide_eq_false h2
    have d1 := decide_eq_true h
    go_wp2_with (first | (go_at_call 9; (with_reducible refine (hBg.out _ B1).mono ?_); rintro e w2 ⟨rfl, k2⟩; have B2 := belTo hg B1 k2) | (go_at_call 12; (with_reducible refine (hWd.out _).mono ?_); rintro e w7 ⟨rfl, k7⟩; have B7 := belTo hg B2 k7))
    go_ret
    exact ⟨rfl, by (try rw [hg]); exact B7⟩
  · have d0 := decide_eq_false h1
    have d2 := decide_eq_false h2
    have d3 := decide_eq_false h3
    have d1 := decide_eq_true h
    go_wp2_with (first | (go_at_call 9; (with_reducible refine (hBg.out _ B1).mono ?_); rintro e w2 ⟨rfl, k2⟩; have B2 := belTo hg B1 k2) | (go_at_call 12; (with_reducible refine (hWd.out _).mono ?_); rintro e w7 ⟨rfl, k7⟩; have B7 := belTo hg B2 k7))
    go_ret
    exact ⟨rfl, by (try rw [hg]); exact B7⟩
  · go_wp2_with (first | (go_at_call 9; (with_reducible refine (hBg.out _ B1).mono ?_); rintro e w2 ⟨rfl, k2⟩; have B2 := belTo hg B1 k2) | (go_at_call 12; (with_reducible refine (hWd.out _).mono ?_); rintro e w7 ⟨rfl, k7⟩; have B7 := belTo hg B2 k7))
    go_ret
    exact ⟨rfl, by (try rw [hg]); exact B7⟩
theorem walk {w : World} {v : Value} {X : List Tv} (hX : LiesT w v X) (hfit : ∀ x ∈ X, Fit x.t.s.1) (fr : Int) (bf : -9223372036854775808 ≤ fr ∧ fr ≤ 9223372036854775807) (id : Nat) (_ : id < M) (most : Int) (_ : -9223372036854775808 ≤ most ∧ most ≤ 9223372036854775807) (more : Int) (_ : -9223372036854775808 ≤ more ∧ more ≤ 9223372036854775807) :
    Calls Try.prog 7 #[v, .int .i64 fr, idv id, .int .i64 most, .int .i64 more] w fun e w' => e = .returned (.bool true) ∧ Below w.heap.size w w' := by
  have hv : ∃ a l c, v = .slice a l c := by obtain ⟨a, c, h⟩ := hX.form; exact ⟨a, _, c, h⟩
  by_cases hgo : bigX X = false ∧ 0 ≤ most ∧ most ≤ 64 ∧ 0 ≤ more ∧ more ≤ 64
  · obtain ⟨hb, h1, h2, h3, h4⟩ := hgo
    obtain ⟨n, rfl⟩ : ∃ n : Nat, most = (n : Int) := ⟨most.toNat, by omega⟩
    obtain ⟨m, rfl⟩ : ∃ m : Nat, more = (m : Int) := ⟨more.toNat, by omega⟩
    have hS := bigX_no hb
    have hBg : Hid (∀ W, Below w.heap.size w W → Calls Try.prog 9 #[v] W fun e w' => e = .returned (.bool false) ∧ Below W.heap.size W w') := fun W k => by
      have := bigX_any (hX.bel k)
      rwa [hb] at this
    have hWk : ∀ (q : Nat) (R : Rou), walkR (tabsOf X) fr id (q : Int) = R → Hid (∀ W, Below w.heap.size w W → Calls Try.prog 10 #[v, .int .i64 fr, idv id, .int .i64 (q : Int)] W fun e w' => (∃ a c, e = .returned (.tuple #[.agg (rtA (.slice a R.1.1.length c) R.1.2), .int .i64 R.2]) ∧ Nums w' (.slice a R.1.1.length c) R.1.1) ∧ Below W.heap.size W w') := fun q R hR W k => by
      have := walk_any fr id (q : Int) (hX.bel k) hS hfit (fit_of bf)
      rw [hR] at this
      exact this.mono fun e w' ⟨x, y⟩ => ⟨rou_form (A := R.1.1) (en := R.1.2) (cd := R.2) x, y⟩
    rcases walk_pair (tabsOf X) fr id (n := n) (m := m) (by omega) (by omega) with ⟨c, hc, h5, h6⟩ | ⟨A, e, h5, h6, h7, h8, h9⟩
    · by_cases hc1 : c = 1
      · subst hc1
        exact walk_two fr id n m _ _ (by omega) (by omega) rfl rfl hBg (hWk n _ h5) (hWk m _ (h6 rfl)) hv ⟨.inl ⟨rfl, rfl, .inr ⟨rfl, rfl⟩⟩⟩
      · exact walk_two fr id n m _ _ (by omega) (by omega) rfl rfl hBg (hWk n _ h5) (hWk m _ rfl) hv ⟨.inl ⟨rfl, by simpa [badR] using hc, .inl (by simpa [badR] using hc1)⟩⟩
    · by_cases hl : A.length ≤ m + 1
      · exact walk_two fr id n m _ _ (by omega) (by omega) rfl rfl hBg (hWk n _ h5) (hWk m _ (h8 hl)) hv ⟨.inr ⟨by simp; intro h; rw [h] at h6; simp at h6, h6, h7, rfl, .inl ⟨hl, rfl, rfl, rfl⟩⟩⟩
      · exact walk_two fr id n m _ _ (by omega) (by omega) rfl rfl hBg (hWk n _ h5) (hWk m _ (h9 (by omega))) hv ⟨.inr ⟨by simp; intro h; rw [h] at h6; simp at h6, h6, h7, rfl, .inr ⟨by show m + 1 < A.length; omega, rfl⟩⟩⟩
  · refine walk_out fr id most more (bigX X) (fun W k => bigX_any (hX.bel k)) hv ?_
    cases hb : bigX X
    · refine .inr ⟨rfl, ?_⟩
      have : ¬ (0 ≤ most ∧ most ≤ 64 ∧ 0 ≤ more ∧ more ≤ 64) := fun h => hgo ⟨hb, h⟩
      omega
    · exact .inl rfl
set_option maxRecDepth 100000 in
theorem lifted (os : Os) (started : os.Started) (H : Type) (enc : TypeId × Value → H) :
    ReturnsInHanded {} Try.checked os 7 .any (Rows.walkMoreSpec.pre6 enc Try.prog Try.f7 Rows.walkMoreRow.domain false) (Rows.walkMoreSpec.post enc Try.prog Try.f7 false true false false) := by
  refine returnsInHanded_of_change (C := Try.checked) own started (by kernel_rfl) Try.func7
    (ChangeSpec.witness6 (enc := enc) (C := Try.checked) false ⟨#[], #[.slice none 0 0, .int .i64 0, .agg #[.int .u8 0, .int .u8 0, .int .u8 0, .int .u8 0, .int .u8 0, .int .u8 0, .int .u8 0, .int .u8 0, .int .u8 0, .int .u8 0, .int .u8 0, .int .u8 0, .int .u8 0, .int .u8 0, .int .u8 0, .int .u8 0, .int .u8 0, .int .u8 0, .int .u8 0, .int .u8 0], .int .i64 0, .int .i64 0], []⟩ 8 (by kernel_rfl) (by kernel_rfl) (by kernel_rfl) (by kernel_rfl)) ?_
  intro W base args ds gs before hval0 hW hcnd _
  have hval : ∀ (j : Nat) t v, Try.f7.params[j]? = some t → args[j]? = some v → Value.okWide Try.prog W .any base t v := hval0
  have hW' := hW
  obtain ⟨p, q, hA0, hV, rfl, hfz, hnd⟩ := hW
  have hA : DataW.TrodAll enc Try.prog W 0 (fun _ => true) true Try.f7.params.toList args.toList ds p := hA0
  rw [Try.params7] at hA hval
  obtain ⟨v0, vs0, d0, ds0, p0, q0, hargs, rfl, rfl, h0, r0⟩ := trodAll_cons hA
  obtain ⟨v1, vs1, d1, ds1, p1, q1, rfl, rfl, rfl, h1, r1⟩ := trodAll_cons r0
  obtain ⟨v2, vs2, d2, ds2, p2, q2, rfl, rfl, rfl, h2, r2⟩ := trodAll_cons r1
  obtain ⟨v3, vs3, d3, ds3, p3, q3, rfl, rfl, rfl, h3, r3⟩ := trodAll_cons r2
  obtain ⟨v4, vs4, d4, ds4, p4, q4, rfl, rfl, rfl, h4, r4⟩ := trodAll_cons r3
  obtain ⟨rfl, rfl, rfl⟩ := trodAll_nil r4
  obtain rfl : args = #[v0, v1, v2, v3, v4] := by cases args; simp_all
  obtain ⟨rfl, rfl⟩ := trodVars_none hV
  have k0 := h0
  have lt0 : ∀ x ∈ p0, x.block < W.heap.size := by obtain ⟨m, hm⟩ := k0; exact DataW.trod_lt m _ _ _ hm
  obtain ⟨X0, xs0, ft0⟩ := open_tabs (hval 0 22 v0 rfl rfl) h0
  have k1 := h1
  have lt1 : ∀ x ∈ p1, x.block < W.heap.size := by obtain ⟨m, hm⟩ := k1; exact DataW.trod_lt m _ _ _ hm
  obtain ⟨n1, bd1, rfl⟩ := open_i64 (hval 1 3 v1 rfl rfl) h1
  have k2 := h2
  have lt2 : ∀ x ∈ p2, x.block < W.heap.size := by obtain ⟨m, hm⟩ := k2; exact DataW.trod_lt m _ _ _ hm
  obtain ⟨n2, il2, rfl⟩ := open_id (hval 2 24 v2 rfl rfl) h2
  have k3 := h3
  have lt3 : ∀ x ∈ p3, x.block < W.heap.size := by obtain ⟨m, hm⟩ := k3; exact DataW.trod_lt m _ _ _ hm
  obtain ⟨n3, bd3, rfl⟩ := open_i64 (hval 3 3 v3 rfl rfl) h3
  have k4 := h4
  have lt4 : ∀ x ∈ p4, x.block < W.heap.size := by obtain ⟨m, hm⟩ := k4; exact DataW.trod_lt m _ _ _ hm
  obtain ⟨n4, bd4, rfl⟩ := open_i64 (hval 4 3 v4 rfl rfl) h4
  clear hA0 hval0
  refine (walk xs0 ft0 n1 bd1 n2 il2 n3 bd3 n4 bd4).mono fun e W' ⟨he, bel⟩ => ?_
  subst he
  exact ⟨_, rfl, _, _, _, [], _, [], hW', trodAll_mk1 (shut_bool Try.underlying4 _), (trodAll_cons_mk (Below.trod laidOut (by kernel_rfl) (of_decide_eq_true (by kernel_rfl)) k0 bel lt0) (trodAll_cons_mk (Below.trod laidOut (by kernel_rfl) (of_decide_eq_true (by kernel_rfl)) k1 bel lt1) (trodAll_cons_mk (Below.trod laidOut (by kernel_rfl) (of_decide_eq_true (by kernel_rfl)) k2 bel lt2) (trodAll_cons_mk (Below.trod laidOut (by kernel_rfl) (of_decide_eq_true (by kernel_rfl)) k3 bel lt3) (trodAll_cons_mk (Below.trod laidOut (by kernel_rfl) (of_decide_eq_true (by kernel_rfl)) k4 bel lt4) trodAll_mk0))))), rfl, bel.frame _, fun h => by cases h⟩

theorem proved : Rows.WalkMoreSaid :=
  OpenClaim.holds_of_wide 7 Try.f7 rfl rfl rfl rfl rfl rfl rfl ⟨rfl, rfl, rfl, rfl, rfl⟩ rfl rfl rfl rfl rfl (by kernel_rfl) Try.func7 (by kernel_rfl)
    (of_decide_eq_true (by kernel_rfl)) (by unfold Func.isWrapper; first | (rw [if_pos (by decide +kernel)]; kernel_rfl) | (rw [if_neg (by decide +kernel)]; exact ⟨rfl, rfl⟩))
    (fun os started H enc _ => lifted os started H enc)
end Go.Proofs.Ytfajfmcabpmchaa.MoreLaw
