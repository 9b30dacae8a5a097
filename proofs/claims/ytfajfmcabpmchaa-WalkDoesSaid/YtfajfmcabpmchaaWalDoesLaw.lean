/- WalkDoes: for all tables, every address, place and number the call returns true: tables that are too large are let go; else the program and the document walk the same hops to the same peer, or refuse with the same code, and the document's example holds. -/
import Derived.Test.YtfajfmcabpmchaaWalEx
namespace Go.Proofs.Ytfajfmcabpmchaa.DoesLaw
set_option maxRecDepth 100000
open Go Go.ChangeShapes Go.WideShapes Go.ChangeAt Go.RowKit Go.Sort

theorem wk_len (T : List Tb) (id : Nat) : ∀ (n : Nat) (t : Tb) (H : List Int), (wkG T id n t H).1.1.length ≤ H.length + n := by
  intro n
  induction n with
  | zero =>
    intro t H
    cases h : doneB t id
    · cases h2 : (nextT t id).2
      · rw [wk_none h h2]; simp [badR]
      · rw [wk_lim h h2]; simp [badR]
    · rw [wk_done h]; simp
  | succ n ih =>
    intro t H
    cases h : doneB t id
    · cases h2 : (nextT t id).2
      · rw [wk_none h h2]; simp [badR]
      · cases h3 : findT T (nextT t id).1.1 with
        | none => rw [wk_off h h2 h3]; simp [badR]
        | some t' =>
          rw [wk_go h h2 h3]
          have := ih t' (H ++ [(nextT t id).1.1])
          rw [List.length_append, List.length_singleton] at this
          omega
    · rw [wk_done h]; simp
theorem walk_len (T : List Tb) (fr : Int) (id : Nat) (most : Int) : (walkR T fr id most).1.1.length ≤ 65 := by
  unfold walkR
  split
  · rename_i h
    unfold mayB at h
    simp only [Bool.and_eq_true, decide_eq_true_eq] at h
    have := wk_len T id most.toNat ((findT T fr).getD tb0) [fr]
    rw [List.length_singleton] at this
    omega
  · simp [badR]
theorem rou_form {B : Nat} {R : Rou} {e : Ending} {w' : World} (h : RouP B R e w') : ∃ a c, e = .returned (.tuple #[.agg (rtA (.slice a R.1.1.length c) R.1.2), .int .i64 R.2]) ∧ Nums w' (.slice a R.1.1.length c) R.1.1 := by
  obtain ⟨h, rfl, ho⟩ := h
  have hn := nums_own ho
  obtain ⟨a, c, rfl⟩ := hn.form
  exact ⟨a, c, rfl, hn⟩
set_option maxHeartbeats 8000000 in
theorem walk_small {w : World} {v : Value} {X : List Tv} (fr : Int) (id : Nat) (most : Int) (hX : LiesT w v X) (hb : bigX X = false) (hfit : ∀ x ∈ X, Fit x.t.s.1) (hft : Fit fr) :
    Calls Try.prog 3 #[v, .int .i64 fr, idv id, .int .i64 most] w fun e w' => e = .returned (.bool true) ∧ Below w.heap.size w w' := by
  have hS := bigX_no hb
  have hBg : Hid (∀ W, Below w.heap.size w W → Calls Try.prog 9 #[v] W fun e w' => e = .returned (.bool false) ∧ Below W.heap.size W w') := fun W k => by
    have := bigX_any (hX.bel k)
    rwa [hb] at this
  have hl := walk_len (tabsOf X) fr id most
  have hWk : Hid (∀ W, Below w.heap.size w W → Calls Try.prog 10 #[v, .int .i64 fr, idv id, .int .i64 most] W fun e w' => (∃ a c, e = .returned (.tuple #[.agg (rtA (.slice a (walkR (tabsOf X) fr id most).1.1.length c) (walkR (tabsOf X) fr id most).1.2), .int .i64 (walkR (tabsOf X) fr id most).2]) ∧ Nums w' (.slice a (walkR (tabsOf X) fr id most).1.1.length c) (walkR (tabsOf X) fr id most).1.1) ∧ Below W.heap.size W w') := fun W k => (walk_any fr id most (hX.bel k) hS hfit hft).mono fun e w' ⟨x, y⟩ => ⟨rou_form x, y⟩
  have hRw : Hid (∀ W, Below w.heap.size w W → Calls Try.prog 11 #[v, .int .i64 fr, idv id, .int .i64 most] W fun e w' => (∃ a c, e = .returned (.tuple #[.agg (rtA (.slice a (walkR (tabsOf X) fr id most).1.1.length c) (walkR (tabsOf X) fr id most).1.2), .int .i64 (walkR (tabsOf X) fr id most).2]) ∧ Nums w' (.slice a (walkR (tabsOf X) fr id most).1.1.length c) (walkR (tabsOf X) fr id most).1.1) ∧ Below W.heap.size W w') := fun W k => (refwalk_any fr id most (hX.bel k) hS).mono fun e w' ⟨x, y⟩ => ⟨rou_form x, y⟩
  clear hb hS hfit hft
  obtain ⟨av, cv, rfl⟩ := hX.form
  clear hX
  generalize walkR (tabsOf X) fr id most = R at *
  obtain ⟨⟨A, en⟩, cd⟩ := R
  dsimp only at hl hWk hRw
  have hSm : Hid (∀ W h h', Nums W h A → Nums W h' A → Calls Try.prog 13 #[.agg (rtA h en), .agg (rtA h' en)] W fun e w' => e = .returned (.bool true) ∧ Below W.heap.size W w') := fun W h h' x y => same_route en x y (by omega)
  have hWd : Hid (∀ W, Calls Try.prog 12 #[] W fun e w' => e = .returned (.bool true) ∧ Below W.heap.size W w') := fun W => walked_any W
  have ec : (cd == cd) = true := by simp
  have i1 := At.new w id
  have B1 := (Below.refl w.heap.size w).alloc (Nat.le_refl _) (.cells (row (dig 20 id)) 24)
  clear hl
  generalize A.length = n at *
  rw [show idv id = .agg (row (dig 20 id)) from rfl]
  go_enter Try.func3, Try.ntmps3
  go_upto_region 1 with (fail)
  generalize hg : w.heap.size = g at *
  generalize w.alloc _ = w1 at *
  go_upto_region 3 with (go_at_call 9; (with_reducible refine (hBg.out _ B1).mono ?_); rintro e w2 ⟨rfl, k2⟩)
  have B2 := belTo hg B1 k2
  have i2 := At.below i1 k2
  have r2 : w2.rangeAt g 0 (row (dig 20 id)).toList := blk_range i2
  go_upto_region 4 with (first
    | (refine p_midI rfl _ rfl g 0 rfl id r2 ?_)
    | (go_at_call 10; (with_reducible refine (hWk.out _ B2).mono ?_); rintro e w3 ⟨⟨a3, c3, rfl, n3⟩, k3⟩)
    | (refine p_storeR rfl rfl _ _ rfl rfl rfl rfl ?_))
  (try simp only [Act.put])
  have k4 := (Below.refl w3.heap.size w3).alloc (Nat.le_refl _) (.cells (rtA (.slice a3 n c3) en) 30)
  have Q4 := RB.new w3 (.slice a3 n c3) en
  have N4 := Lib.hid (n3.bel k4)
  have B4 := belTo hg (belTo hg B2 k3) k4
  have i4 := At.below (At.below i2 k3) k4
  clear n3 k3 k4 r2 i2 k2 i1 B1 B2
  generalize w3.heap.size = q4 at *
  generalize w3.alloc _ = w4 at *
  have r4 : w4.rangeAt g 0 (row (dig 20 id)).toList := blk_range i4
  go_upto_region 5 with (first
    | (refine p_midI rfl _ rfl g 0 rfl id r4 ?_)
    | (go_at_call 11; (with_reducible refine (hRw.out _ B4).mono ?_); rintro e w5 ⟨⟨a5, c5, rfl, n5⟩, k5⟩)
    | (refine p_storeR rfl rfl _ _ rfl rfl rfl rfl ?_))
  (try simp only [Act.put])
  have k6 := (Below.refl w5.heap.size w5).alloc (Nat.le_refl _) (.cells (rtA (.slice a5 n c5) en) 30)
  have Q6 := RB.new w5 (.slice a5 n c5) en
  have P6 := (Q4.bel k5).bel k6
  have N6 := Lib.hid (n5.bel k6)
  have M6 := Lib.hid ((N4.out.bel k5).bel k6)
  have B6 := belTo hg (belTo hg B4 k5) k6
  clear n5 k5 k6 r4 i4 B4 N4 Q4
  generalize w5.heap.size = q6 at *
  generalize w5.alloc _ = w6 at *
  go_wp2_with (first
    | (go_at_call 12; (with_reducible refine (hWd.out _).mono ?_); rintro e w7 ⟨rfl, k7⟩; have B7 := belTo hg B6 k7; have P7 := P6.bel k7; have Q7 := Q6.bel k7; have hc := hSm.out _ _ _ (M6.out.bel k7) (N6.out.bel k7))
    | (go_guarded; refine o_midR _ rfl q4 rfl P7 ?_; simp only [Act.put, List.setIfInBounds_toArray, List.set_cons_succ, List.set_cons_zero])
    | (go_guarded; refine o_midR _ rfl q6 rfl Q7 ?_; simp only [Act.put, List.setIfInBounds_toArray, List.set_cons_succ, List.set_cons_zero])
    | (go_at_call 13; (with_reducible refine hc.mono ?_); rintro e w8 ⟨rfl, k8⟩; have B8 := belTo hg B7 k8))
  go_ret
  exact ⟨rfl, by (try rw [hg]); exact B8⟩
set_option maxHeartbeats 2000000 in
theorem walk {w : World} {v : Value} {X : List Tv} (hX : LiesT w v X) (hfit : ∀ x ∈ X, Fit x.t.s.1) (fr : Int) (bf : -9223372036854775808 ≤ fr ∧ fr ≤ 9223372036854775807) (id : Nat) (_ : id < M) (most : Int) (_ : -9223372036854775808 ≤ most ∧ most ≤ 9223372036854775807) :
    Calls Try.prog 3 #[v, .int .i64 fr, idv id, .int .i64 most] w fun e w' => e = .returned (.bool true) ∧ Below w.heap.size w w' := by
  cases hb : bigX X
  · exact walk_small fr id most hX hb hfit (fit_of bf)
  · have hBg : Hid (∀ W, Below w.heap.size w W → Calls Try.prog 9 #[v] W fun e w' => e = .returned (.bool true) ∧ Below W.heap.size W w') := fun W k => by
      have := bigX_any (hX.bel k)
      rwa [hb] at this
    have B1 := (Below.refl w.heap.size w).alloc (Nat.le_refl _) (.cells (row (dig 20 id)) 24)
    clear hX hfit
    rw [show idv id = .agg (row (dig 20 id)) from rfl]
    go_enter Try.func3, Try.ntmps3
    go_upto_region 1 with (fail)
    generalize hg : w.heap.size = g at *
    generalize w.alloc _ = w1 at *
    go_wp2_with (go_at_call 9; (with_reducible refine (hBg.out _ B1).mono ?_); rintro e w2 ⟨rfl, k2⟩)
    have B2 := belTo hg B1 k2
    go_ret
    exact ⟨rfl, by (try rw [hg]); exact B2⟩
set_option maxRecDepth 100000 in
theorem lifted (os : Os) (started : os.Started) (H : Type) (enc : TypeId × Value → H) :
    ReturnsInHanded {} Try.checked os 3 .any (Rows.walkDoesSpec.pre6 enc Try.prog Try.f3 Rows.walkDoesRow.domain false) (Rows.walkDoesSpec.post enc Try.prog Try.f3 false true false false) := by
  refine returnsInHanded_of_change (C := Try.checked) own started (by kernel_rfl) Try.func3
    (ChangeSpec.witness6 (enc := enc) (C := Try.checked) false ⟨#[], #[.slice none 0 0, .int .i64 0, .agg #[.int .u8 0, .int .u8 0, .int .u8 0, .int .u8 0, .int .u8 0, .int .u8 0, .int .u8 0, .int .u8 0, .int .u8 0, .int .u8 0, .int .u8 0, .int .u8 0, .int .u8 0, .int .u8 0, .int .u8 0, .int .u8 0, .int .u8 0, .int .u8 0, .int .u8 0, .int .u8 0], .int .i64 0], []⟩ 8 (by kernel_rfl) (by kernel_rfl) (by kernel_rfl) (by kernel_rfl)) ?_
  intro W base args ds gs before hval0 hW hcnd _
  have hval : ∀ (j : Nat) t v, Try.f3.params[j]? = some t → args[j]? = some v → Value.okWide Try.prog W .any base t v := hval0
  have hW' := hW
  obtain ⟨p, q, hA0, hV, rfl, hfz, hnd⟩ := hW
  have hA : DataW.TrodAll enc Try.prog W 0 (fun _ => true) true Try.f3.params.toList args.toList ds p := hA0
  rw [Try.params3] at hA hval
  obtain ⟨v0, vs0, d0, ds0, p0, q0, hargs, rfl, rfl, h0, r0⟩ := trodAll_cons hA
  obtain ⟨v1, vs1, d1, ds1, p1, q1, rfl, rfl, rfl, h1, r1⟩ := trodAll_cons r0
  obtain ⟨v2, vs2, d2, ds2, p2, q2, rfl, rfl, rfl, h2, r2⟩ := trodAll_cons r1
  obtain ⟨v3, vs3, d3, ds3, p3, q3, rfl, rfl, rfl, h3, r3⟩ := trodAll_cons r2
  obtain ⟨rfl, rfl, rfl⟩ := trodAll_nil r3
  obtain rfl : args = #[v0, v1, v2, v3] := by cases args; simp_all
  obtain ⟨rfl, rfl⟩ := trodVars_none hV
  have k0 := h0
  have lt0 : ∀ x ∈ p0, x.block < W.heap.size := by obtain ⟨m, hm⟩ := k0; exact DataW.trod_lt m _ _ _ hm
  obtain ⟨X0, xs0, ft0⟩ := open_tabs (hval 0 22 v0 rfl rfl) h0
  have k1 := h1
  have lt1 : ∀ x ∈ p1, x.block < W.heap.size := by obtain ⟨m, hm⟩ := k1; exact DataW.trod_lt m _ _ _ hm
  obtain ⟨n1, bd1, rfl⟩ := open_i64 (hval 1 3 v1 rfl rfl) h1
  have k2 := h2
  have lt2 : ∀ x ∈ p2, x.block < W.heap.size := by obtain ⟨m, hm⟩ := k2; exact DataW.trod_lt m _ _ _ hm
  obtain ⟨n2, il2, rfl⟩ := open_id (hval 2 24 v2 rfl rfl) h2
  have k3 := h3
  have lt3 : ∀ x ∈ p3, x.block < W.heap.size := by obtain ⟨m, hm⟩ := k3; exact DataW.trod_lt m _ _ _ hm
  obtain ⟨n3, bd3, rfl⟩ := open_i64 (hval 3 3 v3 rfl rfl) h3
  clear hA0 hval0
  refine (walk xs0 ft0 n1 bd1 n2 il2 n3 bd3).mono fun e W' ⟨he, bel⟩ => ?_
  subst he
  exact ⟨_, rfl, _, _, _, [], _, [], hW', trodAll_mk1 (shut_bool Try.underlying4 _), (trodAll_cons_mk (Below.trod laidOut (by kernel_rfl) (of_decide_eq_true (by kernel_rfl)) k0 bel lt0) (trodAll_cons_mk (Below.trod laidOut (by kernel_rfl) (of_decide_eq_true (by kernel_rfl)) k1 bel lt1) (trodAll_cons_mk (Below.trod laidOut (by kernel_rfl) (of_decide_eq_true (by kernel_rfl)) k2 bel lt2) (trodAll_cons_mk (Below.trod laidOut (by kernel_rfl) (of_decide_eq_true (by kernel_rfl)) k3 bel lt3) trodAll_mk0)))), rfl, bel.frame _, fun h => by cases h⟩

theorem proved : Rows.WalkDoesSaid :=
  OpenClaim.holds_of_wide 3 Try.f3 rfl rfl rfl rfl rfl rfl rfl ⟨rfl, rfl, rfl, rfl, rfl⟩ rfl rfl rfl rfl rfl (by kernel_rfl) Try.func3 (by kernel_rfl)
    (of_decide_eq_true (by kernel_rfl)) (by unfold Func.isWrapper; first | (rw [if_pos (by decide +kernel)]; kernel_rfl) | (rw [if_neg (by decide +kernel)]; exact ⟨rfl, rfl⟩))
    (fun os started H enc _ => lifted os started H enc)
end Go.Proofs.Ytfajfmcabpmchaa.DoesLaw
