/- WalkSettles: for all peers and every number the call returns true: more than a hundred peers are let go; else the program and the document give the same tables or refuse with the same code, each table is right and its own peer is the row's, and the document's example holds. -/
import Derived.Test.YtfajfmcabpmchaaWalEx
import Derived.Test.YtfajfmcabpmchaaWalRefSet
namespace Go.Proofs.Ytfajfmcabpmchaa.SettlesLaw
set_option maxRecDepth 100000
open Go Go.ChangeShapes Go.WideShapes Go.ChangeAt Go.RowKit Go.Sort

theorem refSettled_any {w : World} {v : Value} {L : List Pe} (r : Int) (hL : Lies w v L) (hw : Wf L) (hn : L.length ≤ 1000000) :
    Calls Try.prog 15 #[v, .int .i64 r] w fun e w' => StP L r.toNat (isB L && okS r) e w' ∧ Below w.heap.size w w' := by
  cases hok : isB L && okS r
  · have := refSettled_no r hL hw hn hok
    rw [hok] at this
    exact this
  · rw [Bool.and_eq_true] at hok
    have hC : Circ L := of_decide_eq_true hok.1
    have h2 := hok.2
    unfold okS at h2
    rw [Bool.and_eq_true, decide_eq_true_eq, decide_eq_true_eq] at h2
    obtain ⟨m, rfl⟩ : ∃ m : Nat, r = (m : Int) := ⟨r.toNat, by omega⟩
    rw [Int.toNat_natCast]
    exact refSettled_yes m hL hw hC (by omega) (by omega)
theorem st_form {w' : World} {e : Ending} {L : List Pe} {r n : Nat} (hn : n = L.length) (h : StP L r true e w') : ∃ a c X, e = .returned (.tuple #[.slice a n c, .int .i64 0]) ∧ LiesT w' (.slice a n c) X ∧ tabsOf X = setL L r := by
  obtain ⟨v, X, rfl, h1, h2⟩ := st_yes h
  obtain ⟨a, c, rfl⟩ := h1.form
  have hx : X.length = n := by rw [hn, ← tabsOf_length, h2, setL_length]
  rw [hx] at h1 ⊢
  exact ⟨a, c, X, rfl, h1, h2⟩
theorem st_none {w' : World} {e : Ending} {L : List Pe} {r : Nat} (h : StP L r false e w') : e = .returned (.tuple #[nilS, .int .i64 1]) := by
  rcases h with ⟨_, h⟩ | ⟨h, _⟩
  · exact h
  · cases h
theorem nil_tabs (w : World) : LiesT w nilS [] := by
  exact ⟨.inl ⟨⟨none, rfl⟩, rfl⟩, fun x hx => by cases hx⟩
set_option maxHeartbeats 4000000 in
theorem walk_no {w : World} {v : Value} {L : List Pe} (r : Int) (hL : Lies w v L) (hw : Wf L) (hn : L.length ≤ 100) (hok : (isB L && okS r) = false) : Calls Try.prog 4 #[v, .int .i64 r] w fun e w' => e = .returned (.bool true) ∧ Below w.heap.size w w' := by
  have h1 : Calls Try.prog 14 #[v, .int .i64 r] w fun e w' => e = .returned (.tuple #[nilS, .int .i64 1]) ∧ Below w.heap.size w w' := by
    have := Settled_any r hL hw (by omega)
    rw [hok] at this
    exact this.mono fun e w' ⟨a, b⟩ => ⟨st_none a, b⟩
  have h2 : Hid (∀ w1, Below w.heap.size w w1 → Calls Try.prog 15 #[v, .int .i64 r] w1 fun e w' => e = .returned (.tuple #[nilS, .int .i64 1]) ∧ Below w1.heap.size w1 w') := fun w1 hb => by
    have := refSettled_any r (hL.bel hb) hw (by omega)
    rw [hok] at this
    exact this.mono fun e w' ⟨a, b⟩ => ⟨st_none a, b⟩
  have h3 : Hid (∀ w1, Calls Try.prog 16 #[nilS, nilS] w1 fun e w' => e = .returned (.bool true) ∧ Below w1.heap.size w1 w') := fun w1 => tables_self (nil_tabs w1) (nil_tabs w1) rfl (by simp) (fun x hx => by cases hx)
  have h4 : Hid (∀ w1, Calls Try.prog 12 #[] w1 fun e w' => e = .returned (.bool true) ∧ Below w1.heap.size w1 w') := fun w1 => walked_any w1
  obtain ⟨a, c, rfl⟩ := hL.form
  have d1 : decide ((100 : Int) < (L.length : Int)) = false := decide_eq_false (by omega)
  have d2 : decide (100 < L.length) = false := decide_eq_false (by omega)
  clear hL hw hok hn
  generalize L.length = n at *
  generalize hg : w.heap.size = g at *
  go_enter Try.func4, Try.ntmps4
  go_upto_region 7 with (first
    | (go_at_call 14; (with_reducible refine h1.mono ?_); rintro e w1 ⟨rfl, b1⟩)
    | (go_at_call 15; (with_reducible refine (h2.out _ b1).mono ?_); rintro e w2 ⟨rfl, k2⟩; have b2 := belTo hg b1 k2)
    | (go_at_call 16; (with_reducible refine (h3.out _).mono ?_); rintro e w3 ⟨rfl, k3⟩; have b3 := belTo hg b2 k3))
  go_upto_region 8 with (fail)
  refine wp_loop_rounds 1 ?_
  rw [rounds_succ]
  go_wp2_with (go_at_call 12; (with_reducible refine (h4.out _).mono ?_); rintro e w4 ⟨rfl, k4⟩; have b4 := belTo hg b3 k4)
  go_ret
  exact ⟨rfl, by (try rw [hg]); exact b4⟩
set_option maxHeartbeats 8000000 in
theorem walk_yes {w : World} {v : Value} {L : List Pe} (r : Nat) (hL : Lies w v L) (hw : Wf L) (hC : Circ L) (hr : 1 ≤ r) (h8 : r ≤ 8) : Calls Try.prog 4 #[v, .int .i64 (r : Int)] w fun e w' => e = .returned (.bool true) ∧ Below w.heap.size w w' := by
  have hn16 := hC.1
  obtain ⟨n, hn⟩ : ∃ n, n = L.length := ⟨_, rfl⟩
  have h1 : Calls Try.prog 14 #[v, .int .i64 (r : Int)] w fun e w' => (∃ a c X, e = .returned (.tuple #[.slice a n c, .int .i64 0]) ∧ LiesT w' (.slice a n c) X ∧ tabsOf X = setL L r) ∧ Below w.heap.size w w' :=
    (Settled_yes r hL hw hC hr h8).mono fun e w' ⟨a, b⟩ => ⟨st_form hn a, b⟩
  have h2 : Hid (∀ w1, Below w.heap.size w w1 → Calls Try.prog 15 #[v, .int .i64 (r : Int)] w1 fun e w' => (∃ a c X, e = .returned (.tuple #[.slice a n c, .int .i64 0]) ∧ LiesT w' (.slice a n c) X ∧ tabsOf X = setL L r) ∧ Below w1.heap.size w1 w') := fun w1 hb =>
    (refSettled_yes r (hL.bel hb) hw hC hr h8).mono fun e w' ⟨a, b⟩ => ⟨st_form hn a, b⟩
  have h3 : Hid (∀ w1 x y X Y, LiesT w1 x X → LiesT w1 y Y → tabsOf X = setL L r → tabsOf Y = setL L r → Calls Try.prog 16 #[x, y] w1 fun e w' => e = .returned (.bool true) ∧ Below w1.heap.size w1 w') := fun w1 x y X Y hx hy tx ty => by
    have hs := smal_len (set_smal hC tx h8).1
    exact tables_self hx hy (tx.trans ty.symm) hs.2 hs.1
  have h4 : Hid (∀ w1, Calls Try.prog 12 #[] w1 fun e w' => e = .returned (.bool true) ∧ Below w1.heap.size w1 w') := fun w1 => walked_any w1
  have HG : Hid (∀ k, k < n → tbB (setT L r k) = true ∧ (setT L r k).s = L.getD k (0, 0) ∧ (setT L r k).S.length ≤ 1000000 ∧ (setT L r k).F.length ≤ 1000000) := fun k hk => ⟨set_right hC hw (by omega) h8, rfl, by unfold setT; dsimp only; rw [List.length_map, List.length_range]; omega, by unfold setT; dsimp only; rw [List.length_map, List.length_range]; omega⟩
  obtain ⟨a, c, rfl⟩ := hL.form
  have HL := Lib.hid hL
  have HSL : Hid (setL L r = setL L r) := rfl
  rw [← hn] at hn16 h1 h2 HL ⊢
  have HN := Lib.hid hn
  have d1 : decide ((100 : Int) < (n : Int)) = false := decide_eq_false (by omega)
  have d2 : decide (100 < n) = false := decide_eq_false (by omega)
  clear hL hw hC hn
  generalize hg : w.heap.size = g at *
  go_enter Try.func4, Try.ntmps4
  go_upto_region 7 with (first
    | (go_at_call 14; (with_reducible refine h1.mono ?_); rintro e w1 ⟨⟨ta, tc, X, rfl, hX, tX⟩, b1⟩; have HX := Lib.hid hX; have TX := Lib.hid tX; clear hX tX)
    | (go_at_call 15; (with_reducible refine (h2.out _ b1).mono ?_); rintro e w2 ⟨⟨ua, uc, Y, rfl, hY, tY⟩, k2⟩; have b2 := belTo hg b1 k2; have HX2 := Lib.hid (HX.out.bel k2); have HY := Lib.hid hY; have TY := Lib.hid tY; clear hY tY)
    | (go_at_call 16; (with_reducible refine (h3.out _ _ _ _ _ HX2.out HY.out TX.out TY.out).mono ?_); rintro e w3 ⟨rfl, k3⟩; have b3 := belTo hg b2 k3; have HX3 := Lib.hid (HX2.out.bel k3)))
  clear HX HX2 HY TY k2 k3 b2 b1 h1 h2 h3
  have HB3 := Lib.hid b3
  clear b3
  have hxl : Hid (X.length = n) := by
    have := TX.out
    show X.length = n
    rw [← tabsOf_length, this, setL_length, HN.out]
  generalize h3g : w3.heap.size = g3
  go_upto_region 8 with (fail)
  go_loopw [9] (fun i wr => ∃ k : Nat, i = .int .i64 (k : Int) ∧ k ≤ n ∧ Below g3 w3 wr) (fun i _ => n - (intOf i).toNat)
  case atStart => exact ⟨0, rfl, Nat.zero_le _, Below.refl _ _⟩
  case round =>
    obtain ⟨k, rfl, hk, hB⟩ := hrel
    have HB := Lib.hid hB
    by_cases hlt : k < n
    · have hx := tab_at (X := X) (k := k) (by have := hxl.out; omega)
      have hXr := HX3.out.bel (h3g ▸ hB)
      have hLr := (HL.out.bel (hg ▸ HB3.out)).bel (h3g ▸ hB)
      have hy : L[k]? = some (L.getD k (0, 0)) := by
        have : k < L.length := by have := HN.out; omega
        rw [List.getD_eq_getElem?_getD, List.getElem?_eq_getElem this]; rfl
      have ht : (X.getD k tv0).t = setT L r k := by
        have h1 := tabsOf_getD hx
        rw [TX.out, List.getD_eq_getElem?_getD, setL_get L r (by have := HN.out; omega)] at h1
        exact h1.symm
      obtain ⟨b1, o1, c1, e1, hc1, r1, l1⟩ := hXr.at hx
      simp only [Value.slice.injEq] at e1
      obtain ⟨rfl, en1, rfl⟩ := e1
      obtain ⟨bb, oo, rfl⟩ : ∃ bb oo, a = some ⟨bb, oo, none⟩ := by
        rcases hLr with ⟨_, e3⟩ | ⟨bb, oo, cc, e2, _⟩
        · exfalso
          rw [e3] at hy
          simp at hy
        · simp only [Value.slice.injEq] at e2
          exact ⟨bb, oo, e2.1⟩
      have r2 := row_at hLr hy
      clear hLr
      have hi1 := hXr.ins.get hx
      have hgk := HG.out k hlt
      rw [← ht] at hgk
      clear en1 hx hy hXr hB hc1 ht
      generalize hxx : X.getD k tv0 = x at *
      clear hxx
      obtain ⟨tx, ux, vx⟩ := x
      have hI : GivesW wr 17 #[.agg (tabA tx.s tx.p ux vx)] (.bool true) := fun wx hb => by
        have := is_any (p := tx.p) (s := tx.s) (hi1.1.bel hb) (hi1.2.bel hb) hgk.2.2.1 hgk.2.2.2
        rwa [show isT tx.s tx.p tx.S tx.F = true from hgk.1] at this
      have HS2 := Lib.hid hI
      have hse : tx.s = L.getD k (0, 0) := hgk.2.1
      generalize L.getD k (0, 0) = y at *
      subst hse
      have ne : (!eqP tx.s tx.s) = false := by rw [eqP_self]; rfl
      have rs : wr.rangeAt b1 (o1 + k * 44) (peC tx.s) := tv_self r1
      have bk : (k : Int) < (n : Int) := by omega
      have bz : (0 : Int) ≤ (k : Int) := by omega
      have s1 : IntKind.i64.wrap ((k : Int) + 1) = (k : Int) + 1 := IntWalk.i64_in _ (by omega)
      clear hI hi1 hgk l1
      go_upto_region 10 with (fail)
      refine wp_region_quiet_below (by kernel_rfl) (by kernel_rfl) ?_
      repeat (first
        | go_big_quiet_skip
        | (go_big_quiet_want
           first
           | (first | (refine q_rowT _ rfl b1 (o1 + k * 44) rfl ⟨tx, ux, vx⟩ r1 ?_) | (refine q_midP _ rfl b1 (o1 + k * 44) rfl tx.s rs ?_) | (refine q_midP _ rfl bb (oo + k * 21) rfl tx.s r2 ?_) | (refine q_neqP _ _ rfl tx.s tx.s rfl rfl ne ?_)
              simp only [Act.put, List.setIfInBounds_toArray, List.set_cons_succ, List.set_cons_zero]
              go_big_quiet_on)
           | (go_big_quiet_op
              first | go_big_quiet_on | go_big_quiet_call (with_reducible exact HS2.out.grown _ _))))
      refine wpQuiet_nil ?_
      intro w2 hw'
      have hb2 := quiet_end hw'
      clear hw'
      have HB2 := Lib.hid (belTo h3g HB.out hb2)
      clear hb2
      go_wp2
      exact ⟨⟨k + 1, by go_num, by omega, HB2.out⟩, by simp [intOf]; omega⟩
    · obtain rfl : n = k := by omega
      clear hB
      go_wp2_with (go_at_call 12; (with_reducible refine (h4.out _).mono ?_); rintro e w4 ⟨rfl, k4⟩; have b4 := belTo h3g HB.out k4)
      go_ret
      exact ⟨rfl, by (try rw [hg]); exact belTo hg HB3.out (by rw [h3g]; exact b4)⟩
theorem walk {w : World} {v : Value} {L : List Pe} (hL : Lies w v L) (hw : Wf L) (r : Int) (_ : -9223372036854775808 ≤ r ∧ r ≤ 9223372036854775807) : Calls Try.prog 4 #[v, .int .i64 r] w fun e w' => e = .returned (.bool true) ∧ Below w.heap.size w w' := by
  by_cases hn : L.length ≤ 100
  · cases hok : isB L && okS r
    · exact walk_no r hL hw hn hok
    · rw [Bool.and_eq_true] at hok
      have hC : Circ L := of_decide_eq_true hok.1
      have h2 := hok.2
      unfold okS at h2
      rw [Bool.and_eq_true, decide_eq_true_eq, decide_eq_true_eq] at h2
      obtain ⟨m, rfl⟩ : ∃ m : Nat, r = (m : Int) := ⟨r.toNat, by omega⟩
      exact walk_yes m hL hw hC (by omega) (by omega)
  · obtain ⟨a, c, rfl⟩ := hL.form
    have d1 : decide ((100 : Int) < (L.length : Int)) = true := decide_eq_true (by omega)
    have d2 : (100 : Int) < (L.length : Int) := by omega
    clear hL hw
    go_enter Try.func4, Try.ntmps4
    go_wp2
    go_ret
    exact ⟨rfl, Below.refl _ _⟩
set_option maxRecDepth 100000 in
theorem lifted (os : Os) (started : os.Started) (H : Type) (enc : TypeId × Value → H) :
    ReturnsInHanded {} Try.checked os 4 .any (Rows.walkSettlesSpec.pre6 enc Try.prog Try.f4 Rows.walkSettlesRow.domain false) (Rows.walkSettlesSpec.post enc Try.prog Try.f4 false true false false) := by
  refine returnsInHanded_of_change (C := Try.checked) own started (by kernel_rfl) Try.func4
    (ChangeSpec.witness6 (enc := enc) (C := Try.checked) false ⟨#[], #[.slice none 0 0, .int .i64 0], []⟩ 8 (by kernel_rfl) (by kernel_rfl) (by kernel_rfl) (by kernel_rfl)) ?_
  intro W base args ds gs before hval0 hW hcnd _
  have hval : ∀ (j : Nat) t v, Try.f4.params[j]? = some t → args[j]? = some v → Value.okWide Try.prog W .any base t v := hval0
  have hW' := hW
  obtain ⟨p, q, hA0, hV, rfl, hfz, hnd⟩ := hW
  have hA : DataW.TrodAll enc Try.prog W 0 (fun _ => true) true Try.f4.params.toList args.toList ds p := hA0
  rw [Try.params4] at hA hval
  obtain ⟨v0, vs0, d0, ds0, p0, q0, hargs, rfl, rfl, h0, r0⟩ := trodAll_cons hA
  obtain ⟨v1, vs1, d1, ds1, p1, q1, rfl, rfl, rfl, h1, r1⟩ := trodAll_cons r0
  obtain ⟨rfl, rfl, rfl⟩ := trodAll_nil r1
  obtain rfl : args = #[v0, v1] := by cases args; simp_all
  obtain ⟨rfl, rfl⟩ := trodVars_none hV
  have k0 := h0
  have lt0 : ∀ x ∈ p0, x.block < W.heap.size := by obtain ⟨m, hm⟩ := k0; exact DataW.trod_lt m _ _ _ hm
  obtain ⟨L0, ls0, wf0⟩ := open_peers (hval 0 37 v0 rfl rfl) h0
  have k1 := h1
  have lt1 : ∀ x ∈ p1, x.block < W.heap.size := by obtain ⟨m, hm⟩ := k1; exact DataW.trod_lt m _ _ _ hm
  obtain ⟨n1, bd1, rfl⟩ := open_i64 (hval 1 3 v1 rfl rfl) h1
  clear hA0 hval0
  refine (walk ls0 wf0 n1 bd1).mono fun e W' ⟨he, bel⟩ => ?_
  subst he
  exact ⟨_, rfl, _, _, _, [], _, [], hW', trodAll_mk1 (shut_bool Try.underlying4 _), (trodAll_cons_mk (Below.trod laidOut (by kernel_rfl) (of_decide_eq_true (by kernel_rfl)) k0 bel lt0) (trodAll_cons_mk (Below.trod laidOut (by kernel_rfl) (of_decide_eq_true (by kernel_rfl)) k1 bel lt1) trodAll_mk0)), rfl, bel.frame _, fun h => by cases h⟩

theorem proved : Rows.WalkSettlesSaid :=
  OpenClaim.holds_of_wide 4 Try.f4 rfl rfl rfl rfl rfl rfl rfl ⟨rfl, rfl, rfl, rfl, rfl⟩ rfl rfl rfl rfl rfl (by kernel_rfl) Try.func4 (by kernel_rfl)
    (of_decide_eq_true (by kernel_rfl)) (by unfold Func.isWrapper; first | (rw [if_pos (by decide +kernel)]; kernel_rfl) | (rw [if_neg (by decide +kernel)]; exact ⟨rfl, rfl⟩))
    (fun os started H enc _ => lifted os started H enc)
end Go.Proofs.Ytfajfmcabpmchaa.SettlesLaw
