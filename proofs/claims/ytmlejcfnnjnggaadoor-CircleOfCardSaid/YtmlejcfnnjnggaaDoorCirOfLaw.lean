/- CircleOf: for all addresses and peers the call returns true: addresses are just the document's circle, or refused with its code, a circle that is told is one, and peers are one or not as the document says. No condition but that the package variables read as the program's text lays them. -/
import Derived.Test.YtmlejcfnnjnggaaDoorCirOpen
namespace Go.Proofs.YtmlejcfnnjnggaaDoor.OfLaw
set_option maxRecDepth 100000
open Go Go.ChangeShapes Go.WideShapes Go.ChangeAt Go.RowKit Go.Sort

theorem ans_size {A : List Int} {B : Nat} {e : Ending} {w : World} (h : ¬ (1 ≤ A.length ∧ A.length ≤ 16)) (x : OfAns A B e w) : e = .returned (.tuple #[.slice none 0 0, .int .i64 2]) := by
  cases x with
  | size _ he => exact he
  | arg h' _ _ => exact absurd h' h
  | twice h' _ _ _ _ _ _ => exact absurd h' h
  | ok h' _ _ _ _ _ => exact absurd h' h
theorem ans_arg {A : List Int} {B : Nat} {e : Ending} {w : World} (h : 1 ≤ A.length ∧ A.length ≤ 16) (g : ¬ Good A) (x : OfAns A B e w) : e = .returned (.tuple #[.slice none 0 0, .int .i64 1]) := by
  cases x with
  | size h' _ => exact absurd h h'
  | arg _ _ he => exact he
  | twice _ g' _ _ _ _ _ => exact absurd g' g
  | ok _ g' _ _ _ _ => exact absurd g' g
theorem ans_twice {A : List Int} {B : Nat} {e : Ending} {w : World} (h : 1 ≤ A.length ∧ A.length ≤ 16) (g : Good A) {k : Nat} (hk : k < A.length) (hk2 : dupB A k = true) (x : OfAns A B e w) : e = .returned (.tuple #[.slice none 0 0, .int .i64 9]) := by
  cases x with
  | size h' _ => exact absurd h h'
  | arg _ g' _ => exact absurd g g'
  | twice _ _ _ _ _ _ he => exact he
  | ok _ _ hd _ _ _ => have := hd k hk; rw [hk2] at this; exact absurd this (by simp)
theorem ans_ok {A : List Int} {B : Nat} {e : Ending} {w : World} (h : 1 ≤ A.length ∧ A.length ≤ 16) (g : Good A) (hd : ∀ j, j < A.length → dupB A j = false) (x : OfAns A B e w) : ∃ v', e = .returned (.tuple #[v', .int .i64 0]) ∧ Lies w v' (accL A A.length) := by
  have I := inv_all g A.length (Nat.le_refl _) hd
  cases x with
  | size h' _ => exact absurd h h'
  | arg _ g' _ => exact absurd g g'
  | twice _ _ k hk _ hk2 _ => have := hd k hk; rw [hk2] at this; exact absurd this (by simp)
  | ok _ _ _ v' he own => exact ⟨v', he, own_lies (by rw [I.len]; exact own)⟩
theorem lies_nil (w : World) : Lies w (.slice none 0 0) [] := .inl ⟨rfl, rfl⟩
set_option maxHeartbeats 2000000 in
theorem walk_long {w : World} {v u : Value} {A : List Int} {L : List Pe} (hA : Nums w v A) (hL : Lies w u L) (h : 100 < A.length ∨ 100 < L.length) : Calls Tryd.prog 3 #[v, u] w fun e w' => e = .returned (.bool true) ∧ Below w.heap.size w w' := by
  obtain ⟨a, c, rfl⟩ := hA.form
  obtain ⟨b, d, rfl⟩ := hL.form
  clear hA hL
  generalize A.length = n at *
  generalize L.length = m at *
  by_cases h1 : 100 < n
  · have d1 : decide ((100 : Int) < (n : Int)) = true := decide_eq_true (by omega)
    have d1' : (100 : Int) < (n : Int) := by omega
    go_enter Tryd.func3, Tryd.ntmps3
    go_wp2
    go_ret
    exact ⟨rfl, Below.refl _ _⟩
  · have d1 : decide ((100 : Int) < (n : Int)) = false := decide_eq_false (by omega)
    have d2 : decide ((100 : Int) < (m : Int)) = true := decide_eq_true (by omega)
    go_enter Tryd.func3, Tryd.ntmps3
    go_wp2
    go_ret
    exact ⟨rfl, Below.refl _ _⟩
set_option maxHeartbeats 4000000 in
theorem walk_err {w : World} {v u : Value} {A : List Int} {L : List Pe} (c : Int) (hc : c ≠ 0) (hA : Nums w v A) (hG : Glob w) (hL : Lies w u L) (hw : Wf L) (ha : A.length ≤ 100) (hl : L.length ≤ 100)
    (HE : ∀ {e : Ending} {w' : World} {B : Nat}, OfAns A B e w' → e = .returned (.tuple #[.slice none 0 0, .int .i64 c])) : Calls Tryd.prog 3 #[v, u] w fun e w' => e = .returned (.bool true) ∧ Below w.heap.size w w' := by
  have hA0 := hA
  have hL0 := hL
  obtain ⟨a, k, rfl⟩ := hA.form
  obtain ⟨b, d, rfl⟩ := hL.form
  have HP : Hid (Calls Tryd.prog 8 #[.slice a A.length k] w fun e w' => e = .returned (.tuple #[.slice none 0 0, .int .i64 c]) ∧ Below w.heap.size w w') := (of_any hA0 hG).mono fun e w' ⟨x, y⟩ => ⟨HE x, y⟩
  have HQ : Hid (∀ w1, Below w.heap.size w w1 → Calls Tryd.prog 9 #[.slice a A.length k] w1 fun e w' => e = .returned (.tuple #[.slice none 0 0, .int .i64 c]) ∧ Below w1.heap.size w1 w') := fun w1 hb => (refOf_any (hA0.bel hb)).mono fun e w' ⟨x, y⟩ => ⟨HE x, y⟩
  have HR : Hid (∀ w1, Below w.heap.size w w1 → Calls Tryd.prog 10 #[] w1 fun e w' => e = .returned (.bool true) ∧ Below w1.heap.size w1 w') := fun w1 hb => rounded_any w1 (hG.later hb)
  have HS : Hid (∀ w1, Calls Tryd.prog 11 #[.slice none 0 0, .slice none 0 0] w1 fun e w' => e = .returned (.bool true) ∧ Below w1.heap.size w1 w') := fun w1 => same_self (lies_nil w1) (lies_nil w1) (by simp)
  have HI : Hid (∀ w1, Below w.heap.size w w1 → Calls Tryd.prog 12 #[.slice b L.length d] w1 fun e w' => e = .returned (.bool (isB L)) ∧ Below w1.heap.size w1 w') := fun w1 hb => is_any (hL0.bel hb) hw (by omega)
  have HJ : Hid (∀ w1, Below w.heap.size w w1 → Calls Tryd.prog 13 #[.slice b L.length d] w1 fun e w' => e = .returned (.bool (isB L)) ∧ Below w1.heap.size w1 w') := fun w1 hb => refIs_any (hL0.bel hb) hw (by omega)
  have d1 : decide ((100 : Int) < (A.length : Int)) = false := decide_eq_false (by omega)
  have d2 : decide ((100 : Int) < (L.length : Int)) = false := decide_eq_false (by omega)
  have d3 : decide (100 < A.length) = false := decide_eq_false (by omega)
  have d4 : decide (100 < L.length) = false := decide_eq_false (by omega)
  have e1 : (c == c) = true := by simp
  have e2 : (c != 0) = true := by simpa using hc
  clear hA hA0 hL hL0 hw hG HE ha hl hc
  generalize A.length = n at *
  generalize L.length = m at *
  generalize isB L = r at *
  cases r
  all_goals
    go_enter Tryd.func3, Tryd.ntmps3
    go_wp2_with (first
      | (go_at_call 8; (with_reducible refine HP.out.mono ?_); rintro e w1 ⟨rfl, b1⟩)
      | (go_at_call 9; (with_reducible refine (HQ.out _ b1).mono ?_); rintro e w2 ⟨rfl, k2⟩; have b2 := step b1 k2)
      | (go_at_call 10; (with_reducible refine (HR.out _ b2).mono ?_); rintro e w3 ⟨rfl, k3⟩; have b3 := step b2 k3)
      | (go_at_call 11; (with_reducible refine (HS.out _).mono ?_); rintro e w4 ⟨rfl, k4⟩; have b4 := step b3 k4)
      | (go_at_call 12; (with_reducible refine (HI.out _ b4).mono ?_); rintro e w5 ⟨rfl, k5⟩; have b5 := step b4 k5)
      | (go_at_call 13; (with_reducible refine (HJ.out _ b5).mono ?_); rintro e w6 ⟨rfl, k6⟩; have b6 := step b5 k6))
    go_ret
    exact ⟨rfl, b6⟩
set_option maxHeartbeats 4000000 in
theorem walk_ok {w : World} {v u : Value} {A : List Int} {L : List Pe} (hA : Nums w v A) (hG : Glob w) (hL : Lies w u L) (hw : Wf L) (ha : A.length ≤ 100) (hl : L.length ≤ 100)
    (h : 1 ≤ A.length ∧ A.length ≤ 16) (g : Good A) (hd : ∀ j, j < A.length → dupB A j = false) : Calls Tryd.prog 3 #[v, u] w fun e w' => e = .returned (.bool true) ∧ Below w.heap.size w w' := by
  have hA0 := hA
  have hL0 := hL
  have I := inv_all g A.length (Nat.le_refl _) hd
  have hC := I.circ h.1 h.2
  have hWA := I.wf
  have hlen : (accL A A.length).length ≤ 1000000 := by rw [I.len]; omega
  obtain ⟨a, k, rfl⟩ := hA.form
  obtain ⟨b, d, rfl⟩ := hL.form
  have HP : Hid (Calls Tryd.prog 8 #[.slice a A.length k] w fun e w' => (∃ v', e = .returned (.tuple #[v', .int .i64 0]) ∧ Lies w' v' (accL A A.length)) ∧ Below w.heap.size w w') := (of_any hA0 hG).mono fun e w' ⟨x, y⟩ => ⟨ans_ok h g hd x, y⟩
  have HQ : Hid (∀ w1, Below w.heap.size w w1 → Calls Tryd.prog 9 #[.slice a A.length k] w1 fun e w' => (∃ v', e = .returned (.tuple #[v', .int .i64 0]) ∧ Lies w' v' (accL A A.length)) ∧ Below w1.heap.size w1 w') := fun w1 hb => (refOf_any (hA0.bel hb)).mono fun e w' ⟨x, y⟩ => ⟨ans_ok h g hd x, y⟩
  have HR : Hid (∀ w1, Below w.heap.size w w1 → Calls Tryd.prog 10 #[] w1 fun e w' => e = .returned (.bool true) ∧ Below w1.heap.size w1 w') := fun w1 hb => rounded_any w1 (hG.later hb)
  have HS : Hid (∀ x y w1, Lies w1 x (accL A A.length) → Lies w1 y (accL A A.length) → Calls Tryd.prog 11 #[x, y] w1 fun e w' => e = .returned (.bool true) ∧ Below w1.heap.size w1 w') := fun x y w1 hx hy => same_self hx hy hlen
  have HI2 : Hid (∀ x w1, Lies w1 x (accL A A.length) → Calls Tryd.prog 12 #[x] w1 fun e w' => e = .returned (.bool true) ∧ Below w1.heap.size w1 w') := fun x w1 hx => by
    have := is_any hx hWA hlen
    rwa [isB_yes hC] at this
  have HI : Hid (∀ w1, Below w.heap.size w w1 → Calls Tryd.prog 12 #[.slice b L.length d] w1 fun e w' => e = .returned (.bool (isB L)) ∧ Below w1.heap.size w1 w') := fun w1 hb => is_any (hL0.bel hb) hw (by omega)
  have HJ : Hid (∀ w1, Below w.heap.size w w1 → Calls Tryd.prog 13 #[.slice b L.length d] w1 fun e w' => e = .returned (.bool (isB L)) ∧ Below w1.heap.size w1 w') := fun w1 hb => refIs_any (hL0.bel hb) hw (by omega)
  have d1 : decide ((100 : Int) < (A.length : Int)) = false := decide_eq_false (by omega)
  have d2 : decide ((100 : Int) < (L.length : Int)) = false := decide_eq_false (by omega)
  have d3 : decide (100 < A.length) = false := decide_eq_false (by omega)
  have d4 : decide (100 < L.length) = false := decide_eq_false (by omega)
  clear hA hA0 hL hL0 hw hG ha hl I hC hWA hlen h g hd
  generalize accL A A.length = K at *
  generalize A.length = n at *
  generalize L.length = m at *
  generalize isB L = r at *
  cases r
  all_goals
    go_enter Tryd.func3, Tryd.ntmps3
    go_wp2_with (first
      | (go_at_call 8; (with_reducible refine HP.out.mono ?_); rintro e w1 ⟨⟨x1, rfl, t1⟩, b1⟩; obtain ⟨xa, xc, rfl⟩ := t1.form; have T1 := Lib.hid t1; clear t1)
      | (go_at_call 9; (with_reducible refine (HQ.out _ b1).mono ?_); rintro e w2 ⟨⟨x2, rfl, t2⟩, k2⟩; obtain ⟨ya, yc, rfl⟩ := t2.form; have T2 := Lib.hid t2; clear t2; have T1b := Lib.hid (T1.out.bel k2); have b2 := step b1 k2)
      | (go_at_call 10; (with_reducible refine (HR.out _ b2).mono ?_); rintro e w3 ⟨rfl, k3⟩; have b3 := step b2 k3)
      | (go_at_call 11; (with_reducible refine (HS.out _ _ _ (T1b.out.bel k3) (T2.out.bel k3)).mono ?_); rintro e w4 ⟨rfl, k4⟩; have b4 := step b3 k4)
      | (go_at_call 12; (with_reducible refine (HI.out _ b4).mono ?_); rintro e w5 ⟨rfl, k5⟩; have b5 := step b4 k5)
      | (go_at_call 13; (with_reducible refine (HJ.out _ b5).mono ?_); rintro e w6 ⟨rfl, k6⟩; have b6 := step b5 k6)
      | (go_at_call 12; (with_reducible refine (HI2.out _ _ ((((T1b.out.bel k3).bel k4).bel k5).bel k6)).mono ?_); rintro e w7 ⟨rfl, k7⟩; have b7 := step b6 k7))
    go_ret
    exact ⟨rfl, b7⟩
theorem walk {w : World} (hG : Glob w) {v u : Value} {A : List Int} {L : List Pe} (hA : Nums w v A) (hL : Lies w u L) (hw : Wf L) : Calls Tryd.prog 3 #[v, u] w fun e w' => e = .returned (.bool true) ∧ Below w.heap.size w w' := by
  by_cases ha : A.length ≤ 100
  · by_cases hl : L.length ≤ 100
    · by_cases h : 1 ≤ A.length ∧ A.length ≤ 16
      · by_cases g : Good A
        · by_cases hd : ∀ j, j < A.length → dupB A j = false
          · exact walk_ok hA hG hL hw ha hl h g hd
          · have : ∃ k, k < A.length ∧ dupB A k = true := by
              false_or_by_contra
              rename_i hn
              refine hd fun j hj => ?_
              cases hx : dupB A j with
              | false => rfl
              | true => exact absurd ⟨j, hj, hx⟩ hn
            obtain ⟨k, hk, hk2⟩ := this
            exact walk_err 9 (by omega) hA hG hL hw ha hl (fun x => ans_twice h g hk hk2 x)
        · exact walk_err 1 (by omega) hA hG hL hw ha hl (fun x => ans_arg h g x)
      · exact walk_err 2 (by omega) hA hG hL hw ha hl (fun x => ans_size h x)
    · exact walk_long hA hL (.inr (by omega))
  · exact walk_long hA hL (.inl (by omega))

set_option maxRecDepth 100000 in
theorem lifted (os : Os) (started : os.Started) (H : Type) (enc : TypeId × Value → H) :
    ReturnsInHanded {} Tryd.checked os 3 .any (fun w args => (Rows.circleOfSpec.pre enc Tryd.prog Tryd.f3 [] false w args ∧ laidMetH Tryd.prog LD w) ∧ sizedMet enc Tryd.prog Tryd.f3 (OpenSpec.ofChange Rows.circleOfSpec) false w args)
      (Rows.circleOfSpec.post enc Tryd.prog Tryd.f3 false true false false) := by
  refine returnsInHanded_of_change_and (C := Tryd.checked) (X := fun w _ => laidMetH Tryd.prog LD w) (fun _ _ _ hh h => h.of_heap hh) own started (by kernel_rfl) Tryd.func3
    (ChangeSpec.witness_shaped (enc := enc) (C := Tryd.checked) (os := os) (X := fun w _ => laidMetH Tryd.prog LD w) false (World.doorLaid Tryd.prog 31 os) #[.slice none 0 0, .slice none 0 0] 8 rfl (World.shaped_of_RefB (by kernel_rfl) (by kernel_rfl)) (by kernel_rfl) (by kernel_rfl) (by kernel_rfl) (door_met os _)) ?_
  intro W base args ds gs before hval0 hW _ _ hL _
  have hval : ∀ (j : Nat) t v, Tryd.f3.params[j]? = some t → args[j]? = some v → Value.okWide Tryd.prog W .any base t v := hval0
  have hW' := hW
  obtain ⟨p, q, hA0, hV, rfl, hfz, hnd⟩ := hW
  have hA : DataW.TrodAll enc Tryd.prog W 0 (fun _ => true) true Tryd.f3.params.toList args.toList ds p := hA0
  rw [Tryd.params3] at hA hval
  obtain ⟨v0, vs0, d0, ds0, p0, q0, hargs, rfl, rfl, h0, r0⟩ := trodAll_cons hA
  obtain ⟨v1, vs1, d1, ds1, p1, q1, rfl, rfl, rfl, h1, r1⟩ := trodAll_cons r0
  obtain ⟨rfl, rfl, rfl⟩ := trodAll_nil r1
  obtain rfl : args = #[v0, v1] := by cases args; simp_all
  obtain ⟨rfl, rfl⟩ := trodVars_none hV
  have k0 := h0
  have lt0 : ∀ x ∈ p0, x.block < W.heap.size := by obtain ⟨m, hm⟩ := k0; exact DataW.trod_lt m _ _ _ hm
  obtain ⟨A0, nm0⟩ := open_nums (hval 0 22 v0 rfl rfl) h0
  have k1 := h1
  have lt1 : ∀ x ∈ p1, x.block < W.heap.size := by obtain ⟨m, hm⟩ := k1; exact DataW.trod_lt m _ _ _ hm
  obtain ⟨L1, ls1, wf1⟩ := open_peers (hval 1 23 v1 rfl rfl) h1
  have hG := glob_of_laid hL
  clear hA0 hval0
  refine (walk hG nm0 ls1 wf1).mono fun e W' ⟨he, bel⟩ => ?_
  subst he
  exact ⟨_, rfl, _, _, _, [], _, [], hW', trodAll_mk1 (shut_bool Tryd.underlying4 _), (trodAll_cons_mk (Below.trod laidOut (by kernel_rfl) (of_decide_eq_true (by kernel_rfl)) k0 bel lt0) (trodAll_cons_mk (Below.trod laidOut (by kernel_rfl) (of_decide_eq_true (by kernel_rfl)) k1 bel lt1) trodAll_mk0)), rfl, bel.frame _, fun h => by cases h⟩

theorem proved : Rows.CircleOfSaid :=
  OpenClaim.holds_of_wide 3 Tryd.f3 rfl rfl rfl rfl rfl rfl rfl ⟨rfl, rfl, rfl, rfl, rfl⟩ rfl rfl rfl rfl rfl (by kernel_rfl) Tryd.func3 (by kernel_rfl)
    (of_decide_eq_true (by kernel_rfl)) (by unfold Func.isWrapper; first | (rw [if_pos (by decide +kernel)]; kernel_rfl) | (rw [if_neg (by decide +kernel)]; exact ⟨rfl, rfl⟩))
    (fun os started H enc _ => lifted os started H enc)
theorem card : Rows.CircleOfCardSaid :=
  Claim7.holds_tied_plain_at .later [] [.data, .data, .data] true _ false
    proved (fun _ h => by cases h) (by kernel_rfl) (fun _ h => by cases h) circleOf_row_tie rfl ⟨rfl, rfl⟩ (by kernel_rfl) rfl
    (fun f fn hf hfn => by
      obtain rfl : f = 3 := Option.some.inj ((show Tryd.prog.funcNamed Rows.circleOfRow.func = some 3 by kernel_rfl).symm.trans hf) |>.symm
      obtain rfl : fn = Tryd.f3 := (Option.some.inj (Tryd.func3.symm.trans hfn)).symm
      exact ⟨by kernel_rfl, fun j t ht => by
        rw [Tryd.params3] at ht
        have hm : t ∈ [22, 23] := by simpa using Array.mem_of_getElem? ht
        have hall : ([22, 23].all fun u => !Tryd.prog.wantsStandIn u) = true := by kernel_rfl
        exact (show Tryd.prog.wantsStandIn t = false by simpa using List.all_eq_true.1 hall t hm)⟩)
    (by kernel_rfl)

end Go.Proofs.YtmlejcfnnjnggaaDoor.OfLaw
