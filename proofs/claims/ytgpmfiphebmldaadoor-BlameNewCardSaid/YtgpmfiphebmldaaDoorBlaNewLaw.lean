/- BlameNew: for all codes the call returns true: a code alone has just itself, and that of OK is none. No condition but that the package variables read as the program's text lays them. -/
import Derived.Test.YtgpmfiphebmldaaDoorBlaRow
import Derived.Test.YtgpmfiphebmldaaDoorBlaRefT
import Derived.Test.YtgpmfiphebmldaaDoorBlaLaid
namespace Go.Proofs.YtgpmfiphebmldaaDoor.NewLaw
open Go Go.ChangeShapes Go.WideShapes Go.ChangeAt Go.RowKit Go.Sort
open Go.ChangeMaps (open_string shut_string)

theorem method_error (v : Value) (w : World) : (Go.method 260 59 v "Error").run Tryd.prog w = .ok (86, v) w := by kernel_rfl
theorem empty {B : Nat} {v : Value} {w : World} (h : Txs B v [] w) : ∃ a c, v = .slice a 0 c := by
  rcases h.2 with ⟨h, _⟩ | ⟨g, cap, cur, h, _⟩
  · exact ⟨_, _, h⟩
  · exact ⟨_, _, h⟩
theorem step {w a b : World} (h : Below w.heap.size w a) (k : Below a.heap.size a b) : Below w.heap.size w b := h.trans (k.mono h.size)

set_option maxRecDepth 100000 in
set_option maxHeartbeats 4000000 in
theorem zero (other : Int) (w : World) (hG : Glob w) : Calls Tryd.prog 6 #[.int .i64 0, .int .i64 other] w fun e w' => e = .returned (.bool true) ∧ Below w.heap.size w w' := by
  have hN := (new_zero w).mono (R' := fun e w' => e = .returned .nilIface ∧ w = w') fun _ _ ⟨a, b⟩ => ⟨a, b.symm⟩
  have hB := blamed_any w hG
  have hC : ∀ w', Below w.heap.size w w' → Calls Tryd.prog 9 #[.nilIface] w' fun e w'' => e = .returned (.int .i64 0) ∧ Below w'.heap.size w' w'' := fun w' hb => code_any (fun _ => True) .nilIface none w' rfl (hG.below hb hG.size) (by decide)
  have hX : ∀ w', Below w.heap.size w w' → Calls Tryd.prog 18 #[.nilIface] w' fun e w'' => e = .returned (.string ⟨#[]⟩) ∧ Below w'.heap.size w' w'' := fun w' hb => text_any (fun _ => True) .nilIface none w' rfl (hG.below hb hG.size) (by decide)
  have hH : ∀ w', Below w.heap.size w w' → Calls Tryd.prog 11 #[.nilIface, .int .i64 other] w' fun e w'' => e = .returned (.bool (other == 0)) ∧ Below w'.heap.size w' w'' := fun w' hb => has_any (fun _ => True) .nilIface none other w' rfl (hG.below hb hG.size) (by decide)
  have b0 := Below.refl w.heap.size w
  cases hr : (other == 0)
  all_goals
    rw [hr] at hH
    go_enter Tryd.func6, Tryd.ntmps6
    go_wp2_with (first
      | (go_at_call 23; (with_reducible refine hN.mono ?_); rintro e w1 ⟨rfl, rfl⟩)
      | (go_at_call 20; (with_reducible refine hB.mono ?_); rintro e w2 ⟨rfl, b1⟩)
      | (go_at_call 9; (with_reducible refine (hC _ b1).mono ?_); rintro e w3 ⟨rfl, k2⟩; have b2 := step b1 k2)
      | (go_at_call 18; (with_reducible refine (hX _ b2).mono ?_); rintro e w4 ⟨rfl, k3⟩; have b3 := step b2 k3)
      | (go_at_call 11; (with_reducible refine (hH _ b3).mono ?_); rintro e w5 ⟨rfl, k4⟩; have b4 := step b3 k4))
    go_ret
    exact ⟨rfl, b4⟩

set_option maxRecDepth 100000 in
set_option maxHeartbeats 4000000 in
theorem some_ (c other : Int) (hc : okC c) (w : World) (hG : Glob w) : Calls Tryd.prog 6 #[.int .i64 c, .int .i64 other] w fun e w' => e = .returned (.bool true) ∧ Below w.heap.size w w' := by
  have hc0 : (c == 0) = false := by simpa using hc.1
  have hE : ∀ w : World, Er w (fun _ => True) (.iface 59 (.int .i64 c)) (.code c) := fun w => Er.code c hc
  have hN := (new_code c hc.1 w).mono (R' := fun e w' => e = .returned (.iface 59 (.int .i64 c)) ∧ w = w') fun _ _ ⟨a, b⟩ => ⟨a, b.symm⟩
  have hB := blamed_any w hG
  have hwt : wtO (some (.code c)) ≤ 1000000 := by show (30 : Nat) ≤ 1000000; decide
  have hC : ∀ w', Below w.heap.size w w' → Calls Tryd.prog 9 #[.iface 59 (.int .i64 c)] w' fun e w'' => e = .returned (.int .i64 c) ∧ Below w'.heap.size w' w'' := fun w' hb => code_any (fun _ => True) _ (some (.code c)) w' (hE w') (hG.below hb hG.size) hwt
  have hH : ∀ w', Below w.heap.size w w' → Calls Tryd.prog 11 #[.iface 59 (.int .i64 c), .int .i64 other] w' fun e w'' => e = .returned (.bool (other == c)) ∧ Below w'.heap.size w' w'' := fun w' hb => by
    have h := has_any (fun _ => True) _ (some (.code c)) other w' (hE w') (hG.below hb hG.size) hwt
    rw [show hasO (some (.code c)) other = (other == c) by
      show (ET.codes (.code c)).contains other = (other == c)
      rw [ET.codes, List.contains_cons, List.contains_nil, Bool.or_false]] at h
    exact h
  have hA : ∀ w', Below w.heap.size w w' → Calls Tryd.prog 13 #[.iface 59 (.int .i64 c)] w' fun e w'' => e = .returned (.bool ((c == 8) || ((c == 10) || (c == 11)))) ∧ Below w'.heap.size w' w'' := fun w' hb => by
    have h := again_any (fun _ => True) _ (some (.code c)) w' (hE w') (hG.below hb hG.size) hwt
    rw [show againO (some (.code c)) = ((c == 8) || ((c == 10) || (c == 11))) by
      simp only [againO, ET.again, ET.codes, List.contains_cons, List.contains_nil, Bool.or_false]
      rw [BEq.comm (a := (8 : Int)), BEq.comm (a := (10 : Int)), BEq.comm (a := (11 : Int))]] at h
    exact h
  have hR : ∀ w', Below w.heap.size w w' → Calls Tryd.prog 16 #[.iface 59 (.int .i64 c)] w' fun e w'' => ∃ u, e = .returned u ∧ Txs w'.heap.size u [] w'' ∧ Below w'.heap.size w' w'' := fun w' hb => trail_any (fun _ => True) _ (some (.code c)) w' (hE w') hwt
  have hX : ∀ w', Below w.heap.size w w' → Calls Tryd.prog 86 #[.int .i64 c] w' fun e w'' => e = .returned (.string (⟨#[101, 114, 114, 111, 114, 32]⟩ ++ bs (Lib.itoa c))) ∧ Below w'.heap.size w' w'' := fun w' hb => by
    rw [show (⟨#[101, 114, 114, 111, 114, 32]⟩ : ByteArray) ++ bs (Lib.itoa c) = bs (ET.code c).text from bs_append errB _]
    exact error_code c hc w' (hG.below hb hG.size)
  have hD : ∀ w', Calls Tryd.prog 24 #[.int .i64 c] w' fun e w'' => e = .returned (.string (bs (Lib.itoa c))) ∧ w' = w'' := fun w' => (digits_any c hc.2.1 hc.2.2 w').mono fun _ _ ⟨a, b⟩ => ⟨a, b.symm⟩
  have hroom := room ⟨#[101, 114, 114, 111, 114, 32]⟩ (bs (Lib.itoa c)) (by have := itoa_len c hc.2.1 hc.2.2; have e : (⟨#[101, 114, 114, 111, 114, 32]⟩ : ByteArray).size = 6 := rfl; omega)
  have e1 := beq_self (⟨#[101, 114, 114, 111, 114, 32]⟩ ++ bs (Lib.itoa c))
  generalize bs (Lib.itoa c) = Y at *
  have hm := method_error
  have b0 := Below.refl w.heap.size w
  have cc : (c == c) = true := by simp
  clear hE hwt
  rcases hagain : ((c == 8), (c == 10), (c == 11)) with ⟨p8, p10, p11⟩
  simp only [Prod.mk.injEq] at hagain
  obtain ⟨h8, h10, h11⟩ := hagain
  rw [h8, h10, h11] at hA
  cases p8
  cases p10
  cases p11
  all_goals (try simp only [Bool.false_or, Bool.true_or, Bool.or_true] at hA)
  all_goals cases hr : (other == c)
  all_goals
    rw [hr] at hH
    go_enter Tryd.func6, Tryd.ntmps6
    go_wp2_with (first
      | (go_at_call 23; (with_reducible refine hN.mono ?_); rintro e w1 ⟨rfl, rfl⟩)
      | (go_at_call 20; (with_reducible refine hB.mono ?_); rintro e w2 ⟨rfl, b1⟩)
      | (go_at_call 9; (with_reducible refine (hC _ b1).mono ?_); rintro e w3 ⟨rfl, k2⟩; have b2 := step b1 k2)
      | (go_at_call 11; (with_reducible refine (hH _ b2).mono ?_); rintro e w4 ⟨rfl, k3⟩; have b3 := step b2 k3)
      | (go_at_call 13; (with_reducible refine (hA _ b3).mono ?_); rintro e w5 ⟨rfl, k4⟩; have b4 := step b3 k4)
      | (go_at_call 16; (with_reducible refine (hR _ b4).mono ?_); rintro e w6 ⟨u, rfl, hu, k5⟩; have b5 := step b4 k5; obtain ⟨ua, uc, rfl⟩ := empty hu)
      | (go_at_call 86; (with_reducible refine (hX _ b5).mono ?_); rintro e w7 ⟨rfl, k6⟩; have b6 := step b5 k6)
      | (go_at_call 24; (with_reducible refine (hD _).mono ?_); rintro e w8 ⟨rfl, rfl⟩))
    go_ret
    exact ⟨rfl, b6⟩
theorem walk (c other : Int) (h1 : -9223372036854775808 ≤ c) (h2 : c ≤ 9223372036854775807) (w : World) (hG : Glob w) : Calls Tryd.prog 6 #[.int .i64 c, .int .i64 other] w fun e w' => e = .returned (.bool true) ∧ Below w.heap.size w w' := by
  by_cases h : c = 0
  · subst h; exact zero other w hG
  · exact some_ c other ⟨h, h1, h2⟩ w hG
theorem int_bounds {n : Int} (h : (Lit.int .i64 n).wf = true) : -9223372036854775808 ≤ n ∧ n ≤ 9223372036854775807 := by
  have h0 : IntKind.min .i64 = -9223372036854775808 := rfl
  have h1 : IntKind.max .i64 = 9223372036854775807 := rfl
  simp only [Lit.wf, h0, h1, Bool.and_eq_true, decide_eq_true_eq] at h
  exact h

set_option maxRecDepth 100000 in
theorem lifted (os : Os) (started : os.Started) (H : Type) (enc : TypeId × Value → H) :
    ReturnsInHanded {} Tryd.checked os 6 .any (fun w args => (Rows.blameNewSpec.pre enc Tryd.prog Tryd.f6 [] false w args ∧ laidMetH Tryd.prog LD w) ∧ sizedMet enc Tryd.prog Tryd.f6 (OpenSpec.ofChange Rows.blameNewSpec) false w args)
      (Rows.blameNewSpec.post enc Tryd.prog Tryd.f6 false true false false) := by
  refine returnsInHanded_of_change_and (C := Tryd.checked) (X := fun w _ => laidMetH Tryd.prog LD w) (fun _ _ _ hh h => h.of_heap hh) own started (by kernel_rfl) Tryd.func6
    (ChangeSpec.witness_shaped (enc := enc) (C := Tryd.checked) (os := os) (X := fun w _ => laidMetH Tryd.prog LD w) false (World.doorLaid Tryd.prog 31 os) #[.int .i64 0, .int .i64 0] 8 rfl (World.shaped_of_RefB (by kernel_rfl) (by kernel_rfl)) (by kernel_rfl) (by kernel_rfl) (by kernel_rfl) (door_met os _)) ?_
  intro W base args ds gs before hval0 hW _ _ hL _
  have hval : ∀ (j : Nat) t v, Tryd.f6.params[j]? = some t → args[j]? = some v → Value.okWide Tryd.prog W .any base t v := hval0
  have hW' := hW
  obtain ⟨p, q, hA0, hV, rfl, hfz, hnd⟩ := hW
  have hA : DataW.TrodAll enc Tryd.prog W 0 (fun _ => true) true Tryd.f6.params.toList args.toList ds p := hA0
  rw [Tryd.params6] at hA hval
  obtain ⟨v0, vs0, d0, ds0, p0, q0, hargs, rfl, rfl, h0, r0⟩ := trodAll_cons hA
  obtain ⟨v1, vs1, d1, ds1, p1, q1, rfl, rfl, rfl, h1, r1⟩ := trodAll_cons r0
  obtain ⟨rfl, rfl, rfl⟩ := trodAll_nil r1
  obtain rfl : args = #[v0, v1] := by cases args; simp_all
  obtain ⟨rfl, rfl⟩ := trodVars_none hV
  have k0 := h0
  have lt0 : ∀ x ∈ p0, x.block < W.heap.size := by obtain ⟨m, hm⟩ := k0; exact DataW.trod_lt m _ _ _ hm
  obtain ⟨n0, rfl, _, _, wf0⟩ := open_int Tryd.underlying23 (hval 0 23 v0 rfl rfl) h0
  have bd0 := int_bounds wf0
  have k1 := h1
  have lt1 : ∀ x ∈ p1, x.block < W.heap.size := by obtain ⟨m, hm⟩ := k1; exact DataW.trod_lt m _ _ _ hm
  obtain ⟨n1, rfl, _, _, wf1⟩ := open_int Tryd.underlying23 (hval 1 23 v1 rfl rfl) h1
  have bd1 := int_bounds wf1
  have hG := glob_of_laid hL
  clear hA0 hval0
  refine (walk n0 n1 bd0.1 bd0.2 W hG).mono fun e W' ⟨he, bel⟩ => ?_
  subst he
  exact ⟨_, rfl, _, _, _, [], _, [], hW', trodAll_mk1 (shut_bool Tryd.underlying4 _), (trodAll_cons_mk (Below.trod laidOut (by kernel_rfl) (of_decide_eq_true (by kernel_rfl)) k0 bel lt0) (trodAll_cons_mk (Below.trod laidOut (by kernel_rfl) (of_decide_eq_true (by kernel_rfl)) k1 bel lt1) trodAll_mk0)), rfl, bel.frame _, fun h => by cases h⟩

theorem proved : Rows.BlameNewSaid :=
  OpenClaim.holds_of_wide 6 Tryd.f6 rfl rfl rfl rfl rfl rfl rfl ⟨rfl, rfl, rfl, rfl, rfl⟩ rfl rfl rfl rfl rfl (by kernel_rfl) Tryd.func6 (by kernel_rfl)
    (of_decide_eq_true (by kernel_rfl)) (by unfold Func.isWrapper; first | (rw [if_pos (by decide +kernel)]; kernel_rfl) | (rw [if_neg (by decide +kernel)]; exact ⟨rfl, rfl⟩))
    (fun os started H enc _ => lifted os started H enc)
theorem card : Rows.BlameNewCardSaid :=
  Claim7.holds_tied_plain_at .later [] [.data, .data, .data, .handle] true _ true
    proved (fun _ h => by cases h) (by kernel_rfl) (fun _ h => by cases h) blameNew_row_tie rfl ⟨rfl, rfl⟩ (by kernel_rfl) rfl
    (fun f fn hf hfn => by
      obtain rfl : f = 6 := Option.some.inj ((show Tryd.prog.funcNamed Rows.blameNewRow.func = some 6 by kernel_rfl).symm.trans hf) |>.symm
      obtain rfl : fn = Tryd.f6 := (Option.some.inj (Tryd.func6.symm.trans hfn)).symm
      exact ⟨by kernel_rfl, fun j t ht => by
        rw [Tryd.params6] at ht
        have hm : t ∈ [23, 23] := by simpa using Array.mem_of_getElem? ht
        have hall : ([23, 23].all fun u => !Tryd.prog.wantsStandIn u) = true := by kernel_rfl
        exact (show Tryd.prog.wantsStandIn t = false by simpa using List.all_eq_true.1 hall t hm)⟩)
    (by kernel_rfl)

end Go.Proofs.YtgpmfiphebmldaaDoor.NewLaw
