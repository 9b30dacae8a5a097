/- IdentBack: for every place and text the call returns true: what is written is read as it was, and what is read is of forty digits. No condition. -/
import Derived.Test.YteljhengfeebfaaQ
namespace Go.Proofs.Yteljhengfeebfaa.BackLaw
open Go.ChangeShapes Go.WideShapes Go.ChangeAt Go.RowKit Go.Sort
open Go.ChangeMaps (open_string shut_string)
set_option linter.unusedVariables false


theorem long (a : Nat) (s : ByteArray) (w : World) (h : 200 < s.size) (hs : s.size ≤ 9223372036854775807) : Calls Try.prog 8 #[idv a, .string s] w fun e w' => e = .returned (.bool true) ∧ Below w.heap.size w w' := by
  rw [show idv a = .agg (row (dig 20 a)) from rfl]
  go_enter Try.func8, Try.ntmps8
  go_wp2
  go_ret
  exact ⟨rfl, (Below.refl _ _).alloc (Nat.le_refl _) _⟩

set_option maxHeartbeats 2000000 in
/-- behind the three calls that come first -/
theorem short (a n : Nat) (s : ByteArray) (w : World) (h : s.size ≤ 200) (code : Int) (hc : code = 0 ∧ s.size = 40 ∨ code = 3 ∧ n = 0)
    (c22 : ∀ w : World, Calls Try.prog 22 #[.string s] w fun e w' => e = .returned (.tuple #[idv n, .int .i64 code]) ∧ Below w.heap.size w w') :
    Calls Try.prog 8 #[idv a, .string s] w fun e w' => e = .returned (.bool true) ∧ Below w.heap.size w w' := by
  have P22 := Lib.hid c22
  clear c22
  have T24 := Lib.hid text_all
  have T22 := Lib.hid parse_text
  have TS := Lib.hid textB_size
  generalize textB = textB at *
  have HC := Lib.hid hc
  clear hc
  rw [show idv a = .agg (row (dig 20 a)) from rfl]
  go_enter Try.func8, Try.ntmps8
  go_upto_region 3 with (fail)
  have A1 : At (w.alloc (.cells (row (dig 20 a)) 23)) w.heap.size a := At.new w a
  have B1 : Below w.heap.size w (w.alloc (.cells (row (dig 20 a)) 23)) := (Below.refl _ _).alloc (Nat.le_refl _) _
  generalize w.alloc (.cells (row (dig 20 a)) 23) = W1 at *
  go_upto_region 4 with (first | refine p_load rfl _ rfl _ rfl _ A1 ?_ | (go_at_call 24; with_reducible refine (T24.out _ _).mono ?_; rintro e w2 ⟨rfl, hb⟩))
  replace A1 := A1.below hb
  have B2 := B1.trans (hb.mono B1.size)
  clear hb B1
  go_upto_region 5 with (first | (go_at_call 22; with_reducible refine (T22.out _ _).mono ?_; rintro e w3 ⟨rfl, hb⟩) | (refine wpList_store_new rfl rfl _ _ rfl _ rfl rfl ?_))
  have B3 := B2.trans ((hb.mono B2.size).trans ((Below.refl w.heap.size w3).alloc (Nat.le_trans B2.size hb.size) (.cells (row (dig 20 a)) 23)))
  replace A1 := (A1.below hb).alloc (.cells (row (dig 20 a)) 23)
  have A2 := At.new w3 a
  clear hb B2
  generalize w3.heap.size = g3 at *
  generalize w3.alloc _ = W3 at *
  go_upto_region 6 with (first | (go_at_call 22; with_reducible refine (P22.out _).mono ?_; rintro e w4 ⟨rfl, hb⟩) | (refine wpList_store_new rfl rfl _ _ rfl _ rfl rfl ?_))
  have B4 := B3.trans ((hb.mono B3.size).trans ((Below.refl w.heap.size w4).alloc (Nat.le_trans B3.size hb.size) (.cells (row (dig 20 n)) 23)))
  replace A1 := (A1.below hb).alloc (.cells (row (dig 20 n)) 23)
  replace A2 := (A2.below hb).alloc (.cells (row (dig 20 n)) 23)
  have A3 := At.new w4 n
  clear hb B3
  generalize w4.heap.size = g4 at *
  generalize w4.alloc _ = W4 at *
  have hsz : (((textB a).size : Int) != 40) = false := by rw [TS.out]; rfl
  rcases HC.out with ⟨rfl, h40⟩ | ⟨rfl, rfl⟩
  · have h40' : ((s.size : Int) == 40) = true := by rw [h40]; rfl
    clear HC h40
    go_upto_region 10 with (first | (refine p_load rfl _ rfl _ rfl _ (by first | with_reducible exact A1 | with_reducible exact A2 | with_reducible exact A3) ?_) | (refine p_build rfl rfl ?_) | (refine p_eql rfl _ _ rfl _ _ rfl rfl (eqB_self _) ?_) | (refine p_neq rfl _ _ rfl _ _ rfl rfl (neqB_self _) ?_) | (go_guarded; (first | (refine o_load _ rfl _ rfl _ (by first | with_reducible exact A1 | with_reducible exact A2 | with_reducible exact A3) ?_) | (refine o_build rfl ?_) | (refine o_eql _ _ rfl _ _ rfl rfl (eqB_self _) ?_) | (refine o_neq _ _ rfl _ _ rfl rfl (neqB_self _) ?_)); simp only [Act.put, List.setIfInBounds_toArray, List.set_cons_succ, List.set_cons_zero]))
    go_upto_region 11 with (first | refine p_load rfl _ rfl _ rfl _ A3 ?_ | (go_at_call 24; with_reducible refine (T24.out _ _).mono ?_; rintro e w5 ⟨rfl, hb⟩; replace A3 := A3.below hb; have B5 := B4.trans (hb.mono B4.size); clear hb B4) | (go_at_call 22; with_reducible refine (T22.out _ _).mono ?_; rintro e w6 ⟨rfl, hb⟩) | (refine wpList_store_new rfl rfl _ _ rfl _ rfl rfl ?_))
    have B6 := B5.trans ((hb.mono B5.size).trans ((Below.refl w.heap.size w6).alloc (Nat.le_trans B5.size hb.size) (.cells (row (dig 20 n)) 23)))
    replace A3 := (A3.below hb).alloc (.cells (row (dig 20 n)) 23)
    have A4 := At.new w6 n
    clear hb B5 A1 A2
    generalize w6.heap.size = g6 at *
    generalize w6.alloc _ = W6 at *
    go_wp2_with (first | (go_at_call 11; with_reducible refine (placed_all _).mono ?_; rintro e w7 ⟨rfl, hb⟩; replace A3 := A3.below hb; replace A4 := A4.below hb; have B7 := B6.trans (hb.mono B6.size); clear hb B6) | (refine p_load rfl _ rfl _ rfl _ (by first | with_reducible exact A3 | with_reducible exact A4) ?_) | (refine p_build rfl rfl ?_) | (refine p_eql rfl _ _ rfl _ _ rfl rfl (eqB_self _) ?_) | (refine p_neq rfl _ _ rfl _ _ rfl rfl (neqB_self _) ?_) | (go_guarded; (first | (refine o_load _ rfl _ rfl _ (by first | with_reducible exact A3 | with_reducible exact A4) ?_) | (refine o_build rfl ?_) | (refine o_eql _ _ rfl _ _ rfl rfl (eqB_self _) ?_) | (refine o_neq _ _ rfl _ _ rfl rfl (neqB_self _) ?_)); simp only [Act.put, List.setIfInBounds_toArray, List.set_cons_succ, List.set_cons_zero]))
    go_ret
    exact ⟨rfl, B7⟩
  · clear HC
    go_upto_region 9 with (first | (refine p_load rfl _ rfl _ rfl _ (by first | with_reducible exact A1 | with_reducible exact A2 | with_reducible exact A3) ?_) | (refine p_build rfl rfl ?_) | (refine p_eql rfl _ _ rfl _ _ rfl rfl (eqB_self _) ?_) | (refine p_neq rfl _ _ rfl _ _ rfl rfl (neqB_self _) ?_) | (go_guarded; (first | (refine o_load _ rfl _ rfl _ (by first | with_reducible exact A1 | with_reducible exact A2 | with_reducible exact A3) ?_) | (refine o_build rfl ?_) | (refine o_eql _ _ rfl _ _ rfl rfl (eqB_self _) ?_) | (refine o_neq _ _ rfl _ _ rfl rfl (neqB_self _) ?_)); simp only [Act.put, List.setIfInBounds_toArray, List.set_cons_succ, List.set_cons_zero]))
    go_wp2_with (first | (go_at_call 11; with_reducible refine (placed_all _).mono ?_; rintro e w7 ⟨rfl, hb⟩; replace A3 := A3.below hb; have B7 := B4.trans (hb.mono B4.size); clear hb B4) | (refine p_load rfl _ rfl _ rfl _ A3 ?_) | (refine p_build rfl rfl ?_) | (refine p_eql rfl _ _ rfl _ _ rfl rfl (eqB_self _) ?_) | (go_guarded; (first | (refine o_load _ rfl _ rfl _ A3 ?_) | (refine o_build rfl ?_) | (refine o_eql _ _ rfl _ _ rfl rfl (eqB_self _) ?_)); simp only [Act.put, List.setIfInBounds_toArray, List.set_cons_succ, List.set_cons_zero]))
    go_ret
    exact ⟨rfl, B7⟩

theorem walk (a : Nat) (s : ByteArray) (w : World) (hs : s.size ≤ 9223372036854775807) : Calls Try.prog 8 #[idv a, .string s] w fun e w' => e = .returned (.bool true) ∧ Below w.heap.size w w' := by
  rcases Nat.lt_or_ge 200 s.size with h | h
  · exact long a s w h hs
  · rcases parsed_cases s with ⟨h40, n, hp⟩ | hp
    · exact short a n s w h 0 (.inl ⟨rfl, h40⟩) (fun w => hp ▸ parse_all s w)
    · exact short a 0 s w h 3 (.inr ⟨rfl, rfl⟩) (fun w => hp ▸ parse_all s w)

set_option maxRecDepth 100000 in
theorem lifted (os : Os) (started : os.Started) (H : Type) (enc : TypeId × Value → H) :
    ReturnsInHanded {} Try.checked os 8 .any (Rows.identBackSpec.pre6 enc Try.prog Try.f8 Rows.identBackRow.domain false) (Rows.identBackSpec.post enc Try.prog Try.f8 false true false false) := by
  refine returnsInHanded_of_change (C := Try.checked) own started (by kernel_rfl) Try.func8
    (ChangeSpec.witness6 (enc := enc) (C := Try.checked) false ⟨#[], #[.agg #[.int .u8 0, .int .u8 0, .int .u8 0, .int .u8 0, .int .u8 0, .int .u8 0, .int .u8 0, .int .u8 0, .int .u8 0, .int .u8 0, .int .u8 0, .int .u8 0, .int .u8 0, .int .u8 0, .int .u8 0, .int .u8 0, .int .u8 0, .int .u8 0, .int .u8 0, .int .u8 0], .string ⟨#[]⟩], []⟩ 8 (by kernel_rfl) (by kernel_rfl) (by kernel_rfl) (by kernel_rfl)) ?_
  intro W base args ds gs before hval0 hW hcnd _
  have hval : ∀ (j : Nat) t v, Try.f8.params[j]? = some t → args[j]? = some v → Value.okWide Try.prog W .any base t v := hval0
  have hW' := hW
  obtain ⟨p, q, hA0, hV, rfl, hfz, hnd⟩ := hW
  have hA : DataW.TrodAll enc Try.prog W 0 (fun _ => true) true Try.f8.params.toList args.toList ds p := hA0
  rw [Try.params8] at hA hval
  obtain ⟨v0, vs0, d0, ds0, p0, q0, hargs, rfl, rfl, h0, r0⟩ := trodAll_cons hA
  obtain ⟨v1, vs1, d1, ds1, p1, q1, rfl, rfl, rfl, h1, r1⟩ := trodAll_cons r0
  obtain ⟨rfl, rfl, rfl⟩ := trodAll_nil r1
  obtain rfl : args = #[v0, v1] := by cases args; simp_all
  obtain ⟨rfl, rfl⟩ := trodVars_none hV
  have k0 := h0
  have lt0 : ∀ x ∈ p0, x.block < W.heap.size := by obtain ⟨m, hm⟩ := k0; exact DataW.trod_lt m _ _ _ hm
  obtain ⟨n0, _, rfl⟩ := open_id (hval 0 23 v0 rfl rfl) h0
  have k1 := h1
  have lt1 : ∀ x ∈ p1, x.block < W.heap.size := by obtain ⟨m, hm⟩ := k1; exact DataW.trod_lt m _ _ _ hm
  obtain ⟨n1, rfl, _, _, ws1⟩ := open_string Try.underlying9 (hval 1 9 v1 rfl rfl) h1
  clear hA0 hval0
  refine (walk n0 n1 W ws1).mono fun e W' ⟨he, bel⟩ => ?_
  subst he
  exact ⟨_, rfl, _, _, _, [], _, [], hW', trodAll_mk1 (shut_bool Try.underlying4 _), (trodAll_cons_mk (Below.trod laidOut (by kernel_rfl) (of_decide_eq_true (by kernel_rfl)) k0 bel lt0) (trodAll_cons_mk (Below.trod laidOut (by kernel_rfl) (of_decide_eq_true (by kernel_rfl)) k1 bel lt1) trodAll_mk0)), rfl, bel.frame _, fun h => by cases h⟩

theorem proved : Rows.IdentBackSaid :=
  OpenClaim.holds_of_wide 8 Try.f8 rfl rfl rfl rfl rfl rfl rfl ⟨rfl, rfl, rfl, rfl, rfl⟩ rfl rfl rfl rfl rfl (by kernel_rfl) Try.func8 (by kernel_rfl)
    (of_decide_eq_true (by kernel_rfl)) (by unfold Func.isWrapper; first | (rw [if_pos (by decide +kernel)]; kernel_rfl) | (rw [if_neg (by decide +kernel)]; exact ⟨rfl, rfl⟩))
    (fun os started H enc _ => lifted os started H enc)
end Go.Proofs.Yteljhengfeebfaa.BackLaw
