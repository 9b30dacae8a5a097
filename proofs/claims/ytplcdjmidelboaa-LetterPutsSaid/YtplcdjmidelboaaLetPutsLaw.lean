/- LetterPuts: for any letter the call returns true: big ones are let go; the program and the document tell alike whether it is right, and put the same bytes with the same error. No condition. -/
import Derived.Test.YtplcdjmidelboaaLetLawKit
import Derived.Test.YtplcdjmidelboaaLetRefPut
import Derived.ChangeSlices
namespace Go.Proofs.Ytplcdjmidelboaa.PutsLaw
set_option maxRecDepth 100000
open Go Go.ChangeShapes Go.WideShapes Go.ChangeAt Go.RowKit Go.Sort
open Go.ChangeMaps (open_string shut_string)
set_option linter.unusedVariables false

theorem walk_big {w : World} {l : Lt} {u v : Value} (hM : LtM w l u v) (hb : bigL l = true) : Calls Try.prog 3 #[.agg (ltA l u v)] w fun e w' => e = .returned (.bool true) ∧ Below w.heap.size w w' := by
  have B0 := (Below.refl w.heap.size w).alloc (Nat.le_refl _) (.cells (ltA l u v) 30)
  have L0 := LB.new w l u v
  have HI := Lib.hid (big_any (hM.bel B0))
  rw [hb] at HI
  have HB := Lib.hid B0
  clear B0 hM hb
  generalize hg : w.heap.size = g at *
  go_enter Try.func3, Try.ntmps3
  go_upto_region 1 with (fail)
  (try rw [hg])
  generalize w.alloc _ = W at *
  go_wp2_with (first
    | go_big_skip
    | (refine p_midL rfl _ rfl g rfl L0 ?_)
    | (go_at_call 8; (with_reducible refine HI.out.mono ?_); rintro e w1 ⟨rfl, k1⟩))
  go_ret
  subst hg
  exact ⟨rfl, step HB.out k1⟩
set_option maxHeartbeats 4000000 in
theorem core {w : World} {l : Lt} {u v : Value} (hM : LtM w l u v) (hw : l.Wf) (hb : bigL l = false) : Calls Try.prog 3 #[.agg (ltA l u v)] w fun e w' => e = .returned (.bool true) ∧ Below w.heap.size w w' := by
  have hf := fine_big hw hb
  have B0 := (Below.refl w.heap.size w).alloc (Nat.le_refl _) (.cells (ltA l u v) 30)
  have L0 := LB.new w l u v
  obtain ⟨T, n, h1, h2⟩ : ∃ (T : ByteArray) (n : Int), (∀ W, LtM W l u v → Calls Try.prog 9 #[.agg (ltA l u v)] W fun e w' => e = .returned (.tuple #[.string T, .int .i64 n]) ∧ Below W.heap.size W w') ∧ (∀ W, LtM W l u v → Calls Try.prog 10 #[.agg (ltA l u v)] W fun e w' => e = .returned (.tuple #[.string T, .int .i64 n]) ∧ Below W.heap.size W w') := by
    cases hR : rightB l with
    | false => exact ⟨⟨#[]⟩, 1, fun W h => put_no h hw.kind hf.a hf.p hR, fun W h => refput_no h hf.a hf.p hR⟩
    | true => exact ⟨txt (putN l), 0, fun W h => put_yes h hw hf.a hf.p ((rightB_iff hw).1 hR), fun W h => refput_yes h hw ((rightB_iff hw).1 hR)⟩
  have h3 : ∀ W, LtM W l u v → Calls Try.prog 12 #[.agg (ltA l u v)] W fun e w' => e = .returned (.bool (rightB l)) ∧ Below W.heap.size W w' := fun W h => is_any h hw.kind hf.a hf.p
  have h4 : ∀ W, LtM W l u v → Calls Try.prog 13 #[.agg (ltA l u v)] W fun e w' => e = .returned (.bool (rightB l)) ∧ Below W.heap.size W w' := fun W h => refis_any h hf.a hf.p
  have h0 : ∀ W, LtM W l u v → Calls Try.prog 8 #[.agg (ltA l u v)] W fun e w' => e = .returned (.bool false) ∧ Below W.heap.size W w' := fun W h => by rw [← hb]; exact big_any h
  have HT : ∀ W, Calls Try.prog 11 #[] W fun e w' => e = .returned (.bool true) ∧ Below W.heap.size W w' := lettered_any
  have q1 : (T.toList == T.toList) = true := beq_self_eq_true _
  have q2 : (n == n) = true := beq_self_eq_true _
  have M0 := hM.bel B0
  generalize rightB l = R at *
  have q3 : (R == R) = true := beq_self_eq_true _
  have H0 := Lib.hid h0
  have H1 := Lib.hid h1
  have H2 := Lib.hid h2
  have H3 := Lib.hid h3
  have H4 := Lib.hid h4
  clear h0 h1 h2 h3 h4 hf hb hM
  obtain ⟨g, hg⟩ : ∃ g, w.heap.size = g := ⟨_, rfl⟩
  rw [hg] at L0 B0
  go_enter Try.func3, Try.ntmps3
  go_upto_region 1 with (fail)
  (try rw [hg])
  generalize w.alloc _ = W at *
  go_upto_region 5 with (first
    | (refine p_midL rfl _ rfl g rfl L0 ?_)
    | (go_at_call 8; (with_reducible refine (H0.out _ M0).mono ?_); rintro e w1 ⟨rfl, k1⟩; have b1 := belTo hg B0 k1; have L1 := L0.bel k1; have M1 := M0.bel k1)
    | (refine p_midL rfl _ rfl g rfl L1 ?_)
    | (go_at_call 9; (with_reducible refine (H1.out _ M1).mono ?_); rintro e w2 ⟨rfl, k2⟩; have b2 := belTo hg b1 k2; have L2 := L1.bel k2; have M2 := M1.bel k2)
    | (refine p_midL rfl _ rfl g rfl L2 ?_)
    | (go_at_call 10; (with_reducible refine (H2.out _ M2).mono ?_); rintro e w3 ⟨rfl, k3⟩; have b3 := belTo hg b2 k3; have L3 := L2.bel k3; have M3 := M2.bel k3))
  clear k1 k2 k3 b1 b2 B0 L0 L1 L2 M0 M1 M2 H0 H1 H2
  have K3 : ∀ (d : Nat) (os : Array Obj), Calls Try.prog 12 #[.agg (ltA l u v)] (grow (redrawn w3 d) os) fun e w'' => e = .returned (.bool R) ∧ ∃ p : Regrown, w'' = grow (redrawn w3 p.d) p.os := fun d os => Calls.regrown_of (H3.out _ (M3.bel (below_regrown w3 d os)))
  have K4 : ∀ (d : Nat) (os : Array Obj), Calls Try.prog 13 #[.agg (ltA l u v)] (grow (redrawn w3 d) os) fun e w'' => e = .returned (.bool R) ∧ ∃ p : Regrown, w'' = grow (redrawn w3 p.d) p.os := fun d os => Calls.regrown_of (H4.out _ (M3.bel (below_regrown w3 d os)))
  refine wp_region_quiet_below (by kernel_rfl) (by kernel_rfl) ?_
  repeat (first
    | go_big_quiet_skip
    | (go_big_quiet_want
       first
       | (first | (refine q_midL _ rfl g rfl L3 ?_)
          simp only [Act.put, List.setIfInBounds_toArray, List.set_cons_succ, List.set_cons_zero]
          go_big_quiet_on)
       | (go_big_quiet_op
          first | go_big_quiet_on | go_big_quiet_call (first | with_reducible exact Calls.regrown_of (HT _) | with_reducible exact K3 _ _ | with_reducible exact K4 _ _))))
  refine wpQuiet_nil ?_
  intro w9 hw'
  have k9 := quiet_end hw'
  clear hw'
  clear K3 K4 HT
  go_wp2
  go_ret
  exact ⟨rfl, by (try rw [hg]); exact belTo hg b3 k9⟩
theorem walk {w : World} {l : Lt} {u v : Value} (hM : LtM w l u v) (hw : l.Wf) : Calls Try.prog 3 #[.agg (ltA l u v)] w fun e w' => e = .returned (.bool true) ∧ Below w.heap.size w w' := by
  cases hb : bigL l with
  | true => exact walk_big hM hb
  | false => exact core hM hw hb

set_option maxRecDepth 100000 in
theorem lifted (os : Os) (started : os.Started) (H : Type) (enc : TypeId × Value → H) :
    ReturnsInHanded {} Try.checked os 3 .any (Rows.letterPutsSpec.pre6 enc Try.prog Try.f3 Rows.letterPutsRow.domain false) (Rows.letterPutsSpec.post enc Try.prog Try.f3 false true false false) := by
  refine returnsInHanded_of_change (C := Try.checked) own started (by kernel_rfl) Try.func3
    (ChangeSpec.witness6 (enc := enc) (C := Try.checked) false ⟨#[], #[.agg #[.int .i64 0, .int .i64 0, .int .u8 0, .int .u8 0, .int .u8 0, .int .u8 0, .int .u8 0, .int .u8 0, .int .u8 0, .int .u8 0, .int .u8 0, .int .u8 0, .int .u8 0, .int .u8 0, .int .u8 0, .int .u8 0, .int .u8 0, .int .u8 0, .int .u8 0, .int .u8 0, .int .u8 0, .int .u8 0, .int .u64 0, .int .u8 0, .int .u8 0, .int .u8 0, .int .u8 0, .int .u8 0, .int .u8 0, .int .u8 0, .int .u8 0, .int .u8 0, .int .u8 0, .int .u8 0, .int .u8 0, .int .u8 0, .int .u8 0, .int .u8 0, .int .u8 0, .int .u8 0, .int .u8 0, .int .u8 0, .int .u8 0, .slice none 0 0, .bool false, .int .i64 0, .int .u8 0, .int .u8 0, .int .u8 0, .int .u8 0, .int .u8 0, .int .u8 0, .int .u8 0, .int .u8 0, .int .u8 0, .int .u8 0, .int .u8 0, .int .u8 0, .int .u8 0, .int .u8 0, .int .u8 0, .int .u8 0, .int .u8 0, .int .u8 0, .int .u8 0, .int .u8 0, .slice none 0 0]], []⟩ 8 (by kernel_rfl) (by kernel_rfl) (by kernel_rfl) (by kernel_rfl)) ?_
  intro W base args ds gs before hval0 hW hcnd _
  have hval : ∀ (j : Nat) t v, Try.f3.params[j]? = some t → args[j]? = some v → Value.okWide Try.prog W .any base t v := hval0
  have hW' := hW
  obtain ⟨p, q, hA0, hV, rfl, hfz, hnd⟩ := hW
  have hA : DataW.TrodAll enc Try.prog W 0 (fun _ => true) true Try.f3.params.toList args.toList ds p := hA0
  rw [Try.params3] at hA hval
  obtain ⟨v0, vs0, d0, ds0, p0, q0, hargs, rfl, rfl, h0, r0⟩ := trodAll_cons hA
  obtain ⟨rfl, rfl, rfl⟩ := trodAll_nil r0
  obtain rfl : args = #[v0] := by cases args; simp_all
  obtain ⟨rfl, rfl⟩ := trodVars_none hV
  have k0 := h0
  have lt0 : ∀ x ∈ p0, x.block < W.heap.size := by obtain ⟨m, hm⟩ := k0; exact DataW.trod_lt m _ _ _ hm
  obtain ⟨l0, a0, b0, rfl, lm0, lw0⟩ := open_let (hval 0 30 v0 rfl rfl) h0
  clear hA0 hval0
  refine (walk lm0 lw0).mono fun e W' ⟨he, bel⟩ => ?_
  subst he
  exact ⟨_, rfl, _, _, _, [], _, [], hW', trodAll_mk1 (shut_bool Try.underlying4 _), (trodAll_cons_mk (Below.trod laidOut (by kernel_rfl) (of_decide_eq_true (by kernel_rfl)) k0 bel lt0) trodAll_mk0), rfl, bel.frame _, fun h => by cases h⟩

theorem proved : Rows.LetterPutsSaid :=
  OpenClaim.holds_of_wide 3 Try.f3 rfl rfl rfl rfl rfl rfl rfl ⟨rfl, rfl, rfl, rfl, rfl⟩ rfl rfl rfl rfl rfl (by kernel_rfl) Try.func3 (by kernel_rfl)
    (of_decide_eq_true (by kernel_rfl)) (by unfold Func.isWrapper; first | (rw [if_pos (by decide +kernel)]; kernel_rfl) | (rw [if_neg (by decide +kernel)]; exact ⟨rfl, rfl⟩))
    (fun os started H enc _ => lifted os started H enc)

end Go.Proofs.Ytplcdjmidelboaa.PutsLaw
