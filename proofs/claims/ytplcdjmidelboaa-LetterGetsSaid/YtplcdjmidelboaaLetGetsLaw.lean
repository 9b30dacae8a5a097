/- LetterGets: for any bytes the call returns true: more than five thousand are let go; the program and the document read the same letter, with the same error. No condition. -/
import Derived.Test.YtplcdjmidelboaaLetLawKit
import Derived.Test.YtplcdjmidelboaaLetReads
import Derived.ChangeSlices
namespace Go.Proofs.Ytplcdjmidelboaa.GetsLaw
set_option maxRecDepth 100000
open Go Go.ChangeShapes Go.WideShapes Go.ChangeAt Go.RowKit Go.Sort
open Go.ChangeMaps (open_string shut_string)
set_option linter.unusedVariables false

theorem walk_big {w : World} {s : ByteArray} (hb : 5000 < s.size) (hs : s.size ≤ 9223372036854775807) : Calls Try.prog 4 #[.string s] w fun e w' => e = .returned (.bool true) ∧ Below w.heap.size w w' := by
  have d1 : decide ((5000 : Int) < (s.size : Int)) = true := decide_eq_true (by omega)
  go_enter Try.func4, Try.ntmps4
  go_wp2
  go_ret
  exact ⟨rfl, Below.refl _ _⟩
set_option maxHeartbeats 4000000 in
theorem core {w : World} {s : ByteArray} (hb : s.size ≤ 5000) : Calls Try.prog 4 #[.string s] w fun e w' => e = .returned (.bool true) ∧ Below w.heap.size w w' := by
  have d1 : decide ((5000 : Int) < (s.size : Int)) = false := decide_eq_false (by omega)
  have hf : Fine (resN (getN (bytesN s))).1 := fine_res (bytesN_lt s)
  have h1 : ∀ W, Calls Try.prog 14 #[.string s] W fun e w' => ∃ u v, e = .returned (.tuple #[.agg (ltA (resN (getN (bytesN s))).1 u v), .int .i64 (resN (getN (bytesN s))).2]) ∧ LtM w' (resN (getN (bytesN s))).1 u v ∧ Below W.heap.size W w' := fun W => got_any (by omega)
  have h2 : ∀ W, Calls Try.prog 15 #[.string s] W fun e w' => ∃ u v, e = .returned (.tuple #[.agg (ltA (resN (getN (bytesN s))).1 u v), .int .i64 (resN (getN (bytesN s))).2]) ∧ LtM w' (resN (getN (bytesN s))).1 u v ∧ Below W.heap.size W w' := fun W => (Q.refGet_any s W (by omega)).mono fun _ _ h => got_res h
  generalize (resN (getN (bytesN s))).1 = l at *
  generalize (resN (getN (bytesN s))).2 = n at *
  have h3 : ∀ W u v u' v', LtM W l u v → LtM W l u' v' → Calls Try.prog 16 #[.agg (ltA l u v), .agg (ltA l u' v')] W fun e w' => e = .returned (.bool true) ∧ Below W.heap.size W w' := fun W u v u' v' a b => same_self a b hf
  have q2 : (n == n) = true := beq_self_eq_true _
  have H1 := Lib.hid h1
  have H2 := Lib.hid h2
  have H3 := Lib.hid h3
  have HT := Lib.hid lettered_any
  have B0 := Below.refl w.heap.size w
  clear h1 h2 h3 hf
  obtain ⟨g, hg⟩ : ∃ g, w.heap.size = g := ⟨_, rfl⟩
  rw [hg] at B0
  go_enter Try.func4, Try.ntmps4
  go_upto_region 4 with (first
    | (go_at_call 14; (with_reducible refine (H1.out _).mono ?_); rintro e w1 ⟨u, v, rfl, M1, k1⟩; have b1 := belTo hg B0 k1; have o1 := M1.one1; have o2 := M1.one2)
    | ((with_reducible show wpList _ _ _ (Oper.mk _ (Op.store _ _ _) _ _ _ _ :: _) _ _); refine p_newL rfl rfl _ _ rfl rfl rfl o1 o2 ?_))
  have L1 := LB.new w1 l u v
  have kk := (Below.refl w1.heap.size w1).alloc (Nat.le_refl _) (.cells (ltA l u v) 30)
  have b2 := belTo hg b1 kk
  have M2 := M1.bel kk
  clear B0 b1 M1 kk k1 o1 o2 H1
  generalize w1.heap.size = q at *
  generalize w1.alloc _ = W at *
  go_upto_region 5 with (first
    | (go_at_call 15; (with_reducible refine (H2.out _).mono ?_); rintro e w2 ⟨u', v', rfl, N1, k2⟩; have b3 := belTo hg b2 k2; have L2 := L1.bel k2; have M3 := M2.bel k2; have o1 := N1.one1; have o2 := N1.one2)
    | ((with_reducible show wpList _ _ _ (Oper.mk _ (Op.store _ _ _) _ _ _ _ :: _) _ _); refine p_newL rfl rfl _ _ rfl rfl rfl o1 o2 ?_))
  have J1 := LB.new w2 l u' v'
  have kk := (Below.refl w2.heap.size w2).alloc (Nat.le_refl _) (.cells (ltA l u' v') 30)
  have b4 := belTo hg b3 kk
  have M4 := M3.bel kk
  have N2 := N1.bel kk
  have L3 := L2.bel kk
  clear b2 b3 M2 M3 kk k2 o1 o2 L1 L2 N1 H2
  generalize w2.heap.size = z at *
  generalize w2.alloc _ = X at *
  go_wp2_with (first
    | go_big_skip
    | (go_at_call 11; (with_reducible refine (HT.out _).mono ?_); rintro e w3 ⟨rfl, k3⟩; have b5 := belTo hg b4 k3; have L4 := L3.bel k3; have J2 := J1.bel k3; have M5 := M4.bel k3; have N3 := N2.bel k3)
    | (go_guarded; refine o_midL _ rfl q rfl L4 ?_; simp only [Act.put, List.setIfInBounds_toArray, List.set_cons_succ, List.set_cons_zero])
    | (go_guarded; refine o_midL _ rfl z rfl J2 ?_; simp only [Act.put, List.setIfInBounds_toArray, List.set_cons_succ, List.set_cons_zero])
    | (go_at_call 16; (with_reducible refine (H3.out _ _ _ _ _ M5 N3).mono ?_); rintro e w4 ⟨rfl, k4⟩; have b6 := belTo hg b5 k4))
  go_ret
  exact ⟨rfl, by (try rw [hg]); exact b6⟩
theorem walk {w : World} (s : ByteArray) (hs : s.size ≤ 9223372036854775807) : Calls Try.prog 4 #[.string s] w fun e w' => e = .returned (.bool true) ∧ Below w.heap.size w w' := by
  rcases Nat.lt_or_ge 5000 s.size with h | h
  · exact walk_big h hs
  · exact core h

set_option maxRecDepth 100000 in
theorem lifted (os : Os) (started : os.Started) (H : Type) (enc : TypeId × Value → H) :
    ReturnsInHanded {} Try.checked os 4 .any (Rows.letterGetsSpec.pre6 enc Try.prog Try.f4 Rows.letterGetsRow.domain false) (Rows.letterGetsSpec.post enc Try.prog Try.f4 false true false false) := by
  refine returnsInHanded_of_change (C := Try.checked) own started (by kernel_rfl) Try.func4
    (ChangeSpec.witness6 (enc := enc) (C := Try.checked) false ⟨#[], #[.string ⟨#[]⟩], []⟩ 8 (by kernel_rfl) (by kernel_rfl) (by kernel_rfl) (by kernel_rfl)) ?_
  intro W base args ds gs before hval0 hW hcnd _
  have hval : ∀ (j : Nat) t v, Try.f4.params[j]? = some t → args[j]? = some v → Value.okWide Try.prog W .any base t v := hval0
  have hW' := hW
  obtain ⟨p, q, hA0, hV, rfl, hfz, hnd⟩ := hW
  have hA : DataW.TrodAll enc Try.prog W 0 (fun _ => true) true Try.f4.params.toList args.toList ds p := hA0
  rw [Try.params4] at hA hval
  obtain ⟨v0, vs0, d0, ds0, p0, q0, hargs, rfl, rfl, h0, r0⟩ := trodAll_cons hA
  obtain ⟨rfl, rfl, rfl⟩ := trodAll_nil r0
  obtain rfl : args = #[v0] := by cases args; simp_all
  obtain ⟨rfl, rfl⟩ := trodVars_none hV
  have k0 := h0
  have lt0 : ∀ x ∈ p0, x.block < W.heap.size := by obtain ⟨m, hm⟩ := k0; exact DataW.trod_lt m _ _ _ hm
  obtain ⟨n0, rfl, _, _, ws0⟩ := open_string Try.underlying9 (hval 0 9 v0 rfl rfl) h0
  clear hA0 hval0
  refine (walk n0 ws0).mono fun e W' ⟨he, bel⟩ => ?_
  subst he
  exact ⟨_, rfl, _, _, _, [], _, [], hW', trodAll_mk1 (shut_bool Try.underlying4 _), (trodAll_cons_mk (Below.trod laidOut (by kernel_rfl) (of_decide_eq_true (by kernel_rfl)) k0 bel lt0) trodAll_mk0), rfl, bel.frame _, fun h => by cases h⟩

theorem proved : Rows.LetterGetsSaid :=
  OpenClaim.holds_of_wide 4 Try.f4 rfl rfl rfl rfl rfl rfl rfl ⟨rfl, rfl, rfl, rfl, rfl⟩ rfl rfl rfl rfl rfl (by kernel_rfl) Try.func4 (by kernel_rfl)
    (of_decide_eq_true (by kernel_rfl)) (by unfold Func.isWrapper; first | (rw [if_pos (by decide +kernel)]; kernel_rfl) | (rw [if_neg (by decide +kernel)]; exact ⟨rfl, rfl⟩))
    (fun os started H enc _ => lifted os started H enc)

end Go.Proofs.Ytplcdjmidelboaa.GetsLaw
