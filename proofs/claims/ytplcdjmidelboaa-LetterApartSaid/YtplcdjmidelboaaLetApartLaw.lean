/- LetterApart: for any two letters the call returns true: of two right ones the bytes are the same just if they are, and none is the beginning of the other one's. No condition. -/
import Derived.Test.YtplcdjmidelboaaLetLawKit
import Derived.ChangeSlices
namespace Go.Proofs.Ytplcdjmidelboaa.ApartLaw
set_option maxRecDepth 100000
open Go Go.ChangeShapes Go.WideShapes Go.ChangeAt Go.RowKit Go.Sort
open Go.ChangeMaps (open_string shut_string)
set_option linter.unusedVariables false

set_option maxHeartbeats 4000000 in
theorem core_biga {w : World} {l m : Lt} {u v u' v' : Value} (hL : LtM w l u v) (hM : LtM w m u' v')
    (h0 : ∀ W, LtM W l u v → Calls Try.prog 8 #[.agg (ltA l u v)] W fun e w' => e = .returned (.bool true) ∧ Below W.heap.size W w') : Calls Try.prog 7 #[.agg (ltA l u v), .agg (ltA m u' v')] w fun e w' => e = .returned (.bool true) ∧ Below w.heap.size w w' := by
  have HX := TwoL.made w l m u v u' v'
  have HT := Lib.hid lettered_any
  have b := HX.bel
  have L := HX.a
  have K := HX.b
  have M := hL.bel b
  have N := hM.bel b
  have H0 := Lib.hid h0
  clear h0
  clear hL hM HX
  obtain ⟨g, hg⟩ : ∃ g, w.heap.size = g := ⟨_, rfl⟩
  rw [hg] at L K b
  go_enter Try.func7, Try.ntmps7
  go_upto_region 1 with (fail)
  generalize (w.alloc _).alloc _ = W at *
  (try rw [hg])
  go_wp2_with (first
    | go_big_skip
    | (refine p_midL rfl _ rfl g rfl L ?_)
    | (refine p_midL rfl _ rfl (g + 1) rfl K ?_)
    | (go_guarded; refine o_midL _ rfl g rfl L ?_; simp only [Act.put, List.setIfInBounds_toArray, List.set_cons_succ, List.set_cons_zero])
    | (go_guarded; refine o_midL _ rfl (g + 1) rfl K ?_; simp only [Act.put, List.setIfInBounds_toArray, List.set_cons_succ, List.set_cons_zero])
    | (go_at_call 8; (with_reducible refine (H0.out _ M).mono ?_); rintro e wn ⟨rfl, kk⟩; replace L := L.bel kk; replace K := K.bel kk; replace M := M.bel kk; replace N := N.bel kk; replace b := belTo hg b kk; clear kk))
  go_ret
  exact ⟨rfl, by (try rw [hg]); exact b⟩
set_option maxHeartbeats 4000000 in
theorem core_bigb {w : World} {l m : Lt} {u v u' v' : Value} (hL : LtM w l u v) (hM : LtM w m u' v')
    (h0 : ∀ W, LtM W l u v → Calls Try.prog 8 #[.agg (ltA l u v)] W fun e w' => e = .returned (.bool false) ∧ Below W.heap.size W w') (h1 : ∀ W, LtM W m u' v' → Calls Try.prog 8 #[.agg (ltA m u' v')] W fun e w' => e = .returned (.bool true) ∧ Below W.heap.size W w') : Calls Try.prog 7 #[.agg (ltA l u v), .agg (ltA m u' v')] w fun e w' => e = .returned (.bool true) ∧ Below w.heap.size w w' := by
  have HX := TwoL.made w l m u v u' v'
  have HT := Lib.hid lettered_any
  have b := HX.bel
  have L := HX.a
  have K := HX.b
  have M := hL.bel b
  have N := hM.bel b
  have H0 := Lib.hid h0
  clear h0
  have H1 := Lib.hid h1
  clear h1
  clear hL hM HX
  obtain ⟨g, hg⟩ : ∃ g, w.heap.size = g := ⟨_, rfl⟩
  rw [hg] at L K b
  go_enter Try.func7, Try.ntmps7
  go_upto_region 1 with (fail)
  generalize (w.alloc _).alloc _ = W at *
  (try rw [hg])
  go_wp2_with (first
    | go_big_skip
    | (refine p_midL rfl _ rfl g rfl L ?_)
    | (refine p_midL rfl _ rfl (g + 1) rfl K ?_)
    | (go_guarded; refine o_midL _ rfl g rfl L ?_; simp only [Act.put, List.setIfInBounds_toArray, List.set_cons_succ, List.set_cons_zero])
    | (go_guarded; refine o_midL _ rfl (g + 1) rfl K ?_; simp only [Act.put, List.setIfInBounds_toArray, List.set_cons_succ, List.set_cons_zero])
    | (go_at_call 8; (with_reducible refine (H0.out _ M).mono ?_); rintro e wn ⟨rfl, kk⟩; replace L := L.bel kk; replace K := K.bel kk; replace M := M.bel kk; replace N := N.bel kk; replace b := belTo hg b kk; clear kk)
    | (go_at_call 8; (with_reducible refine (H1.out _ N).mono ?_); rintro e wn ⟨rfl, kk⟩; replace L := L.bel kk; replace K := K.bel kk; replace M := M.bel kk; replace N := N.bel kk; replace b := belTo hg b kk; clear kk))
  go_ret
  exact ⟨rfl, by (try rw [hg]); exact b⟩
set_option maxHeartbeats 4000000 in
theorem core_noa {w : World} {l m : Lt} {u v u' v' : Value} {S T : ByteArray} {n : Int} (hL : LtM w l u v) (hM : LtM w m u' v')
    (h0 : ∀ W, LtM W l u v → Calls Try.prog 8 #[.agg (ltA l u v)] W fun e w' => e = .returned (.bool false) ∧ Below W.heap.size W w') (h1 : ∀ W, LtM W m u' v' → Calls Try.prog 8 #[.agg (ltA m u' v')] W fun e w' => e = .returned (.bool false) ∧ Below W.heap.size W w')
    (h2 : ∀ W, LtM W l u v → Calls Try.prog 9 #[.agg (ltA l u v)] W fun e w' => e = .returned (.tuple #[.string S, .int .i64 1]) ∧ Below W.heap.size W w') (h3 : ∀ W, LtM W m u' v' → Calls Try.prog 9 #[.agg (ltA m u' v')] W fun e w' => e = .returned (.tuple #[.string T, .int .i64 n]) ∧ Below W.heap.size W w') : Calls Try.prog 7 #[.agg (ltA l u v), .agg (ltA m u' v')] w fun e w' => e = .returned (.bool true) ∧ Below w.heap.size w w' := by
  have HX := TwoL.made w l m u v u' v'
  have HT := Lib.hid lettered_any
  have b := HX.bel
  have L := HX.a
  have K := HX.b
  have M := hL.bel b
  have N := hM.bel b
  have H0 := Lib.hid h0
  clear h0
  have H1 := Lib.hid h1
  clear h1
  have H2 := Lib.hid h2
  clear h2
  have H3 := Lib.hid h3
  clear h3
  clear hL hM HX
  obtain ⟨g, hg⟩ : ∃ g, w.heap.size = g := ⟨_, rfl⟩
  rw [hg] at L K b
  go_enter Try.func7, Try.ntmps7
  go_upto_region 1 with (fail)
  generalize (w.alloc _).alloc _ = W at *
  (try rw [hg])
  go_wp2_with (first
    | go_big_skip
    | (refine p_midL rfl _ rfl g rfl L ?_)
    | (refine p_midL rfl _ rfl (g + 1) rfl K ?_)
    | (go_guarded; refine o_midL _ rfl g rfl L ?_; simp only [Act.put, List.setIfInBounds_toArray, List.set_cons_succ, List.set_cons_zero])
    | (go_guarded; refine o_midL _ rfl (g + 1) rfl K ?_; simp only [Act.put, List.setIfInBounds_toArray, List.set_cons_succ, List.set_cons_zero])
    | (go_at_call 8; (with_reducible refine (H0.out _ M).mono ?_); rintro e wn ⟨rfl, kk⟩; replace L := L.bel kk; replace K := K.bel kk; replace M := M.bel kk; replace N := N.bel kk; replace b := belTo hg b kk; clear kk)
    | (go_at_call 8; (with_reducible refine (H1.out _ N).mono ?_); rintro e wn ⟨rfl, kk⟩; replace L := L.bel kk; replace K := K.bel kk; replace M := M.bel kk; replace N := N.bel kk; replace b := belTo hg b kk; clear kk)
    | (go_at_call 9; (with_reducible refine (H2.out _ M).mono ?_); rintro e wn ⟨rfl, kk⟩; replace L := L.bel kk; replace K := K.bel kk; replace M := M.bel kk; replace N := N.bel kk; replace b := belTo hg b kk; clear kk)
    | (go_at_call 9; (with_reducible refine (H3.out _ N).mono ?_); rintro e wn ⟨rfl, kk⟩; replace L := L.bel kk; replace K := K.bel kk; replace M := M.bel kk; replace N := N.bel kk; replace b := belTo hg b kk; clear kk)
    | (go_at_call 11; (with_reducible refine (HT.out _).mono ?_); rintro e wn ⟨rfl, kk⟩; replace L := L.bel kk; replace K := K.bel kk; replace M := M.bel kk; replace N := N.bel kk; replace b := belTo hg b kk; clear kk))
  go_ret
  exact ⟨rfl, by (try rw [hg]); exact b⟩
set_option maxHeartbeats 4000000 in
theorem core_nob {w : World} {l m : Lt} {u v u' v' : Value} {S T : ByteArray} (hL : LtM w l u v) (hM : LtM w m u' v')
    (h0 : ∀ W, LtM W l u v → Calls Try.prog 8 #[.agg (ltA l u v)] W fun e w' => e = .returned (.bool false) ∧ Below W.heap.size W w') (h1 : ∀ W, LtM W m u' v' → Calls Try.prog 8 #[.agg (ltA m u' v')] W fun e w' => e = .returned (.bool false) ∧ Below W.heap.size W w')
    (h2 : ∀ W, LtM W l u v → Calls Try.prog 9 #[.agg (ltA l u v)] W fun e w' => e = .returned (.tuple #[.string S, .int .i64 0]) ∧ Below W.heap.size W w') (h3 : ∀ W, LtM W m u' v' → Calls Try.prog 9 #[.agg (ltA m u' v')] W fun e w' => e = .returned (.tuple #[.string T, .int .i64 1]) ∧ Below W.heap.size W w') : Calls Try.prog 7 #[.agg (ltA l u v), .agg (ltA m u' v')] w fun e w' => e = .returned (.bool true) ∧ Below w.heap.size w w' := by
  have HX := TwoL.made w l m u v u' v'
  have HT := Lib.hid lettered_any
  have b := HX.bel
  have L := HX.a
  have K := HX.b
  have M := hL.bel b
  have N := hM.bel b
  have H0 := Lib.hid h0
  clear h0
  have H1 := Lib.hid h1
  clear h1
  have H2 := Lib.hid h2
  clear h2
  have H3 := Lib.hid h3
  clear h3
  clear hL hM HX
  obtain ⟨g, hg⟩ : ∃ g, w.heap.size = g := ⟨_, rfl⟩
  rw [hg] at L K b
  go_enter Try.func7, Try.ntmps7
  go_upto_region 1 with (fail)
  generalize (w.alloc _).alloc _ = W at *
  (try rw [hg])
  go_wp2_with (first
    | go_big_skip
    | (refine p_midL rfl _ rfl g rfl L ?_)
    | (refine p_midL rfl _ rfl (g + 1) rfl K ?_)
    | (go_guarded; refine o_midL _ rfl g rfl L ?_; simp only [Act.put, List.setIfInBounds_toArray, List.set_cons_succ, List.set_cons_zero])
    | (go_guarded; refine o_midL _ rfl (g + 1) rfl K ?_; simp only [Act.put, List.setIfInBounds_toArray, List.set_cons_succ, List.set_cons_zero])
    | (go_at_call 8; (with_reducible refine (H0.out _ M).mono ?_); rintro e wn ⟨rfl, kk⟩; replace L := L.bel kk; replace K := K.bel kk; replace M := M.bel kk; replace N := N.bel kk; replace b := belTo hg b kk; clear kk)
    | (go_at_call 8; (with_reducible refine (H1.out _ N).mono ?_); rintro e wn ⟨rfl, kk⟩; replace L := L.bel kk; replace K := K.bel kk; replace M := M.bel kk; replace N := N.bel kk; replace b := belTo hg b kk; clear kk)
    | (go_at_call 9; (with_reducible refine (H2.out _ M).mono ?_); rintro e wn ⟨rfl, kk⟩; replace L := L.bel kk; replace K := K.bel kk; replace M := M.bel kk; replace N := N.bel kk; replace b := belTo hg b kk; clear kk)
    | (go_at_call 9; (with_reducible refine (H3.out _ N).mono ?_); rintro e wn ⟨rfl, kk⟩; replace L := L.bel kk; replace K := K.bel kk; replace M := M.bel kk; replace N := N.bel kk; replace b := belTo hg b kk; clear kk)
    | (go_at_call 11; (with_reducible refine (HT.out _).mono ?_); rintro e wn ⟨rfl, kk⟩; replace L := L.bel kk; replace K := K.bel kk; replace M := M.bel kk; replace N := N.bel kk; replace b := belTo hg b kk; clear kk))
  go_ret
  exact ⟨rfl, by (try rw [hg]); exact b⟩
set_option maxHeartbeats 4000000 in
theorem core_in {w : World} {l m : Lt} {u v u' v' : Value} {S T : ByteArray} {T1 : ByteArray} (E : Bool) (hL : LtM w l u v) (hM : LtM w m u' v')
    (h0 : ∀ W, LtM W l u v → Calls Try.prog 8 #[.agg (ltA l u v)] W fun e w' => e = .returned (.bool false) ∧ Below W.heap.size W w') (h1 : ∀ W, LtM W m u' v' → Calls Try.prog 8 #[.agg (ltA m u' v')] W fun e w' => e = .returned (.bool false) ∧ Below W.heap.size W w')
    (h2 : ∀ W, LtM W l u v → Calls Try.prog 9 #[.agg (ltA l u v)] W fun e w' => e = .returned (.tuple #[.string S, .int .i64 0]) ∧ Below W.heap.size W w') (h3 : ∀ W, LtM W m u' v' → Calls Try.prog 9 #[.agg (ltA m u' v')] W fun e w' => e = .returned (.tuple #[.string T, .int .i64 0]) ∧ Below W.heap.size W w')
    (h4 : ∀ W, LtM W l u v → LtM W m u' v' → Calls Try.prog 16 #[.agg (ltA l u v), .agg (ltA m u' v')] W fun e w' => e = .returned (.bool E) ∧ Below W.heap.size W w') (qE : (S.toList == T.toList) = E) (qT : (T1.toList == S.toList) = E) (hle : S.size ≤ T.size) (cS : ∀ w, (Instr.slice 9 (.string T) none (some (.int .i64 (S.size : Int))) none).run Try.prog w = .ok (.string T1) w) (hS : S.size ≤ 7000) (hT : T.size ≤ 7000) : Calls Try.prog 7 #[.agg (ltA l u v), .agg (ltA m u' v')] w fun e w' => e = .returned (.bool true) ∧ Below w.heap.size w w' := by
  have HX := TwoL.made w l m u v u' v'
  have HT := Lib.hid lettered_any
  have b := HX.bel
  have L := HX.a
  have K := HX.b
  have M := hL.bel b
  have N := hM.bel b
  have H0 := Lib.hid h0
  clear h0
  have H1 := Lib.hid h1
  clear h1
  have H2 := Lib.hid h2
  clear h2
  have H3 := Lib.hid h3
  clear h3
  have H4 := Lib.hid h4
  clear h4
  have d1 : decide ((S.size : Int) ≤ (T.size : Int)) = true := decide_eq_true (by omega)
  clear hL hM HX
  obtain ⟨g, hg⟩ : ∃ g, w.heap.size = g := ⟨_, rfl⟩
  rw [hg] at L K b
  cases E
  all_goals
    go_enter Try.func7, Try.ntmps7
    go_upto_region 1 with (fail)
    generalize (w.alloc _).alloc _ = W at *
    (try rw [hg])
    go_wp2_with (first
      | go_big_skip
      | (refine p_midL rfl _ rfl g rfl L ?_)
      | (refine p_midL rfl _ rfl (g + 1) rfl K ?_)
      | (go_guarded; refine o_midL _ rfl g rfl L ?_; simp only [Act.put, List.setIfInBounds_toArray, List.set_cons_succ, List.set_cons_zero])
      | (go_guarded; refine o_midL _ rfl (g + 1) rfl K ?_; simp only [Act.put, List.setIfInBounds_toArray, List.set_cons_succ, List.set_cons_zero])
      | (go_at_call 8; (with_reducible refine (H0.out _ M).mono ?_); rintro e wn ⟨rfl, kk⟩; replace L := L.bel kk; replace K := K.bel kk; replace M := M.bel kk; replace N := N.bel kk; replace b := belTo hg b kk; clear kk)
      | (go_at_call 8; (with_reducible refine (H1.out _ N).mono ?_); rintro e wn ⟨rfl, kk⟩; replace L := L.bel kk; replace K := K.bel kk; replace M := M.bel kk; replace N := N.bel kk; replace b := belTo hg b kk; clear kk)
      | (go_at_call 9; (with_reducible refine (H2.out _ M).mono ?_); rintro e wn ⟨rfl, kk⟩; replace L := L.bel kk; replace K := K.bel kk; replace M := M.bel kk; replace N := N.bel kk; replace b := belTo hg b kk; clear kk)
      | (go_at_call 9; (with_reducible refine (H3.out _ N).mono ?_); rintro e wn ⟨rfl, kk⟩; replace L := L.bel kk; replace K := K.bel kk; replace M := M.bel kk; replace N := N.bel kk; replace b := belTo hg b kk; clear kk)
      | (go_at_call 11; (with_reducible refine (HT.out _).mono ?_); rintro e wn ⟨rfl, kk⟩; replace L := L.bel kk; replace K := K.bel kk; replace M := M.bel kk; replace N := N.bel kk; replace b := belTo hg b kk; clear kk)
      | (go_at_call 16; (with_reducible refine (H4.out _ M N).mono ?_); rintro e wn ⟨rfl, kk⟩; replace L := L.bel kk; replace K := K.bel kk; replace M := M.bel kk; replace N := N.bel kk; replace b := belTo hg b kk; clear kk))
    go_ret
    exact ⟨rfl, by (try rw [hg]); exact b⟩
set_option maxHeartbeats 4000000 in
theorem core_gt {w : World} {l m : Lt} {u v u' v' : Value} {S T : ByteArray} (hL : LtM w l u v) (hM : LtM w m u' v')
    (h0 : ∀ W, LtM W l u v → Calls Try.prog 8 #[.agg (ltA l u v)] W fun e w' => e = .returned (.bool false) ∧ Below W.heap.size W w') (h1 : ∀ W, LtM W m u' v' → Calls Try.prog 8 #[.agg (ltA m u' v')] W fun e w' => e = .returned (.bool false) ∧ Below W.heap.size W w')
    (h2 : ∀ W, LtM W l u v → Calls Try.prog 9 #[.agg (ltA l u v)] W fun e w' => e = .returned (.tuple #[.string S, .int .i64 0]) ∧ Below W.heap.size W w') (h3 : ∀ W, LtM W m u' v' → Calls Try.prog 9 #[.agg (ltA m u' v')] W fun e w' => e = .returned (.tuple #[.string T, .int .i64 0]) ∧ Below W.heap.size W w')
    (h4 : ∀ W, LtM W l u v → LtM W m u' v' → Calls Try.prog 16 #[.agg (ltA l u v), .agg (ltA m u' v')] W fun e w' => e = .returned (.bool false) ∧ Below W.heap.size W w') (qE : (S.toList == T.toList) = false) (hgt : T.size < S.size) (hS : S.size ≤ 7000) (hT : T.size ≤ 7000) : Calls Try.prog 7 #[.agg (ltA l u v), .agg (ltA m u' v')] w fun e w' => e = .returned (.bool true) ∧ Below w.heap.size w w' := by
  have HX := TwoL.made w l m u v u' v'
  have HT := Lib.hid lettered_any
  have b := HX.bel
  have L := HX.a
  have K := HX.b
  have M := hL.bel b
  have N := hM.bel b
  have H0 := Lib.hid h0
  clear h0
  have H1 := Lib.hid h1
  clear h1
  have H2 := Lib.hid h2
  clear h2
  have H3 := Lib.hid h3
  clear h3
  have H4 := Lib.hid h4
  clear h4
  have d1 : decide ((S.size : Int) ≤ (T.size : Int)) = false := decide_eq_false (by omega)
  clear hL hM HX
  obtain ⟨g, hg⟩ : ∃ g, w.heap.size = g := ⟨_, rfl⟩
  rw [hg] at L K b
  go_enter Try.func7, Try.ntmps7
  go_upto_region 1 with (fail)
  generalize (w.alloc _).alloc _ = W at *
  (try rw [hg])
  go_wp2_with (first
    | go_big_skip
    | (refine p_midL rfl _ rfl g rfl L ?_)
    | (refine p_midL rfl _ rfl (g + 1) rfl K ?_)
    | (go_guarded; refine o_midL _ rfl g rfl L ?_; simp only [Act.put, List.setIfInBounds_toArray, List.set_cons_succ, List.set_cons_zero])
    | (go_guarded; refine o_midL _ rfl (g + 1) rfl K ?_; simp only [Act.put, List.setIfInBounds_toArray, List.set_cons_succ, List.set_cons_zero])
    | (go_at_call 8; (with_reducible refine (H0.out _ M).mono ?_); rintro e wn ⟨rfl, kk⟩; replace L := L.bel kk; replace K := K.bel kk; replace M := M.bel kk; replace N := N.bel kk; replace b := belTo hg b kk; clear kk)
    | (go_at_call 8; (with_reducible refine (H1.out _ N).mono ?_); rintro e wn ⟨rfl, kk⟩; replace L := L.bel kk; replace K := K.bel kk; replace M := M.bel kk; replace N := N.bel kk; replace b := belTo hg b kk; clear kk)
    | (go_at_call 9; (with_reducible refine (H2.out _ M).mono ?_); rintro e wn ⟨rfl, kk⟩; replace L := L.bel kk; replace K := K.bel kk; replace M := M.bel kk; replace N := N.bel kk; replace b := belTo hg b kk; clear kk)
    | (go_at_call 9; (with_reducible refine (H3.out _ N).mono ?_); rintro e wn ⟨rfl, kk⟩; replace L := L.bel kk; replace K := K.bel kk; replace M := M.bel kk; replace N := N.bel kk; replace b := belTo hg b kk; clear kk)
    | (go_at_call 11; (with_reducible refine (HT.out _).mono ?_); rintro e wn ⟨rfl, kk⟩; replace L := L.bel kk; replace K := K.bel kk; replace M := M.bel kk; replace N := N.bel kk; replace b := belTo hg b kk; clear kk)
    | (go_at_call 16; (with_reducible refine (H4.out _ M N).mono ?_); rintro e wn ⟨rfl, kk⟩; replace L := L.bel kk; replace K := K.bel kk; replace M := M.bel kk; replace N := N.bel kk; replace b := belTo hg b kk; clear kk))
  go_ret
  exact ⟨rfl, by (try rw [hg]); exact b⟩
theorem putN_inj {l m : Lt} (hl : Right l) (wl : l.Wf) (hm : Right m) (wm : m.Wf) (h : putN l = putN m) : l = m := by
  have h1 := getN_put hl wl
  rw [h, getN_put hm wm] at h1
  exact (Except.ok.inj h1).symm
theorem putN_front {l m : Lt} (hl : Right l) (wl : l.Wf) (hm : Right m) (wm : m.Wf) (h : (putN m).take (putN l).length = putN l) : putN l = putN m := by
  have e := List.take_append_drop (putN l).length (putN m)
  rw [h] at e
  by_cases hr : (putN m).drop (putN l).length = []
  · rw [hr, List.append_nil] at e; exact e
  · have h1 := getN_more hl wl hr
    rw [e, getN_put hm wm] at h1
    cases h1
theorem walk {w : World} {l m : Lt} {u v u' v' : Value} (hL : LtM w l u v) (wl : l.Wf) (hM : LtM w m u' v') (wm : m.Wf) : Calls Try.prog 7 #[.agg (ltA l u v), .agg (ltA m u' v')] w fun e w' => e = .returned (.bool true) ∧ Below w.heap.size w w' := by
  have h0 : ∀ W, LtM W l u v → Calls Try.prog 8 #[.agg (ltA l u v)] W fun e w' => e = .returned (.bool (bigL l)) ∧ Below W.heap.size W w' := fun W h => big_any h
  have h1 : ∀ W, LtM W m u' v' → Calls Try.prog 8 #[.agg (ltA m u' v')] W fun e w' => e = .returned (.bool (bigL m)) ∧ Below W.heap.size W w' := fun W h => big_any h
  cases hb : bigL l with
  | true => rw [hb] at h0; exact core_biga hL hM h0
  | false =>
    rw [hb] at h0
    cases hc : bigL m with
    | true => rw [hc] at h1; exact core_bigb hL hM h0 h1
    | false =>
      rw [hc] at h1
      have fl := fine_big wl hb
      have fm := fine_big wm hc
      cases hR : rightB l with
      | false => exact core_noa hL hM h0 h1 (fun W h => put_no h wl.kind fl.a fl.p hR) (fun W h => putL_any h wm fm.a fm.p)
      | true =>
        have rl := (rightB_iff wl).1 hR
        have h2 : ∀ W, LtM W l u v → Calls Try.prog 9 #[.agg (ltA l u v)] W fun e w' => e = .returned (.tuple #[.string (txt (putN l)), .int .i64 0]) ∧ Below W.heap.size W w' := fun W h => put_yes h wl fl.a fl.p rl
        cases hQ : rightB m with
        | false => exact core_nob hL hM h0 h1 h2 (fun W h => put_no h wm.kind fm.a fm.p hQ)
        | true =>
          have rm := (rightB_iff wm).1 hQ
          have h3 : ∀ W, LtM W m u' v' → Calls Try.prog 9 #[.agg (ltA m u' v')] W fun e w' => e = .returned (.tuple #[.string (txt (putN m)), .int .i64 0]) ∧ Below W.heap.size W w' := fun W h => put_yes h wm fm.a fm.p rm
          have h4 : ∀ W, LtM W l u v → LtM W m u' v' → Calls Try.prog 16 #[.agg (ltA l u v), .agg (ltA m u' v')] W fun e w' => e = .returned (.bool (sameL l m)) ∧ Below W.heap.size W w' := fun W a b => same_any a b wl wm fl.a fm.a fl.p fm.p
          have ltl := putN_lt rl wl
          have ltm := putN_lt rm wm
          have kl := putN_short wl rl
          have km := putN_short wm rm
          have qE : ((txt (putN l)).toList == (txt (putN m)).toList) = sameL l m := by
            rw [toList_beq, Bool.eq_iff_iff, decide_eq_true_iff, sameL_iff wl wm]
            exact ⟨fun h => putN_inj rl wl rm wm (txt_inj ltl ltm h), fun h => by rw [h]⟩
          rcases Nat.lt_or_ge (putN m).length (putN l).length with hgt | hle
          · have hs : sameL l m = false := by
              cases hs : sameL l m with
              | false => rfl
              | true => have := (sameL_iff wl wm).1 hs; subst this; omega
            rw [hs] at h4 qE
            exact core_gt hL hM h0 h1 h2 h3 h4 qE (by rw [txt_size, txt_size]; exact hgt) (by rw [txt_size]; exact kl) (by rw [txt_size]; exact km)
          · have qT : ((txt ((putN m).take (putN l).length)).toList == (txt (putN l)).toList) = sameL l m := by
              rw [toList_beq, Bool.eq_iff_iff, decide_eq_true_iff, sameL_iff wl wm]
              constructor
              · intro h
                exact putN_inj rl wl rm wm (putN_front rl wl rm wm (txt_inj (fun b hb => ltm b (List.mem_of_mem_take hb)) ltl h))
              · rintro rfl
                rw [List.take_length]
            exact core_in (sameL l m) hL hM h0 h1 h2 h3 h4 qE qT (by rw [txt_size, txt_size]; exact hle) (by rw [txt_size]; exact cut_upto _ _ hle) (by rw [txt_size]; exact kl) (by rw [txt_size]; exact km)

set_option maxRecDepth 100000 in
theorem lifted (os : Os) (started : os.Started) (H : Type) (enc : TypeId × Value → H) :
    ReturnsInHanded {} Try.checked os 7 .any (Rows.letterApartSpec.pre6 enc Try.prog Try.f7 Rows.letterApartRow.domain false) (Rows.letterApartSpec.post enc Try.prog Try.f7 false true false false) := by
  refine returnsInHanded_of_change (C := Try.checked) own started (by kernel_rfl) Try.func7
    (ChangeSpec.witness6 (enc := enc) (C := Try.checked) false ⟨#[], #[.agg #[.int .i64 0, .int .i64 0, .int .u8 0, .int .u8 0, .int .u8 0, .int .u8 0, .int .u8 0, .int .u8 0, .int .u8 0, .int .u8 0, .int .u8 0, .int .u8 0, .int .u8 0, .int .u8 0, .int .u8 0, .int .u8 0, .int .u8 0, .int .u8 0, .int .u8 0, .int .u8 0, .int .u8 0, .int .u8 0, .int .u64 0, .int .u8 0, .int .u8 0, .int .u8 0, .int .u8 0, .int .u8 0, .int .u8 0, .int .u8 0, .int .u8 0, .int .u8 0, .int .u8 0, .int .u8 0, .int .u8 0, .int .u8 0, .int .u8 0, .int .u8 0, .int .u8 0, .int .u8 0, .int .u8 0, .int .u8 0, .int .u8 0, .slice none 0 0, .bool false, .int .i64 0, .int .u8 0, .int .u8 0, .int .u8 0, .int .u8 0, .int .u8 0, .int .u8 0, .int .u8 0, .int .u8 0, .int .u8 0, .int .u8 0, .int .u8 0, .int .u8 0, .int .u8 0, .int .u8 0, .int .u8 0, .int .u8 0, .int .u8 0, .int .u8 0, .int .u8 0, .int .u8 0, .slice none 0 0], .agg #[.int .i64 0, .int .i64 0, .int .u8 0, .int .u8 0, .int .u8 0, .int .u8 0, .int .u8 0, .int .u8 0, .int .u8 0, .int .u8 0, .int .u8 0, .int .u8 0, .int .u8 0, .int .u8 0, .int .u8 0, .int .u8 0, .int .u8 0, .int .u8 0, .int .u8 0, .int .u8 0, .int .u8 0, .int .u8 0, .int .u64 0, .int .u8 0, .int .u8 0, .int .u8 0, .int .u8 0, .int .u8 0, .int .u8 0, .int .u8 0, .int .u8 0, .int .u8 0, .int .u8 0, .int .u8 0, .int .u8 0, .int .u8 0, .int .u8 0, .int .u8 0, .int .u8 0, .int .u8 0, .int .u8 0, .int .u8 0, .int .u8 0, .slice none 0 0, .bool false, .int .i64 0, .int .u8 0, .int .u8 0, .int .u8 0, .int .u8 0, .int .u8 0, .int .u8 0, .int .u8 0, .int .u8 0, .int .u8 0, .int .u8 0, .int .u8 0, .int .u8 0, .int .u8 0, .int .u8 0, .int .u8 0, .int .u8 0, .int .u8 0, .int .u8 0, .int .u8 0, .int .u8 0, .slice none 0 0]], []⟩ 8 (by kernel_rfl) (by kernel_rfl) (by kernel_rfl) (by kernel_rfl)) ?_
  intro W base args ds gs before hval0 hW hcnd _
  have hval : ∀ (j : Nat) t v, Try.f7.params[j]? = some t → args[j]? = some v → Value.okWide Try.prog W .any base t v := hval0
  have hW' := hW
  obtain ⟨p, q, hA0, hV, rfl, hfz, hnd⟩ := hW
  have hA : DataW.TrodAll enc Try.prog W 0 (fun _ => true) true Try.f7.params.toList args.toList ds p := hA0
  rw [Try.params7] at hA hval
  obtain ⟨v0, vs0, d0, ds0, p0, q0, hargs, rfl, rfl, h0, r0⟩ := trodAll_cons hA
  obtain ⟨v1, vs1, d1, ds1, p1, q1, rfl, rfl, rfl, h1, r1⟩ := trodAll_cons r0
  obtain ⟨rfl, rfl, rfl⟩ := trodAll_nil r1
  obtain rfl : args = #[v0, v1] := by cases args; simp_all
  obtain ⟨rfl, rfl⟩ := trodVars_none hV
  have k0 := h0
  have lt0 : ∀ x ∈ p0, x.block < W.heap.size := by obtain ⟨m, hm⟩ := k0; exact DataW.trod_lt m _ _ _ hm
  obtain ⟨l0, a0, b0, rfl, lm0, lw0⟩ := open_let (hval 0 30 v0 rfl rfl) h0
  have k1 := h1
  have lt1 : ∀ x ∈ p1, x.block < W.heap.size := by obtain ⟨m, hm⟩ := k1; exact DataW.trod_lt m _ _ _ hm
  obtain ⟨l1, a1, b1, rfl, lm1, lw1⟩ := open_let (hval 1 30 v1 rfl rfl) h1
  clear hA0 hval0
  refine (walk lm0 lw0 lm1 lw1).mono fun e W' ⟨he, bel⟩ => ?_
  subst he
  exact ⟨_, rfl, _, _, _, [], _, [], hW', trodAll_mk1 (shut_bool Try.underlying4 _), (trodAll_cons_mk (Below.trod laidOut (by kernel_rfl) (of_decide_eq_true (by kernel_rfl)) k0 bel lt0) (trodAll_cons_mk (Below.trod laidOut (by kernel_rfl) (of_decide_eq_true (by kernel_rfl)) k1 bel lt1) trodAll_mk0)), rfl, bel.frame _, fun h => by cases h⟩

theorem proved : Rows.LetterApartSaid :=
  OpenClaim.holds_of_wide 7 Try.f7 rfl rfl rfl rfl rfl rfl rfl ⟨rfl, rfl, rfl, rfl, rfl⟩ rfl rfl rfl rfl rfl (by kernel_rfl) Try.func7 (by kernel_rfl)
    (of_decide_eq_true (by kernel_rfl)) (by unfold Func.isWrapper; first | (rw [if_pos (by decide +kernel)]; kernel_rfl) | (rw [if_neg (by decide +kernel)]; exact ⟨rfl, rfl⟩))
    (fun os started H enc _ => lifted os started H enc)

end Go.Proofs.Ytplcdjmidelboaa.ApartLaw
