/- LetterCut: for any letter, number and bytes the call returns true: the bytes of a letter cut short end ahead; with more behind they have a wrong form. No condition. -/
import Derived.Test.YtplcdjmidelboaaLetLawKit
import Derived.ChangeSlices
namespace Go.Proofs.Ytplcdjmidelboaa.CutLaw
set_option maxRecDepth 100000
open Go Go.ChangeShapes Go.WideShapes Go.ChangeAt Go.RowKit Go.Sort
open Go.ChangeMaps (open_string shut_string)
set_option linter.unusedVariables false

theorem walk_big {w : World} {l : Lt} {u v : Value} (hM : LtM w l u v) (at_ : Int) (s : ByteArray) (hb : bigL l = true) : Calls Try.prog 6 #[.agg (ltA l u v), .int .i64 at_, .string s] w fun e w' => e = .returned (.bool true) ∧ Below w.heap.size w w' := by
  have B0 := (Below.refl w.heap.size w).alloc (Nat.le_refl _) (.cells (ltA l u v) 30)
  have L0 := LB.new w l u v
  have HI := Lib.hid (big_any (hM.bel B0))
  rw [hb] at HI
  have HB := Lib.hid B0
  clear B0 hM hb
  generalize hg : w.heap.size = g at *
  go_enter Try.func6, Try.ntmps6
  go_upto_region 1 with (fail)
  (try rw [hg])
  generalize w.alloc _ = W at *
  go_wp2_with (first
    | go_big_skip
    | (refine p_midL rfl _ rfl g rfl L0 ?_)
    | (go_at_call 8; (with_reducible refine HI.out.mono ?_); rintro e w1 ⟨rfl, k1⟩))
  go_ret
  subst hg
  exact ⟨rfl, step HB.out k1⟩
theorem walk_long {w : World} {l : Lt} {u v : Value} (hM : LtM w l u v) (at_ : Int) (s : ByteArray) (hs : s.size ≤ 9223372036854775807) (h5 : 100 < s.size) (hb : bigL l = false) : Calls Try.prog 6 #[.agg (ltA l u v), .int .i64 at_, .string s] w fun e w' => e = .returned (.bool true) ∧ Below w.heap.size w w' := by
  have d1 : decide ((100 : Int) < (s.size : Int)) = true := decide_eq_true (by omega)
  have B0 := (Below.refl w.heap.size w).alloc (Nat.le_refl _) (.cells (ltA l u v) 30)
  have L0 := LB.new w l u v
  have HI := Lib.hid (big_any (hM.bel B0))
  rw [hb] at HI
  have HB := Lib.hid B0
  clear B0 hM hb h5
  generalize hg : w.heap.size = g at *
  go_enter Try.func6, Try.ntmps6
  go_upto_region 1 with (fail)
  (try rw [hg])
  generalize w.alloc _ = W at *
  go_wp2_with (first
    | go_big_skip
    | (refine p_midL rfl _ rfl g rfl L0 ?_)
    | (go_at_call 8; (with_reducible refine HI.out.mono ?_); rintro e w1 ⟨rfl, k1⟩))
  go_ret
  subst hg
  exact ⟨rfl, step HB.out k1⟩
set_option maxHeartbeats 4000000 in
theorem core_no {w : World} {l : Lt} {u v : Value} {s T : ByteArray} {at_ : Int} (hM : LtM w l u v) (hs : s.size ≤ 100) (hT : T.size ≤ 7000)
    (h0 : ∀ W, LtM W l u v → Calls Try.prog 8 #[.agg (ltA l u v)] W fun e w' => e = .returned (.bool false) ∧ Below W.heap.size W w') (h1 : ∀ W, LtM W l u v → Calls Try.prog 9 #[.agg (ltA l u v)] W fun e w' => e = .returned (.tuple #[.string T, .int .i64 1]) ∧ Below W.heap.size W w')
     : Calls Try.prog 6 #[.agg (ltA l u v), .int .i64 at_, .string s] w fun e w' => e = .returned (.bool true) ∧ Below w.heap.size w w' := by
  have d1 : decide ((100 : Int) < (s.size : Int)) = false := decide_eq_false (by omega)
  have b := (Below.refl w.heap.size w).alloc (Nat.le_refl _) (.cells (ltA l u v) 30)
  have L := LB.new w l u v
  have M := hM.bel b
  have HT := Lib.hid lettered_any
  have H0 := Lib.hid h0
  clear h0
  have H1 := Lib.hid h1
  clear h1
  clear hM
  obtain ⟨g, hg⟩ : ∃ g, w.heap.size = g := ⟨_, rfl⟩
  rw [hg] at L b
  go_enter Try.func6, Try.ntmps6
  go_upto_region 1 with (fail)
  (try rw [hg])
  generalize w.alloc _ = W at *
  go_wp2_with (first
    | go_big_skip
    | (refine p_midL rfl _ rfl g rfl L ?_)
    | (go_at_call 8; (with_reducible refine (H0.out _ M).mono ?_); rintro e wn ⟨rfl, kk⟩; replace L := L.bel kk; replace M := M.bel kk; replace b := belTo hg b kk; clear kk)
    | (go_at_call 9; (with_reducible refine (H1.out _ M).mono ?_); rintro e wn ⟨rfl, kk⟩; replace L := L.bel kk; replace M := M.bel kk; replace b := belTo hg b kk; clear kk)
    | (go_at_call 11; (with_reducible refine (HT.out _).mono ?_); rintro e wn ⟨rfl, kk⟩; replace b := belTo hg b kk; clear kk))
  go_ret
  exact ⟨rfl, by (try rw [hg]); exact b⟩
set_option maxHeartbeats 4000000 in
theorem core_neg {w : World} {l : Lt} {u v : Value} {s T : ByteArray} {at_ : Int} (hM : LtM w l u v) (hs : s.size ≤ 100) (hT : T.size ≤ 7000)
    (h0 : ∀ W, LtM W l u v → Calls Try.prog 8 #[.agg (ltA l u v)] W fun e w' => e = .returned (.bool false) ∧ Below W.heap.size W w') (h1 : ∀ W, LtM W l u v → Calls Try.prog 9 #[.agg (ltA l u v)] W fun e w' => e = .returned (.tuple #[.string T, .int .i64 0]) ∧ Below W.heap.size W w')
    (hat : at_ < 0) : Calls Try.prog 6 #[.agg (ltA l u v), .int .i64 at_, .string s] w fun e w' => e = .returned (.bool true) ∧ Below w.heap.size w w' := by
  have d1 : decide ((100 : Int) < (s.size : Int)) = false := decide_eq_false (by omega)
  have b := (Below.refl w.heap.size w).alloc (Nat.le_refl _) (.cells (ltA l u v) 30)
  have L := LB.new w l u v
  have M := hM.bel b
  have HT := Lib.hid lettered_any
  have d2 : decide (at_ < 0) = true := decide_eq_true hat
  clear hat
  have H0 := Lib.hid h0
  clear h0
  have H1 := Lib.hid h1
  clear h1
  clear hM
  obtain ⟨g, hg⟩ : ∃ g, w.heap.size = g := ⟨_, rfl⟩
  rw [hg] at L b
  go_enter Try.func6, Try.ntmps6
  go_upto_region 1 with (fail)
  (try rw [hg])
  generalize w.alloc _ = W at *
  go_wp2_with (first
    | go_big_skip
    | (refine p_midL rfl _ rfl g rfl L ?_)
    | (go_at_call 8; (with_reducible refine (H0.out _ M).mono ?_); rintro e wn ⟨rfl, kk⟩; replace L := L.bel kk; replace M := M.bel kk; replace b := belTo hg b kk; clear kk)
    | (go_at_call 9; (with_reducible refine (H1.out _ M).mono ?_); rintro e wn ⟨rfl, kk⟩; replace L := L.bel kk; replace M := M.bel kk; replace b := belTo hg b kk; clear kk)
    | (go_at_call 11; (with_reducible refine (HT.out _).mono ?_); rintro e wn ⟨rfl, kk⟩; replace b := belTo hg b kk; clear kk))
  go_ret
  exact ⟨rfl, by (try rw [hg]); exact b⟩
set_option maxHeartbeats 4000000 in
theorem core_past {w : World} {l : Lt} {u v : Value} {s T : ByteArray} {at_ : Int} (hM : LtM w l u v) (hs : s.size ≤ 100) (hT : T.size ≤ 7000)
    (h0 : ∀ W, LtM W l u v → Calls Try.prog 8 #[.agg (ltA l u v)] W fun e w' => e = .returned (.bool false) ∧ Below W.heap.size W w') (h1 : ∀ W, LtM W l u v → Calls Try.prog 9 #[.agg (ltA l u v)] W fun e w' => e = .returned (.tuple #[.string T, .int .i64 0]) ∧ Below W.heap.size W w')
    (hat : 0 ≤ at_) (hpast : (T.size : Int) ≤ at_) : Calls Try.prog 6 #[.agg (ltA l u v), .int .i64 at_, .string s] w fun e w' => e = .returned (.bool true) ∧ Below w.heap.size w w' := by
  have d1 : decide ((100 : Int) < (s.size : Int)) = false := decide_eq_false (by omega)
  have b := (Below.refl w.heap.size w).alloc (Nat.le_refl _) (.cells (ltA l u v) 30)
  have L := LB.new w l u v
  have M := hM.bel b
  have HT := Lib.hid lettered_any
  have d2 : decide (at_ < 0) = false := decide_eq_false (by omega)
  have d3 : decide (at_ ≥ (T.size : Int)) = true := decide_eq_true hpast
  have d4 : decide ((T.size : Int) ≤ at_) = true := decide_eq_true hpast
  clear hat hpast
  have H0 := Lib.hid h0
  clear h0
  have H1 := Lib.hid h1
  clear h1
  clear hM
  obtain ⟨g, hg⟩ : ∃ g, w.heap.size = g := ⟨_, rfl⟩
  rw [hg] at L b
  go_enter Try.func6, Try.ntmps6
  go_upto_region 1 with (fail)
  (try rw [hg])
  generalize w.alloc _ = W at *
  go_wp2_with (first
    | go_big_skip
    | (refine p_midL rfl _ rfl g rfl L ?_)
    | (go_at_call 8; (with_reducible refine (H0.out _ M).mono ?_); rintro e wn ⟨rfl, kk⟩; replace L := L.bel kk; replace M := M.bel kk; replace b := belTo hg b kk; clear kk)
    | (go_at_call 9; (with_reducible refine (H1.out _ M).mono ?_); rintro e wn ⟨rfl, kk⟩; replace L := L.bel kk; replace M := M.bel kk; replace b := belTo hg b kk; clear kk)
    | (go_at_call 11; (with_reducible refine (HT.out _).mono ?_); rintro e wn ⟨rfl, kk⟩; replace b := belTo hg b kk; clear kk))
  go_ret
  exact ⟨rfl, by (try rw [hg]); exact b⟩
set_option maxHeartbeats 4000000 in
theorem core_in0 {w : World} {l y x : Lt} {u v : Value} {s T T1 : ByteArray} {k : Nat} (hM : LtM w l u v) (hs : s.size ≤ 100) (hT : T.size ≤ 7000)
    (h0 : ∀ W, LtM W l u v → Calls Try.prog 8 #[.agg (ltA l u v)] W fun e w' => e = .returned (.bool false) ∧ Below W.heap.size W w') (h1 : ∀ W, LtM W l u v → Calls Try.prog 9 #[.agg (ltA l u v)] W fun e w' => e = .returned (.tuple #[.string T, .int .i64 0]) ∧ Below W.heap.size W w')
    (hat : k < T.size) (cS : ∀ w, (Instr.slice 9 (.string T) none (some (.int .i64 (k : Int))) none).run Try.prog w = .ok (.string T1) w) (h2 : ∀ W, Calls Try.prog 14 #[.string T1] W fun e w' => ∃ u v, e = .returned (.tuple #[.agg (ltA y u v), .int .i64 4]) ∧ LtM w' y u v ∧ Below W.heap.size W w') (h3 : ∀ W, Calls Try.prog 14 #[.string (T ++ s)] W fun e w' => ∃ u v, e = .returned (.tuple #[.agg (ltA x u v), .int .i64 0]) ∧ LtM w' x u v ∧ Below W.heap.size W w') (hz : s.size = 0) : Calls Try.prog 6 #[.agg (ltA l u v), .int .i64 (k : Int), .string s] w fun e w' => e = .returned (.bool true) ∧ Below w.heap.size w w' := by
  have d1 : decide ((100 : Int) < (s.size : Int)) = false := decide_eq_false (by omega)
  have b := (Below.refl w.heap.size w).alloc (Nat.le_refl _) (.cells (ltA l u v) 30)
  have L := LB.new w l u v
  have M := hM.bel b
  have HT := Lib.hid lettered_any
  have d2 : decide ((k : Int) < 0) = false := decide_eq_false (by omega)
  have d3 : decide ((k : Int) ≥ (T.size : Int)) = false := decide_eq_false (by omega)
  have d4 : decide ((T.size : Int) ≤ (k : Int)) = false := decide_eq_false (by omega)
  have d5 : ((s.size : Int) == 0) = true := by rw [hz]; rfl
  have d6 : decide ((0 : Int) < (s.size : Int)) = false := decide_eq_false (by omega)
  have hap : (T ++ s).size = T.size + s.size := ByteArray.size_append
  have H0 := Lib.hid h0
  clear h0
  have H1 := Lib.hid h1
  clear h1
  have H2 := Lib.hid h2
  clear h2
  have H3 := Lib.hid h3
  clear h3
  clear hM
  obtain ⟨g, hg⟩ : ∃ g, w.heap.size = g := ⟨_, rfl⟩
  rw [hg] at L b
  go_enter Try.func6, Try.ntmps6
  go_upto_region 1 with (fail)
  (try rw [hg])
  generalize w.alloc _ = W at *
  go_upto_region 6 with (first
    | go_big_skip
    | (refine p_midL rfl _ rfl g rfl L ?_)
    | (go_at_call 8; (with_reducible refine (H0.out _ M).mono ?_); rintro e wn ⟨rfl, kk⟩; replace L := L.bel kk; replace M := M.bel kk; replace b := belTo hg b kk; clear kk)
    | (go_at_call 9; (with_reducible refine (H1.out _ M).mono ?_); rintro e wn ⟨rfl, kk⟩; replace L := L.bel kk; replace M := M.bel kk; replace b := belTo hg b kk; clear kk))
  go_upto_region 7 with (first
    | go_big_skip
    | (go_at_call 14; (with_reducible refine (H2.out _).mono ?_); rintro e wn ⟨u1, v1, rfl, N, kk⟩; replace L := L.bel kk; replace M := M.bel kk; replace b := belTo hg b kk; clear kk; have o1 := N.one1; have o2 := N.one2)
    | ((with_reducible show wpList _ _ _ (Oper.mk _ (Op.store _ _ _) _ _ _ _ :: _) _ _); refine p_newL rfl rfl _ _ rfl rfl rfl o1 o2 ?_))
  have J := LB.new wn y u1 v1
  have kk := (Below.refl wn.heap.size wn).alloc (Nat.le_refl _) (.cells (ltA y u1 v1) 30)
  replace L := L.bel kk
  replace M := M.bel kk
  replace N := N.bel kk
  replace b := belTo hg b kk
  clear kk o1 o2
  generalize wn.heap.size = q at *
  generalize wn.alloc _ = W1 at *
  go_upto_region 8 with (first
    | go_big_skip
    | (go_at_call 14; (with_reducible refine (H3.out _).mono ?_); rintro e wn ⟨u2, v2, rfl, P, kk⟩; replace L := L.bel kk; replace M := M.bel kk; replace b := belTo hg b kk; clear kk; have o1 := P.one1; have o2 := P.one2)
    | ((with_reducible show wpList _ _ _ (Oper.mk _ (Op.store _ _ _) _ _ _ _ :: _) _ _); refine p_newL rfl rfl _ _ rfl rfl rfl o1 o2 ?_))
  have K := LB.new wn x u2 v2
  have kk := (Below.refl wn.heap.size wn).alloc (Nat.le_refl _) (.cells (ltA x u2 v2) 30)
  replace L := L.bel kk
  replace M := M.bel kk
  replace P := P.bel kk
  replace b := belTo hg b kk
  clear kk o1 o2
  generalize wn.heap.size = z at *
  generalize wn.alloc _ = W2 at *
  go_wp2_with (first
    | go_big_skip
    | (go_at_call 11; (with_reducible refine (HT.out _).mono ?_); rintro e wn ⟨rfl, kk⟩; replace b := belTo hg b kk; clear kk))
  go_ret
  exact ⟨rfl, by (try rw [hg]); exact b⟩
set_option maxHeartbeats 4000000 in
theorem core_in1 {w : World} {l y x : Lt} {u v : Value} {s T T1 : ByteArray} {k : Nat} (hM : LtM w l u v) (hs : s.size ≤ 100) (hT : T.size ≤ 7000)
    (h0 : ∀ W, LtM W l u v → Calls Try.prog 8 #[.agg (ltA l u v)] W fun e w' => e = .returned (.bool false) ∧ Below W.heap.size W w') (h1 : ∀ W, LtM W l u v → Calls Try.prog 9 #[.agg (ltA l u v)] W fun e w' => e = .returned (.tuple #[.string T, .int .i64 0]) ∧ Below W.heap.size W w')
    (hat : k < T.size) (cS : ∀ w, (Instr.slice 9 (.string T) none (some (.int .i64 (k : Int))) none).run Try.prog w = .ok (.string T1) w) (h2 : ∀ W, Calls Try.prog 14 #[.string T1] W fun e w' => ∃ u v, e = .returned (.tuple #[.agg (ltA y u v), .int .i64 4]) ∧ LtM w' y u v ∧ Below W.heap.size W w') (h3 : ∀ W, Calls Try.prog 14 #[.string (T ++ s)] W fun e w' => ∃ u v, e = .returned (.tuple #[.agg (ltA x u v), .int .i64 3]) ∧ LtM w' x u v ∧ Below W.heap.size W w') (hz : s.size ≠ 0) : Calls Try.prog 6 #[.agg (ltA l u v), .int .i64 (k : Int), .string s] w fun e w' => e = .returned (.bool true) ∧ Below w.heap.size w w' := by
  have d1 : decide ((100 : Int) < (s.size : Int)) = false := decide_eq_false (by omega)
  have b := (Below.refl w.heap.size w).alloc (Nat.le_refl _) (.cells (ltA l u v) 30)
  have L := LB.new w l u v
  have M := hM.bel b
  have HT := Lib.hid lettered_any
  have d2 : decide ((k : Int) < 0) = false := decide_eq_false (by omega)
  have d3 : decide ((k : Int) ≥ (T.size : Int)) = false := decide_eq_false (by omega)
  have d4 : decide ((T.size : Int) ≤ (k : Int)) = false := decide_eq_false (by omega)
  have d5 : ((s.size : Int) == 0) = false := by rw [beq_eq_false_iff_ne]; omega
  have d6 : decide ((0 : Int) < (s.size : Int)) = true := decide_eq_true (by omega)
  have hap : (T ++ s).size = T.size + s.size := ByteArray.size_append
  have H0 := Lib.hid h0
  clear h0
  have H1 := Lib.hid h1
  clear h1
  have H2 := Lib.hid h2
  clear h2
  have H3 := Lib.hid h3
  clear h3
  clear hM
  obtain ⟨g, hg⟩ : ∃ g, w.heap.size = g := ⟨_, rfl⟩
  rw [hg] at L b
  go_enter Try.func6, Try.ntmps6
  go_upto_region 1 with (fail)
  (try rw [hg])
  generalize w.alloc _ = W at *
  go_upto_region 6 with (first
    | go_big_skip
    | (refine p_midL rfl _ rfl g rfl L ?_)
    | (go_at_call 8; (with_reducible refine (H0.out _ M).mono ?_); rintro e wn ⟨rfl, kk⟩; replace L := L.bel kk; replace M := M.bel kk; replace b := belTo hg b kk; clear kk)
    | (go_at_call 9; (with_reducible refine (H1.out _ M).mono ?_); rintro e wn ⟨rfl, kk⟩; replace L := L.bel kk; replace M := M.bel kk; replace b := belTo hg b kk; clear kk))
  go_upto_region 7 with (first
    | go_big_skip
    | (go_at_call 14; (with_reducible refine (H2.out _).mono ?_); rintro e wn ⟨u1, v1, rfl, N, kk⟩; replace L := L.bel kk; replace M := M.bel kk; replace b := belTo hg b kk; clear kk; have o1 := N.one1; have o2 := N.one2)
    | ((with_reducible show wpList _ _ _ (Oper.mk _ (Op.store _ _ _) _ _ _ _ :: _) _ _); refine p_newL rfl rfl _ _ rfl rfl rfl o1 o2 ?_))
  have J := LB.new wn y u1 v1
  have kk := (Below.refl wn.heap.size wn).alloc (Nat.le_refl _) (.cells (ltA y u1 v1) 30)
  replace L := L.bel kk
  replace M := M.bel kk
  replace N := N.bel kk
  replace b := belTo hg b kk
  clear kk o1 o2
  generalize wn.heap.size = q at *
  generalize wn.alloc _ = W1 at *
  go_upto_region 8 with (first
    | go_big_skip
    | (go_at_call 14; (with_reducible refine (H3.out _).mono ?_); rintro e wn ⟨u2, v2, rfl, P, kk⟩; replace L := L.bel kk; replace M := M.bel kk; replace b := belTo hg b kk; clear kk; have o1 := P.one1; have o2 := P.one2)
    | ((with_reducible show wpList _ _ _ (Oper.mk _ (Op.store _ _ _) _ _ _ _ :: _) _ _); refine p_newL rfl rfl _ _ rfl rfl rfl o1 o2 ?_))
  have K := LB.new wn x u2 v2
  have kk := (Below.refl wn.heap.size wn).alloc (Nat.le_refl _) (.cells (ltA x u2 v2) 30)
  replace L := L.bel kk
  replace M := M.bel kk
  replace P := P.bel kk
  replace b := belTo hg b kk
  clear kk o1 o2
  generalize wn.heap.size = z at *
  generalize wn.alloc _ = W2 at *
  go_wp2_with (first
    | go_big_skip
    | (go_at_call 11; (with_reducible refine (HT.out _).mono ?_); rintro e wn ⟨rfl, kk⟩; replace b := belTo hg b kk; clear kk))
  go_ret
  exact ⟨rfl, by (try rw [hg]); exact b⟩
theorem res_err {b : List Nat} {n : Nat} (h : getN b = .error n) : (resN (getN b)).2 = (n : Int) := by rw [h]; rfl
theorem walk {w : World} {l : Lt} {u v : Value} (hM : LtM w l u v) (hw : l.Wf) (at_ : Int) (ha : -9223372036854775808 ≤ at_ ∧ at_ ≤ 9223372036854775807) (s : ByteArray) (hs : s.size ≤ 9223372036854775807) : Calls Try.prog 6 #[.agg (ltA l u v), .int .i64 at_, .string s] w fun e w' => e = .returned (.bool true) ∧ Below w.heap.size w w' := by
  cases hb : bigL l with
  | true => exact walk_big hM at_ s hb
  | false =>
    rcases Nat.lt_or_ge 100 s.size with h5 | h5
    · exact walk_long hM at_ s hs h5 hb
    · have hf := fine_big hw hb
      have h0 : ∀ W, LtM W l u v → Calls Try.prog 8 #[.agg (ltA l u v)] W fun e w' => e = .returned (.bool false) ∧ Below W.heap.size W w' := fun W h => by rw [← hb]; exact big_any h
      cases hR : rightB l with
      | false => exact core_no hM h5 (T := ⟨#[]⟩) (by decide) h0 (fun W h => put_no h hw.kind hf.a hf.p hR)
      | true =>
        have hr := (rightB_iff hw).1 hR
        have h1 : ∀ W, LtM W l u v → Calls Try.prog 9 #[.agg (ltA l u v)] W fun e w' => e = .returned (.tuple #[.string (txt (putN l)), .int .i64 0]) ∧ Below W.heap.size W w' := fun W h => put_yes h hw hf.a hf.p hr
        have hlen := putN_short hw hr
        have hT : (txt (putN l)).size ≤ 7000 := by rw [txt_size]; exact hlen
        have hlt := putN_lt hr hw
        rcases (by omega : at_ < 0 ∨ (0 ≤ at_ ∧ ((txt (putN l)).size : Int) ≤ at_) ∨ (0 ≤ at_ ∧ at_ < ((txt (putN l)).size : Int))) with h | ⟨h, hp⟩ | ⟨h, hp⟩
        · exact core_neg hM h5 hT h0 h1 h
        · exact core_past hM h5 hT h0 h1 h hp
        · obtain ⟨k, rfl⟩ := Int.eq_ofNat_of_zero_le h
          have hk : k < (putN l).length := by rw [txt_size] at hp; omega
          have hk2 : k < (txt (putN l)).size := by rw [txt_size]; exact hk
          have h2 := fun W => got_any (w := W) (s := txt ((putN l).take k)) (by rw [txt_size, List.length_take]; omega)
          rw [bytesN_txt _ (fun b hb => hlt b (List.mem_of_mem_take hb)), getN_cut hr hw hk] at h2
          have h3 := fun W => got_any (w := W) (s := txt (putN l) ++ s) (by rw [ByteArray.size_append, txt_size]; omega)
          have e3 : bytesN (txt (putN l) ++ s) = putN l ++ bytesN s := by
            conv => lhs; rw [← txt_bytes s, ← txt_append]
            exact bytesN_txt _ (fun b hb => by rcases List.mem_append.1 hb with hb | hb; exact hlt b hb; exact bytesN_lt s b hb)
          rw [e3] at h3
          by_cases hz : s.size = 0
          · have e4 : bytesN s = [] := List.eq_nil_of_length_eq_zero (by rw [bytesN_length]; exact hz)
            rw [e4, List.append_nil, getN_put hr hw] at h3
            exact core_in0 hM h5 hT h0 h1 hk2 (cut_upto _ _ (by omega)) h2 h3 hz
          · have e4 : bytesN s ≠ [] := fun h => hz (by have := congrArg List.length h; rw [bytesN_length] at this; exact this)
            rw [getN_more hr hw e4] at h3
            exact core_in1 hM h5 hT h0 h1 hk2 (cut_upto _ _ (by omega)) h2 h3 hz

set_option maxRecDepth 100000 in
theorem lifted (os : Os) (started : os.Started) (H : Type) (enc : TypeId × Value → H) :
    ReturnsInHanded {} Try.checked os 6 .any (Rows.letterCutSpec.pre6 enc Try.prog Try.f6 Rows.letterCutRow.domain false) (Rows.letterCutSpec.post enc Try.prog Try.f6 false true false false) := by
  refine returnsInHanded_of_change (C := Try.checked) own started (by kernel_rfl) Try.func6
    (ChangeSpec.witness6 (enc := enc) (C := Try.checked) false ⟨#[], #[.agg #[.int .i64 0, .int .i64 0, .int .u8 0, .int .u8 0, .int .u8 0, .int .u8 0, .int .u8 0, .int .u8 0, .int .u8 0, .int .u8 0, .int .u8 0, .int .u8 0, .int .u8 0, .int .u8 0, .int .u8 0, .int .u8 0, .int .u8 0, .int .u8 0, .int .u8 0, .int .u8 0, .int .u8 0, .int .u8 0, .int .u64 0, .int .u8 0, .int .u8 0, .int .u8 0, .int .u8 0, .int .u8 0, .int .u8 0, .int .u8 0, .int .u8 0, .int .u8 0, .int .u8 0, .int .u8 0, .int .u8 0, .int .u8 0, .int .u8 0, .int .u8 0, .int .u8 0, .int .u8 0, .int .u8 0, .int .u8 0, .int .u8 0, .slice none 0 0, .bool false, .int .i64 0, .int .u8 0, .int .u8 0, .int .u8 0, .int .u8 0, .int .u8 0, .int .u8 0, .int .u8 0, .int .u8 0, .int .u8 0, .int .u8 0, .int .u8 0, .int .u8 0, .int .u8 0, .int .u8 0, .int .u8 0, .int .u8 0, .int .u8 0, .int .u8 0, .int .u8 0, .int .u8 0, .slice none 0 0], .int .i64 0, .string ⟨#[]⟩], []⟩ 8 (by kernel_rfl) (by kernel_rfl) (by kernel_rfl) (by kernel_rfl)) ?_
  intro W base args ds gs before hval0 hW hcnd _
  have hval : ∀ (j : Nat) t v, Try.f6.params[j]? = some t → args[j]? = some v → Value.okWide Try.prog W .any base t v := hval0
  have hW' := hW
  obtain ⟨p, q, hA0, hV, rfl, hfz, hnd⟩ := hW
  have hA : DataW.TrodAll enc Try.prog W 0 (fun _ => true) true Try.f6.params.toList args.toList ds p := hA0
  rw [Try.params6] at hA hval
  obtain ⟨v0, vs0, d0, ds0, p0, q0, hargs, rfl, rfl, h0, r0⟩ := trodAll_cons hA
  obtain ⟨v1, vs1, d1, ds1, p1, q1, rfl, rfl, rfl, h1, r1⟩ := trodAll_cons r0
  obtain ⟨v2, vs2, d2, ds2, p2, q2, rfl, rfl, rfl, h2, r2⟩ := trodAll_cons r1
  obtain ⟨rfl, rfl, rfl⟩ := trodAll_nil r2
  obtain rfl : args = #[v0, v1, v2] := by cases args; simp_all
  obtain ⟨rfl, rfl⟩ := trodVars_none hV
  have k0 := h0
  have lt0 : ∀ x ∈ p0, x.block < W.heap.size := by obtain ⟨m, hm⟩ := k0; exact DataW.trod_lt m _ _ _ hm
  obtain ⟨l0, a0, b0, rfl, lm0, lw0⟩ := open_let (hval 0 30 v0 rfl rfl) h0
  have k1 := h1
  have lt1 : ∀ x ∈ p1, x.block < W.heap.size := by obtain ⟨m, hm⟩ := k1; exact DataW.trod_lt m _ _ _ hm
  obtain ⟨n1, bd1, rfl⟩ := open_i64 (hval 1 3 v1 rfl rfl) h1
  have k2 := h2
  have lt2 : ∀ x ∈ p2, x.block < W.heap.size := by obtain ⟨m, hm⟩ := k2; exact DataW.trod_lt m _ _ _ hm
  obtain ⟨n2, rfl, _, _, ws2⟩ := open_string Try.underlying9 (hval 2 9 v2 rfl rfl) h2
  clear hA0 hval0
  refine (walk lm0 lw0 n1 bd1 n2 ws2).mono fun e W' ⟨he, bel⟩ => ?_
  subst he
  exact ⟨_, rfl, _, _, _, [], _, [], hW', trodAll_mk1 (shut_bool Try.underlying4 _), (trodAll_cons_mk (Below.trod laidOut (by kernel_rfl) (of_decide_eq_true (by kernel_rfl)) k0 bel lt0) (trodAll_cons_mk (Below.trod laidOut (by kernel_rfl) (of_decide_eq_true (by kernel_rfl)) k1 bel lt1) (trodAll_cons_mk (Below.trod laidOut (by kernel_rfl) (of_decide_eq_true (by kernel_rfl)) k2 bel lt2) trodAll_mk0))), rfl, bel.frame _, fun h => by cases h⟩

theorem proved : Rows.LetterCutSaid :=
  OpenClaim.holds_of_wide 6 Try.f6 rfl rfl rfl rfl rfl rfl rfl ⟨rfl, rfl, rfl, rfl, rfl⟩ rfl rfl rfl rfl rfl (by kernel_rfl) Try.func6 (by kernel_rfl)
    (of_decide_eq_true (by kernel_rfl)) (by unfold Func.isWrapper; first | (rw [if_pos (by decide +kernel)]; kernel_rfl) | (rw [if_neg (by decide +kernel)]; exact ⟨rfl, rfl⟩))
    (fun os started H enc _ => lifted os started H enc)

end Go.Proofs.Ytplcdjmidelboaa.CutLaw
