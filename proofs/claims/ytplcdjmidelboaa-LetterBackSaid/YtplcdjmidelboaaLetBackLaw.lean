/- LetterBack: for any letter and any bytes the call returns true: what is put is got back the same; what is got, put again, is the bytes; else nothing is got, with one of two errors. No condition. -/
import Derived.Test.YtplcdjmidelboaaLetLawKit
import Derived.ChangeSlices
namespace Go.Proofs.Ytplcdjmidelboaa.BackLaw
set_option maxRecDepth 100000
open Go Go.ChangeShapes Go.WideShapes Go.ChangeAt Go.RowKit Go.Sort
open Go.ChangeMaps (open_string shut_string)
set_option linter.unusedVariables false

theorem walk_big {w : World} {l : Lt} {u v : Value} (hM : LtM w l u v) (s : ByteArray) (hb : bigL l = true) : Calls Try.prog 5 #[.agg (ltA l u v), .string s] w fun e w' => e = .returned (.bool true) ∧ Below w.heap.size w w' := by
  have B0 := (Below.refl w.heap.size w).alloc (Nat.le_refl _) (.cells (ltA l u v) 30)
  have L0 := LB.new w l u v
  have HI := Lib.hid (big_any (hM.bel B0))
  rw [hb] at HI
  have HB := Lib.hid B0
  clear B0 hM hb
  generalize hg : w.heap.size = g at *
  go_enter Try.func5, Try.ntmps5
  go_upto_region 1 with (fail)
  (try rw [hg])
  generalize w.alloc _ = W at *
  go_wp2_with (first
    | go_big_skip
    | (refine p_midL rfl _ rfl g rfl L0 ?_)
    | (go_at_call 8; (with_reducible refine HI.out.mono ?_); rintro e w1 ⟨rfl, k1⟩))
  go_ret
  subst hg
  exact ⟨rfl, step HB.out k1⟩
theorem walk_long {w : World} {l : Lt} {u v : Value} (hM : LtM w l u v) (s : ByteArray) (hs : s.size ≤ 9223372036854775807) (h5 : 5000 < s.size) (hb : bigL l = false) : Calls Try.prog 5 #[.agg (ltA l u v), .string s] w fun e w' => e = .returned (.bool true) ∧ Below w.heap.size w w' := by
  have d1 : decide ((5000 : Int) < (s.size : Int)) = true := decide_eq_true (by omega)
  have B0 := (Below.refl w.heap.size w).alloc (Nat.le_refl _) (.cells (ltA l u v) 30)
  have L0 := LB.new w l u v
  have HI := Lib.hid (big_any (hM.bel B0))
  rw [hb] at HI
  have HB := Lib.hid B0
  clear B0 hM hb h5
  generalize hg : w.heap.size = g at *
  go_enter Try.func5, Try.ntmps5
  go_upto_region 1 with (fail)
  (try rw [hg])
  generalize w.alloc _ = W at *
  go_wp2_with (first
    | go_big_skip
    | (refine p_midL rfl _ rfl g rfl L0 ?_)
    | (go_at_call 8; (with_reducible refine HI.out.mono ?_); rintro e w1 ⟨rfl, k1⟩))
  go_ret
  subst hg
  exact ⟨rfl, step HB.out k1⟩
set_option maxHeartbeats 4000000 in
theorem core_yy {w : World} {l x : Lt} {u v : Value} {s T : ByteArray} (hM : LtM w l u v) (hs : s.size ≤ 5000)
    (h0 : ∀ W, LtM W l u v → Calls Try.prog 8 #[.agg (ltA l u v)] W fun e w' => e = .returned (.bool false) ∧ Below W.heap.size W w') (h1 : ∀ W, LtM W l u v → Calls Try.prog 9 #[.agg (ltA l u v)] W fun e w' => e = .returned (.tuple #[.string T, .int .i64 0]) ∧ Below W.heap.size W w') (h2 : ∀ W, Calls Try.prog 14 #[.string T] W fun e w' => ∃ u v, e = .returned (.tuple #[.agg (ltA l u v), .int .i64 0]) ∧ LtM w' l u v ∧ Below W.heap.size W w') (h3 : ∀ W, LtM W l u v → Calls Try.prog 12 #[.agg (ltA l u v)] W fun e w' => e = .returned (.bool true) ∧ Below W.heap.size W w')
    (h4 : ∀ W u' v', LtM W l u v → LtM W l u' v' → Calls Try.prog 16 #[.agg (ltA l u v), .agg (ltA l u' v')] W fun e w' => e = .returned (.bool true) ∧ Below W.heap.size W w')
    (h5 : ∀ W, Calls Try.prog 14 #[.string s] W fun e w' => ∃ u v, e = .returned (.tuple #[.agg (ltA x u v), .int .i64 0]) ∧ LtM w' x u v ∧ Below W.heap.size W w') (h6 : ∀ W u v, LtM W x u v → Calls Try.prog 9 #[.agg (ltA x u v)] W fun e w' => e = .returned (.tuple #[.string s, .int .i64 0]) ∧ Below W.heap.size W w') (h7 : ∀ W u v, LtM W x u v → Calls Try.prog 12 #[.agg (ltA x u v)] W fun e w' => e = .returned (.bool true) ∧ Below W.heap.size W w') : Calls Try.prog 5 #[.agg (ltA l u v), .string s] w fun e w' => e = .returned (.bool true) ∧ Below w.heap.size w w' := by
  have d1 : decide ((5000 : Int) < (s.size : Int)) = false := decide_eq_false (by omega)
  have b := (Below.refl w.heap.size w).alloc (Nat.le_refl _) (.cells (ltA l u v) 30)
  have L := LB.new w l u v
  have q1 : (s.toList == s.toList) = true := beq_self_eq_true _
  have M := hM.bel b
  have HT := Lib.hid lettered_any
  have H0 := Lib.hid h0
  clear h0
  have H1 := Lib.hid h1
  clear h1
  have H2 := Lib.hid h2
  clear h2
  have H3 := Lib.hid h3
  clear h3
  have H4 := Lib.hid h4
  clear h4
  have H5 := Lib.hid h5
  clear h5
  have H6 := Lib.hid h6
  clear h6
  have H7 := Lib.hid h7
  clear h7
  clear hM hs
  obtain ⟨g, hg⟩ : ∃ g, w.heap.size = g := ⟨_, rfl⟩
  rw [hg] at L b
  go_enter Try.func5, Try.ntmps5
  go_upto_region 1 with (fail)
  (try rw [hg])
  generalize w.alloc _ = W at *
  go_upto_region 4 with (first
    | go_big_skip
    | (refine p_midL rfl _ rfl g rfl L ?_)
    | (go_at_call 8; (with_reducible refine (H0.out _ M).mono ?_); rintro e wn ⟨rfl, kk⟩; replace L := L.bel kk; replace M := M.bel kk; replace b := belTo hg b kk; clear kk)
    | (go_at_call 9; (with_reducible refine (H1.out _ M).mono ?_); rintro e wn ⟨rfl, kk⟩; replace L := L.bel kk; replace M := M.bel kk; replace b := belTo hg b kk; clear kk))
  go_upto_region 5 with (first
    | go_big_skip
    | (go_at_call 14; (with_reducible refine (H2.out _).mono ?_); rintro e wn ⟨u1, v1, rfl, N, kk⟩; replace L := L.bel kk; replace M := M.bel kk; replace b := belTo hg b kk; clear kk; have o1 := N.one1; have o2 := N.one2)
    | ((with_reducible show wpList _ _ _ (Oper.mk _ (Op.store _ _ _) _ _ _ _ :: _) _ _); refine p_newL rfl rfl _ _ rfl rfl rfl o1 o2 ?_))
  have J := LB.new wn l u1 v1
  have kk := (Below.refl wn.heap.size wn).alloc (Nat.le_refl _) (.cells (ltA l u1 v1) 30)
  replace L := L.bel kk
  replace M := M.bel kk
  replace N := N.bel kk
  replace b := belTo hg b kk
  clear kk o1 o2
  generalize wn.heap.size = q at *
  generalize wn.alloc _ = W1 at *
  go_upto_region 6 with (first
    | go_big_skip
    | (go_at_call 14; (with_reducible refine (H5.out _).mono ?_); rintro e wn ⟨u2, v2, rfl, P, kk⟩; replace L := L.bel kk; replace M := M.bel kk; replace N := N.bel kk; replace J := J.bel kk; replace b := belTo hg b kk; clear kk; have o1 := P.one1; have o2 := P.one2)
    | ((with_reducible show wpList _ _ _ (Oper.mk _ (Op.store _ _ _) _ _ _ _ :: _) _ _); refine p_newL rfl rfl _ _ rfl rfl rfl o1 o2 ?_))
  have K := LB.new wn x u2 v2
  have kk := (Below.refl wn.heap.size wn).alloc (Nat.le_refl _) (.cells (ltA x u2 v2) 30)
  replace L := L.bel kk
  replace M := M.bel kk
  replace N := N.bel kk
  replace J := J.bel kk
  replace P := P.bel kk
  replace b := belTo hg b kk
  clear kk o1 o2
  generalize wn.heap.size = z at *
  generalize wn.alloc _ = W2 at *
  go_wp2_with (first
    | go_big_skip
    | (refine p_midL rfl _ rfl z rfl K ?_)
    | (refine p_midL rfl _ rfl g rfl L ?_)
    | (go_at_call 9; (with_reducible refine (H6.out _ _ _ P).mono ?_); rintro e wn ⟨rfl, kk⟩; replace L := L.bel kk; replace M := M.bel kk; replace N := N.bel kk; replace J := J.bel kk; replace P := P.bel kk; replace K := K.bel kk; replace b := belTo hg b kk; clear kk)
    | (go_at_call 12; (with_reducible refine (H3.out _ M).mono ?_); rintro e wn ⟨rfl, kk⟩; replace L := L.bel kk; replace M := M.bel kk; replace N := N.bel kk; replace J := J.bel kk; replace P := P.bel kk; replace K := K.bel kk; replace b := belTo hg b kk; clear kk)
    | (go_guarded; refine o_midL _ rfl g rfl L ?_; simp only [Act.put, List.setIfInBounds_toArray, List.set_cons_succ, List.set_cons_zero])
    | (go_guarded; refine o_midL _ rfl q rfl J ?_; simp only [Act.put, List.setIfInBounds_toArray, List.set_cons_succ, List.set_cons_zero])
    | (go_at_call 16; (with_reducible refine (H4.out _ _ _ M N).mono ?_); rintro e wn ⟨rfl, kk⟩; replace L := L.bel kk; replace M := M.bel kk; replace N := N.bel kk; replace J := J.bel kk; replace P := P.bel kk; replace K := K.bel kk; replace b := belTo hg b kk; clear kk)
    | (go_at_call 11; (with_reducible refine (HT.out _).mono ?_); rintro e wn ⟨rfl, kk⟩; replace L := L.bel kk; replace M := M.bel kk; replace N := N.bel kk; replace J := J.bel kk; replace P := P.bel kk; replace K := K.bel kk; replace b := belTo hg b kk; clear kk)
    | (go_guarded; refine o_midL _ rfl z rfl K ?_; simp only [Act.put, List.setIfInBounds_toArray, List.set_cons_succ, List.set_cons_zero])
    | (go_at_call 12; (with_reducible refine (H7.out _ _ _ P).mono ?_); rintro e wn ⟨rfl, kk⟩; replace L := L.bel kk; replace M := M.bel kk; replace N := N.bel kk; replace J := J.bel kk; replace P := P.bel kk; replace K := K.bel kk; replace b := belTo hg b kk; clear kk))
  go_ret
  exact ⟨rfl, by (try rw [hg]); exact b⟩
set_option maxHeartbeats 4000000 in
theorem core_yn {w : World} {l : Lt} {u v : Value} {s T : ByteArray} {e0 : Int} (hM : LtM w l u v) (hs : s.size ≤ 5000)
    (h0 : ∀ W, LtM W l u v → Calls Try.prog 8 #[.agg (ltA l u v)] W fun e w' => e = .returned (.bool false) ∧ Below W.heap.size W w') (h1 : ∀ W, LtM W l u v → Calls Try.prog 9 #[.agg (ltA l u v)] W fun e w' => e = .returned (.tuple #[.string T, .int .i64 0]) ∧ Below W.heap.size W w') (h2 : ∀ W, Calls Try.prog 14 #[.string T] W fun e w' => ∃ u v, e = .returned (.tuple #[.agg (ltA l u v), .int .i64 0]) ∧ LtM w' l u v ∧ Below W.heap.size W w') (h3 : ∀ W, LtM W l u v → Calls Try.prog 12 #[.agg (ltA l u v)] W fun e w' => e = .returned (.bool true) ∧ Below W.heap.size W w')
    (h4 : ∀ W u' v', LtM W l u v → LtM W l u' v' → Calls Try.prog 16 #[.agg (ltA l u v), .agg (ltA l u' v')] W fun e w' => e = .returned (.bool true) ∧ Below W.heap.size W w')
    (h5 : ∀ W, Calls Try.prog 14 #[.string s] W fun e w' => ∃ u v, e = .returned (.tuple #[.agg (ltA zeroL u v), .int .i64 e0]) ∧ LtM w' zeroL u v ∧ Below W.heap.size W w') (h6 : ∀ W u v, LtM W zeroL u v → Calls Try.prog 9 #[.agg (ltA zeroL u v)] W fun e w' => e = .returned (.tuple #[.string ⟨#[]⟩, .int .i64 1]) ∧ Below W.heap.size W w') (he : e0 = 3 ∨ e0 = 4) : Calls Try.prog 5 #[.agg (ltA l u v), .string s] w fun e w' => e = .returned (.bool true) ∧ Below w.heap.size w w' := by
  have d1 : decide ((5000 : Int) < (s.size : Int)) = false := decide_eq_false (by omega)
  have b := (Below.refl w.heap.size w).alloc (Nat.le_refl _) (.cells (ltA l u v) 30)
  have L := LB.new w l u v
  have q1 : (s.toList == s.toList) = true := beq_self_eq_true _
  have M := hM.bel b
  have HT := Lib.hid lettered_any
  have H0 := Lib.hid h0
  clear h0
  have H1 := Lib.hid h1
  clear h1
  have H2 := Lib.hid h2
  clear h2
  have H3 := Lib.hid h3
  clear h3
  have H4 := Lib.hid h4
  clear h4
  have H5 := Lib.hid h5
  clear h5
  have H6 := Lib.hid h6
  clear h6
  clear hM hs
  obtain ⟨g, hg⟩ : ∃ g, w.heap.size = g := ⟨_, rfl⟩
  rw [hg] at L b
  rcases he with rfl | rfl
  all_goals
    go_enter Try.func5, Try.ntmps5
    go_upto_region 1 with (fail)
    (try rw [hg])
    generalize w.alloc _ = W at *
    go_upto_region 4 with (first
      | go_big_skip
      | (refine p_midL rfl _ rfl g rfl L ?_)
      | (go_at_call 8; (with_reducible refine (H0.out _ M).mono ?_); rintro e wn ⟨rfl, kk⟩; replace L := L.bel kk; replace M := M.bel kk; replace b := belTo hg b kk; clear kk)
      | (go_at_call 9; (with_reducible refine (H1.out _ M).mono ?_); rintro e wn ⟨rfl, kk⟩; replace L := L.bel kk; replace M := M.bel kk; replace b := belTo hg b kk; clear kk))
    go_upto_region 5 with (first
      | go_big_skip
      | (go_at_call 14; (with_reducible refine (H2.out _).mono ?_); rintro e wn ⟨u1, v1, rfl, N, kk⟩; replace L := L.bel kk; replace M := M.bel kk; replace b := belTo hg b kk; clear kk; have o1 := N.one1; have o2 := N.one2)
      | ((with_reducible show wpList _ _ _ (Oper.mk _ (Op.store _ _ _) _ _ _ _ :: _) _ _); refine p_newL rfl rfl _ _ rfl rfl rfl o1 o2 ?_))
    have J := LB.new wn l u1 v1
    have kk := (Below.refl wn.heap.size wn).alloc (Nat.le_refl _) (.cells (ltA l u1 v1) 30)
    replace L := L.bel kk
    replace M := M.bel kk
    replace N := N.bel kk
    replace b := belTo hg b kk
    clear kk o1 o2
    generalize wn.heap.size = q at *
    generalize wn.alloc _ = W1 at *
    go_upto_region 6 with (first
      | go_big_skip
      | (go_at_call 14; (with_reducible refine (H5.out _).mono ?_); rintro e wn ⟨u2, v2, rfl, P, kk⟩; replace L := L.bel kk; replace M := M.bel kk; replace N := N.bel kk; replace J := J.bel kk; replace b := belTo hg b kk; clear kk; have o1 := P.one1; have o2 := P.one2)
      | ((with_reducible show wpList _ _ _ (Oper.mk _ (Op.store _ _ _) _ _ _ _ :: _) _ _); refine p_newL rfl rfl _ _ rfl rfl rfl o1 o2 ?_))
    have K := LB.new wn zeroL u2 v2
    have kk := (Below.refl wn.heap.size wn).alloc (Nat.le_refl _) (.cells (ltA zeroL u2 v2) 30)
    replace L := L.bel kk
    replace M := M.bel kk
    replace N := N.bel kk
    replace J := J.bel kk
    replace P := P.bel kk
    replace b := belTo hg b kk
    clear kk o1 o2
    generalize wn.heap.size = z at *
    generalize wn.alloc _ = W2 at *
    go_wp2_with (first
      | go_big_skip
      | (refine p_midL rfl _ rfl z rfl K ?_)
      | (refine p_midL rfl _ rfl g rfl L ?_)
      | (go_at_call 9; (with_reducible refine (H6.out _ _ _ P).mono ?_); rintro e wn ⟨rfl, kk⟩; replace L := L.bel kk; replace M := M.bel kk; replace N := N.bel kk; replace J := J.bel kk; replace P := P.bel kk; replace K := K.bel kk; replace b := belTo hg b kk; clear kk)
      | (go_at_call 12; (with_reducible refine (H3.out _ M).mono ?_); rintro e wn ⟨rfl, kk⟩; replace L := L.bel kk; replace M := M.bel kk; replace N := N.bel kk; replace J := J.bel kk; replace P := P.bel kk; replace K := K.bel kk; replace b := belTo hg b kk; clear kk)
      | (go_guarded; refine o_midL _ rfl g rfl L ?_; simp only [Act.put, List.setIfInBounds_toArray, List.set_cons_succ, List.set_cons_zero])
      | (go_guarded; refine o_midL _ rfl q rfl J ?_; simp only [Act.put, List.setIfInBounds_toArray, List.set_cons_succ, List.set_cons_zero])
      | (go_at_call 16; (with_reducible refine (H4.out _ _ _ M N).mono ?_); rintro e wn ⟨rfl, kk⟩; replace L := L.bel kk; replace M := M.bel kk; replace N := N.bel kk; replace J := J.bel kk; replace P := P.bel kk; replace K := K.bel kk; replace b := belTo hg b kk; clear kk)
      | (go_at_call 11; (with_reducible refine (HT.out _).mono ?_); rintro e wn ⟨rfl, kk⟩; replace L := L.bel kk; replace M := M.bel kk; replace N := N.bel kk; replace J := J.bel kk; replace P := P.bel kk; replace K := K.bel kk; replace b := belTo hg b kk; clear kk; have cz : wn.cell? ⟨z, 0, none⟩ = some (.int .i64 0) := K.kind))
    go_ret
    exact ⟨rfl, by (try rw [hg]); exact b⟩
set_option maxHeartbeats 4000000 in
theorem core_ny {w : World} {l m x : Lt} {u v : Value} {s T : ByteArray} {f : Int} (hM : LtM w l u v) (hs : s.size ≤ 5000)
    (h0 : ∀ W, LtM W l u v → Calls Try.prog 8 #[.agg (ltA l u v)] W fun e w' => e = .returned (.bool false) ∧ Below W.heap.size W w') (h1 : ∀ W, LtM W l u v → Calls Try.prog 9 #[.agg (ltA l u v)] W fun e w' => e = .returned (.tuple #[.string T, .int .i64 1]) ∧ Below W.heap.size W w') (h2 : ∀ W, Calls Try.prog 14 #[.string T] W fun e w' => ∃ u v, e = .returned (.tuple #[.agg (ltA m u v), .int .i64 f]) ∧ LtM w' m u v ∧ Below W.heap.size W w') (h3 : ∀ W, LtM W l u v → Calls Try.prog 12 #[.agg (ltA l u v)] W fun e w' => e = .returned (.bool false) ∧ Below W.heap.size W w')
    (h5 : ∀ W, Calls Try.prog 14 #[.string s] W fun e w' => ∃ u v, e = .returned (.tuple #[.agg (ltA x u v), .int .i64 0]) ∧ LtM w' x u v ∧ Below W.heap.size W w') (h6 : ∀ W u v, LtM W x u v → Calls Try.prog 9 #[.agg (ltA x u v)] W fun e w' => e = .returned (.tuple #[.string s, .int .i64 0]) ∧ Below W.heap.size W w') (h7 : ∀ W u v, LtM W x u v → Calls Try.prog 12 #[.agg (ltA x u v)] W fun e w' => e = .returned (.bool true) ∧ Below W.heap.size W w') : Calls Try.prog 5 #[.agg (ltA l u v), .string s] w fun e w' => e = .returned (.bool true) ∧ Below w.heap.size w w' := by
  have d1 : decide ((5000 : Int) < (s.size : Int)) = false := decide_eq_false (by omega)
  have b := (Below.refl w.heap.size w).alloc (Nat.le_refl _) (.cells (ltA l u v) 30)
  have L := LB.new w l u v
  have q1 : (s.toList == s.toList) = true := beq_self_eq_true _
  have M := hM.bel b
  have HT := Lib.hid lettered_any
  have H0 := Lib.hid h0
  clear h0
  have H1 := Lib.hid h1
  clear h1
  have H2 := Lib.hid h2
  clear h2
  have H3 := Lib.hid h3
  clear h3
  have H5 := Lib.hid h5
  clear h5
  have H6 := Lib.hid h6
  clear h6
  have H7 := Lib.hid h7
  clear h7
  clear hM hs
  obtain ⟨g, hg⟩ : ∃ g, w.heap.size = g := ⟨_, rfl⟩
  rw [hg] at L b
  go_enter Try.func5, Try.ntmps5
  go_upto_region 1 with (fail)
  (try rw [hg])
  generalize w.alloc _ = W at *
  go_upto_region 4 with (first
    | go_big_skip
    | (refine p_midL rfl _ rfl g rfl L ?_)
    | (go_at_call 8; (with_reducible refine (H0.out _ M).mono ?_); rintro e wn ⟨rfl, kk⟩; replace L := L.bel kk; replace M := M.bel kk; replace b := belTo hg b kk; clear kk)
    | (go_at_call 9; (with_reducible refine (H1.out _ M).mono ?_); rintro e wn ⟨rfl, kk⟩; replace L := L.bel kk; replace M := M.bel kk; replace b := belTo hg b kk; clear kk))
  go_upto_region 5 with (first
    | go_big_skip
    | (go_at_call 14; (with_reducible refine (H2.out _).mono ?_); rintro e wn ⟨u1, v1, rfl, N, kk⟩; replace L := L.bel kk; replace M := M.bel kk; replace b := belTo hg b kk; clear kk; have o1 := N.one1; have o2 := N.one2)
    | ((with_reducible show wpList _ _ _ (Oper.mk _ (Op.store _ _ _) _ _ _ _ :: _) _ _); refine p_newL rfl rfl _ _ rfl rfl rfl o1 o2 ?_))
  have J := LB.new wn m u1 v1
  have kk := (Below.refl wn.heap.size wn).alloc (Nat.le_refl _) (.cells (ltA m u1 v1) 30)
  replace L := L.bel kk
  replace M := M.bel kk
  replace N := N.bel kk
  replace b := belTo hg b kk
  clear kk o1 o2
  generalize wn.heap.size = q at *
  generalize wn.alloc _ = W1 at *
  go_upto_region 6 with (first
    | go_big_skip
    | (go_at_call 14; (with_reducible refine (H5.out _).mono ?_); rintro e wn ⟨u2, v2, rfl, P, kk⟩; replace L := L.bel kk; replace M := M.bel kk; replace N := N.bel kk; replace J := J.bel kk; replace b := belTo hg b kk; clear kk; have o1 := P.one1; have o2 := P.one2)
    | ((with_reducible show wpList _ _ _ (Oper.mk _ (Op.store _ _ _) _ _ _ _ :: _) _ _); refine p_newL rfl rfl _ _ rfl rfl rfl o1 o2 ?_))
  have K := LB.new wn x u2 v2
  have kk := (Below.refl wn.heap.size wn).alloc (Nat.le_refl _) (.cells (ltA x u2 v2) 30)
  replace L := L.bel kk
  replace M := M.bel kk
  replace N := N.bel kk
  replace J := J.bel kk
  replace P := P.bel kk
  replace b := belTo hg b kk
  clear kk o1 o2
  generalize wn.heap.size = z at *
  generalize wn.alloc _ = W2 at *
  go_wp2_with (first
    | go_big_skip
    | (refine p_midL rfl _ rfl z rfl K ?_)
    | (refine p_midL rfl _ rfl g rfl L ?_)
    | (go_at_call 9; (with_reducible refine (H6.out _ _ _ P).mono ?_); rintro e wn ⟨rfl, kk⟩; replace L := L.bel kk; replace M := M.bel kk; replace N := N.bel kk; replace J := J.bel kk; replace P := P.bel kk; replace K := K.bel kk; replace b := belTo hg b kk; clear kk)
    | (go_at_call 12; (with_reducible refine (H3.out _ M).mono ?_); rintro e wn ⟨rfl, kk⟩; replace L := L.bel kk; replace M := M.bel kk; replace N := N.bel kk; replace J := J.bel kk; replace P := P.bel kk; replace K := K.bel kk; replace b := belTo hg b kk; clear kk)
    | (go_at_call 11; (with_reducible refine (HT.out _).mono ?_); rintro e wn ⟨rfl, kk⟩; replace L := L.bel kk; replace M := M.bel kk; replace N := N.bel kk; replace J := J.bel kk; replace P := P.bel kk; replace K := K.bel kk; replace b := belTo hg b kk; clear kk)
    | (go_guarded; refine o_midL _ rfl z rfl K ?_; simp only [Act.put, List.setIfInBounds_toArray, List.set_cons_succ, List.set_cons_zero])
    | (go_at_call 12; (with_reducible refine (H7.out _ _ _ P).mono ?_); rintro e wn ⟨rfl, kk⟩; replace L := L.bel kk; replace M := M.bel kk; replace N := N.bel kk; replace J := J.bel kk; replace P := P.bel kk; replace K := K.bel kk; replace b := belTo hg b kk; clear kk))
  go_ret
  exact ⟨rfl, by (try rw [hg]); exact b⟩
set_option maxHeartbeats 4000000 in
theorem core_nn {w : World} {l m : Lt} {u v : Value} {s T : ByteArray} {f : Int} {e0 : Int} (hM : LtM w l u v) (hs : s.size ≤ 5000)
    (h0 : ∀ W, LtM W l u v → Calls Try.prog 8 #[.agg (ltA l u v)] W fun e w' => e = .returned (.bool false) ∧ Below W.heap.size W w') (h1 : ∀ W, LtM W l u v → Calls Try.prog 9 #[.agg (ltA l u v)] W fun e w' => e = .returned (.tuple #[.string T, .int .i64 1]) ∧ Below W.heap.size W w') (h2 : ∀ W, Calls Try.prog 14 #[.string T] W fun e w' => ∃ u v, e = .returned (.tuple #[.agg (ltA m u v), .int .i64 f]) ∧ LtM w' m u v ∧ Below W.heap.size W w') (h3 : ∀ W, LtM W l u v → Calls Try.prog 12 #[.agg (ltA l u v)] W fun e w' => e = .returned (.bool false) ∧ Below W.heap.size W w')
    (h5 : ∀ W, Calls Try.prog 14 #[.string s] W fun e w' => ∃ u v, e = .returned (.tuple #[.agg (ltA zeroL u v), .int .i64 e0]) ∧ LtM w' zeroL u v ∧ Below W.heap.size W w') (h6 : ∀ W u v, LtM W zeroL u v → Calls Try.prog 9 #[.agg (ltA zeroL u v)] W fun e w' => e = .returned (.tuple #[.string ⟨#[]⟩, .int .i64 1]) ∧ Below W.heap.size W w') (he : e0 = 3 ∨ e0 = 4) : Calls Try.prog 5 #[.agg (ltA l u v), .string s] w fun e w' => e = .returned (.bool true) ∧ Below w.heap.size w w' := by
  have d1 : decide ((5000 : Int) < (s.size : Int)) = false := decide_eq_false (by omega)
  have b := (Below.refl w.heap.size w).alloc (Nat.le_refl _) (.cells (ltA l u v) 30)
  have L := LB.new w l u v
  have q1 : (s.toList == s.toList) = true := beq_self_eq_true _
  have M := hM.bel b
  have HT := Lib.hid lettered_any
  have H0 := Lib.hid h0
  clear h0
  have H1 := Lib.hid h1
  clear h1
  have H2 := Lib.hid h2
  clear h2
  have H3 := Lib.hid h3
  clear h3
  have H5 := Lib.hid h5
  clear h5
  have H6 := Lib.hid h6
  clear h6
  clear hM hs
  obtain ⟨g, hg⟩ : ∃ g, w.heap.size = g := ⟨_, rfl⟩
  rw [hg] at L b
  rcases he with rfl | rfl
  all_goals
    go_enter Try.func5, Try.ntmps5
    go_upto_region 1 with (fail)
    (try rw [hg])
    generalize w.alloc _ = W at *
    go_upto_region 4 with (first
      | go_big_skip
      | (refine p_midL rfl _ rfl g rfl L ?_)
      | (go_at_call 8; (with_reducible refine (H0.out _ M).mono ?_); rintro e wn ⟨rfl, kk⟩; replace L := L.bel kk; replace M := M.bel kk; replace b := belTo hg b kk; clear kk)
      | (go_at_call 9; (with_reducible refine (H1.out _ M).mono ?_); rintro e wn ⟨rfl, kk⟩; replace L := L.bel kk; replace M := M.bel kk; replace b := belTo hg b kk; clear kk))
    go_upto_region 5 with (first
      | go_big_skip
      | (go_at_call 14; (with_reducible refine (H2.out _).mono ?_); rintro e wn ⟨u1, v1, rfl, N, kk⟩; replace L := L.bel kk; replace M := M.bel kk; replace b := belTo hg b kk; clear kk; have o1 := N.one1; have o2 := N.one2)
      | ((with_reducible show wpList _ _ _ (Oper.mk _ (Op.store _ _ _) _ _ _ _ :: _) _ _); refine p_newL rfl rfl _ _ rfl rfl rfl o1 o2 ?_))
    have J := LB.new wn m u1 v1
    have kk := (Below.refl wn.heap.size wn).alloc (Nat.le_refl _) (.cells (ltA m u1 v1) 30)
    replace L := L.bel kk
    replace M := M.bel kk
    replace N := N.bel kk
    replace b := belTo hg b kk
    clear kk o1 o2
    generalize wn.heap.size = q at *
    generalize wn.alloc _ = W1 at *
    go_upto_region 6 with (first
      | go_big_skip
      | (go_at_call 14; (with_reducible refine (H5.out _).mono ?_); rintro e wn ⟨u2, v2, rfl, P, kk⟩; replace L := L.bel kk; replace M := M.bel kk; replace N := N.bel kk; replace J := J.bel kk; replace b := belTo hg b kk; clear kk; have o1 := P.one1; have o2 := P.one2)
      | ((with_reducible show wpList _ _ _ (Oper.mk _ (Op.store _ _ _) _ _ _ _ :: _) _ _); refine p_newL rfl rfl _ _ rfl rfl rfl o1 o2 ?_))
    have K := LB.new wn zeroL u2 v2
    have kk := (Below.refl wn.heap.size wn).alloc (Nat.le_refl _) (.cells (ltA zeroL u2 v2) 30)
    replace L := L.bel kk
    replace M := M.bel kk
    replace N := N.bel kk
    replace J := J.bel kk
    replace P := P.bel kk
    replace b := belTo hg b kk
    clear kk o1 o2
    generalize wn.heap.size = z at *
    generalize wn.alloc _ = W2 at *
    go_wp2_with (first
      | go_big_skip
      | (refine p_midL rfl _ rfl z rfl K ?_)
      | (refine p_midL rfl _ rfl g rfl L ?_)
      | (go_at_call 9; (with_reducible refine (H6.out _ _ _ P).mono ?_); rintro e wn ⟨rfl, kk⟩; replace L := L.bel kk; replace M := M.bel kk; replace N := N.bel kk; replace J := J.bel kk; replace P := P.bel kk; replace K := K.bel kk; replace b := belTo hg b kk; clear kk)
      | (go_at_call 12; (with_reducible refine (H3.out _ M).mono ?_); rintro e wn ⟨rfl, kk⟩; replace L := L.bel kk; replace M := M.bel kk; replace N := N.bel kk; replace J := J.bel kk; replace P := P.bel kk; replace K := K.bel kk; replace b := belTo hg b kk; clear kk)
      | (go_at_call 11; (with_reducible refine (HT.out _).mono ?_); rintro e wn ⟨rfl, kk⟩; replace L := L.bel kk; replace M := M.bel kk; replace N := N.bel kk; replace J := J.bel kk; replace P := P.bel kk; replace K := K.bel kk; replace b := belTo hg b kk; clear kk; have cz : wn.cell? ⟨z, 0, none⟩ = some (.int .i64 0) := K.kind))
    go_ret
    exact ⟨rfl, by (try rw [hg]); exact b⟩
theorem walk {w : World} {l : Lt} {u v : Value} (hM : LtM w l u v) (hw : l.Wf) (s : ByteArray) (hs : s.size ≤ 9223372036854775807) : Calls Try.prog 5 #[.agg (ltA l u v), .string s] w fun e w' => e = .returned (.bool true) ∧ Below w.heap.size w w' := by
  cases hb : bigL l with
  | true => exact walk_big hM s hb
  | false =>
    rcases Nat.lt_or_ge 5000 s.size with h5 | h5
    · exact walk_long hM s hs h5 hb
    · have hf := fine_big hw hb
      have h0 : ∀ W, LtM W l u v → Calls Try.prog 8 #[.agg (ltA l u v)] W fun e w' => e = .returned (.bool false) ∧ Below W.heap.size W w' := fun W h => by rw [← hb]; exact big_any h
      have hI : ∀ W, LtM W l u v → Calls Try.prog 12 #[.agg (ltA l u v)] W fun e w' => e = .returned (.bool (rightB l)) ∧ Below W.heap.size W w' := fun W h => is_any h hw.kind hf.a hf.p
      have hG : ∀ W, Calls Try.prog 14 #[.string s] W fun e w' => ∃ u v, e = .returned (.tuple #[.agg (ltA (resN (getN (bytesN s))).1 u v), .int .i64 (resN (getN (bytesN s))).2]) ∧ LtM w' (resN (getN (bytesN s))).1 u v ∧ Below W.heap.size W w' := fun W => got_any (by omega)
      cases hR : rightB l with
      | true =>
        have hr := (rightB_iff hw).1 hR
        rw [hR] at hI
        have h1 : ∀ W, LtM W l u v → Calls Try.prog 9 #[.agg (ltA l u v)] W fun e w' => e = .returned (.tuple #[.string (txt (putN l)), .int .i64 0]) ∧ Below W.heap.size W w' := fun W h => put_yes h hw hf.a hf.p hr
        have h2 := fun W => got_any (w := W) (s := txt (putN l)) (by rw [txt_size]; have := putN_short hw hr; omega)
        rw [bytesN_txt _ (putN_lt hr hw), getN_put hr hw] at h2
        cases hX : getN (bytesN s) with
        | ok x =>
          rw [hX] at hG
          obtain ⟨e1, xr, xw⟩ := getN_only (bytesN_lt s) hX
          have fx := fine_right xw xr
          refine core_yy (x := x) hM h5 h0 h1 h2 hI (fun W u' v' a b => same_self a b hf) hG (fun W u v h => ?_) (fun W u v h => ?_)
          · have := put_yes h xw fx.a fx.p xr
            rw [← e1, txt_bytes] at this
            exact this
          · rw [← (rightB_iff xw).2 xr]; exact is_any h xw.kind fx.a fx.p
        | error n =>
          rw [hX] at hG
          have hc := c_getN (bytesN s)
          refine core_yn (e0 := (n : Int)) hM h5 h0 h1 h2 hI (fun W u' v' a b => same_self a b hf) hG (fun W u v h => put_no h zeroL_wf.kind (by decide) (by decide) zeroL_no) ?_
          rcases hc n hX with rfl | rfl
          · exact .inl rfl
          · exact .inr rfl
      | false =>
        rw [hR] at hI
        have h1 : ∀ W, LtM W l u v → Calls Try.prog 9 #[.agg (ltA l u v)] W fun e w' => e = .returned (.tuple #[.string ⟨#[]⟩, .int .i64 1]) ∧ Below W.heap.size W w' := fun W h => put_no h hw.kind hf.a hf.p hR
        have h2 := fun W => got_any (w := W) (s := ⟨#[]⟩) (by decide)
        cases hX : getN (bytesN s) with
        | ok x =>
          rw [hX] at hG
          obtain ⟨e1, xr, xw⟩ := getN_only (bytesN_lt s) hX
          have fx := fine_right xw xr
          refine core_ny (x := x) hM h5 h0 h1 h2 hI hG (fun W u v h => ?_) (fun W u v h => ?_)
          · have := put_yes h xw fx.a fx.p xr
            rw [← e1, txt_bytes] at this
            exact this
          · rw [← (rightB_iff xw).2 xr]; exact is_any h xw.kind fx.a fx.p
        | error n =>
          rw [hX] at hG
          have hc := c_getN (bytesN s)
          refine core_nn (e0 := (n : Int)) hM h5 h0 h1 h2 hI hG (fun W u v h => put_no h zeroL_wf.kind (by decide) (by decide) zeroL_no) ?_
          rcases hc n hX with rfl | rfl
          · exact .inl rfl
          · exact .inr rfl

set_option maxRecDepth 100000 in
theorem lifted (os : Os) (started : os.Started) (H : Type) (enc : TypeId × Value → H) :
    ReturnsInHanded {} Try.checked os 5 .any (Rows.letterBackSpec.pre6 enc Try.prog Try.f5 Rows.letterBackRow.domain false) (Rows.letterBackSpec.post enc Try.prog Try.f5 false true false false) := by
  refine returnsInHanded_of_change (C := Try.checked) own started (by kernel_rfl) Try.func5
    (ChangeSpec.witness6 (enc := enc) (C := Try.checked) false ⟨#[], #[.agg #[.int .i64 0, .int .i64 0, .int .u8 0, .int .u8 0, .int .u8 0, .int .u8 0, .int .u8 0, .int .u8 0, .int .u8 0, .int .u8 0, .int .u8 0, .int .u8 0, .int .u8 0, .int .u8 0, .int .u8 0, .int .u8 0, .int .u8 0, .int .u8 0, .int .u8 0, .int .u8 0, .int .u8 0, .int .u8 0, .int .u64 0, .int .u8 0, .int .u8 0, .int .u8 0, .int .u8 0, .int .u8 0, .int .u8 0, .int .u8 0, .int .u8 0, .int .u8 0, .int .u8 0, .int .u8 0, .int .u8 0, .int .u8 0, .int .u8 0, .int .u8 0, .int .u8 0, .int .u8 0, .int .u8 0, .int .u8 0, .int .u8 0, .slice none 0 0, .bool false, .int .i64 0, .int .u8 0, .int .u8 0, .int .u8 0, .int .u8 0, .int .u8 0, .int .u8 0, .int .u8 0, .int .u8 0, .int .u8 0, .int .u8 0, .int .u8 0, .int .u8 0, .int .u8 0, .int .u8 0, .int .u8 0, .int .u8 0, .int .u8 0, .int .u8 0, .int .u8 0, .int .u8 0, .slice none 0 0], .string ⟨#[]⟩], []⟩ 8 (by kernel_rfl) (by kernel_rfl) (by kernel_rfl) (by kernel_rfl)) ?_
  intro W base args ds gs before hval0 hW hcnd _
  have hval : ∀ (j : Nat) t v, Try.f5.params[j]? = some t → args[j]? = some v → Value.okWide Try.prog W .any base t v := hval0
  have hW' := hW
  obtain ⟨p, q, hA0, hV, rfl, hfz, hnd⟩ := hW
  have hA : DataW.TrodAll enc Try.prog W 0 (fun _ => true) true Try.f5.params.toList args.toList ds p := hA0
  rw [Try.params5] at hA hval
  obtain ⟨v0, vs0, d0, ds0, p0, q0, hargs, rfl, rfl, h0, r0⟩ := trodAll_cons hA
  obtain ⟨v1, vs1, d1, ds1, p1, q1, rfl, rfl, rfl, h1, r1⟩ := trodAll_cons r0
  obtain ⟨rfl, rfl, rfl⟩ := trodAll_nil r1
  obtain rfl : args = #[v0, v1] := by cases args; simp_all
  obtain ⟨rfl, rfl⟩ := trodVars_none hV
  have k0 := h0
  have lt0 : ∀ x ∈ p0, x.block < W.heap.size := by obtain ⟨m, hm⟩ := k0; exact DataW.trod_lt m _ _ _ hm
  obtain ⟨l0, a0, b0, rfl, lm0, lw0⟩ := open_let (hval 0 30 v0 rfl rfl) h0
  have k1 := h1
  have lt1 : ∀ x ∈ p1, x.block < W.heap.size := by obtain ⟨m, hm⟩ := k1; exact DataW.trod_lt m _ _ _ hm
  obtain ⟨n1, rfl, _, _, ws1⟩ := open_string Try.underlying9 (hval 1 9 v1 rfl rfl) h1
  clear hA0 hval0
  refine (walk lm0 lw0 n1 ws1).mono fun e W' ⟨he, bel⟩ => ?_
  subst he
  exact ⟨_, rfl, _, _, _, [], _, [], hW', trodAll_mk1 (shut_bool Try.underlying4 _), (trodAll_cons_mk (Below.trod laidOut (by kernel_rfl) (of_decide_eq_true (by kernel_rfl)) k0 bel lt0) (trodAll_cons_mk (Below.trod laidOut (by kernel_rfl) (of_decide_eq_true (by kernel_rfl)) k1 bel lt1) trodAll_mk0)), rfl, bel.frame _, fun h => by cases h⟩

theorem proved : Rows.LetterBackSaid :=
  OpenClaim.holds_of_wide 5 Try.f5 rfl rfl rfl rfl rfl rfl rfl ⟨rfl, rfl, rfl, rfl, rfl⟩ rfl rfl rfl rfl rfl (by kernel_rfl) Try.func5 (by kernel_rfl)
    (of_decide_eq_true (by kernel_rfl)) (by unfold Func.isWrapper; first | (rw [if_pos (by decide +kernel)]; kernel_rfl) | (rw [if_neg (by decide +kernel)]; exact ⟨rfl, rfl⟩))
    (fun os started H enc _ => lifted os started H enc)

end Go.Proofs.Ytplcdjmidelboaa.BackLaw
