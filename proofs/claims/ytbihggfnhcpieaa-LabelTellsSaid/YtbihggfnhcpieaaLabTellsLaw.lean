/- LabelTells: for any two labels, key, number and text the call returns true: the program and the document tell the same label of a key and of a text, and whether a label covers the key, and is within the other one. No condition. -/
import Derived.Test.YtbihggfnhcpieaaLabNamed
import Derived.Test.YtbihggfnhcpieaaLabOpen
import Derived.Test.YtbihggfnhcpieaaOwn
namespace Go.Proofs.Ytbihggfnhcpieaa.LabTellsLaw
open Go.ChangeShapes Go.WideShapes Go.ChangeAt Go.RowKit Go.Sort
open Go.ChangeMaps (open_string shut_string)
set_option linter.unusedVariables false

theorem long (n : Int) (b : Nat) (m : Int) (c : Nat) (key : Nat) (k : Int) (s : ByteArray) (w : World) (h : 200 < s.size) (hs : s.size ≤ 9223372036854775807) : Calls Try.prog 4 #[labv n b, labv m c, .int .u64 (key : Int), .int .i64 k, .string s] w fun e w' => e = .returned (.bool true) ∧ Below w.heap.size w w' := by
  rw [labv_eq, labv_eq]
  go_enter Try.func4, Try.ntmps4
  go_wp2
  go_ret
  exact ⟨rfl, ((Below.refl _ _).alloc (Nat.le_refl _) _).alloc (by simp) _⟩

set_option maxRecDepth 100000 in
set_option maxHeartbeats 4000000 in
theorem core (n : Int) (b : Nat) (m : Int) (c : Nat) (key : Nat) (k : Int) (s : ByteArray) (m1 m2 : Int) (c1 c2 : Nat) (e1 e2 : Int) (r1 r2 : Bool) (w : World) (h : s.size ≤ 200)
    (h1 : Gives Try.prog 26 #[.int .u64 (key : Int), .int .i64 k] (.tuple #[.agg (labc m1 c1), .int .i64 e1]))
    (h2 : Gives Try.prog 27 #[.int .u64 (key : Int), .int .i64 k] (.tuple #[.agg (labc m1 c1), .int .i64 e1]))
    (h3 : Gives Try.prog 28 #[.string s] (.tuple #[.agg (labc m2 c2), .int .i64 e2]))
    (h4 : Gives Try.prog 29 #[.string s] (.tuple #[.agg (labc m2 c2), .int .i64 e2]))
    (h5 : Gives Try.prog 30 #[.agg (labc n b), .int .u64 (key : Int)] (.bool r1))
    (h6 : Gives Try.prog 31 #[.agg (labc n b), .int .u64 (key : Int)] (.bool r1))
    (h7 : Gives Try.prog 32 #[.agg (labc n b), .agg (labc m c)] (.bool r2))
    (h8 : Gives Try.prog 33 #[.agg (labc n b), .agg (labc m c)] (.bool r2))
    (h9 : Gives Try.prog 23 #[] (.bool true)) :
    Calls Try.prog 4 #[labv n b, labv m c, .int .u64 (key : Int), .int .i64 k, .string s] w fun e w' => e = .returned (.bool true) ∧ Below w.heap.size w w' := by
  rw [labv_eq, labv_eq]
  go_enter Try.func4, Try.ntmps4
  go_upto_region 3 with (fail)
  have L0 := (Blk.new w (labc n b) 24).alloc (.cells (labc m c) 24)
  have L1 := Blk.new (w.alloc (.cells (labc n b) 24)) (labc m c) 24
  have B0 := (((Below.refl w.heap.size w).alloc (Nat.le_refl _) (.cells (labc n b) 24)).alloc (by simp) (.cells (labc m c) 24))
  simp only [World.size_alloc] at L0 L1 B0
  generalize World.alloc _ _ = W0 at *
  go_upto_region 4 with (first | (refine p_loadL rfl _ rfl _ rfl _ _ (by first | with_reducible exact L0 | with_reducible exact L1) ?_) | (go_at_call 26; (with_reducible refine (h1.calls _).mono ?_); rintro e w1 ⟨rfl, hb⟩) | (refine wpList_store_newrow rfl 24 _ _ rfl (labc m1 c1) rfl rfl infoLab (lab_all _ _) rfl ?_))
  replace L0 := (L0.below hb L0.lt).alloc (.cells (labc m1 c1) 24)
  replace L1 := (L1.below hb L1.lt).alloc (.cells (labc m1 c1) 24)
  replace B0 := (B0.trans (hb.mono B0.size)).alloc (Nat.le_trans B0.size hb.size) (.cells (labc m1 c1) 24)
  have A1 := Blk.new w1 (labc m1 c1) 24
  clear hb
  generalize w1.heap.size = g1 at *
  generalize w1.alloc _ = W1 at *
  go_upto_region 5 with (first | (refine p_loadL rfl _ rfl _ rfl _ _ (by first | with_reducible exact L0 | with_reducible exact L1 | with_reducible exact A1) ?_) | (go_at_call 27; (with_reducible refine (h2.calls _).mono ?_); rintro e w2 ⟨rfl, hb⟩) | (refine wpList_store_newrow rfl 24 _ _ rfl (labc m1 c1) rfl rfl infoLab (lab_all _ _) rfl ?_))
  replace L0 := (L0.below hb L0.lt).alloc (.cells (labc m1 c1) 24)
  replace L1 := (L1.below hb L1.lt).alloc (.cells (labc m1 c1) 24)
  replace A1 := (A1.below hb A1.lt).alloc (.cells (labc m1 c1) 24)
  replace B0 := (B0.trans (hb.mono B0.size)).alloc (Nat.le_trans B0.size hb.size) (.cells (labc m1 c1) 24)
  have A2 := Blk.new w2 (labc m1 c1) 24
  clear hb
  generalize w2.heap.size = g2 at *
  generalize w2.alloc _ = W2 at *
  go_upto_region 6 with (first | (refine p_loadL rfl _ rfl _ rfl _ _ (by first | with_reducible exact L0 | with_reducible exact L1 | with_reducible exact A1 | with_reducible exact A2) ?_) | (go_at_call 28; (with_reducible refine (h3.calls _).mono ?_); rintro e w3 ⟨rfl, hb⟩) | (refine wpList_store_newrow rfl 24 _ _ rfl (labc m2 c2) rfl rfl infoLab (lab_all _ _) rfl ?_))
  replace L0 := (L0.below hb L0.lt).alloc (.cells (labc m2 c2) 24)
  replace L1 := (L1.below hb L1.lt).alloc (.cells (labc m2 c2) 24)
  replace A1 := (A1.below hb A1.lt).alloc (.cells (labc m2 c2) 24)
  replace A2 := (A2.below hb A2.lt).alloc (.cells (labc m2 c2) 24)
  replace B0 := (B0.trans (hb.mono B0.size)).alloc (Nat.le_trans B0.size hb.size) (.cells (labc m2 c2) 24)
  have A3 := Blk.new w3 (labc m2 c2) 24
  clear hb
  generalize w3.heap.size = g3 at *
  generalize w3.alloc _ = W3 at *
  go_upto_region 7 with (first | (refine p_loadL rfl _ rfl _ rfl _ _ (by first | with_reducible exact L0 | with_reducible exact L1 | with_reducible exact A1 | with_reducible exact A2 | with_reducible exact A3) ?_) | (go_at_call 29; (with_reducible refine (h4.calls _).mono ?_); rintro e w4 ⟨rfl, hb⟩) | (refine wpList_store_newrow rfl 24 _ _ rfl (labc m2 c2) rfl rfl infoLab (lab_all _ _) rfl ?_))
  replace L0 := (L0.below hb L0.lt).alloc (.cells (labc m2 c2) 24)
  replace L1 := (L1.below hb L1.lt).alloc (.cells (labc m2 c2) 24)
  replace A1 := (A1.below hb A1.lt).alloc (.cells (labc m2 c2) 24)
  replace A2 := (A2.below hb A2.lt).alloc (.cells (labc m2 c2) 24)
  replace A3 := (A3.below hb A3.lt).alloc (.cells (labc m2 c2) 24)
  replace B0 := (B0.trans (hb.mono B0.size)).alloc (Nat.le_trans B0.size hb.size) (.cells (labc m2 c2) 24)
  have A4 := Blk.new w4 (labc m2 c2) 24
  clear hb
  generalize w4.heap.size = g4 at *
  generalize w4.alloc _ = W4 at *
  refine wp_region_quiet_below (by kernel_rfl) (by kernel_rfl) ?_
  repeat (first
    | go_big_quiet_skip
    | (go_big_quiet_want
       first
       | (first | refine q_loadL _ rfl _ rfl _ _ (by first | with_reducible exact L0 | with_reducible exact L1 | with_reducible exact A1 | with_reducible exact A2 | with_reducible exact A3 | with_reducible exact A4) ?_ | refine q_eqlL _ _ rfl _ _ _ _ rfl rfl (eqL_self _ _) ?_
          simp only [Act.put, List.setIfInBounds_toArray, List.set_cons_succ, List.set_cons_zero]
          go_big_quiet_on)
       | (go_big_quiet_op
          first | go_big_quiet_on | go_big_quiet_call (first | with_reducible exact h5.grown _ _ | with_reducible exact h6.grown _ _ | with_reducible exact h7.grown _ _ | with_reducible exact h8.grown _ _ | with_reducible exact h9.grown _ _))))
  refine wpQuiet_nil ?_
  intro _ hw'
  obtain ⟨⟨dq, osq⟩, hw''⟩ := hw'
  subst hw''
  replace B0 := B0.trans ((below_regrown _ dq osq).mono B0.size)
  clear L0
  clear L1
  clear A1
  clear A2
  clear A3
  clear A4
  go_wp2
  go_ret
  exact ⟨rfl, B0⟩

theorem walk (n : Int) (b : Nat) (o : (-9223372036854775808 ≤ n ∧ n ≤ 9223372036854775807) ∧ b < 18446744073709551616) (m : Int) (c : Nat) (o' : (-9223372036854775808 ≤ m ∧ m ≤ 9223372036854775807) ∧ c < 18446744073709551616)
    (key : Nat) (hk : key < 18446744073709551616) (k : Int) (ok : -9223372036854775808 ≤ k ∧ k ≤ 9223372036854775807) (s : ByteArray) (w : World) (hs : s.size ≤ 9223372036854775807) : Calls Try.prog 4 #[labv n b, labv m c, .int .u64 (key : Int), .int .i64 k, .string s] w fun e w' => e = .returned (.bool true) ∧ Below w.heap.size w w' := by
  rcases Nat.lt_or_ge 200 s.size with h | h
  · exact long n b m c key k s w h hs
  · obtain ⟨⟨h1, h2⟩, hb⟩ := o
    obtain ⟨⟨h3, h4⟩, hc⟩ := o'
    obtain ⟨m1, c1, e1, p1, q1⟩ := both_of key k hk ok.1 ok.2
    obtain ⟨m2, c2, e2, p2, q2⟩ := both_parse s hs
    exact core n b m c key k s m1 m2 c1 c2 e1 e2 (coversB n b key) (withinB n b m c) w h p1 q1 p2 q2 (fun w => covers_any n b key w h1 h2 hb hk) (fun w => refCovers_any n b key w hb hk) (fun w => within_any n b m c w h1 h2 hb h3 h4 hc) (fun w => refWithin_any n b m c w hb hc) named_all

set_option maxRecDepth 100000 in
theorem lifted (os : Os) (started : os.Started) (H : Type) (enc : TypeId × Value → H) :
    ReturnsInHanded {} Try.checked os 4 .any (Rows.labelTellsSpec.pre6 enc Try.prog Try.f4 Rows.labelTellsRow.domain false) (Rows.labelTellsSpec.post enc Try.prog Try.f4 false true false false) := by
  refine returnsInHanded_of_change (C := Try.checked) own started (by kernel_rfl) Try.func4
    (ChangeSpec.witness6 (enc := enc) (C := Try.checked) false ⟨#[], #[.agg #[.int .i64 0, .int .u64 0], .agg #[.int .i64 0, .int .u64 0], .int .u64 0, .int .i64 0, .string ⟨#[]⟩], []⟩ 8 (by kernel_rfl) (by kernel_rfl) (by kernel_rfl) (by kernel_rfl)) ?_
  intro W base args ds gs before hval0 hW hcnd _
  have hval : ∀ (j : Nat) t v, Try.f4.params[j]? = some t → args[j]? = some v → Value.okWide Try.prog W .any base t v := hval0
  have hW' := hW
  obtain ⟨p, q, hA0, hV, rfl, hfz, hnd⟩ := hW
  have hA : DataW.TrodAll enc Try.prog W 0 (fun _ => true) true Try.f4.params.toList args.toList ds p := hA0
  rw [Try.params4] at hA hval
  obtain ⟨v0, vs0, d0, ds0, p0, q0, hargs, rfl, rfl, h0, r0⟩ := trodAll_cons hA
  obtain ⟨v1, vs1, d1, ds1, p1, q1, rfl, rfl, rfl, h1, r1⟩ := trodAll_cons r0
  obtain ⟨v2, vs2, d2, ds2, p2, q2, rfl, rfl, rfl, h2, r2⟩ := trodAll_cons r1
  obtain ⟨v3, vs3, d3, ds3, p3, q3, rfl, rfl, rfl, h3, r3⟩ := trodAll_cons r2
  obtain ⟨v4, vs4, d4, ds4, p4, q4, rfl, rfl, rfl, h4, r4⟩ := trodAll_cons r3
  obtain ⟨rfl, rfl, rfl⟩ := trodAll_nil r4
  obtain rfl : args = #[v0, v1, v2, v3, v4] := by cases args; simp_all
  obtain ⟨rfl, rfl⟩ := trodVars_none hV
  have k0 := h0
  have lt0 : ∀ x ∈ p0, x.block < W.heap.size := by obtain ⟨m, hm⟩ := k0; exact DataW.trod_lt m _ _ _ hm
  obtain ⟨n0, b0, ok0, rfl⟩ := open_label (hval 0 24 v0 rfl rfl) h0
  have k1 := h1
  have lt1 : ∀ x ∈ p1, x.block < W.heap.size := by obtain ⟨m, hm⟩ := k1; exact DataW.trod_lt m _ _ _ hm
  obtain ⟨n1, b1, ok1, rfl⟩ := open_label (hval 1 24 v1 rfl rfl) h1
  have k2 := h2
  have lt2 : ∀ x ∈ p2, x.block < W.heap.size := by obtain ⟨m, hm⟩ := k2; exact DataW.trod_lt m _ _ _ hm
  obtain ⟨n2, ok2, rfl⟩ := open_u64 (hval 2 22 v2 rfl rfl) h2
  have k3 := h3
  have lt3 : ∀ x ∈ p3, x.block < W.heap.size := by obtain ⟨m, hm⟩ := k3; exact DataW.trod_lt m _ _ _ hm
  obtain ⟨n3, ok3, rfl⟩ := open_i64 (hval 3 3 v3 rfl rfl) h3
  have k4 := h4
  have lt4 : ∀ x ∈ p4, x.block < W.heap.size := by obtain ⟨m, hm⟩ := k4; exact DataW.trod_lt m _ _ _ hm
  obtain ⟨n4, rfl, _, _, ws4⟩ := open_string Try.underlying9 (hval 4 9 v4 rfl rfl) h4
  clear hA0 hval0
  refine (walk n0 b0 ok0 n1 b1 ok1 n2 ok2 n3 ok3 n4 W ws4).mono fun e W' ⟨he, bel⟩ => ?_
  subst he
  exact ⟨_, rfl, _, _, _, [], _, [], hW', trodAll_mk1 (shut_bool Try.underlying4 _), (trodAll_cons_mk (Below.trod laidOut (by kernel_rfl) (of_decide_eq_true (by kernel_rfl)) k0 bel lt0) (trodAll_cons_mk (Below.trod laidOut (by kernel_rfl) (of_decide_eq_true (by kernel_rfl)) k1 bel lt1) (trodAll_cons_mk (Below.trod laidOut (by kernel_rfl) (of_decide_eq_true (by kernel_rfl)) k2 bel lt2) (trodAll_cons_mk (Below.trod laidOut (by kernel_rfl) (of_decide_eq_true (by kernel_rfl)) k3 bel lt3) (trodAll_cons_mk (Below.trod laidOut (by kernel_rfl) (of_decide_eq_true (by kernel_rfl)) k4 bel lt4) trodAll_mk0))))), rfl, bel.frame _, fun h => by cases h⟩

theorem proved : Rows.LabelTellsSaid :=
  OpenClaim.holds_of_wide 4 Try.f4 rfl rfl rfl rfl rfl rfl rfl ⟨rfl, rfl, rfl, rfl, rfl⟩ rfl rfl rfl rfl rfl (by kernel_rfl) Try.func4 (by kernel_rfl)
    (of_decide_eq_true (by kernel_rfl)) (by unfold Func.isWrapper; first | (rw [if_pos (by decide +kernel)]; kernel_rfl) | (rw [if_neg (by decide +kernel)]; exact ⟨rfl, rfl⟩))
    (fun os started H enc _ => lifted os started H enc)
end Go.Proofs.Ytbihggfnhcpieaa.LabTellsLaw
