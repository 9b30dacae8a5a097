/- LabelSide: for every key and number the call returns true: labels of one length stand side by side, and a key's label covers it. No condition. -/
import Derived.Test.YtbihggfnhcpieaaLabNamed
import Derived.Test.YtbihggfnhcpieaaLabOpen
import Derived.Test.YtbihggfnhcpieaaOwn
namespace Go.Proofs.Ytbihggfnhcpieaa.LabSideLaw
open Go.ChangeShapes Go.WideShapes Go.ChangeAt Go.RowKit Go.Sort
open Go.ChangeMaps (open_string shut_string)
set_option linter.unusedVariables false

theorem o_eqlZ {o : Oper} {a : Act} {w : World} {K : Act → World → Prop} {Q : Exit → Act → World → Prop} (x y : Operand) (ho : o.op = .binOp .eql 24 x y 24)
    (hx : a.eval x = .agg (labc 0 0)) (hy : a.eval y = .agg #[.int .i64 0, .int .u64 0]) (h : K (a.put o.dst (.bool true)) w) : o.wp Try.prog a w K Q := o_eqlL x y ho 0 0 0 0 hx hy (eqL_self _ _) h

set_option maxRecDepth 100000 in
set_option maxHeartbeats 4000000 in
theorem bad (key : Nat) (n : Int) (w : World) (hl : n < 0 ∨ (¬ n < 0 ∧ 64 < n))
    (h1 : Gives Try.prog 26 #[.int .u64 (key : Int), .int .i64 n] (.tuple #[.agg (labc 0 0), .int .i64 1]))
    (hn : Gives Try.prog 23 #[] (.bool true)) : Calls Try.prog 7 #[.int .u64 (key : Int), .int .i64 n] w fun e w' => e = .returned (.bool true) ∧ Below w.heap.size w w' := by
  rcases hl with hl | ⟨hl, hl'⟩
  all_goals
    go_enter Try.func7, Try.ntmps7
    have B0 := Below.refl w.heap.size w
    go_upto_region 2 with (first | (go_at_call 26; (with_reducible refine (h1.calls _).mono ?_); rintro e w1 ⟨rfl, hb⟩) | (refine wpList_store_newrow rfl 24 _ _ rfl (labc 0 0) rfl rfl infoLab (lab_all _ _) rfl ?_))
    replace B0 := (B0.trans (hb.mono B0.size)).alloc (Nat.le_trans B0.size hb.size) (.cells (labc 0 0) 24)
    have A1 := Blk.new w1 (labc 0 0) 24
    clear hb
    generalize w1.heap.size = g1 at *
    generalize w1.alloc _ = W1 at *
    go_wp2_with (first | (go_at_call 23; (with_reducible refine (hn.calls _).mono ?_); rintro e w2 ⟨rfl, hb⟩; replace A1 := A1.below hb A1.lt; replace B0 := B0.trans (hb.mono B0.size); clear hb) | (go_guarded; refine o_loadL _ rfl _ rfl _ _ (by first | with_reducible exact A1) ?_; simp only [Act.put, List.setIfInBounds_toArray, List.set_cons_succ, List.set_cons_zero]) | (go_guarded; refine o_eqlZ _ _ rfl rfl rfl ?_; simp only [Act.put, List.setIfInBounds_toArray, List.set_cons_succ, List.set_cons_zero]))
    go_ret
    exact ⟨rfl, B0⟩

set_option maxRecDepth 100000 in
set_option maxHeartbeats 4000000 in
theorem last (key : Nat) (n : Int) (b hi : Nat) (w : World) (hm : ((hi : Int) == 18446744073709551615) = true) (hnn : 0 ≤ n ∧ n ≤ 64) (hbk : b ≤ key) (hkh : key ≤ hi)
    (h1 : Gives Try.prog 26 #[.int .u64 (key : Int), .int .i64 n] (.tuple #[.agg (labc n b), .int .i64 0]))
    (h2 : Gives Try.prog 15 #[.agg (labc n b)] (.tuple #[.int .u64 (b : Int), .int .u64 (hi : Int), .int .i64 0]))
    (h4 : Gives Try.prog 30 #[.agg (labc n b), .int .u64 (key : Int)] (.bool true))
    (hn : Gives Try.prog 23 #[] (.bool true))
    (h3 : Gives Try.prog 17 #[.agg (labc n b)] (.tuple #[.int .u64 0, .bool false])) : Calls Try.prog 7 #[.int .u64 (key : Int), .int .i64 n] w fun e w' => e = .returned (.bool true) ∧ Below w.heap.size w w' := by
  have g1 : 0 ≤ n := hnn.1
  have g2 : n ≤ 64 := hnn.2
  clear hnn
  go_enter Try.func7, Try.ntmps7
  have B0 := Below.refl w.heap.size w
  go_upto_region 2 with (first | (go_at_call 26; (with_reducible refine (h1.calls _).mono ?_); rintro e w1 ⟨rfl, hb⟩) | (refine wpList_store_newrow rfl 24 _ _ rfl (labc n b) rfl rfl infoLab (lab_all _ _) rfl ?_))
  replace B0 := (B0.trans (hb.mono B0.size)).alloc (Nat.le_trans B0.size hb.size) (.cells (labc n b) 24)
  have A1 := Blk.new w1 (labc n b) 24
  clear hb
  generalize w1.heap.size = g1 at *
  generalize w1.alloc _ = W1 at *
  go_upto_region 5 with (first | (refine p_loadL rfl _ rfl _ rfl _ _ (by first | with_reducible exact A1) ?_) | (go_at_call 15; (with_reducible refine (h2.calls _).mono ?_); rintro e w2 ⟨rfl, hb⟩))
  replace A1 := A1.below hb A1.lt
  replace B0 := B0.trans (hb.mono B0.size)
  clear hb
  go_upto_region 6 with (first | (refine p_loadL rfl _ rfl _ rfl _ _ (by first | with_reducible exact A1) ?_) | (go_at_call 17; (with_reducible refine (h3.calls _).mono ?_); rintro e w3 ⟨rfl, hb⟩))
  replace A1 := A1.below hb A1.lt
  replace B0 := B0.trans (hb.mono B0.size)
  clear hb
  have d0 := lab0 A1
  go_upto_region 8 with (first | (go_at_call 30; (with_reducible refine (h4.calls _).mono ?_); rintro e w4 ⟨rfl, hb⟩; replace A1 := A1.below hb A1.lt; replace B0 := B0.trans (hb.mono B0.size); clear hb) | (go_guarded; refine o_loadL _ rfl _ rfl _ _ (by first | with_reducible exact A1) ?_; simp only [Act.put, List.setIfInBounds_toArray, List.set_cons_succ, List.set_cons_zero]))
  clear d0
  go_wp2_with (first | (go_at_call 23; (with_reducible refine (hn.calls _).mono ?_); rintro e w5 ⟨rfl, hb⟩; replace A1 := A1.below hb A1.lt; replace B0 := B0.trans (hb.mono B0.size); clear hb) | (go_guarded; refine o_loadL _ rfl _ rfl _ _ (by first | with_reducible exact A1) ?_; simp only [Act.put, List.setIfInBounds_toArray, List.set_cons_succ, List.set_cons_zero]))
  go_ret
  exact ⟨rfl, B0⟩

set_option maxRecDepth 100000 in
set_option maxHeartbeats 4000000 in
theorem more (key : Nat) (n : Int) (b hi c hj : Nat) (w : World) (hc : (c : Int) = (hi : Int) + 1) (hlt : hi < 18446744073709551615) (hnn : 0 ≤ n ∧ n ≤ 64) (hbk : b ≤ key) (hkh : key ≤ hi)
    (h1 : Gives Try.prog 26 #[.int .u64 (key : Int), .int .i64 n] (.tuple #[.agg (labc n b), .int .i64 0]))
    (h2 : Gives Try.prog 15 #[.agg (labc n b)] (.tuple #[.int .u64 (b : Int), .int .u64 (hi : Int), .int .i64 0]))
    (h4 : Gives Try.prog 30 #[.agg (labc n b), .int .u64 (key : Int)] (.bool true))
    (hn : Gives Try.prog 23 #[] (.bool true))
    (h3 : Gives Try.prog 17 #[.agg (labc n b)] (.tuple #[.int .u64 (c : Int), .bool true]))
    (h5 : Gives Try.prog 26 #[.int .u64 (c : Int), .int .i64 n] (.tuple #[.agg (labc n c), .int .i64 0]))
    (h6 : Gives Try.prog 15 #[.agg (labc n c)] (.tuple #[.int .u64 (c : Int), .int .u64 (hj : Int), .int .i64 0]))
    (h7 : Gives Try.prog 32 #[.agg (labc n b), .agg (labc n c)] (.bool false)) : Calls Try.prog 7 #[.int .u64 (key : Int), .int .i64 n] w fun e w' => e = .returned (.bool true) ∧ Below w.heap.size w w' := by
  have e1 : ((c : Int) == (hi : Int) + 1) = true := by rw [beq_iff_eq]; exact hc
  clear hc
  have g1 : 0 ≤ n := hnn.1
  have g2 : n ≤ 64 := hnn.2
  clear hnn
  go_enter Try.func7, Try.ntmps7
  have B0 := Below.refl w.heap.size w
  go_upto_region 2 with (first | (go_at_call 26; (with_reducible refine (h1.calls _).mono ?_); rintro e w1 ⟨rfl, hb⟩) | (refine wpList_store_newrow rfl 24 _ _ rfl (labc n b) rfl rfl infoLab (lab_all _ _) rfl ?_))
  replace B0 := (B0.trans (hb.mono B0.size)).alloc (Nat.le_trans B0.size hb.size) (.cells (labc n b) 24)
  have A1 := Blk.new w1 (labc n b) 24
  clear hb
  generalize w1.heap.size = g1 at *
  generalize w1.alloc _ = W1 at *
  go_upto_region 5 with (first | (refine p_loadL rfl _ rfl _ rfl _ _ (by first | with_reducible exact A1) ?_) | (go_at_call 15; (with_reducible refine (h2.calls _).mono ?_); rintro e w2 ⟨rfl, hb⟩))
  replace A1 := A1.below hb A1.lt
  replace B0 := B0.trans (hb.mono B0.size)
  clear hb
  go_upto_region 6 with (first | (refine p_loadL rfl _ rfl _ rfl _ _ (by first | with_reducible exact A1) ?_) | (go_at_call 17; (with_reducible refine (h3.calls _).mono ?_); rintro e w3 ⟨rfl, hb⟩))
  replace A1 := A1.below hb A1.lt
  replace B0 := B0.trans (hb.mono B0.size)
  clear hb
  have d0 := lab0 A1
  go_upto_region 8 with (first | (go_at_call 30; (with_reducible refine (h4.calls _).mono ?_); rintro e w4 ⟨rfl, hb⟩; replace A1 := A1.below hb A1.lt; replace B0 := B0.trans (hb.mono B0.size); clear hb) | (go_guarded; refine o_loadL _ rfl _ rfl _ _ (by first | with_reducible exact A1) ?_; simp only [Act.put, List.setIfInBounds_toArray, List.set_cons_succ, List.set_cons_zero]))
  clear d0
  go_upto_region 11 with (first | (refine p_loadL rfl _ rfl _ rfl _ _ (by first | with_reducible exact A1) ?_) | (go_at_call 26; (with_reducible refine (h5.calls _).mono ?_); rintro e w5 ⟨rfl, hb⟩) | (refine wpList_store_newrow rfl 24 _ _ rfl (labc n c) rfl rfl infoLab (lab_all _ _) rfl ?_))
  replace A1 := (A1.below hb A1.lt).alloc (.cells (labc n c) 24)
  replace B0 := (B0.trans (hb.mono B0.size)).alloc (Nat.le_trans B0.size hb.size) (.cells (labc n c) 24)
  have A2 := Blk.new w5 (labc n c) 24
  clear hb
  generalize w5.heap.size = g5 at *
  generalize w5.alloc _ = W5 at *
  go_upto_region 12 with (first | (refine p_loadL rfl _ rfl _ rfl _ _ (by first | with_reducible exact A1 | with_reducible exact A2) ?_) | (go_at_call 15; (with_reducible refine (h6.calls _).mono ?_); rintro e w6 ⟨rfl, hb⟩))
  replace A1 := A1.below hb A1.lt
  replace A2 := A2.below hb A2.lt
  replace B0 := B0.trans (hb.mono B0.size)
  clear hb
  go_wp2_with (first | (go_at_call 23; (with_reducible refine (hn.calls _).mono ?_); rintro e w7 ⟨rfl, hb⟩; replace A1 := A1.below hb A1.lt; replace A2 := A2.below hb A2.lt; replace B0 := B0.trans (hb.mono B0.size); clear hb) | (go_at_call 32; (with_reducible refine (h7.calls _).mono ?_); rintro e w8 ⟨rfl, hb⟩; replace A1 := A1.below hb A1.lt; replace A2 := A2.below hb A2.lt; replace B0 := B0.trans (hb.mono B0.size); clear hb) | (go_guarded; refine o_loadL _ rfl _ rfl _ _ (by first | with_reducible exact A1 | with_reducible exact A2) ?_; simp only [Act.put, List.setIfInBounds_toArray, List.set_cons_succ, List.set_cons_zero]))
  go_ret
  exact ⟨rfl, B0⟩

theorem walk (key : Nat) (hk : key < 18446744073709551616) (n : Int) (ok : -9223372036854775808 ≤ n ∧ n ≤ 9223372036854775807) (w : World) : Calls Try.prog 7 #[.int .u64 (key : Int), .int .i64 n] w fun e w' => e = .returned (.bool true) ∧ Below w.heap.size w w' := by
  by_cases hl : 0 ≤ n ∧ n ≤ 64
  · obtain ⟨m, rfl⟩ := Int.eq_ofNat_of_zero_le hl.1
    have hm : m ≤ 64 := by omega
    have hlow : lowB m (cutN m key) = true := lowB_iff.2 (cutN_mod m key)
    have hca := cutN_add m key
    have hg := gap_pos m
    have hlt := Nat.mod_lt key hg
    have hb : cutN m key < 18446744073709551616 := by omega
    have hr := lab_room hb hlow
    have p1 := fun w => ofL_yes key m w hm hk
    have p4 : Gives Try.prog 30 #[.agg (labc m (cutN m key)), .int .u64 (key : Int)] (.bool true) := fun w => by
      have h := covers_yes m (cutN m key) key w hm hb hk hlow
      rw [decide_eq_true rfl] at h
      exact h
    have hm0 := cutN_mod m key
    have p2 := fun w => span_yes m (cutN m key) w hm hb hlow
    have hbk : cutN m key ≤ key := by omega
    have hkh : key ≤ cutN m key + (gap m - 1) := by omega
    generalize cutN m key = b at *
    by_cases hmax : b + (gap m - 1) = 18446744073709551615
    · exact last key m b _ w (by rw [hmax]; rfl) hl hbk hkh p1 p2 p4 named_all (fun w => next_last m b _ w hm hb hlow rfl (by rw [hmax]; rfl))
    · have hmul : (b + gap m) % gap m = 0 := by rw [Nat.add_mod_right, hm0]
      have hc : b + gap m < 18446744073709551616 := by omega
      have hlow2 : lowB m (b + gap m) = true := lowB_iff.2 hmul
      have p5 : Gives Try.prog 26 #[.int .u64 ((b + gap m : Nat) : Int), .int .i64 (m : Int)] (.tuple #[.agg (labc m (b + gap m)), .int .i64 0]) := fun w => by
        have h := ofL_yes (b + gap m) m w hm hc
        rw [cutN_self m _ hmul] at h
        exact h
      have p3 : Gives Try.prog 17 #[.agg (labc m b)] (.tuple #[.int .u64 ((b + gap m : Nat) : Int), .bool true]) := fun w => by
        have h := next_yes m b (b + (gap m - 1)) w hm hb hlow rfl (by rw [beq_eq_false_iff_ne]; omega) (by omega)
        rw [show (((b + (gap m - 1) : Nat) : Int) + 1) = ((b + gap m : Nat) : Int) by omega] at h
        exact h
      have p7 : Gives Try.prog 32 #[.agg (labc m b), .agg (labc m (b + gap m))] (.bool false) := fun w => by
        have h := within_any m b m (b + gap m) w (by omega) (by omega) hb (by omega) (by omega) hc
        have e : withinB m b m (b + gap m) = false := by
          unfold withinB coversB
          have : decide (cutN (m : Int).toNat b = b + gap m) = false := by
            rw [decide_eq_false_iff_not]
            have := cutN_le (m : Int).toNat b
            omega
          rw [this]; simp
        rw [e] at h
        exact h
      exact more key m b (b + (gap m - 1)) (b + gap m) _ w (by omega) (by omega) hl hbk hkh p1 p2 p4 named_all p3 p5 (fun w => span_yes m (b + gap m) w hm hc hlow2) p7
  · exact bad key n w (by omega) (fun w => ofL_no key n w ok.1 ok.2 (lenB_no hl)) named_all

set_option maxRecDepth 100000 in
theorem lifted (os : Os) (started : os.Started) (H : Type) (enc : TypeId × Value → H) :
    ReturnsInHanded {} Try.checked os 7 .any (Rows.labelSideSpec.pre6 enc Try.prog Try.f7 Rows.labelSideRow.domain false) (Rows.labelSideSpec.post enc Try.prog Try.f7 false true false false) := by
  refine returnsInHanded_of_change (C := Try.checked) own started (by kernel_rfl) Try.func7
    (ChangeSpec.witness6 (enc := enc) (C := Try.checked) false ⟨#[], #[.int .u64 0, .int .i64 0], []⟩ 8 (by kernel_rfl) (by kernel_rfl) (by kernel_rfl) (by kernel_rfl)) ?_
  intro W base args ds gs before hval0 hW hcnd _
  have hval : ∀ (j : Nat) t v, Try.f7.params[j]? = some t → args[j]? = some v → Value.okWide Try.prog W .any base t v := hval0
  have hW' := hW
  obtain ⟨p, q, hA0, hV, rfl, hfz, hnd⟩ := hW
  have hA : DataW.TrodAll enc Try.prog W 0 (fun _ => true) true Try.f7.params.toList args.toList ds p := hA0
  rw [Try.params7] at hA hval
  obtain ⟨v0, vs0, d0, ds0, p0, q0, hargs, rfl, rfl, h0, r0⟩ := trodAll_cons hA
  obtain ⟨v1, vs1, d1, ds1, p1, q1, rfl, rfl, rfl, h1, r1⟩ := trodAll_cons r0
  obtain ⟨rfl, rfl, rfl⟩ := trodAll_nil r1
  obtain rfl : args = #[v0, v1] := by cases args; simp_all
  obtain ⟨rfl, rfl⟩ := trodVars_none hV
  have k0 := h0
  have lt0 : ∀ x ∈ p0, x.block < W.heap.size := by obtain ⟨m, hm⟩ := k0; exact DataW.trod_lt m _ _ _ hm
  obtain ⟨n0, ok0, rfl⟩ := open_u64 (hval 0 22 v0 rfl rfl) h0
  have k1 := h1
  have lt1 : ∀ x ∈ p1, x.block < W.heap.size := by obtain ⟨m, hm⟩ := k1; exact DataW.trod_lt m _ _ _ hm
  obtain ⟨n1, ok1, rfl⟩ := open_i64 (hval 1 3 v1 rfl rfl) h1
  clear hA0 hval0
  refine (walk n0 ok0 n1 ok1 W ).mono fun e W' ⟨he, bel⟩ => ?_
  subst he
  exact ⟨_, rfl, _, _, _, [], _, [], hW', trodAll_mk1 (shut_bool Try.underlying4 _), (trodAll_cons_mk (Below.trod laidOut (by kernel_rfl) (of_decide_eq_true (by kernel_rfl)) k0 bel lt0) (trodAll_cons_mk (Below.trod laidOut (by kernel_rfl) (of_decide_eq_true (by kernel_rfl)) k1 bel lt1) trodAll_mk0)), rfl, bel.frame _, fun h => by cases h⟩

theorem proved : Rows.LabelSideSaid :=
  OpenClaim.holds_of_wide 7 Try.f7 rfl rfl rfl rfl rfl rfl rfl ⟨rfl, rfl, rfl, rfl, rfl⟩ rfl rfl rfl rfl rfl (by kernel_rfl) Try.func7 (by kernel_rfl)
    (of_decide_eq_true (by kernel_rfl)) (by unfold Func.isWrapper; first | (rw [if_pos (by decide +kernel)]; kernel_rfl) | (rw [if_neg (by decide +kernel)]; exact ⟨rfl, rfl⟩))
    (fun os started H enc _ => lifted os started H enc)
end Go.Proofs.Ytbihggfnhcpieaa.LabSideLaw
