/- LabelMeets: for any two labels and key the call returns true: two labels cover keys in common just if one is within the other one, and a key is covered just if it is in the span. No condition. -/
import Derived.Test.YtbihggfnhcpieaaLabNamed
import Derived.Test.YtbihggfnhcpieaaLabOpen
import Derived.Test.YtbihggfnhcpieaaOwn
namespace Go.Proofs.Ytbihggfnhcpieaa.LabMeetsLaw
open Go.ChangeShapes Go.WideShapes Go.ChangeAt Go.RowKit Go.Sort
open Go.ChangeMaps (open_string shut_string)
set_option linter.unusedVariables false

set_option maxRecDepth 100000 in
set_option maxHeartbeats 4000000 in
theorem badA (n : Int) (b : Nat) (m : Int) (c key : Nat) (x1 y1 x2 y2 : Nat) (w : World)
    (h1 : Gives Try.prog 15 #[.agg (labc n b)] (.tuple #[.int .u64 0, .int .u64 0, .int .i64 1]))
    (h2 : Gives Try.prog 15 #[.agg (labc m c)] (.tuple #[.int .u64 0, .int .u64 0, .int .i64 1]))
    (h3 : Gives Try.prog 23 #[] (.bool true))
    (h4 : Gives Try.prog 32 #[.agg (labc n b), .agg (labc m c)] (.bool false))
    (h5 : Gives Try.prog 30 #[.agg (labc n b), .int .u64 (key : Int)] (.bool false)) : Calls Try.prog 6 #[labv n b, labv m c, .int .u64 (key : Int)] w fun e w' => e = .returned (.bool true) ∧ Below w.heap.size w w' := by
  rw [labv_eq, labv_eq]
  go_enter Try.func6, Try.ntmps6
  go_upto_region 1 with (fail)
  have L0 := (Blk.new w (labc n b) 24).alloc (.cells (labc m c) 24)
  have L1 := Blk.new (w.alloc (.cells (labc n b) 24)) (labc m c) 24
  have B0 := (((Below.refl w.heap.size w).alloc (Nat.le_refl _) (.cells (labc n b) 24)).alloc (by simp) (.cells (labc m c) 24))
  simp only [World.size_alloc] at L0 L1 B0
  generalize World.alloc _ _ = W0 at *
  go_upto_region 2 with (first | (refine p_loadL rfl _ rfl _ rfl _ _ (by first | with_reducible exact L0 | with_reducible exact L1) ?_) | (go_at_call 15; (with_reducible refine (h1.calls _).mono ?_); rintro e w1 ⟨rfl, hb⟩))
  replace L0 := L0.below hb L0.lt
  replace L1 := L1.below hb L1.lt
  replace B0 := B0.trans (hb.mono B0.size)
  clear hb
  go_upto_region 3 with (first | (refine p_loadL rfl _ rfl _ rfl _ _ (by first | with_reducible exact L0 | with_reducible exact L1) ?_) | (go_at_call 15; (with_reducible refine (h2.calls _).mono ?_); rintro e w2 ⟨rfl, hb⟩))
  replace L0 := L0.below hb L0.lt
  replace L1 := L1.below hb L1.lt
  replace B0 := B0.trans (hb.mono B0.size)
  clear hb
  go_wp2_with (first | (go_at_call 23; (with_reducible refine (h3.calls _).mono ?_); rintro e w3 ⟨rfl, hb⟩; replace L0 := L0.below hb L0.lt; replace L1 := L1.below hb L1.lt; replace B0 := B0.trans (hb.mono B0.size); clear hb) | (go_at_call 32; (with_reducible refine (h4.calls _).mono ?_); rintro e w4 ⟨rfl, hb⟩; replace L0 := L0.below hb L0.lt; replace L1 := L1.below hb L1.lt; replace B0 := B0.trans (hb.mono B0.size); clear hb) | (go_at_call 30; (with_reducible refine (h5.calls _).mono ?_); rintro e w5 ⟨rfl, hb⟩; replace L0 := L0.below hb L0.lt; replace L1 := L1.below hb L1.lt; replace B0 := B0.trans (hb.mono B0.size); clear hb) | (go_guarded; refine o_loadL _ rfl _ rfl _ _ (by first | with_reducible exact L0 | with_reducible exact L1) ?_; simp only [Act.put, List.setIfInBounds_toArray, List.set_cons_succ, List.set_cons_zero]))
  go_ret
  exact ⟨rfl, B0⟩

set_option maxRecDepth 100000 in
set_option maxHeartbeats 4000000 in
theorem badB (n : Int) (b : Nat) (m : Int) (c key : Nat) (x1 y1 x2 y2 : Nat) (w : World)
    (h1 : Gives Try.prog 15 #[.agg (labc n b)] (.tuple #[.int .u64 0, .int .u64 0, .int .i64 1]))
    (h2 : Gives Try.prog 15 #[.agg (labc m c)] (.tuple #[.int .u64 (x2 : Int), .int .u64 (y2 : Int), .int .i64 0]))
    (h3 : Gives Try.prog 23 #[] (.bool true))
    (h4 : Gives Try.prog 32 #[.agg (labc n b), .agg (labc m c)] (.bool false))
    (h5 : Gives Try.prog 30 #[.agg (labc n b), .int .u64 (key : Int)] (.bool false)) : Calls Try.prog 6 #[labv n b, labv m c, .int .u64 (key : Int)] w fun e w' => e = .returned (.bool true) ∧ Below w.heap.size w w' := by
  rw [labv_eq, labv_eq]
  go_enter Try.func6, Try.ntmps6
  go_upto_region 1 with (fail)
  have L0 := (Blk.new w (labc n b) 24).alloc (.cells (labc m c) 24)
  have L1 := Blk.new (w.alloc (.cells (labc n b) 24)) (labc m c) 24
  have B0 := (((Below.refl w.heap.size w).alloc (Nat.le_refl _) (.cells (labc n b) 24)).alloc (by simp) (.cells (labc m c) 24))
  simp only [World.size_alloc] at L0 L1 B0
  generalize World.alloc _ _ = W0 at *
  go_upto_region 2 with (first | (refine p_loadL rfl _ rfl _ rfl _ _ (by first | with_reducible exact L0 | with_reducible exact L1) ?_) | (go_at_call 15; (with_reducible refine (h1.calls _).mono ?_); rintro e w1 ⟨rfl, hb⟩))
  replace L0 := L0.below hb L0.lt
  replace L1 := L1.below hb L1.lt
  replace B0 := B0.trans (hb.mono B0.size)
  clear hb
  go_upto_region 3 with (first | (refine p_loadL rfl _ rfl _ rfl _ _ (by first | with_reducible exact L0 | with_reducible exact L1) ?_) | (go_at_call 15; (with_reducible refine (h2.calls _).mono ?_); rintro e w2 ⟨rfl, hb⟩))
  replace L0 := L0.below hb L0.lt
  replace L1 := L1.below hb L1.lt
  replace B0 := B0.trans (hb.mono B0.size)
  clear hb
  go_wp2_with (first | (go_at_call 23; (with_reducible refine (h3.calls _).mono ?_); rintro e w3 ⟨rfl, hb⟩; replace L0 := L0.below hb L0.lt; replace L1 := L1.below hb L1.lt; replace B0 := B0.trans (hb.mono B0.size); clear hb) | (go_at_call 32; (with_reducible refine (h4.calls _).mono ?_); rintro e w4 ⟨rfl, hb⟩; replace L0 := L0.below hb L0.lt; replace L1 := L1.below hb L1.lt; replace B0 := B0.trans (hb.mono B0.size); clear hb) | (go_at_call 30; (with_reducible refine (h5.calls _).mono ?_); rintro e w5 ⟨rfl, hb⟩; replace L0 := L0.below hb L0.lt; replace L1 := L1.below hb L1.lt; replace B0 := B0.trans (hb.mono B0.size); clear hb) | (go_guarded; refine o_loadL _ rfl _ rfl _ _ (by first | with_reducible exact L0 | with_reducible exact L1) ?_; simp only [Act.put, List.setIfInBounds_toArray, List.set_cons_succ, List.set_cons_zero]))
  go_ret
  exact ⟨rfl, B0⟩

set_option maxRecDepth 100000 in
set_option maxHeartbeats 4000000 in
theorem badC (n : Int) (b : Nat) (m : Int) (c key : Nat) (x1 y1 x2 y2 : Nat) (r : Bool) (w : World)
    (h1 : Gives Try.prog 15 #[.agg (labc n b)] (.tuple #[.int .u64 (x1 : Int), .int .u64 (y1 : Int), .int .i64 0]))
    (h2 : Gives Try.prog 15 #[.agg (labc m c)] (.tuple #[.int .u64 0, .int .u64 0, .int .i64 1]))
    (h3 : Gives Try.prog 23 #[] (.bool true))
    (h4 : Gives Try.prog 32 #[.agg (labc n b), .agg (labc m c)] (.bool false))
    (h5 : Gives Try.prog 30 #[.agg (labc n b), .int .u64 (key : Int)] (.bool r)) : Calls Try.prog 6 #[labv n b, labv m c, .int .u64 (key : Int)] w fun e w' => e = .returned (.bool true) ∧ Below w.heap.size w w' := by
  rw [labv_eq, labv_eq]
  go_enter Try.func6, Try.ntmps6
  go_upto_region 1 with (fail)
  have L0 := (Blk.new w (labc n b) 24).alloc (.cells (labc m c) 24)
  have L1 := Blk.new (w.alloc (.cells (labc n b) 24)) (labc m c) 24
  have B0 := (((Below.refl w.heap.size w).alloc (Nat.le_refl _) (.cells (labc n b) 24)).alloc (by simp) (.cells (labc m c) 24))
  simp only [World.size_alloc] at L0 L1 B0
  generalize World.alloc _ _ = W0 at *
  go_upto_region 2 with (first | (refine p_loadL rfl _ rfl _ rfl _ _ (by first | with_reducible exact L0 | with_reducible exact L1) ?_) | (go_at_call 15; (with_reducible refine (h1.calls _).mono ?_); rintro e w1 ⟨rfl, hb⟩))
  replace L0 := L0.below hb L0.lt
  replace L1 := L1.below hb L1.lt
  replace B0 := B0.trans (hb.mono B0.size)
  clear hb
  go_upto_region 3 with (first | (refine p_loadL rfl _ rfl _ rfl _ _ (by first | with_reducible exact L0 | with_reducible exact L1) ?_) | (go_at_call 15; (with_reducible refine (h2.calls _).mono ?_); rintro e w2 ⟨rfl, hb⟩))
  replace L0 := L0.below hb L0.lt
  replace L1 := L1.below hb L1.lt
  replace B0 := B0.trans (hb.mono B0.size)
  clear hb
  go_wp2_with (first | (go_at_call 23; (with_reducible refine (h3.calls _).mono ?_); rintro e w3 ⟨rfl, hb⟩; replace L0 := L0.below hb L0.lt; replace L1 := L1.below hb L1.lt; replace B0 := B0.trans (hb.mono B0.size); clear hb) | (go_at_call 32; (with_reducible refine (h4.calls _).mono ?_); rintro e w4 ⟨rfl, hb⟩; replace L0 := L0.below hb L0.lt; replace L1 := L1.below hb L1.lt; replace B0 := B0.trans (hb.mono B0.size); clear hb) | (go_at_call 30; (with_reducible refine (h5.calls _).mono ?_); rintro e w5 ⟨rfl, hb⟩; replace L0 := L0.below hb L0.lt; replace L1 := L1.below hb L1.lt; replace B0 := B0.trans (hb.mono B0.size); clear hb) | (go_guarded; refine o_loadL _ rfl _ rfl _ _ (by first | with_reducible exact L0 | with_reducible exact L1) ?_; simp only [Act.put, List.setIfInBounds_toArray, List.set_cons_succ, List.set_cons_zero]))
  go_ret
  exact ⟨rfl, B0⟩

set_option maxRecDepth 100000 in
set_option maxHeartbeats 8000000 in
theorem core (n : Int) (b : Nat) (m : Int) (c key hi hj : Nat) (p1 p2 p3 p4 p5 p6 r1 r2 r3 : Bool) (w : World)
    (q1 : decide (b ≤ hj) = p1) (q2 : decide (c ≤ hi) = p2) (q3 : decide (c ≤ b) = p3) (q4 : decide (hi ≤ hj) = p4) (q5 : decide (b ≤ key) = p5) (q6 : decide (key ≤ hi) = p6)
    (hk : r3 = (p5 && p6)) (ho : (p1, p2, p3, p4, r1, r2) ∈ [(true, true, true, true, true, false), (true, true, true, true, true, true), (true, true, true, false, false, true), (true, true, false, true, false, true), (true, true, false, false, false, true), (false, true, true, false, false, false), (true, false, false, true, false, false)])
    (h1 : Gives Try.prog 15 #[.agg (labc n b)] (.tuple #[.int .u64 (b : Int), .int .u64 (hi : Int), .int .i64 0]))
    (h2 : Gives Try.prog 15 #[.agg (labc m c)] (.tuple #[.int .u64 (c : Int), .int .u64 (hj : Int), .int .i64 0]))
    (h3 : Gives Try.prog 23 #[] (.bool true))
    (h4 : Gives Try.prog 32 #[.agg (labc n b), .agg (labc m c)] (.bool r1))
    (h5 : Gives Try.prog 32 #[.agg (labc m c), .agg (labc n b)] (.bool r2))
    (h6 : Gives Try.prog 30 #[.agg (labc n b), .int .u64 (key : Int)] (.bool r3)) : Calls Try.prog 6 #[labv n b, labv m c, .int .u64 (key : Int)] w fun e w' => e = .returned (.bool true) ∧ Below w.heap.size w w' := by
  have HO := Lib.hid ho
  have HK := Lib.hid hk
  have Q1 := Lib.hid q1
  have Q2 := Lib.hid q2
  have Q3 := Lib.hid q3
  have Q4 := Lib.hid q4
  have Q5 := Lib.hid q5
  have Q6 := Lib.hid q6
  clear ho hk q1 q2 q3 q4 q5 q6
  rw [labv_eq, labv_eq]
  go_enter Try.func6, Try.ntmps6
  go_upto_region 1 with (fail)
  have L0 := (Blk.new w (labc n b) 24).alloc (.cells (labc m c) 24)
  have L1 := Blk.new (w.alloc (.cells (labc n b) 24)) (labc m c) 24
  have B0 := (((Below.refl w.heap.size w).alloc (Nat.le_refl _) (.cells (labc n b) 24)).alloc (by simp) (.cells (labc m c) 24))
  simp only [World.size_alloc] at L0 L1 B0
  generalize World.alloc _ _ = W0 at *
  go_upto_region 2 with (first | (refine p_loadL rfl _ rfl _ rfl _ _ (by first | with_reducible exact L0 | with_reducible exact L1) ?_) | (go_at_call 15; (with_reducible refine (h1.calls _).mono ?_); rintro e w1 ⟨rfl, hb⟩))
  replace L0 := L0.below hb L0.lt
  replace L1 := L1.below hb L1.lt
  replace B0 := B0.trans (hb.mono B0.size)
  clear hb
  go_upto_region 3 with (first | (refine p_loadL rfl _ rfl _ rfl _ _ (by first | with_reducible exact L0 | with_reducible exact L1) ?_) | (go_at_call 15; (with_reducible refine (h2.calls _).mono ?_); rintro e w2 ⟨rfl, hb⟩))
  replace L0 := L0.below hb L0.lt
  replace L1 := L1.below hb L1.lt
  replace B0 := B0.trans (hb.mono B0.size)
  clear hb
  go_upto_region 5 with (first | (refine p_loadL rfl _ rfl _ rfl _ _ (by first | with_reducible exact L0 | with_reducible exact L1) ?_) | (go_guarded; refine o_loadL _ rfl _ rfl _ _ (by first | with_reducible exact L0 | with_reducible exact L1) ?_; simp only [Act.put, List.setIfInBounds_toArray, List.set_cons_succ, List.set_cons_zero]))
  have q1 := Q1.out
  have q2 := Q2.out
  have q3 := Q3.out
  have q4 := Q4.out
  have q5 := Q5.out
  have q6 := Q6.out
  have ho := HO.out
  simp only [List.mem_cons, List.not_mem_nil, or_false, Prod.mk.injEq] at ho
  have hk := HK.out
  clear HO HK Q1 Q2 Q3 Q4 Q5 Q6
  rcases ho with ⟨rfl, rfl, rfl, rfl, rfl, rfl⟩ | ⟨rfl, rfl, rfl, rfl, rfl, rfl⟩ | ⟨rfl, rfl, rfl, rfl, rfl, rfl⟩ | ⟨rfl, rfl, rfl, rfl, rfl, rfl⟩ | ⟨rfl, rfl, rfl, rfl, rfl, rfl⟩ | ⟨rfl, rfl, rfl, rfl, rfl, rfl⟩ | ⟨rfl, rfl, rfl, rfl, rfl, rfl⟩ <;> cases p5 <;> cases p6 <;> (simp only [Bool.and_true, Bool.and_false, Bool.and_self] at hk; subst hk)
  all_goals
    go_wp2_with (first | (go_at_call 23; (with_reducible refine (h3.calls _).mono ?_); rintro e w3 ⟨rfl, hb⟩; replace L0 := L0.below hb L0.lt; replace L1 := L1.below hb L1.lt; replace B0 := B0.trans (hb.mono B0.size); clear hb) | (go_at_call 32; (with_reducible refine (h4.calls _).mono ?_); rintro e w4 ⟨rfl, hb⟩; replace L0 := L0.below hb L0.lt; replace L1 := L1.below hb L1.lt; replace B0 := B0.trans (hb.mono B0.size); clear hb) | (go_at_call 32; (with_reducible refine (h5.calls _).mono ?_); rintro e w5 ⟨rfl, hb⟩; replace L0 := L0.below hb L0.lt; replace L1 := L1.below hb L1.lt; replace B0 := B0.trans (hb.mono B0.size); clear hb) | (go_at_call 30; (with_reducible refine (h6.calls _).mono ?_); rintro e w6 ⟨rfl, hb⟩; replace L0 := L0.below hb L0.lt; replace L1 := L1.below hb L1.lt; replace B0 := B0.trans (hb.mono B0.size); clear hb) | (go_guarded; refine o_loadL _ rfl _ rfl _ _ (by first | with_reducible exact L0 | with_reducible exact L1) ?_; simp only [Act.put, List.setIfInBounds_toArray, List.set_cons_succ, List.set_cons_zero]))
    go_ret
    exact ⟨rfl, B0⟩

theorem spans (n m b c hi hj : Nat) (hn : n ≤ 64) (hm : m ≤ 64) (hb : b < 18446744073709551616) (hc : c < 18446744073709551616) (hib : lowB n b = true) (hic : lowB m c = true) (h1 : hi = b + (gap n - 1)) (h2 : hj = c + (gap m - 1)) :
    (withinB n b m c = decide (c ≤ b ∧ hi ≤ hj)) ∧ ((b ≤ hj ∧ c ≤ hi) → (c ≤ b ∧ hi ≤ hj) ∨ (b ≤ c ∧ hj ≤ hi)) := by
  have e1 := lowB_iff.1 hib
  have e2 := lowB_iff.1 hic
  have g1 := gap_pos n
  have g2 := gap_pos m
  have key : ∀ (n m b c : Nat), n ≤ m → m ≤ 64 → b % gap n = 0 → c % gap m = 0 → (b ≤ c + (gap m - 1) ∧ c ≤ b + (gap n - 1)) → b ≤ c ∧ c + (gap m - 1) ≤ b + (gap n - 1) := by
    intro n m b c hnm hm e1 e2 ⟨h1, h2⟩
    have hd : gap n = gap m * 2 ^ (m - n) := by unfold gap; rw [← Nat.pow_add, show 64 - m + (m - n) = 64 - n by omega]
    have g2 := gap_pos m
    have hp : 0 < 2 ^ (m - n) := Nat.pow_pos (by omega)
    have d1 := Nat.div_add_mod b (gap n)
    have d2 := Nat.div_add_mod c (gap m)
    rw [e1, Nat.add_zero, hd] at d1
    rw [e2, Nat.add_zero] at d2
    rw [hd] at h2 ⊢
    generalize b / (gap m * 2 ^ (m - n)) = q at *
    generalize c / gap m = x at *
    generalize 2 ^ (m - n) = p at *
    generalize gap m = g at *
    have f1 : g * p * q = g * (p * q) := Nat.mul_assoc _ _ _
    rw [f1] at d1
    generalize p * q = y at *
    have l1 : y ≤ x := by
      have : g * y < g * (x + 1) := by rw [Nat.mul_add]; omega
      have := Nat.lt_of_mul_lt_mul_left this
      omega
    have l2 : x + 1 ≤ y + p := by
      have : g * x < g * (y + p) := by rw [Nat.mul_add]; have := Nat.mul_pos g2 hp; omega
      exact Nat.lt_of_mul_lt_mul_left this
    have l3 := Nat.mul_le_mul_left g l1
    have l4 := Nat.mul_le_mul_left g l2
    rw [Nat.mul_add, Nat.mul_add, Nat.mul_one] at l4
    constructor <;> omega
  have cov : coversB m c b = decide (c ≤ b ∧ b ≤ hj) := by
    rw [show coversB (m : Int) c b = decide (cutN m b = c) by unfold coversB; rw [isB_mk hm hic]; rfl]
    have hcm := cutN_mul m b
    have hca := cutN_add m b
    have hlt := Nat.mod_lt b g2
    rw [Bool.eq_iff_iff, decide_eq_true_iff, decide_eq_true_iff]
    constructor
    · intro h; omega
    · rintro ⟨h3, h4⟩
      have hc2 := cutN_self m c e2
      rw [cutN_mul] at hc2
      rw [hcm]
      have d1 : b / gap m = c / gap m := by
        have a1 : c / gap m ≤ b / gap m := Nat.div_le_div_right h3
        have a2 : b / gap m < c / gap m + 1 := by
          rw [Nat.div_lt_iff_lt_mul g2, Nat.add_mul, Nat.one_mul]; omega
        omega
      rw [d1]; exact hc2
  refine ⟨?_, ?_⟩
  · have hw : withinB n b m c = (decide ((m : Int) ≤ (n : Int)) && coversB m c b) := by unfold withinB; rw [isB_mk hn hib, Bool.true_and]
    rw [hw, cov, Bool.eq_iff_iff]
    simp only [Bool.and_eq_true, decide_eq_true_iff]
    constructor
    · rintro ⟨h3, h4, h5⟩
      have := key m n c b (by omega) hn e2 e1 ⟨by omega, by omega⟩
      omega
    · rintro ⟨h3, h4⟩
      refine ⟨?_, h3, by omega⟩
      rcases Nat.lt_or_ge n m with h | h
      · exfalso
        have hs : 2 * gap m ≤ gap n := by
          have hd : gap n = gap m * 2 ^ (m - n) := by unfold gap; rw [← Nat.pow_add, show 64 - m + (m - n) = 64 - n by omega]
          have h2p : 2 ^ 1 ≤ 2 ^ (m - n) := Nat.pow_le_pow_right (by omega) (by omega)
          rw [hd, Nat.mul_comm]
          exact Nat.mul_le_mul_left _ h2p
        omega
      · omega
  · rintro ⟨h3, h4⟩
    rcases Nat.le_total n m with h | h
    · right
      have := key n m b c h hm e1 e2 ⟨by omega, by omega⟩
      omega
    · left
      have := key m n c b h hn e2 e1 ⟨by omega, by omega⟩
      omega
theorem cov_span (n b key hi : Nat) (hn : n ≤ 64) (hib : lowB n b = true) (h1 : hi = b + (gap n - 1)) : coversB n b key = (decide (b ≤ key) && decide (key ≤ hi)) := by
  rw [show coversB (n : Int) b key = decide (cutN n key = b) by unfold coversB; rw [isB_mk hn hib]; rfl]
  have g1 := gap_pos n
  have hcm := cutN_mul n key
  have hca := cutN_add n key
  have hlt := Nat.mod_lt key g1
  have e1 := lowB_iff.1 hib
  rw [Bool.eq_iff_iff]
  simp only [Bool.and_eq_true, decide_eq_true_iff]
  constructor
  · intro h; omega
  · rintro ⟨h3, h4⟩
    have hc2 := cutN_self n b e1
    rw [cutN_mul] at hc2
    rw [hcm]
    have d1 : key / gap n = b / gap n := by
      have a1 : b / gap n ≤ key / gap n := Nat.div_le_div_right (by omega)
      have a2 : key / gap n < b / gap n + 1 := by
        rw [Nat.div_lt_iff_lt_mul g1, Nat.add_mul, Nat.one_mul]; omega
      omega
    rw [d1]; exact hc2

theorem walk (n : Int) (b : Nat) (o : (-9223372036854775808 ≤ n ∧ n ≤ 9223372036854775807) ∧ b < 18446744073709551616) (m : Int) (c : Nat) (o' : (-9223372036854775808 ≤ m ∧ m ≤ 9223372036854775807) ∧ c < 18446744073709551616)
    (key : Nat) (hk : key < 18446744073709551616) (w : World) : Calls Try.prog 6 #[labv n b, labv m c, .int .u64 (key : Int)] w fun e w' => e = .returned (.bool true) ∧ Below w.heap.size w w' := by
  obtain ⟨⟨h1, h2⟩, hb⟩ := o
  obtain ⟨⟨h3, h4⟩, hc⟩ := o'
  have HW : Gives Try.prog 32 #[.agg (labc n b), .agg (labc m c)] (.bool (withinB n b m c)) := fun w => within_any n b m c w h1 h2 hb h3 h4 hc
  have HV : Gives Try.prog 32 #[.agg (labc m c), .agg (labc n b)] (.bool (withinB m c n b)) := fun w => within_any m c n b w h3 h4 hc h1 h2 hb
  have HC : Gives Try.prog 30 #[.agg (labc n b), .int .u64 (key : Int)] (.bool (coversB n b key)) := fun w => covers_any n b key w h1 h2 hb hk
  rcases lab_cases n b with hi | ⟨n, rfl, hn, hi⟩
  · have e1 : withinB n b m c = false := by unfold withinB; rw [hi]; rfl
    have e2 : coversB n b key = false := by unfold coversB; rw [hi]; rfl
    rw [e1] at HW
    rw [e2] at HC
    rcases lab_cases m c with hj | ⟨m, rfl, hm, hj⟩
    · exact badA n b m c key 0 0 0 0 w (fun w => span_no n b w h1 h2 hb hi) (fun w => span_no m c w h3 h4 hc hj) named_all HW HC
    · exact badB n b m c key 0 0 c (c + (gap m - 1)) w (fun w => span_no n b w h1 h2 hb hi) (fun w => span_yes m c w hm hc hj) named_all HW HC
  · rcases lab_cases m c with hj | ⟨m, rfl, hm, hj⟩
    · have e1 : withinB n b m c = false := by unfold withinB coversB; rw [hj]; simp
      rw [e1] at HW
      exact badC n b m c key b (b + (gap n - 1)) 0 0 (coversB n b key) w (fun w => span_yes n b w hn hb hi) (fun w => span_no m c w h3 h4 hc hj) named_all HW HC
    · obtain ⟨s1, s2⟩ := spans n m b c _ _ hn hm hb hc hi hj rfl rfl
      obtain ⟨s3, s4⟩ := spans m n c b _ _ hm hn hc hb hj hi rfl rfl
      have g1 := gap_pos n
      have g2 := gap_pos m
      refine core n b m c key (b + (gap n - 1)) (c + (gap m - 1)) _ _ _ _ _ _ _ _ _ w rfl rfl rfl rfl rfl rfl (cov_span n b key _ hn hi rfl) ?_ (fun w => span_yes n b w hn hb hi) (fun w => span_yes m c w hm hc hj) named_all HW HV HC
      rw [s1, s3]
      clear s1 s3 HW HV HC s4
      have l1 : b ≤ b + (gap n - 1) := by omega
      have l2 : c ≤ c + (gap m - 1) := by omega
      generalize b + (gap n - 1) = hi' at *
      generalize c + (gap m - 1) = hj' at *
      clear hi hj hn hm hb hc h1 h2 h3 h4 g1 g2
      cases d1 : decide (b ≤ hj') <;> cases d2 : decide (c ≤ hi') <;> cases d3 : decide (c ≤ b) <;> cases d4 : decide (hi' ≤ hj') <;> cases d5 : decide (c ≤ b ∧ hi' ≤ hj') <;> cases d6 : decide (b ≤ c ∧ hj' ≤ hi') <;> first
        | decide
        | (exfalso
           simp only [decide_eq_true_iff, decide_eq_false_iff_not] at d1 d2 d3 d4 d5 d6
           omega)

set_option maxRecDepth 100000 in
theorem lifted (os : Os) (started : os.Started) (H : Type) (enc : TypeId × Value → H) :
    ReturnsInHanded {} Try.checked os 6 .any (Rows.labelMeetsSpec.pre6 enc Try.prog Try.f6 Rows.labelMeetsRow.domain false) (Rows.labelMeetsSpec.post enc Try.prog Try.f6 false true false false) := by
  refine returnsInHanded_of_change (C := Try.checked) own started (by kernel_rfl) Try.func6
    (ChangeSpec.witness6 (enc := enc) (C := Try.checked) false ⟨#[], #[.agg #[.int .i64 0, .int .u64 0], .agg #[.int .i64 0, .int .u64 0], .int .u64 0], []⟩ 8 (by kernel_rfl) (by kernel_rfl) (by kernel_rfl) (by kernel_rfl)) ?_
  intro W base args ds gs before hval0 hW hcnd _
  have hval : ∀ (j : Nat) t v, Try.f6.params[j]? = some t → args[j]? = some v → Value.okWide Try.prog W .any base t v := hval0
  have hW' := hW
  obtain ⟨p, q, hA0, hV, rfl, hfz, hnd⟩ := hW
  have hA : DataW.TrodAll enc Try.prog W 0 (fun _ => true) true Try.f6.params.toList args.toList ds p := hA0
  rw [Try.params6] at hA hval
  obtain ⟨v0, vs0, d0, ds0, p0, q0, hargs, rfl, rfl, h0, r0⟩ := trodAll_cons hA
  obtain ⟨v1, vs1, d1, ds1, p1, q1, rfl, rfl, rfl, h1, r1⟩ := trodAll_cons r0
  obtain ⟨v2, vs2, d2, ds2, p2, q2, rfl, rfl, rfl, h2, r2⟩ := trodAll_cons r1
  obtain ⟨rfl, rfl, rfl⟩ := trodAll_nil r2
  obtain rfl : args = #[v0, v1, v2] := by cases args; simp_all
  obtain ⟨rfl, rfl⟩ := trodVars_none hV
  have k0 := h0
  have lt0 : ∀ x ∈ p0, x.block < W.heap.size := by obtain ⟨m, hm⟩ := k0; exact DataW.trod_lt m _ _ _ hm
  obtain ⟨n0, b0, ok0, rfl⟩ := open_label (hval 0 24 v0 rfl rfl) h0
  have k1 := h1
  have lt1 : ∀ x ∈ p1, x.block < W.heap.size := by obtain ⟨m, hm⟩ := k1; exact DataW.trod_lt m _ _ _ hm
  obtain ⟨n1, b1, ok1, rfl⟩ := open_label (hval 1 24 v1 rfl rfl) h1
  have k2 := h2
  have lt2 : ∀ x ∈ p2, x.block < W.heap.size := by obtain ⟨m, hm⟩ := k2; exact DataW.trod_lt m _ _ _ hm
  obtain ⟨n2, ok2, rfl⟩ := open_u64 (hval 2 22 v2 rfl rfl) h2
  clear hA0 hval0
  refine (walk n0 b0 ok0 n1 b1 ok1 n2 ok2 W ).mono fun e W' ⟨he, bel⟩ => ?_
  subst he
  exact ⟨_, rfl, _, _, _, [], _, [], hW', trodAll_mk1 (shut_bool Try.underlying4 _), (trodAll_cons_mk (Below.trod laidOut (by kernel_rfl) (of_decide_eq_true (by kernel_rfl)) k0 bel lt0) (trodAll_cons_mk (Below.trod laidOut (by kernel_rfl) (of_decide_eq_true (by kernel_rfl)) k1 bel lt1) (trodAll_cons_mk (Below.trod laidOut (by kernel_rfl) (of_decide_eq_true (by kernel_rfl)) k2 bel lt2) trodAll_mk0))), rfl, bel.frame _, fun h => by cases h⟩

theorem proved : Rows.LabelMeetsSaid :=
  OpenClaim.holds_of_wide 6 Try.f6 rfl rfl rfl rfl rfl rfl rfl ⟨rfl, rfl, rfl, rfl, rfl⟩ rfl rfl rfl rfl rfl (by kernel_rfl) Try.func6 (by kernel_rfl)
    (of_decide_eq_true (by kernel_rfl)) (by unfold Func.isWrapper; first | (rw [if_pos (by decide +kernel)]; kernel_rfl) | (rw [if_neg (by decide +kernel)]; exact ⟨rfl, rfl⟩))
    (fun os started H enc _ => lifted os started H enc)
end Go.Proofs.Ytbihggfnhcpieaa.LabMeetsLaw
