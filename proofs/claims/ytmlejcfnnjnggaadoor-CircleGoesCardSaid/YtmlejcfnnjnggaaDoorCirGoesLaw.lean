/- CircleGoes: for all peers, numbers and places the call returns true: if a peer goes, its places are owned by the one behind it, and all others stay with theirs. No condition but that the package variables read as the program's text lays them. -/
import Derived.Test.YtmlejcfnnjnggaaDoorCirOpen
import Derived.Test.YtmlejcfnnjnggaaDoorCirJoin
namespace Go.Proofs.YtmlejcfnnjnggaaDoor.GoesLaw
set_option maxRecDepth 100000
open Go Go.ChangeShapes Go.WideShapes Go.ChangeAt Go.RowKit Go.Sort

/-- row[:r] of a row of peers that is read -/
theorem p_uptoL {w : World} {ops : Array Oper} {rest : List Oper} {o : Oper} {a : Act} {Q : Exit → Act → World → Prop} (hgd : o.guard = none) (s hi_ : Operand)
    (ho : o.op = .slice 23 s none (some hi_) none) (b f n c r : Nat) (L : List Pe) (hs : a.eval s = .slice (some ⟨b, f, none⟩) n c) (hlo : a.eval hi_ = .int .i64 r) (hr : r ≤ n) (hn : L.length = n) (hc : n ≤ c) (hrg : w.rangeAt b f (flat L))
    (h : ∀ v', Src w v' r 21 (flat (L.take r)) → wpList Tryd.prog ops Q rest (a.put o.dst v') w) : wpList Tryd.prog ops Q (o :: rest) a w := by
  have hel : Tryd.prog.elem 23 = 43 := by kernel_rfl
  have hT' : Tryd.prog.underlying 23 = some (.slice (Tryd.prog.elem 23)) := by rw [hel]; exact Tryd.underlying23
  obtain ⟨i, hi', hq⟩ := Option.map_eq_some_iff.1 sizeP
  have hlt : (flat (L.take r)).length = r * 21 := by rw [flat_length, List.length_take, hn, Nat.min_eq_left hr]
  have run : (Instr.sliceAt 23 (.slice (some ⟨b, f, none⟩) n c) none (some (.int .i64 (r : Int))) none).run Tryd.prog w = .ok (sliced (some ⟨b, f, none⟩) 0 r c 21) w := by
    rw [run_sliceAt_slice w 23 _ _ _ _ hT', run_slice_h w 23 _ n c hT' .i64 (r : Int) (by omega) (by omega), hel]
    simp [sizeOf, typeInfo, hi', Result.andThen, hq]
  have hv : sliced (some ⟨b, f, none⟩) 0 r c 21 = .slice (some ⟨b, f, none⟩) r c := by
    unfold sliced; split <;> simp [Addr.add_mid]
  refine wpList_plain hgd fun K hK => ?_
  unfold Oper.wp execOp
  simp only [ho, Option.map, hs, hlo, Sem.run_bind, Result.andThen_ok, run, hv]
  exact hK _ _ (h _ ⟨hlt, .inr ⟨b, f, c, rfl, by rw [← flat_take]; exact range_take hrg _⟩⟩)
/-- row[r:] of a row of peers that is read -/
theorem p_fromL {w : World} {ops : Array Oper} {rest : List Oper} {o : Oper} {a : Act} {Q : Exit → Act → World → Prop} (hgd : o.guard = none) (s lo : Operand)
    (ho : o.op = .slice 23 s (some lo) none none) (b f n c r : Nat) (L : List Pe) (hs : a.eval s = .slice (some ⟨b, f, none⟩) n c) (hlo : a.eval lo = .int .i64 r) (hr : r ≤ n) (hn : L.length = n) (hc : n ≤ c) (hrg : w.rangeAt b f (flat L))
    (h : ∀ v', Src w v' (n - r) 21 (flat (L.drop r)) → wpList Tryd.prog ops Q rest (a.put o.dst v') w) : wpList Tryd.prog ops Q (o :: rest) a w := by
  have hel : Tryd.prog.elem 23 = 43 := by kernel_rfl
  have hT' : Tryd.prog.underlying 23 = some (.slice (Tryd.prog.elem 23)) := by rw [hel]; exact Tryd.underlying23
  obtain ⟨i, hi', hq⟩ := Option.map_eq_some_iff.1 sizeP
  have hlt : (flat (L.drop r)).length = (n - r) * 21 := by rw [flat_length, List.length_drop, hn]
  have run : (Instr.sliceAt 23 (.slice (some ⟨b, f, none⟩) n c) (some (.int .i64 (r : Int))) none none).run Tryd.prog w = .ok (sliced (some ⟨b, f, none⟩) r n c 21) w := by
    rw [run_sliceAt_slice w 23 _ _ _ _ hT', run_slice_l w 23 _ n c hT' .i64 (r : Int) (by omega) (by omega), hel]
    simp [sizeOf, typeInfo, hi', Result.andThen, hq]
  refine wpList_plain hgd fun K hK => ?_
  unfold Oper.wp execOp
  simp only [ho, Option.map, hs, hlo, Sem.run_bind, Result.andThen_ok, run]
  refine hK _ _ (h _ ⟨hlt, .inr ?_⟩)
  unfold sliced
  by_cases hcr : c = r
  · rw [if_pos hcr]
    have h4 : flat (L.drop r) = [] := List.eq_nil_of_length_eq_zero (by rw [hlt, show n - r = 0 by omega, Nat.zero_mul])
    rw [h4]
    exact ⟨b, f, _, rfl, fun j u hu => by simp at hu⟩
  · rw [if_neg hcr, ← flat_drop]
    exact ⟨b, f + r * 21, c - r, by simp [Addr.add_mid], range_drop hrg _⟩
theorem rest_form {w : World} {B : Nat} {v : Value} {L : List Pe} {k m : Nat} (hm : L.length = m + 1) (h1 : 1 ≤ m) (hk : k < m + 1) (h : w.ownsRow B 43 21 v (0 + k + (m + 1 - (k + 1))) (flat ([] ++ L.take k ++ L.drop (k + 1)))) :
    ∃ g c, v = .slice (some ⟨g, 0, none⟩) m c ∧ w.rangeAt g 0 (flat (less1 L k)) ∧ g < w.heap.size ∧ Lies w v (less1 L k) := by
  rw [show 0 + k + (m + 1 - (k + 1)) = m by omega, List.nil_append] at h
  have hl : (less1 L k).length = m := by rw [less1_length (by omega)]; omega
  have h' : w.ownsRow B 43 21 v (less1 L k).length (flat (less1 L k)) := by rw [hl]; exact h
  have hL := own_lies h'
  rcases own_shape h with ⟨_, h2⟩ | ⟨g, c, rfl, _, _, h4, h5, _⟩
  · omega
  · exact ⟨g, c, rfl, h4, h5, hL⟩
theorem wf_less1 {L : List Pe} (hw : Wf L) (k : Nat) : Wf (less1 L k) := fun x hx => hw x (by
  rcases List.mem_append.1 hx with h | h
  · exact List.mem_of_mem_take h
  · exact List.mem_of_mem_drop h)
theorem eqP_self (x : Pe) : eqP x x = true := by unfold eqP; rw [eqB_self]; simp
theorem copies_two {w : World} {v : Value} {L : List Pe} (id : Nat) (hL : Lies w v L) (hw : Wf L) (hid : id < M) (hC : Circ L) (h2 : 2 ≤ L.length) :
    Calls Tryd.prog 16 #[v, idv id, .int .i64 2] w fun e w' => ∃ g c, e = .returned (.tuple #[.slice (some ⟨g, 0, none⟩) 2 c, .int .i64 0]) ∧ w'.cell? ⟨g, 0, none⟩ = some (.int .i64 (ownN L id : Nat)) ∧ w'.cell? ⟨g, 1, none⟩ = some (.int .i64 (((ownN L id + 1) % L.length : Nat) : Int)) ∧ g < w'.heap.size ∧ Below w.heap.size w w' := by
  refine (Copies_yes id 2 hL hw hid hC (by omega) (by omega)).mono ?_
  rintro e w' ⟨u, rfl, h, b⟩
  have hc : copyN L id (min (2 : Int).toNat L.length) = [((ownN L id : Nat) : Int), (((ownN L id + 1) % L.length : Nat) : Int)] := by
    rw [show min (2 : Int).toNat L.length = 2 from Nat.min_eq_left h2]
    unfold copyN
    have := own_lt hC.pos.1 id
    simp [List.range_succ]
    exact Int.emod_eq_of_lt (by omega) (by omega)
  rw [hc] at h
  rcases own_shape h with ⟨_, h2⟩ | ⟨g, c, rfl, _, _, h4, h5, _⟩
  · simp at h2
  · exact ⟨g, c, rfl, h4 0 _ rfl, h4 1 _ rfl, h5, b⟩
set_option maxHeartbeats 2000000 in
theorem walk_long {w : World} {v : Value} {L : List Pe} (i : Int) (id : Nat) (hL : Lies w v L) (h : 100 < L.length) : Calls Tryd.prog 6 #[v, .int .i64 i, idv id] w fun e w' => e = .returned (.bool true) ∧ Below w.heap.size w w' := by
  obtain ⟨a, c, rfl⟩ := hL.form
  have B0 := (Below.refl w.heap.size w).alloc (Nat.le_refl _) (.cells (row (dig 20 id)) 32)
  clear hL
  generalize L.length = n at *
  have d1 : decide ((100 : Int) < (n : Int)) = true := decide_eq_true (by omega)
  rw [show idv id = .agg (row (dig 20 id)) from rfl]
  go_enter Tryd.func6, Tryd.ntmps6
  go_upto_region 1 with (fail)
  generalize w.alloc _ = W at *
  go_wp2
  go_ret
  exact ⟨rfl, B0⟩
set_option maxHeartbeats 4000000 in
theorem walk_no {w : World} {v : Value} {L : List Pe} (i : Int) (id : Nat) (hG : Glob w) (hL : Lies w v L) (hw : Wf L) (hC : ¬ Circ L) (h : L.length ≤ 100) : Calls Tryd.prog 6 #[v, .int .i64 i, idv id] w fun e w' => e = .returned (.bool true) ∧ Below w.heap.size w w' := by
  have B0 := (Below.refl w.heap.size w).alloc (Nat.le_refl _) (.cells (row (dig 20 id)) 32)
  have I0 := At.new w id
  have L0 := hL.bel B0
  obtain ⟨a, c, rfl⟩ := hL.form
  generalize hW : w.alloc (.cells (row (dig 20 id)) 32) = W at *
  have HO := Lib.hid (Owner_no id L0 hw (by omega) hC)
  have HR : Hid (∀ w1, Below W.heap.size W w1 → Calls Tryd.prog 10 #[] w1 fun e w' => e = .returned (.bool true) ∧ Below w1.heap.size w1 w') := fun w1 hb => rounded_any w1 (hG.later (step B0 hb))
  have d1 : decide ((100 : Int) < (L.length : Int)) = false := decide_eq_false (by omega)
  clear hL hw hG hC h L0
  generalize L.length = n at *
  rw [show idv id = .agg (row (dig 20 id)) from rfl]
  go_enter Tryd.func6, Tryd.ntmps6
  go_upto_region 1 with (fail)
  try rw [hW]
  clear hW
  go_wp2_with (first
    | (refine p_load rfl _ rfl _ rfl id I0 ?_)
    | (go_at_call 14; (with_reducible refine HO.out.mono ?_); rintro e w1 ⟨rfl, b1⟩)
    | (go_at_call 10; (with_reducible refine (HR.out _ b1).mono ?_); rintro e w2 ⟨rfl, k2⟩; have b2 := step b1 k2))
  go_ret
  exact ⟨rfl, step B0 b2⟩
set_option maxHeartbeats 4000000 in
theorem walk_bad {w : World} {v : Value} {L : List Pe} (i : Int) (id : Nat) (hid : id < M) (hG : Glob w) (hL : Lies w v L) (hw : Wf L) (hC : Circ L) (hbad : L.length < 2 ∨ i < 0 ∨ (L.length : Int) ≤ i) : Calls Tryd.prog 6 #[v, .int .i64 i, idv id] w fun e w' => e = .returned (.bool true) ∧ Below w.heap.size w w' := by
  have B0 := (Below.refl w.heap.size w).alloc (Nat.le_refl _) (.cells (row (dig 20 id)) 32)
  have I0 := At.new w id
  have L0 := hL.bel B0
  obtain ⟨a, c, rfl⟩ := hL.form
  generalize hW : w.alloc (.cells (row (dig 20 id)) 32) = W at *
  have HO := Lib.hid (Owner_yes id L0 hw hid hC)
  have HR : Hid (∀ w1, Below W.heap.size W w1 → Calls Tryd.prog 10 #[] w1 fun e w' => e = .returned (.bool true) ∧ Below w1.heap.size w1 w') := fun w1 hb => rounded_any w1 (hG.later (step B0 hb))
  have h16 := hC.1.2
  have d1 : decide ((100 : Int) < (L.length : Int)) = false := decide_eq_false (by omega)
  clear hL hw hG hC L0
  generalize ownN L id = z at *
  generalize L.length = n at *
  rw [show idv id = .agg (row (dig 20 id)) from rfl]
  have hb2 : (decide ((n : Int) < 2) = true) ∨ (decide ((n : Int) < 2) = false ∧ decide (i < 0) = true) ∨ (decide ((n : Int) < 2) = false ∧ decide (i < 0) = false ∧ decide ((n : Int) ≤ i) = true) := by
    simp only [decide_eq_true_eq, decide_eq_false_iff_not]
    omega
  clear hbad
  rcases hb2 with d2 | ⟨d2, d3⟩ | ⟨d2, d3, d4⟩
  all_goals
    go_enter Tryd.func6, Tryd.ntmps6
    go_upto_region 1 with (fail)
    try rw [hW]
    clear hW
    go_wp2_with (first
      | (refine p_load rfl _ rfl _ rfl id I0 ?_)
      | (go_at_call 14; (with_reducible refine HO.out.mono ?_); rintro e w1 ⟨rfl, b1⟩)
      | (go_at_call 10; (with_reducible refine (HR.out _ b1).mono ?_); rintro e w2 ⟨rfl, k2⟩; have b2 := step b1 k2))
    go_ret
    exact ⟨rfl, step B0 b2⟩
set_option maxHeartbeats 8000000 in
theorem core {w W : World} {L R : List Pe} (b o c n m k z z2 z3 id : Nat) (x y : Pe) (hW : w.alloc (.cells (row (dig 20 id)) 32) = W) (B0 : Below w.heap.size w W) (I0 : At W w.heap.size id)
    (HM : Hid (L.length = n)) (hnm : n = m + 1) (h1 : 1 ≤ m) (hk : k < n) (h16 : n ≤ 16) (hc : n ≤ c) (hz : z < n) (hz2 : z2 < m) (hz3 : z3 < n)
    (HO : Hid (Calls Tryd.prog 14 #[.slice (some ⟨b, o, none⟩) n c, idv id] W fun e w' => e = .returned (.tuple #[.int .i64 (z : Int), .int .i64 0]) ∧ Below W.heap.size W w'))
    (HO2 : Hid (∀ w1 v1, Lies w1 v1 R → Calls Tryd.prog 14 #[v1, idv id] w1 fun e w' => e = .returned (.tuple #[.int .i64 (z2 : Int), .int .i64 0]) ∧ Below w1.heap.size w1 w'))
    (HC2 : Hid (∀ w1, Below W.heap.size W w1 → Calls Tryd.prog 16 #[.slice (some ⟨b, o, none⟩) n c, idv id, .int .i64 2] w1 fun e w' => ∃ g c, e = .returned (.tuple #[.slice (some ⟨g, 0, none⟩) 2 c, .int .i64 0]) ∧ w'.cell? ⟨g, 0, none⟩ = some (.int .i64 (z : Int)) ∧ w'.cell? ⟨g, 1, none⟩ = some (.int .i64 (z3 : Int)) ∧ g < w'.heap.size ∧ Below w1.heap.size w1 w'))
    (HR : Hid (∀ w1, Below W.heap.size W w1 → Calls Tryd.prog 10 #[] w1 fun e w' => e = .returned (.bool true) ∧ Below w1.heap.size w1 w'))
    (HRG : Hid (∀ (w1 : World), Below W.heap.size W w1 → w1.rangeAt b o (flat L)))
    (HX : Hid (∀ (w1 : World), Below W.heap.size W w1 → w1.rangeAt b (o + z * 21) (peC x)))
    (HY : Hid (∀ (w1 : World), Below W.heap.size W w1 → w1.rangeAt b (o + z3 * 21) (peC y)))
    (HQ : Hid (∀ (w1 : World) (g : Nat), w1.rangeAt g 0 (flat R) → w1.rangeAt g (z2 * 21) (peC (if z = k then y else x))))
    (HF : Hid (∀ (w2 : World) (B : Nat) (v : Value), w2.ownsRow B 43 21 v (0 + k + (n - (k + 1))) (flat ([] ++ L.take k ++ L.drop (k + 1))) → ∃ g c, v = .slice (some ⟨g, 0, none⟩) m c ∧ w2.rangeAt g 0 (flat R) ∧ g < w2.heap.size ∧ Lies w2 v R)) :
    Calls Tryd.prog 6 #[.slice (some ⟨b, o, none⟩) n c, .int .i64 (k : Int), idv id] w fun e w' => e = .returned (.bool true) ∧ Below w.heap.size w w' := by
  have d1 : decide ((100 : Int) < (n : Int)) = false := decide_eq_false (by omega)
  have d2 : decide ((n : Int) < 2) = false := decide_eq_false (by omega)
  have d3 : decide ((k : Int) < 0) = false := decide_eq_false (by omega)
  have d4 : decide ((n : Int) ≤ (k : Int)) = false := decide_eq_false (by omega)
  have hwr : IntKind.i64.wrap ((k : Int) + 1) = (k : Int) + 1 := IntWalk.i64_in _ (by omega)
  have d5 : decide ((z2 : Int) < 0) = false := decide_eq_false (by omega)
  have d6 : decide ((m : Int) ≤ (z2 : Int)) = false := decide_eq_false (by omega)
  have d7 : decide ((z3 : Int) < 0) = false := decide_eq_false (by omega)
  have d8 : decide ((n : Int) ≤ (z3 : Int)) = false := decide_eq_false (by omega)
  have hzn : (z : Int) < (n : Int) := by omega
  have hz3n : (z3 : Int) < (n : Int) := by omega
  have hz2m : (z2 : Int) < (m : Int) := by omega
  have HNM := Lib.hid hnm
  clear hnm
  rw [show idv id = .agg (row (dig 20 id)) from rfl]
  go_enter Tryd.func6, Tryd.ntmps6
  go_upto_region 1 with (fail)
  try rw [hW]
  clear hW
  go_upto_region 7 with (first
    | (refine p_load rfl _ rfl _ rfl id I0 ?_)
    | (go_at_call 14; (with_reducible refine HO.out.mono ?_); rintro e w1 ⟨rfl, b1⟩; have I1 := I0.below b1))
  have R1 := HRG.out _ b1
  have hbl : b < w1.heap.size := range_lt R1 (flat_ne (by intro e; have := HM.out; rw [e] at this; simp at this; omega))
  go_upto_region 9 with (first
    | (refine p_uptoL rfl _ _ rfl b o n c k L rfl rfl (by omega) HM.out hc R1 ?_; intro u1 hS1; have HS1 := Lib.hid hS1; clear hS1)
    | (refine wpList_joinP rfl _ _ rfl w1.heap.size _ [] (L.take k) 0 k rfl (World.ownsRow_nil _ _ _ _) u1 rfl HS1.out (by omega) (Below.refl w1.heap.size w1) (Nat.le_refl _) ?_; intro v1 y1 h1 b2 s1; have H1 := Lib.hid h1; have B2 := Lib.hid b2; have R2 := range_bel R1 b2 hbl; clear h1 b2 HS1)
    | (refine p_fromL rfl _ _ rfl b o n c (k + 1) L rfl rfl (by omega) HM.out hc R2 ?_; intro u2 hS2; have HS2 := Lib.hid hS2; clear hS2)
    | (refine wpList_joinP rfl _ _ rfl w1.heap.size _ ([] ++ L.take k) (L.drop (k + 1)) (0 + k) (n - (k + 1)) rfl H1.out u2 rfl HS2.out (by omega) B2.out (B2.out.size) ?_; intro v2 y2 h2 b3 s2; have H2 := Lib.hid h2; have B3 := Lib.hid b3; clear h2 b3 HS2))
  (try simp only [Act.put])
  obtain ⟨g2, c2, rfl, r2, hg2, l2⟩ := HF.out _ _ _ H2.out
  have b3 := step b1 B3.out
  clear H1 H2 B2 B3 HF R1 R2 I1 HM HRG HO
  have I2 := I0.below b3
  have HO3 := Lib.hid (HO2.out _ _ l2)
  clear l2 HO2
  go_upto_region 11 with (first
    | (refine p_load rfl _ rfl _ rfl id I2 ?_)
    | (go_at_call 14; (with_reducible refine HO3.out.mono ?_); rintro e w3 ⟨rfl, k3⟩; have b4 := step b3 k3; have I3 := I0.below b4)
    | (refine p_load rfl _ rfl _ rfl id I3 ?_)
    | (go_at_call 16; (with_reducible refine (HC2.out _ b4).mono ?_); rintro e w4 ⟨g3, c3, rfl, ca, cb, hg3, k4⟩))
  have b5 := step b4 k4
  have hg2' : g2 < w4.heap.size := by have := k3.size; have := k4.size; omega
  have q2 := HQ.out _ _ (range_bel (range_bel r2 k3 hg2) k4 (by have := k3.size; omega))
  have x2 := HX.out _ b5
  have A1 : ∀ t : Pe, Below w4.heap.size w4 (w4.alloc (.cells (peA t) 43)) := fun t => (Below.refl w4.heap.size w4).alloc (Nat.le_refl _) _
  have y2' := HY.out _ (step b5 (A1 x))
  have cb' := cell_keep hg3 cb (A1 x)
  have HA := Lib.hid A1
  have HY2 := Lib.hid y2'
  have HCB := Lib.hid cb'
  have HQ2 := Lib.hid q2
  clear r2 hg2 I2 I3 HO3 HC2 k3 k4 b4 b3 b1 HQ HX HY A1 y2' cb' q2 I0
  go_upto_region 13 with (fail)
  by_cases hzk : z = k
  · have q3 := HQ2.out
    rw [if_pos hzk] at q3
    have HQ3 := Lib.hid q3
    clear HQ2 q3
    subst hzk
    go_upto_region 15 with (first
      | (refine p_midP rfl _ rfl b (o + z * 21) rfl x x2 ?_)
      | (refine p_storeP rfl rfl _ _ rfl x rfl rfl ?_))
    have cb2 := HCB.out
    go_upto_region 16 with (first
      | (refine p_midP rfl _ rfl b (o + z3 * 21) rfl y HY2.out ?_)
      | (refine p_storeP (peA_size _) rfl _ _ rfl y rfl rfl ?_))
    (try simp only [Act.put]); (try simp only [List.setIfInBounds_toArray]); (try simp only [List.set_cons_succ]); (try simp only [List.set_cons_zero])
    have b6 := step b5 (HA.out y)
    have q4 := range_bel HQ3.out (HA.out y) hg2'
    have t4 : (w4.alloc (.cells (peA y) 43)).rangeAt w4.heap.size 0 (peC y) := blk_range (Blk.new w4 (peA y) 43)
    clear HY2 HCB HQ3 HA ca cb x2
    (try clear cb2)
    generalize w4.alloc _ = V at *
    generalize w4.heap.size = gw at *
    have HR3 : ∀ d os, Calls Tryd.prog 10 #[] (grow (redrawn V d) os) fun e w' => e = .returned (.bool true) ∧ Below (grow (redrawn V d) os).heap.size (grow (redrawn V d) os) w' := fun d os => HR.out _ (step b6 (below_regrown V d os))
    have HE := eqP_self y
    refine wp_region_quiet_below (by kernel_rfl) (by kernel_rfl) ?_
    repeat (first
      | go_big_quiet_skip
      | (go_big_quiet_want
         first
         | (first
              | (refine q_midP _ rfl gw 0 rfl y (by with_reducible exact t4) ?_)
              | (refine q_midP _ rfl g2 (z2 * 21) rfl y (by with_reducible exact q4) ?_)
              | (refine q_eqlP _ _ rfl y y rfl rfl HE ?_)
            simp only [Act.put, List.setIfInBounds_toArray, List.set_cons_succ, List.set_cons_zero]
            go_big_quiet_on)
         | (go_big_quiet_op
            first | go_big_quiet_on | go_big_quiet_call (first | with_reducible exact Calls.regrown_of (HR3 _ _) | exact Calls.regrown_of (HR3 _ _) | (trace_state; fail)))))
    refine wpQuiet_nil ?_
    intro w5 hw'
    have b7 := step b6 (quiet_end hw')
    clear hw'
    go_wp2
    go_ret
    exact ⟨rfl, step B0 b7⟩
  · have q3 := HQ2.out
    rw [if_neg hzk] at q3
    have HQ3 := Lib.hid q3
    clear HQ2 q3
    have hzk2 : ¬ ((z : Int) = (k : Int)) := by omega
    have dzk : decide ((z : Int) = (k : Int)) = false := decide_eq_false hzk2
    have dzk2 : ((z : Int) == (k : Int)) = false := beq_eq_false_iff_ne.2 hzk2
    go_upto_region 16 with (first
      | (refine p_midP rfl _ rfl b (o + z * 21) rfl x x2 ?_)
      | (refine p_storeP rfl rfl _ _ rfl x rfl rfl ?_))
    (try simp only [Act.put]); (try simp only [List.setIfInBounds_toArray]); (try simp only [List.set_cons_succ]); (try simp only [List.set_cons_zero])
    have b6 := step b5 (HA.out x)
    have q4 := range_bel HQ3.out (HA.out x) hg2'
    have t4 : (w4.alloc (.cells (peA x) 43)).rangeAt w4.heap.size 0 (peC x) := blk_range (Blk.new w4 (peA x) 43)
    clear HY2 HCB HQ3 HA ca cb x2
    (try clear cb2)
    generalize w4.alloc _ = V at *
    generalize w4.heap.size = gw at *
    have HR3 : ∀ d os, Calls Tryd.prog 10 #[] (grow (redrawn V d) os) fun e w' => e = .returned (.bool true) ∧ Below (grow (redrawn V d) os).heap.size (grow (redrawn V d) os) w' := fun d os => HR.out _ (step b6 (below_regrown V d os))
    have HE := eqP_self x
    refine wp_region_quiet_below (by kernel_rfl) (by kernel_rfl) ?_
    repeat (first
      | go_big_quiet_skip
      | (go_big_quiet_want
         first
         | (first
              | (refine q_midP _ rfl gw 0 rfl x (by with_reducible exact t4) ?_)
              | (refine q_midP _ rfl g2 (z2 * 21) rfl x (by with_reducible exact q4) ?_)
              | (refine q_eqlP _ _ rfl x x rfl rfl HE ?_)
            simp only [Act.put, List.setIfInBounds_toArray, List.set_cons_succ, List.set_cons_zero]
            go_big_quiet_on)
         | (go_big_quiet_op
            first | go_big_quiet_on | go_big_quiet_call (first | with_reducible exact Calls.regrown_of (HR3 _ _) | exact Calls.regrown_of (HR3 _ _) | (trace_state; fail)))))
    refine wpQuiet_nil ?_
    intro w5 hw'
    have b7 := step b6 (quiet_end hw')
    clear hw'
    go_wp2
    go_ret
    exact ⟨rfl, step B0 b7⟩
theorem walk_yes {w : World} {v : Value} {L : List Pe} (k m : Nat) (hm : L.length = m + 1) (h1 : 1 ≤ m) (hk : k < m + 1) (id : Nat) (hid : id < M) (hG : Glob w) (hL : Lies w v L) (hw : Wf L) (hC : Circ L) : Calls Tryd.prog 6 #[v, .int .i64 (k : Int), idv id] w fun e w' => e = .returned (.bool true) ∧ Below w.heap.size w w' := by
  have B0 := (Below.refl w.heap.size w).alloc (Nat.le_refl _) (.cells (row (dig 20 id)) 32)
  have I0 := At.new w id
  have L0 := hL.bel B0
  obtain ⟨b, o, c, rfl, hc, hr, hb0⟩ := L0.some hC.pos.1
  have hC1 := less1_circ hC (i := k) (by omega) (by omega)
  have hw1 := wf_less1 hw k
  have hz := own_lt hC.pos.1 id
  have hz2 := own_lt hC1.pos.1 id
  have hz3 : (ownN L id + 1) % L.length < L.length := Nat.mod_lt _ hC.pos.1
  have hgo := goes hC (i := k) (id := id) (by omega) (by omega)
  have hlen1 : (less1 L k).length = m := by rw [less1_length (by omega)]; omega
  have hP : ∀ (q : Nat) (w1 : World), q < L.length → Below (w.alloc (.cells (row (dig 20 id)) 32)).heap.size (w.alloc (.cells (row (dig 20 id)) 32)) w1 → w1.rangeAt b (o + q * 21) (peC (L.getD q (0, 0))) := fun q w1 hq hb => range_bel (row_peer hr (at_get hq)) hb hb0
  refine core (L := L) (R := less1 L k) b o c L.length m k (ownN L id) (ownN (less1 L k) id) ((ownN L id + 1) % L.length) id (L.getD (ownN L id) (0, 0)) (L.getD ((ownN L id + 1) % L.length) (0, 0)) rfl B0 I0
    rfl hm h1 (by omega) hC.1.2 hc hz (by omega) hz3 (Owner_yes id L0 hw hid hC) (fun w1 v1 h => Owner_yes id h hw1 hid hC1) (fun w1 hb => copies_two id (L0.bel hb) hw hid hC (by omega))
    (fun w1 hb => rounded_any w1 (hG.later (step B0 hb))) (fun w1 hb => range_bel hr hb hb0) (fun w1 hb => hP _ w1 hz hb) (fun w1 hb => hP _ w1 hz3 hb) ?_ ?_
  · intro w1 g h
    have := row_peer h (at_get (L := less1 L k) (i := ownN (less1 L k) id) (by omega))
    rw [Nat.zero_add, show (ad (less1 L k) (ownN (less1 L k) id), pn (less1 L k) (ownN (less1 L k) id)) = (less1 L k).getD (ownN (less1 L k) id) (0, 0) from rfl, hgo] at this
    by_cases hzk : ownN L id = k
    · rw [if_pos hzk] at this ⊢; exact this
    · rw [if_neg hzk] at this ⊢; exact this
  · intro w2 B v h
    rw [hm] at h
    exact rest_form hm h1 hk h
theorem walk {w : World} (hG : Glob w) {v : Value} {L : List Pe} (hL : Lies w v L) (hw : Wf L) (i : Int) (_ : -9223372036854775808 ≤ i ∧ i ≤ 9223372036854775807) (id : Nat) (hid : id < M) :
    Calls Tryd.prog 6 #[v, .int .i64 i, idv id] w fun e w' => e = .returned (.bool true) ∧ Below w.heap.size w w' := by
  by_cases h : L.length ≤ 100
  · by_cases hC : Circ L
    · by_cases hb : L.length < 2 ∨ i < 0 ∨ (L.length : Int) ≤ i
      · exact walk_bad i id hid hG hL hw hC hb
      · obtain ⟨k, rfl⟩ : ∃ k : Nat, i = (k : Int) := ⟨i.toNat, by omega⟩
        exact walk_yes k (L.length - 1) (by omega) (by omega) (by omega) id hid hG hL hw hC
    · exact walk_no i id hG hL hw hC h
  · exact walk_long i id hL (by omega)

set_option maxRecDepth 100000 in
theorem lifted (os : Os) (started : os.Started) (H : Type) (enc : TypeId × Value → H) :
    ReturnsInHanded {} Tryd.checked os 6 .any (fun w args => (Rows.circleGoesSpec.pre enc Tryd.prog Tryd.f6 [] false w args ∧ laidMetH Tryd.prog LD w) ∧ sizedMet enc Tryd.prog Tryd.f6 (OpenSpec.ofChange Rows.circleGoesSpec) false w args)
      (Rows.circleGoesSpec.post enc Tryd.prog Tryd.f6 false true false false) := by
  refine returnsInHanded_of_change_and (C := Tryd.checked) (X := fun w _ => laidMetH Tryd.prog LD w) (fun _ _ _ hh h => h.of_heap hh) own started (by kernel_rfl) Tryd.func6
    (ChangeSpec.witness_shaped (enc := enc) (C := Tryd.checked) (os := os) (X := fun w _ => laidMetH Tryd.prog LD w) false (World.doorLaid Tryd.prog 31 os) #[.slice none 0 0, .int .i64 0, .agg #[.int .u8 0, .int .u8 0, .int .u8 0, .int .u8 0, .int .u8 0, .int .u8 0, .int .u8 0, .int .u8 0, .int .u8 0, .int .u8 0, .int .u8 0, .int .u8 0, .int .u8 0, .int .u8 0, .int .u8 0, .int .u8 0, .int .u8 0, .int .u8 0, .int .u8 0, .int .u8 0]] 8 rfl (World.shaped_of_RefB (by kernel_rfl) (by kernel_rfl)) (by kernel_rfl) (by kernel_rfl) (by kernel_rfl) (door_met os _)) ?_
  intro W base args ds gs before hval0 hW _ _ hL _
  have hval : ∀ (j : Nat) t v, Tryd.f6.params[j]? = some t → args[j]? = some v → Value.okWide Tryd.prog W .any base t v := hval0
  have hW' := hW
  obtain ⟨p, q, hA0, hV, rfl, hfz, hnd⟩ := hW
  have hA : DataW.TrodAll enc Tryd.prog W 0 (fun _ => true) true Tryd.f6.params.toList args.toList ds p := hA0
  rw [Tryd.params6] at hA hval
  obtain ⟨v0, vs0, d0, ds0, p0, q0, hargs, rfl, rfl, h0, r0⟩ := trodAll_cons hA
  obtain ⟨v1, vs1, d1, ds1, p1, q1, rfl, rfl, rfl, h1, r1⟩ := trodAll_cons r0
  obtain ⟨v2, vs2, d2, ds2, p2, q2, rfl, rfl, rfl, h2, r2⟩ := trodAll_cons r1
  obtain ⟨rfl, rfl, rfl⟩ := trodAll_nil r2
  obtain rfl : args = #[v0, v1, v2] := by cases args; simp_all
  obtain ⟨rfl, rfl⟩ := trodVars_none hV
  have k0 := h0
  have lt0 : ∀ x ∈ p0, x.block < W.heap.size := by obtain ⟨m, hm⟩ := k0; exact DataW.trod_lt m _ _ _ hm
  obtain ⟨L0, ls0, wf0⟩ := open_peers (hval 0 23 v0 rfl rfl) h0
  have k1 := h1
  have lt1 : ∀ x ∈ p1, x.block < W.heap.size := by obtain ⟨m, hm⟩ := k1; exact DataW.trod_lt m _ _ _ hm
  obtain ⟨n1, bd1, rfl⟩ := open_i64 (hval 1 3 v1 rfl rfl) h1
  have k2 := h2
  have lt2 : ∀ x ∈ p2, x.block < W.heap.size := by obtain ⟨m, hm⟩ := k2; exact DataW.trod_lt m _ _ _ hm
  obtain ⟨n2, il2, rfl⟩ := open_id (hval 2 32 v2 rfl rfl) h2
  have hG := glob_of_laid hL
  clear hA0 hval0
  refine (walk hG ls0 wf0 n1 bd1 n2 il2).mono fun e W' ⟨he, bel⟩ => ?_
  subst he
  exact ⟨_, rfl, _, _, _, [], _, [], hW', trodAll_mk1 (shut_bool Tryd.underlying4 _), (trodAll_cons_mk (Below.trod laidOut (by kernel_rfl) (of_decide_eq_true (by kernel_rfl)) k0 bel lt0) (trodAll_cons_mk (Below.trod laidOut (by kernel_rfl) (of_decide_eq_true (by kernel_rfl)) k1 bel lt1) (trodAll_cons_mk (Below.trod laidOut (by kernel_rfl) (of_decide_eq_true (by kernel_rfl)) k2 bel lt2) trodAll_mk0))), rfl, bel.frame _, fun h => by cases h⟩

theorem proved : Rows.CircleGoesSaid :=
  OpenClaim.holds_of_wide 6 Tryd.f6 rfl rfl rfl rfl rfl rfl rfl ⟨rfl, rfl, rfl, rfl, rfl⟩ rfl rfl rfl rfl rfl (by kernel_rfl) Tryd.func6 (by kernel_rfl)
    (of_decide_eq_true (by kernel_rfl)) (by unfold Func.isWrapper; first | (rw [if_pos (by decide +kernel)]; kernel_rfl) | (rw [if_neg (by decide +kernel)]; exact ⟨rfl, rfl⟩))
    (fun os started H enc _ => lifted os started H enc)
theorem card : Rows.CircleGoesCardSaid :=
  Claim7.holds_tied_plain_at .later [] [.data, .data, .data] true _ false
    proved (fun _ h => by cases h) (by kernel_rfl) (fun _ h => by cases h) circleGoes_row_tie rfl ⟨rfl, rfl⟩ (by kernel_rfl) rfl
    (fun f fn hf hfn => by
      obtain rfl : f = 6 := Option.some.inj ((show Tryd.prog.funcNamed Rows.circleGoesRow.func = some 6 by kernel_rfl).symm.trans hf) |>.symm
      obtain rfl : fn = Tryd.f6 := (Option.some.inj (Tryd.func6.symm.trans hfn)).symm
      exact ⟨by kernel_rfl, fun j t ht => by
        rw [Tryd.params6] at ht
        have hm : t ∈ [23, 3, 32] := by simpa using Array.mem_of_getElem? ht
        have hall : ([23, 3, 32].all fun u => !Tryd.prog.wantsStandIn u) = true := by kernel_rfl
        exact (show Tryd.prog.wantsStandIn t = false by simpa using List.all_eq_true.1 hall t hm)⟩)
    (by kernel_rfl)

end Go.Proofs.YtmlejcfnnjnggaaDoor.GoesLaw
