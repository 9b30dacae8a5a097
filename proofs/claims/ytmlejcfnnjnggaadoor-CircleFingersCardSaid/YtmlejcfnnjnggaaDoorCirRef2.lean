/- The document's answers: owners, copies. -/
import Derived.Test.YtmlejcfnnjnggaaDoorCirRef
import Derived.Test.YtmlejcfnnjnggaaDoorCirFin
namespace Go.Proofs.YtmlejcfnnjnggaaDoor
set_option maxRecDepth 100000
open Go Go.RowKit Go.Sort

theorem refOwner_no {w : World} {v : Value} {L : List Pe} (id : Nat) (hL : Lies w v L) (hw : Wf L) (hn : L.length ≤ 1000000) (hC : ¬ Circ L) :
    Calls Tryd.prog 15 #[v, idv id] w fun e w' => e = .returned (.tuple #[.int .i64 0, .int .i64 1]) ∧ Below w.heap.size w w' := by
  obtain ⟨a, c, rfl⟩ := hL.form
  have B0 : Below w.heap.size w (w.alloc (.cells (row (dig 20 id)) 32)) := (Below.refl w.heap.size w).alloc (Nat.le_refl _) _
  have hI := refIs_any (hL.bel B0) hw hn
  rw [isB_no hC] at hI
  have HI := Lib.hid hI
  have HB := Lib.hid B0
  clear hL hw hn hI B0
  generalize L.length = n at *
  rw [show idv id = .agg (row (dig 20 id)) from rfl]
  go_enter Tryd.func15, Tryd.ntmps15
  go_upto_region 1 with (fail)
  generalize w.alloc _ = W at *
  go_wp2_with (go_at_call 13; (with_reducible refine HI.out.mono ?_); rintro e w1 ⟨rfl, hb⟩)
  go_ret2
  exact ⟨rfl, step HB.out hb⟩
set_option maxHeartbeats 2000000 in
theorem refOwner_yes {w : World} {v : Value} {L : List Pe} (id : Nat) (hL : Lies w v L) (hw : Wf L) (hid : id < M) (hC : Circ L) :
    Calls Tryd.prog 15 #[v, idv id] w fun e w' => e = .returned (.tuple #[.int .i64 (ownN L id : Nat), .int .i64 0]) ∧ Below w.heap.size w w' := by
  have hL0 := hL
  obtain ⟨b, o, c, e0, hc, hr, hb0⟩ := hL.some hC.pos.1
  subst e0
  have hn0 := hC.pos
  have B0 : Below w.heap.size w (w.alloc (.cells (row (dig 20 id)) 32)) := (Below.refl w.heap.size w).alloc (Nat.le_refl _) _
  have I0 := At.new w id
  have hI := refIs_any (hL0.bel B0) hw hn0.2
  rw [isB_yes hC] at hI
  have HI := Lib.hid hI
  obtain ⟨n, hnL⟩ : ∃ n, n = L.length := ⟨_, rfl⟩
  have hstop : ∀ q, q < L.length → (∀ j, j < q → lessB (pn L j) id = true) → lessB (pn L q) id = false → ownN L id = q := fun q hq h1 h2 => by
    have : firstN L id = q := first_of (by omega) (fun j hj => by have := h1 j hj; rw [lessB_lt (hw.pn _) hid] at this; simpa using this) (fun _ => by rw [lessB_lt (hw.pn _) hid] at h2; simpa using h2)
    rw [own_if, this, if_pos hq]
  have hend : (∀ j, j < L.length → lessB (pn L j) id = true) → ownN L id = 0 := fun h1 => by
    have : firstN L id = L.length := first_of (Nat.le_refl _) (fun j hj => by have := h1 j hj; rw [lessB_lt (hw.pn _) hid] at this; simpa using this) (fun h => by omega)
    rw [own_if, this, if_neg (by omega)]
  rw [← hnL] at hI hstop hend hn0 HI ⊢
  have HR : Hid (∀ q w1, q < n → Below w.heap.size w w1 → w1.rangeAt b (o + q * 21 + 1) (row (dig 20 (pn L q))).toList) := fun q w1 hq hb => range_bel (lies_id hr (by omega)) hb hb0
  have HSt := Lib.hid hstop
  have HEn := Lib.hid hend
  clear hL hL0 hw hid hC hI hr hc hstop hend hnL
  generalize ownN L id = r at *
  generalize pn L = p at *
  rw [show idv id = .agg (row (dig 20 id)) from rfl]
  go_enter Tryd.func15, Tryd.ntmps15
  go_upto_region 1 with (fail)
  generalize w.alloc _ = W at *
  go_wp2_with (go_at_call 13; (with_reducible refine HI.out.mono ?_); rintro e w1 ⟨rfl, hb⟩)
  have I1 := Lib.hid (I0.below hb)
  have HB1 := Lib.hid (step B0 hb)
  have hgl : w.heap.size < w1.heap.size := I1.out.lt
  clear I0 hb B0 HI
  go_loopw [6] (fun i wr => ∃ q : Nat, q ≤ n ∧ i = .int .i64 (q : Int) ∧ Below w1.heap.size w1 wr ∧ ∀ j, j < q → lessB (p j) id = true) (fun i _ => n - (intOf i).toNat)
  case atStart => exact ⟨0, by omega, rfl, Below.refl _ _, fun j hj => by omega⟩
  case round =>
    obtain ⟨q, hq, rfl, hB, hJ⟩ := hrel
    have HB := Lib.hid hB
    have HJ := Lib.hid hJ
    clear hB hJ
    by_cases hlt : q < n
    · have hi : At wr w.heap.size id := I1.out.below HB.out
      have ri := HR.out q wr hlt (step HB1.out HB.out)
      have HL := refLess_gives (p q) id
      cases hls : lessB (p q) id
      · have HX := Lib.hid (HSt.out q hlt HJ.out hls)
        rw [hls] at HL
        clear hls
        generalize p q = x at *
        go_upto_region 6 with (fail)
        refine wp_region_quiet_below (by kernel_rfl) (by kernel_rfl) ?_
        repeat (first
          | go_big_quiet_skip
          | (go_big_quiet_want
             first
             | (first | (refine q_midI _ rfl _ _ rfl x (by with_reducible exact ri) ?_) | (refine q_at _ rfl _ id rfl hi ?_)
                simp only [Act.put, List.setIfInBounds_toArray, List.set_cons_succ, List.set_cons_zero]
                go_big_quiet_on)
             | (go_big_quiet_op
                first | go_big_quiet_on | go_big_quiet_call (first | with_reducible exact HL.grown _ _))))
        refine wpQuiet_nil ?_
        intro w2 hw'
        have hb2 := quiet_end hw'
        clear hw'
        have HB2 := Lib.hid (step (step HB1.out HB.out) hb2)
        clear hb2 ri hi
        go_wp2
        go_ret2
        exact ⟨by rw [HX.out]; rfl, HB2.out⟩
      · have HX : Hid (∀ j, j < q + 1 → lessB (p j) id = true) := fun j hj => by
          rcases Nat.lt_or_ge j q with h | h
          · exact HJ.out j h
          · obtain rfl : j = q := by omega
            exact hls
        rw [hls] at HL
        clear hls
        generalize hpq : p q = x at *
        clear hpq
        go_upto_region 6 with (fail)
        refine wp_region_quiet_below (by kernel_rfl) (by kernel_rfl) ?_
        repeat (first
          | go_big_quiet_skip
          | (go_big_quiet_want
             first
             | (first | (refine q_midI _ rfl _ _ rfl x (by with_reducible exact ri) ?_) | (refine q_at _ rfl _ id rfl hi ?_)
                simp only [Act.put, List.setIfInBounds_toArray, List.set_cons_succ, List.set_cons_zero]
                go_big_quiet_on)
             | (go_big_quiet_op
                first | go_big_quiet_on | go_big_quiet_call (first | with_reducible exact HL.grown _ _))))
        refine wpQuiet_nil ?_
        intro w2 hw'
        have hb2 := quiet_end hw'
        clear hw'
        have HB2 := Lib.hid (step HB.out hb2)
        clear hb2 ri hi
        go_wp2
        exact ⟨⟨q + 1, by omega, by go_num, HB2.out, HX.out⟩, by simp [intOf]; omega⟩
    · obtain rfl : n = q := by omega
      have HX := Lib.hid (HEn.out HJ.out)
      have HB2 := Lib.hid (step HB1.out HB.out)
      go_wp2
      go_ret2
      exact ⟨by rw [HX.out]; rfl, HB2.out⟩
theorem refCopies_no {w : World} {v : Value} {L : List Pe} (id : Nat) (r : Int) (hL : Lies w v L) (hw : Wf L) (hid : id < M) (hn : L.length ≤ 1000000) (hC : ¬ (Circ L ∧ 1 ≤ r ∧ r ≤ 8)) :
    Calls Tryd.prog 17 #[v, idv id, .int .i64 r] w fun e w' => e = .returned (.tuple #[.slice none 0 0, .int .i64 1]) ∧ Below w.heap.size w w' := by
  have hL0 := hL
  obtain ⟨a, c, rfl⟩ := hL.form
  have B0 : Below w.heap.size w (w.alloc (.cells (row (dig 20 id)) 32)) := (Below.refl w.heap.size w).alloc (Nat.le_refl _) _
  have I0 := At.new w id
  have HB := Lib.hid B0
  by_cases h1 : Circ L
  · have HO := Lib.hid (refOwner_yes id (hL0.bel B0) hw hid h1)
    clear hL hL0 hw hn B0
    generalize ownN L id = p at *
    generalize L.length = n at *
    rw [show idv id = .agg (row (dig 20 id)) from rfl]
    by_cases h2 : 1 ≤ r
    · have d1 : decide (r < 1) = false := decide_eq_false (by omega)
      have d2 : decide (8 < r) = true := decide_eq_true (by rcases Int.lt_or_le 8 r with h | h; exact h; exact absurd ⟨h1, h2, h⟩ hC)
      clear hC h1 h2
      go_enter Tryd.func17, Tryd.ntmps17
      go_upto_region 1 with (fail)
      generalize w.alloc _ = W at *
      go_wp2_with (first | (refine p_load rfl _ rfl _ rfl id I0 ?_) | (go_at_call 15; (with_reducible refine HO.out.mono ?_); rintro e w1 ⟨rfl, hb⟩))
      go_ret2
      exact ⟨rfl, step HB.out hb⟩
    · have d1 : decide (r < 1) = true := decide_eq_true (by omega)
      clear hC h1 h2
      go_enter Tryd.func17, Tryd.ntmps17
      go_upto_region 1 with (fail)
      generalize w.alloc _ = W at *
      go_wp2_with (first | (refine p_load rfl _ rfl _ rfl id I0 ?_) | (go_at_call 15; (with_reducible refine HO.out.mono ?_); rintro e w1 ⟨rfl, hb⟩))
      go_ret2
      exact ⟨rfl, step HB.out hb⟩
  · have HO := Lib.hid (refOwner_no id (hL0.bel B0) hw hn h1)
    clear hL hL0 hw hn B0 hC h1
    generalize L.length = n at *
    rw [show idv id = .agg (row (dig 20 id)) from rfl]
    go_enter Tryd.func17, Tryd.ntmps17
    go_upto_region 1 with (fail)
    generalize w.alloc _ = W at *
    go_wp2_with (first | (refine p_load rfl _ rfl _ rfl id I0 ?_) | (go_at_call 15; (with_reducible refine HO.out.mono ?_); rintro e w1 ⟨rfl, hb⟩))
    go_ret2
    exact ⟨rfl, step HB.out hb⟩
set_option maxHeartbeats 2000000 in
theorem refCopies_yes {w : World} {v : Value} {L : List Pe} (id : Nat) (r : Int) (hL : Lies w v L) (hw : Wf L) (hid : id < M) (hC : Circ L) (h1 : 1 ≤ r) (h8 : r ≤ 8) :
    Calls Tryd.prog 17 #[v, idv id, .int .i64 r] w fun e w' => ∃ u, e = .returned (.tuple #[u, .int .i64 0]) ∧ Row w.heap.size w' u (copyN L id (min r.toNat L.length)) ∧ Below w.heap.size w w' := by
  have hL0 := hL
  obtain ⟨a, c, rfl⟩ := hL.form
  obtain ⟨h0, hn⟩ := hC.pos
  have h16 := hC.1.2
  have B0 : Below w.heap.size w (w.alloc (.cells (row (dig 20 id)) 32)) := (Below.refl w.heap.size w).alloc (Nat.le_refl _) _
  have I0 := At.new w id
  have HO := Lib.hid (refOwner_yes id (hL0.bel B0) hw hid hC)
  have hlt := own_lt h0 id
  have HS : Hid (∀ k, ints (copyN L id k) ++ [.int .i64 (((ownN L id : Nat) + (k : Int)) % (L.length : Int))] = ints (copyN L id (k + 1))) := fun k => by
    rw [← Int.natCast_add, ← Int.natCast_emod, ints_snoc, copyN_succ]
  have HCL : Hid (∀ k, (copyN L id k).length = k) := copyN_len L id
  have HC0 : Hid (copyN L id 0 = []) := rfl
  obtain ⟨k, hk⟩ : ∃ k, k = min r.toNat L.length := ⟨_, rfl⟩
  rw [← hk]
  have hkr : Hid (∀ q : Nat, q < k ↔ ((q : Int) < r ∧ (q : Int) < (L.length : Int))) := fun q => by omega
  have hk8 : k ≤ 8 := by omega
  have HB := Lib.hid B0
  have d1 : decide (r < 1) = false := decide_eq_false (by omega)
  have d2 : decide (8 < r) = false := decide_eq_false (by omega)
  have hz : ¬ (L.length : Int) = 0 := by omega
  clear hL hL0 hw hn hC B0 hid h1 h8 hk
  have hlen16 : ((ownN L id : Nat) : Int) < 16 := by omega
  have hpos : (0 : Int) ≤ ((ownN L id : Nat) : Int) := by omega
  clear hlt h16 h0
  generalize hp : ownN L id = p at *
  generalize hcp : copyN L id = cp at *
  clear hp hcp
  generalize L.length = n at *
  rw [show idv id = .agg (row (dig 20 id)) from rfl]
  go_enter Tryd.func17, Tryd.ntmps17
  go_upto_region 1 with (fail)
  generalize w.alloc _ = W at *
  go_wp2_with (first
    | (refine p_load rfl _ rfl _ rfl id I0 ?_)
    | (go_at_call 15; (with_reducible refine HO.out.mono ?_); rintro e w1 ⟨rfl, hb⟩))
  have HB2 := Lib.hid (step HB.out hb)
  clear I0 hb HO HB
  go_loopw [10, 11] (fun v i wr => ∃ q : Nat, q ≤ k ∧ i = .int .i64 (q : Int) ∧ wr.ownsRow w.heap.size 3 1 v q (ints (cp q)) ∧ Below w.heap.size w wr) (fun _ i _ => k - (intOf i).toNat)
  case atStart => exact ⟨0, by omega, rfl, by rw [HC0.out]; exact World.ownsRow_nil _ _ _ _, HB2.out⟩
  case round =>
    obtain ⟨q, hq, rfl, hO, hB⟩ := hrel
    have HO := Lib.hid hO
    have HB := Lib.hid hB
    clear hO hB
    by_cases hlt : q < k
    · obtain ⟨g1, g2⟩ := (hkr.out q).1 hlt
      have HS2 := Lib.hid (HS.out q)
      have hq8 : (q : Int) < 8 := by omega
      have hsum : (0 : Int) ≤ (p : Int) + (q : Int) := by omega
      go_wp2_with (refine wpList_append1 rfl _ _ 22 rfl w.heap.size 3 (.int .i64 0) 8 Tryd.underlying22 infoN rfl _ q _ rfl HO.out (.int .i64 (((p : Int) + (q : Int)) % (n : Int))) rfl rfl (by omega) (by omega) HB.out HB.out.size ?_; intro v' w' hO' B')
      rw [HS2.out] at hO'
      exact ⟨⟨q + 1, by omega, by go_num, hO', B'⟩, by simp [intOf]; omega⟩
    · obtain rfl : k = q := by omega
      have hnot : ¬ ((k : Int) < r ∧ (k : Int) < (n : Int)) := fun h => absurd ((hkr.out k).2 h) hlt
      by_cases g1 : (k : Int) < r
      · have g2 : ¬ (k : Int) < (n : Int) := fun h => hnot ⟨g1, h⟩
        have g3 : decide (k < n) = false := decide_eq_false (by omega)
        clear hnot
        go_wp2
        go_ret2
        refine ⟨_, rfl, ?_, HB.out⟩
        unfold Row
        rw [HCL.out]
        exact HO.out
      · have g2 : decide ((k : Int) < r) = false := decide_eq_false g1
        clear hnot
        go_wp2
        go_ret2
        refine ⟨_, rfl, ?_, HB.out⟩
        unfold Row
        rw [HCL.out]
        exact HO.out
end Go.Proofs.YtmlejcfnnjnggaaDoor
