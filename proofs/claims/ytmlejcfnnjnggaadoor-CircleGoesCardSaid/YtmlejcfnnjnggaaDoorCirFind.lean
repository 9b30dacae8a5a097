/- Who owns a place: the search, and what it is built of. -/
import Derived.Test.YtmlejcfnnjnggaaDoorCirMem
namespace Go.Proofs.YtmlejcfnnjnggaaDoor
set_option maxRecDepth 100000
open Go Go.RowKit Go.Sort

def sizeB (n : Int) : Bool := decide (1 ≤ n) && decide (n ≤ 16)
def addrB (n : Int) : Bool := decide (0 ≤ n) && decide (n ≤ 999)
theorem isSize_any (n : Int) (w : World) : Calls Tryd.prog 28 #[.int .i64 n] w fun e w' => e = .returned (.bool (sizeB n)) ∧ w = w' := by
  unfold sizeB
  by_cases h1 : 1 ≤ n <;> by_cases h2 : n ≤ 16
  all_goals
    have d1 := decide_eq_true_iff (p := 1 ≤ n)
    go_enter Tryd.func28, Tryd.ntmps28
    go_wp2
    go_ret
    simp [h1, h2]
theorem isAddr_any (n : Int) (w : World) : Calls Tryd.prog 29 #[.int .i64 n] w fun e w' => e = .returned (.bool (addrB n)) ∧ w = w' := by
  unfold addrB
  by_cases h1 : 0 ≤ n <;> by_cases h2 : n ≤ 999
  all_goals
    have d1 := decide_eq_true_iff (p := 0 ≤ n)
    go_enter Tryd.func29, Tryd.ntmps29
    go_wp2
    go_ret
    simp [h1, h2]
theorem less_gives (a b : Nat) : Gives Tryd.prog 27 #[idv a, idv b] (.bool (lessB a b)) := less_all a b
theorem refLess_gives (a b : Nat) : Gives Tryd.prog 34 #[idv a, idv b] (.bool (lessB a b)) := refLess_all a b
theorem lessB_lt {a b : Nat} (ha : a < M) (hb : b < M) : lessB a b = decide (a < b) := by unfold lessB; rw [Nat.mod_eq_of_lt ha, Nat.mod_eq_of_lt hb]

theorem pred_any {w : World} {v : Value} {L : List Pe} (gl gi id i : Nat) (hv : Blk w gl #[v] 23) (hi : At w gi id) (hL : Lies w v L) (hlt : i < L.length) :
    Calls Tryd.prog 48 #[.int .i64 (i : Int), .pointer (some ⟨gl, 0, none⟩), .pointer (some ⟨gi, 0, none⟩)] w fun e w' => e = .returned (.bool (!lessB (pn L i) id)) ∧ Below w.heap.size w w' := by
  obtain ⟨b, o, c, rfl, hc, hr, hp, hb⟩ := hL.at (at_get hlt)
  have hpi := pe_id hp
  have c1 : ∀ d os, (grow (redrawn w d) os).cell? ⟨gl, 0, none⟩ = some (.slice (some ⟨b, o, none⟩) L.length c) := fun d os => hv.grown 0 d os
  have HL := less_gives (pn L i) id
  generalize lessB (pn L i) id = r at *
  generalize pn L i = p at *
  clear hr hp hv
  generalize L.length = n at *
  go_enter Tryd.func48, Tryd.ntmps48
  go_upto_region 1 with (fail)
  refine wp_region_quiet_below (by kernel_rfl) (by kernel_rfl) ?_
  repeat (first
    | go_big_quiet_skip
    | (go_big_quiet_want
       first
       | (first | (refine q_midI _ rfl _ _ rfl p (by with_reducible exact hpi) ?_) | (refine q_at _ rfl _ id rfl hi ?_)
          simp only [Act.put, List.setIfInBounds_toArray, List.set_cons_succ, List.set_cons_zero]
          go_big_quiet_on)
       | (go_big_quiet_op
          first | go_big_quiet_on | go_big_quiet_call (first | with_reducible exact HL.grown _ _))))
  refine wpQuiet_nil ?_
  intro w2 hw'
  have HB := Lib.hid (quiet_end hw')
  clear hw'
  go_wp2
  go_ret
  exact ⟨rfl, HB.out⟩

set_option maxHeartbeats 1000000 in
theorem search_any (n : Nat) (c1 c2 : Value) (p : Nat → Bool) (w : World) (hn : n ≤ 1000000) (hm : ∀ i j, i ≤ j → j < n → p i = true → p j = true)
    (HF : Hid (∀ (w1 : World) (i : Nat), i < n → Below w.heap.size w w1 → Calls Tryd.prog 48 #[.int .i64 (i : Int), c1, c2] w1 fun e w' => e = .returned (.bool (p i)) ∧ Below w1.heap.size w1 w')) :
    Calls Tryd.prog 47 #[.int .i64 (n : Int), .func (.func 48) #[] #[c1, c2]] w fun e w' => ∃ k : Nat, e = .returned (.int .i64 (k : Int)) ∧ k ≤ n ∧ (∀ i, i < k → p i = false) ∧ (k < n → p k = true) ∧ Below w.heap.size w w' := by
  have HM := Lib.hid hm
  clear hm
  go_enter Tryd.func47, Tryd.ntmps47
  go_wp2
  go_loopw [5, 6] (fun x y wr => ∃ a b : Nat, a ≤ b ∧ b ≤ n ∧ x = .int .i64 a ∧ y = .int .i64 b ∧ (∀ i, i < a → p i = false) ∧ (b < n → p b = true) ∧ Below w.heap.size w wr) (fun x y _ => (intOf y).toNat - (intOf x).toNat)
  case atStart => exact ⟨0, n, by omega, by omega, rfl, rfl, fun i hi => by omega, fun h => by omega, Below.refl _ _⟩
  case round =>
    obtain ⟨a, b, hab, hbn, rfl, rfl, h1, h2, hB⟩ := hrel
    have H1 := Lib.hid h1
    have H2 := Lib.hid h2
    have HB := Lib.hid hB
    clear h1 h2 hB
    by_cases hlt : a < b
    · have hmn : (a + b) / 2 < n := by omega
      have HA := Lib.hid (HF.out wr ((a + b) / 2) hmn HB.out)
      have e1 : (((a + b) / 2 : Nat) : Int) = ((a : Int) + (b : Int)) / 2 := by omega
      have HE := Lib.hid (rfl : p ((a + b) / 2) = p ((a + b) / 2))
      generalize hr : p ((a + b) / 2) = r at HA
      have HR := Lib.hid hr
      clear hr HE
      rw [e1] at HA
      have HI := Lib.hid e1
      clear e1
      cases r
      · go_wp2_with (go_at_call 48; (with_reducible refine HA.out.mono ?_); rintro e w1 ⟨rfl, hb1⟩)
        refine ⟨⟨(a + b) / 2 + 1, b, by omega, hbn, by rw [Int.natCast_add, HI.out]; go_num, rfl, fun i hi => ?_, H2.out, HB.out.trans (hb1.mono HB.out.size)⟩, by simp [intOf]; omega⟩
        cases hp : p i with
        | false => rfl
        | true =>
          have := HM.out i ((a + b) / 2) (by omega) hmn hp
          rw [HR.out] at this
          exact absurd this (by simp)
      · go_wp2_with (go_at_call 48; (with_reducible refine HA.out.mono ?_); rintro e w1 ⟨rfl, hb1⟩)
        exact ⟨⟨a, (a + b) / 2, by omega, by omega, rfl, by rw [HI.out], H1.out, fun _ => HR.out, HB.out.trans (hb1.mono HB.out.size)⟩, by simp [intOf]; omega⟩
    · obtain rfl : b = a := by omega
      go_wp2
      go_ret
      exact ⟨_, rfl, hbn, H1.out, H2.out, HB.out⟩
theorem Rise.mono {L : List Pe} (h : Rise L) {i j : Nat} (hij : i ≤ j) (hj : j < L.length) : pn L i ≤ pn L j := by
  rcases Nat.lt_or_ge i j with h1 | h1
  · exact Nat.le_of_lt (h i j h1 hj)
  · obtain rfl : i = j := by omega
    exact Nat.le_refl _
set_option maxHeartbeats 1000000 in
theorem firstFrom_any {w : World} {v : Value} {L : List Pe} (id : Nat) (hL : Lies w v L) (hR : Rise L) (hw : Wf L) (hid : id < M) (hn : L.length ≤ 1000000) :
    Calls Tryd.prog 31 #[v, idv id] w fun e w' => e = .returned (.int .i64 (firstN L id : Nat)) ∧ Below w.heap.size w w' := by
  obtain ⟨a, c, rfl⟩ := hL.form
  have B0 : Below w.heap.size w ((w.alloc (.cells #[.slice a L.length c] 23)).alloc (.cells (row (dig 20 id)) 32)) := ((Below.refl w.heap.size w).alloc (Nat.le_refl _) _).alloc (by simp) _
  have V0 : Blk ((w.alloc (.cells #[.slice a L.length c] 23)).alloc (.cells (row (dig 20 id)) 32)) w.heap.size #[.slice a L.length c] 23 := (Blk.new w _ _).alloc _
  have I0 : At ((w.alloc (.cells #[.slice a L.length c] 23)).alloc (.cells (row (dig 20 id)) 32)) (w.heap.size + 1) id := by
    have := At.new (w.alloc (.cells #[.slice a L.length c] 23)) id
    rwa [World.size_alloc] at this
  rw [show idv id = .agg (row (dig 20 id)) from rfl]
  go_enter Tryd.func31, Tryd.ntmps31
  go_upto_region 1 with (fail)
  generalize hW : (w.alloc _).alloc _ = W at *
  clear hW
  have c1 : W.cell? ⟨w.heap.size, 0, none⟩ = some (.slice a L.length c) := V0.cell 0
  have HS := Lib.hid (search_any L.length (.pointer (some ⟨w.heap.size, 0, none⟩)) (.pointer (some ⟨w.heap.size + 1, 0, none⟩)) (fun i => !lessB (pn L i) id) W hn
    (fun i j hij hj hp => by
      simp only [Bool.not_eq_true', lessB_lt (hw.pn _) hid, decide_eq_false_iff_not] at hp ⊢
      have := hR.mono hij hj
      omega)
    (Lib.hid fun w1 i hi hb => pred_any w.heap.size (w.heap.size + 1) id i (V0.below hb V0.lt) (I0.below hb) ((hL.bel B0).bel hb) hi))
  have HB := Lib.hid B0
  have fin : ∀ k : Nat, k ≤ L.length → (∀ i, i < k → (!lessB (pn L i) id) = false) → (k < L.length → (!lessB (pn L k) id) = true) → firstN L id = k := fun k hk h1 h2 => by
    refine first_of hk (fun i hi => ?_) (fun h => ?_)
    · have := h1 i hi
      rw [lessB_lt (hw.pn _) hid] at this
      simpa using this
    · have := h2 h
      rw [lessB_lt (hw.pn _) hid] at this
      simpa using this
  have HF := Lib.hid fin
  clear fin B0 V0 I0 hL hR hw
  generalize pn L = q at *
  generalize L.length = n at *
  go_wp2_with (go_at_call 47; (with_reducible refine HS.out.mono ?_); rintro e w1 ⟨k, rfl, hk, h1, h2, hb⟩; have HE := Lib.hid (HF.out k hk h1 h2); clear h1 h2)
  go_ret
  refine ⟨?_, step HB.out hb⟩
  show Ending.returned (.int .i64 (k : Int)) = _
  rw [HE.out]
theorem round_any (a : Option Addr) (n c k : Nat) (h0 : 0 < n) (hk : k ≤ 1000000000) (w : World) : Calls Tryd.prog 40 #[.slice a n c, .int .i64 (k : Int)] w fun e w' => e = .returned (.int .i64 ((k % n : Nat) : Int)) ∧ w = w' := by
  have hz : ¬ (n : Int) = 0 := by omega
  have hp : (0 : Int) ≤ (k : Int) := by omega
  go_enter Tryd.func40, Tryd.ntmps40
  go_wp2
  go_ret
  simp
set_option maxHeartbeats 1000000 in
theorem owner_any {w : World} {v : Value} {L : List Pe} (id : Nat) (hL : Lies w v L) (hR : Rise L) (hw : Wf L) (hid : id < M) (h0 : 0 < L.length) (hn : L.length ≤ 1000000) :
    Calls Tryd.prog 39 #[v, idv id] w fun e w' => e = .returned (.int .i64 (ownN L id : Nat)) ∧ Below w.heap.size w w' := by
  obtain ⟨a, c, rfl⟩ := hL.form
  have B0 : Below w.heap.size w (w.alloc (.cells (row (dig 20 id)) 32)) := (Below.refl w.heap.size w).alloc (Nat.le_refl _) _
  have I0 := At.new w id
  have hF := firstFrom_any id (hL.bel B0) hR hw hid hn
  have hG := fun w => round_any a L.length c (firstN L id) h0 (by have := first_le L id; omega) w
  have HO : Hid (((firstN L id % L.length : Nat) : Int) = (ownN L id : Nat)) := rfl
  have HF := Lib.hid hF
  have HG := Lib.hid hG
  have HB := Lib.hid B0
  clear hL hR hw h0 hn hF hG B0
  generalize ownN L id = r at *
  generalize firstN L id = k at *
  generalize L.length = n at *
  rw [show idv id = .agg (row (dig 20 id)) from rfl]
  go_enter Tryd.func39, Tryd.ntmps39
  go_upto_region 1 with (fail)
  generalize w.alloc _ = W at *
  go_wp2_with (first
    | (refine p_load rfl _ rfl _ rfl id I0 ?_)
    | (go_at_call 31; (with_reducible refine HF.out.mono ?_); rintro e w1 ⟨rfl, hb⟩)
    | (go_at_call 40; (with_reducible refine (HG.out _).mono ?_); rintro e w2 ⟨rfl, rfl⟩))
  go_ret
  refine ⟨?_, step HB.out hb⟩
  rw [← HO.out]
  rfl
end Go.Proofs.YtmlejcfnnjnggaaDoor
