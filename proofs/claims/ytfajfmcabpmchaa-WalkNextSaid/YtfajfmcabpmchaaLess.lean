/- Which of two places is the lesser one: the program's and the document's answer, as numbers. -/
import Derived.Test.YtfajfmcabpmchaaMem
namespace Go.Proofs.Ytfajfmcabpmchaa
open Go.RowKit

theorem less_step (a b j : Nat) (h : a / 256 ^ (j + 1) = b / 256 ^ (j + 1)) :
    (digit a j = digit b j → a / 256 ^ j = b / 256 ^ j) ∧ (digit a j ≠ digit b j → (a < b ↔ digit a j < digit b j)) := by
  rw [Nat.pow_succ, ← Nat.div_div_eq_div_mul, ← Nat.div_div_eq_div_mul] at h
  unfold digit
  have h1 : a ≤ b → a / 256 ^ j ≤ b / 256 ^ j := fun h => Nat.div_le_div_right h
  have h2 : b ≤ a → b / 256 ^ j ≤ a / 256 ^ j := fun h => Nat.div_le_div_right h
  generalize a / 256 ^ j = x at *
  generalize b / 256 ^ j = y at *
  constructor <;> omega

/-- the memory of a function of two places that only reads them -/
structure Mem2 (w wr : World) (A B : Array Value) : Prop where
  below : Below w.heap.size w wr
  a : wr.heap[w.heap.size]? = some (.cells A 24 (0, 0))
  b : wr.heap[w.heap.size + 1]? = some (.cells B 24 (0, 0))
theorem Mem2.made (w : World) (A B : Array Value) : Mem2 w ((w.alloc (.cells A 24)).alloc (.cells B 24)) A B :=
  ⟨((Below.refl _ _).alloc (Nat.le_refl _) _).alloc (by simp) _, heap_alloc2_old _ _ _, heap_alloc2_new _ _ _⟩
theorem Mem2.drewN {w wr : World} {A B : Array Value} (h : Mem2 w wr A B) (n : Nat) : Mem2 w (wr.drewN n) A B :=
  ⟨⟨h.below.os, h.below.tape, h.below.output, h.below.size, h.below.block⟩, h.a, h.b⟩

theorem less_any (a b : Nat) (w : World) (ha : a < M) (hb : b < M) :
    Calls Try.prog 23 #[idv a, idv b] w fun e w' => e = .returned (.bool (decide (a < b))) ∧ Below w.heap.size w w' := by
  unfold idv
  have H0 : Hid (a / 256 ^ (20 - 0) = b / 256 ^ (20 - 0)) := by
    unfold M at ha hb
    show a / 256 ^ 20 = b / 256 ^ 20
    rw [Nat.div_eq_of_lt ha, Nat.div_eq_of_lt hb]
  clear ha hb
  go_enter Try.func23, Try.ntmps23
  go_wp2
  go_loopw [6] (fun i wr => ∃ k : Nat, k ≤ 20 ∧ i = .int .i64 k ∧ Mem2 w wr (row (dig 20 a)) (row (dig 20 b)) ∧ Hid (a / 256 ^ (20 - k) = b / 256 ^ (20 - k))) (fun i _ => 20 - (intOf i).toNat)
  case atStart => exact ⟨0, by omega, rfl, Mem2.made .., H0⟩
  case round =>
    obtain ⟨k, hk, rfl, hm, hq⟩ := hrel
    by_cases hlt : k < 20
    · have ca : wr.cell? ⟨w.heap.size, k, none⟩ = some (.int .u8 ((digit a (19 - k) : Nat) : Int)) := by rw [cell_of_row _ _ _ _ _ _ hm.a]; exact row_dig_get a k (by omega)
      have cb : wr.cell? ⟨w.heap.size + 1, k, none⟩ = some (.int .u8 ((digit b (19 - k) : Nat) : Int)) := by rw [cell_of_row _ _ _ _ _ _ hm.b]; exact row_dig_get b k (by omega)
      have hq2 := hq.out
      rw [show 20 - k = 19 - k + 1 by omega] at hq2
      have hs := Lib.hid (less_step a b (19 - k) hq2)
      clear hq hq2
      have HM := Lib.hid hm
      clear hm
      have h0 : (0 : Int) ≤ k := by omega
      have h20 : (k : Int) < 20 := by omega
      have h1 := digit_lt a (19 - k)
      have h2 := digit_lt b (19 - k)
      generalize digit a (19 - k) = da at *
      generalize digit b (19 - k) = db at *
      by_cases hd : da = db
      · have hne : ((da : Int) != db) = false := by simp [hd]
        go_wp2
        go_quiet (fail)
        go_wp2
        refine ⟨⟨k + 1, by omega, by go_num, HM.out.drewN nq, ?_⟩, by simp [intOf]; omega⟩
        have := hs.out.1 hd
        rw [show 20 - (k + 1) = 19 - k by omega]
        exact this
      · have hne : ((da : Int) != db) = true := by simp; omega
        go_wp2
        go_quiet (fail)
        go_wp2
        go_quiet (fail)
        go_wp2
        go_ret
        refine ⟨?_, ((HM.out.drewN _).drewN _).below⟩
        have := hs.out.2 hd
        rw [show decide (a < b) = decide (da < db) by rw [decide_eq_decide]; exact this]
        try simp
    · obtain rfl : k = 20 := by omega
      have e := hq.out
      simp only [Nat.sub_self, Nat.pow_zero, Nat.div_one] at e
      subst e
      have HB := Lib.hid hm.below
      clear hm hq
      go_wp2
      go_ret
      exact ⟨by simp, HB.out⟩
theorem refLess_any (a b : Nat) (w : World) (ha : a < M) (hb : b < M) :
    Calls Try.prog 59 #[idv a, idv b] w fun e w' => e = .returned (.bool (decide (a < b))) ∧ Below w.heap.size w w' := by
  unfold idv
  have H0 : Hid (a / 256 ^ (20 - 0) = b / 256 ^ (20 - 0)) := by
    unfold M at ha hb
    show a / 256 ^ 20 = b / 256 ^ 20
    rw [Nat.div_eq_of_lt ha, Nat.div_eq_of_lt hb]
  clear ha hb
  go_enter Try.func59, Try.ntmps59
  go_wp2
  go_loopw [5] (fun i wr => ∃ k : Nat, k ≤ 20 ∧ i = .int .i64 k ∧ Mem2 w wr (row (dig 20 a)) (row (dig 20 b)) ∧ Hid (a / 256 ^ (20 - k) = b / 256 ^ (20 - k))) (fun i _ => 20 - (intOf i).toNat)
  case atStart => exact ⟨0, by omega, rfl, Mem2.made .., H0⟩
  case round =>
    obtain ⟨k, hk, rfl, hm, hq⟩ := hrel
    by_cases hlt : k < 20
    · have ca : wr.cell? ⟨w.heap.size, k, none⟩ = some (.int .u8 ((digit a (19 - k) : Nat) : Int)) := by rw [cell_of_row _ _ _ _ _ _ hm.a]; exact row_dig_get a k (by omega)
      have cb : wr.cell? ⟨w.heap.size + 1, k, none⟩ = some (.int .u8 ((digit b (19 - k) : Nat) : Int)) := by rw [cell_of_row _ _ _ _ _ _ hm.b]; exact row_dig_get b k (by omega)
      have hq2 := hq.out
      rw [show 20 - k = 19 - k + 1 by omega] at hq2
      have hs := Lib.hid (less_step a b (19 - k) hq2)
      clear hq hq2
      have HM := Lib.hid hm
      clear hm
      have h0 : (0 : Int) ≤ k := by omega
      have h20 : (k : Int) < 20 := by omega
      have h1 := digit_lt a (19 - k)
      have h2 := digit_lt b (19 - k)
      generalize digit a (19 - k) = da at *
      generalize digit b (19 - k) = db at *
      by_cases hd : da = db
      · have hne : ((da : Int) != db) = false := by simp [hd]
        go_wp2
        go_quiet (fail)
        go_wp2
        refine ⟨⟨k + 1, by omega, by go_num, HM.out.drewN nq, ?_⟩, by simp [intOf]; omega⟩
        have := hs.out.1 hd
        rw [show 20 - (k + 1) = 19 - k by omega]
        exact this
      · have hne : ((da : Int) != db) = true := by simp; omega
        go_wp2
        go_quiet (fail)
        go_wp2
        go_quiet (fail)
        go_wp2
        go_ret
        refine ⟨?_, ((HM.out.drewN _).drewN _).below⟩
        have := hs.out.2 hd
        rw [show decide (a < b) = decide (da < db) by rw [decide_eq_decide]; exact this]
        try simp
    · obtain rfl : k = 20 := by omega
      have e := hq.out
      simp only [Nat.sub_self, Nat.pow_zero, Nat.div_one] at e
      subst e
      have HB := Lib.hid hm.below
      clear hm hq
      go_wp2
      go_ret
      exact ⟨by simp, HB.out⟩
end Go.Proofs.Ytfajfmcabpmchaa
