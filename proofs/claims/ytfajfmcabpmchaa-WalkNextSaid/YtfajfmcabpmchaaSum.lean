/- The sums and differences of places, of the program and of the document's answer, as numbers. -/
import Derived.Test.YtfajfmcabpmchaaMem
namespace Go.Proofs.Ytfajfmcabpmchaa
open Go.RowKit

theorem plus_any (a b : Nat) (w : World) :
    Calls Try.prog 22 #[idv a, idv b] w fun e w' => e = .returned (idv (a + b)) ∧ Below w.heap.size w w' := by
  unfold idv
  go_enter Try.func22, Try.ntmps22
  go_wp2
  rw [zeros]
  go_loopw [6, 7] (fun c i wr => ∃ (j : Nat) (z : Int), j ≤ 20 ∧ z + j = 19 ∧ c = .int .i64 (carryOf a b j : Nat) ∧ i = .int .i64 z ∧ Mem w wr (row (dig 20 a)) (row (dig 20 b)) (row (List.replicate 20 0)) (row (part (a + b) j))) (fun _ i _ => (intOf i + 1).toNat)
  case atStart => exact ⟨0, 19, by omega, by omega, by rw [carry_zero]; rfl, rfl, by rw [part_zero]; exact Mem.made ..⟩
  case round =>
    obtain ⟨j, z, hj, hz, rfl, rfl, hm⟩ := hrel
    by_cases hlt : 0 ≤ z
    · obtain ⟨i, rfl⟩ := Int.eq_ofNat_of_zero_le hlt
      have hi : i ≤ 19 := by omega
      obtain rfl : j = 19 - i := by omega
      have ca : wr.cell? ⟨w.heap.size, i, none⟩ = some (.int .u8 ((digit a (19 - i) : Nat) : Int)) := by rw [cell_of_row _ _ _ _ _ _ hm.a]; exact row_dig_get a i (by omega)
      have cb : wr.cell? ⟨w.heap.size + 1, i, none⟩ = some (.int .u8 ((digit b (19 - i) : Nat) : Int)) := by rw [cell_of_row _ _ _ _ _ _ hm.b]; exact row_dig_get b i (by omega)
      obtain ⟨vo, co⟩ : ∃ v, wr.cell? ⟨w.heap.size + 1 + 1 + 1, i, none⟩ = some v := by rw [cell_of_row _ _ _ _ _ _ hm.o]; exact row_part_get _ _ i hj (by omega)
      have fo : wr.frozen? ⟨w.heap.size + 1 + 1 + 1, i, none⟩ = false := frozen_of_row _ _ _ _ _ hm.o
      have h1 := digit_lt a (19 - i)
      have h2 := digit_lt b (19 - i)
      have h3 := carry_lt a b (19 - i)
      have hp := Lib.hid (hm.put)
      have hs := Lib.hid (sum_step a b (19 - i))
      have h0 : (0 : Int) ≤ i := by omega
      have h20 : (i : Int) < 20 := by omega
      clear hm
      generalize carryOf a b (19 - i) = c at *
      generalize digit a (19 - i) = da at *
      generalize digit b (19 - i) = db at *
      go_wp2
      go_quiet (fail)
      go_wp2
      obtain ⟨e1, e2⟩ := hs.out
      refine ⟨⟨19 - i + 1, (i : Int) - 1, by omega, by omega, ?_, rfl, ?_⟩, by simp [intOf]⟩
      · rw [← e2]; congr 1
      · have := part_step (a + b) (19 - i) (by omega)
        rw [show 19 - (19 - i) = i by omega] at this
        rw [← this, ← e1]
        exact hp.out nq i _
    · obtain rfl : j = 20 := by omega
      have HZ := Lib.hid hm.z
      have HO := Lib.hid hm.o
      have HB := Lib.hid hm.below
      clear hm
      have hl := Lib.hid (part_length (a + b) 20 (by omega))
      go_wp2_with (first | (refine wpList_load_id rfl _ rfl _ rfl _ HO.out hl.out ?_) | (refine wpList_store_id rfl _ _ rfl _ _ rfl rfl _ HZ.out hl.out (by simp) ?_))
      refine bodyPost_ret (results_cell_row Try.results22 _ _ (w.heap.size + 1 + 1) 24 (row (part (a + b) 20)) (0, 0) _ rfl (setRow_heap _ _ _ _ _ _ HZ.out) Try.underlying24 rfl (by rw [row_size, hl.out]; exact Try.info23)) rfl ?_
      rw [part_full]
      exact ⟨rfl, below_setRow HB.out (by omega) _⟩
theorem refPlus_any (a b : Nat) (w : World) :
    Calls Try.prog 69 #[idv a, idv b] w fun e w' => e = .returned (idv (a + b)) ∧ Below w.heap.size w w' := by
  unfold idv
  go_enter Try.func69, Try.ntmps69
  go_wp2
  rw [zeros]
  go_loopw [6, 7] (fun c i wr => ∃ (j : Nat) (z : Int), j ≤ 20 ∧ z + j = 19 ∧ c = .int .i64 (carryOf a b j : Nat) ∧ i = .int .i64 z ∧ Mem w wr (row (dig 20 a)) (row (dig 20 b)) (row (List.replicate 20 0)) (row (part (a + b) j))) (fun _ i _ => (intOf i + 1).toNat)
  case atStart => exact ⟨0, 19, by omega, by omega, by rw [carry_zero]; rfl, rfl, by rw [part_zero]; exact Mem.made ..⟩
  case round =>
    obtain ⟨j, z, hj, hz, rfl, rfl, hm⟩ := hrel
    by_cases hlt : 0 ≤ z
    · obtain ⟨i, rfl⟩ := Int.eq_ofNat_of_zero_le hlt
      have hi : i ≤ 19 := by omega
      obtain rfl : j = 19 - i := by omega
      have ca : wr.cell? ⟨w.heap.size, i, none⟩ = some (.int .u8 ((digit a (19 - i) : Nat) : Int)) := by rw [cell_of_row _ _ _ _ _ _ hm.a]; exact row_dig_get a i (by omega)
      have cb : wr.cell? ⟨w.heap.size + 1, i, none⟩ = some (.int .u8 ((digit b (19 - i) : Nat) : Int)) := by rw [cell_of_row _ _ _ _ _ _ hm.b]; exact row_dig_get b i (by omega)
      obtain ⟨vo, co⟩ : ∃ v, wr.cell? ⟨w.heap.size + 1 + 1 + 1, i, none⟩ = some v := by rw [cell_of_row _ _ _ _ _ _ hm.o]; exact row_part_get _ _ i hj (by omega)
      have fo : wr.frozen? ⟨w.heap.size + 1 + 1 + 1, i, none⟩ = false := frozen_of_row _ _ _ _ _ hm.o
      have h1 := digit_lt a (19 - i)
      have h2 := digit_lt b (19 - i)
      have h3 := carry_lt a b (19 - i)
      have hp := Lib.hid (hm.put)
      have hs := Lib.hid (sum_step a b (19 - i))
      have h0 : (0 : Int) ≤ i := by omega
      have h20 : (i : Int) < 20 := by omega
      clear hm
      generalize carryOf a b (19 - i) = c at *
      generalize digit a (19 - i) = da at *
      generalize digit b (19 - i) = db at *
      go_wp2
      go_quiet (fail)
      go_wp2
      obtain ⟨e1, e2⟩ := hs.out
      refine ⟨⟨19 - i + 1, (i : Int) - 1, by omega, by omega, ?_, rfl, ?_⟩, by simp [intOf]⟩
      · rw [← e2]; congr 1
      · have := part_step (a + b) (19 - i) (by omega)
        rw [show 19 - (19 - i) = i by omega] at this
        rw [← this, ← e1]
        exact hp.out nq i _
    · obtain rfl : j = 20 := by omega
      have HZ := Lib.hid hm.z
      have HO := Lib.hid hm.o
      have HB := Lib.hid hm.below
      clear hm
      have hl := Lib.hid (part_length (a + b) 20 (by omega))
      go_wp2_with (first | (refine wpList_load_id rfl _ rfl _ rfl _ HO.out hl.out ?_) | (refine wpList_store_id rfl _ _ rfl _ _ rfl rfl _ HZ.out hl.out (by simp) ?_))
      refine bodyPost_ret (results_cell_row Try.results69 _ _ (w.heap.size + 1 + 1) 24 (row (part (a + b) 20)) (0, 0) _ rfl (setRow_heap _ _ _ _ _ _ HZ.out) Try.underlying24 rfl (by rw [row_size, hl.out]; exact Try.info23)) rfl ?_
      rw [part_full]
      exact ⟨rfl, below_setRow HB.out (by omega) _⟩

theorem minus_any (a b : Nat) (w : World) (hb : b < M) :
    Calls Try.prog 21 #[idv a, idv b] w fun e w' => e = .returned (idv (a + M - b)) ∧ Below w.heap.size w w' := by
  unfold idv
  have HB := Lib.hid hb
  clear hb
  go_enter Try.func21, Try.ntmps21
  go_wp2
  rw [zeros]
  go_loopw [6, 7] (fun c i wr => ∃ (j : Nat) (z : Int), j ≤ 20 ∧ z + j = 19 ∧ c = .int .i64 (borrowOf a b j : Nat) ∧ i = .int .i64 z ∧ Mem w wr (row (dig 20 a)) (row (dig 20 b)) (row (List.replicate 20 0)) (row (part (a + M - b) j))) (fun _ i _ => (intOf i + 1).toNat)
  case atStart => exact ⟨0, 19, by omega, by omega, by rw [borrow_zero]; rfl, rfl, by rw [part_zero]; exact Mem.made ..⟩
  case round =>
    obtain ⟨j, z, hj, hz, rfl, rfl, hm⟩ := hrel
    by_cases hlt : 0 ≤ z
    · obtain ⟨i, rfl⟩ := Int.eq_ofNat_of_zero_le hlt
      have hi : i ≤ 19 := by omega
      obtain rfl : j = 19 - i := by omega
      have ca : wr.cell? ⟨w.heap.size, i, none⟩ = some (.int .u8 ((digit a (19 - i) : Nat) : Int)) := by rw [cell_of_row _ _ _ _ _ _ hm.a]; exact row_dig_get a i (by omega)
      have cb : wr.cell? ⟨w.heap.size + 1, i, none⟩ = some (.int .u8 ((digit b (19 - i) : Nat) : Int)) := by rw [cell_of_row _ _ _ _ _ _ hm.b]; exact row_dig_get b i (by omega)
      obtain ⟨vo, co⟩ : ∃ v, wr.cell? ⟨w.heap.size + 1 + 1 + 1, i, none⟩ = some v := by rw [cell_of_row _ _ _ _ _ _ hm.o]; exact row_part_get _ _ i hj (by omega)
      have fo : wr.frozen? ⟨w.heap.size + 1 + 1 + 1, i, none⟩ = false := frozen_of_row _ _ _ _ _ hm.o
      have h1 := digit_lt a (19 - i)
      have h2 := digit_lt b (19 - i)
      have h3 := borrow_lt a b (19 - i)
      have hp := Lib.hid (hm.put)
      have hs := Lib.hid (diff_step a b (19 - i) HB.out (by omega))
      have h0 : (0 : Int) ≤ i := by omega
      have h20 : (i : Int) < 20 := by omega
      clear hm
      generalize borrowOf a b (19 - i) = c at *
      generalize digit a (19 - i) = da at *
      generalize digit b (19 - i) = db at *
      by_cases hd : (da : Int) - db - c < 0
      all_goals
        go_wp2
        go_quiet (fail)
        go_wp2
        obtain ⟨e1, e2⟩ := hs.out
        refine ⟨⟨19 - i + 1, (i : Int) - 1, by omega, by omega, ?_, rfl, ?_⟩, by simp [intOf]⟩
        · rw [e2]; first | rw [if_pos (by omega)] | rw [if_neg (by omega)]
          rfl
        · have := part_step (a + M - b) (19 - i) (by omega)
          rw [show 19 - (19 - i) = i by omega] at this
          rw [← this, ← e1]
          have hh := hp.out nq i (.int .u8 (((256 + da - db - c) % 256 : Nat) : Int))
          first
          | rw [show ((da : Int) - db - c) % 256 = (((256 + da - db - c) % 256 : Nat) : Int) by omega]
            exact hh
          | rw [show ((da : Int) - db - c) = (((256 + da - db - c) % 256 : Nat) : Int) by omega]
            exact hh
    · obtain rfl : j = 20 := by omega
      have HZ := Lib.hid hm.z
      have HO := Lib.hid hm.o
      have HB := Lib.hid hm.below
      clear hm
      have hl := Lib.hid (part_length (a + M - b) 20 (by omega))
      go_wp2_with (first | (refine wpList_load_id rfl _ rfl _ rfl _ HO.out hl.out ?_) | (refine wpList_store_id rfl _ _ rfl _ _ rfl rfl _ HZ.out hl.out (by simp) ?_))
      refine bodyPost_ret (results_cell_row Try.results21 _ _ (w.heap.size + 1 + 1) 24 (row (part (a + M - b) 20)) (0, 0) _ rfl (setRow_heap _ _ _ _ _ _ HZ.out) Try.underlying24 rfl (by rw [row_size, hl.out]; exact Try.info23)) rfl ?_
      rw [part_full]
      exact ⟨rfl, below_setRow HB.out (by omega) _⟩
theorem refMinus_any (a b : Nat) (w : World) (hb : b < M) :
    Calls Try.prog 60 #[idv a, idv b] w fun e w' => e = .returned (idv (a + M - b)) ∧ Below w.heap.size w w' := by
  unfold idv
  have HB := Lib.hid hb
  clear hb
  go_enter Try.func60, Try.ntmps60
  go_wp2
  rw [zeros]
  go_loopw [6, 7] (fun c i wr => ∃ (j : Nat) (z : Int), j ≤ 20 ∧ z + j = 19 ∧ c = .int .i64 (borrowOf a b j : Nat) ∧ i = .int .i64 z ∧ Mem w wr (row (dig 20 a)) (row (dig 20 b)) (row (List.replicate 20 0)) (row (part (a + M - b) j))) (fun _ i _ => (intOf i + 1).toNat)
  case atStart => exact ⟨0, 19, by omega, by omega, by rw [borrow_zero]; rfl, rfl, by rw [part_zero]; exact Mem.made ..⟩
  case round =>
    obtain ⟨j, z, hj, hz, rfl, rfl, hm⟩ := hrel
    by_cases hlt : 0 ≤ z
    · obtain ⟨i, rfl⟩ := Int.eq_ofNat_of_zero_le hlt
      have hi : i ≤ 19 := by omega
      obtain rfl : j = 19 - i := by omega
      have ca : wr.cell? ⟨w.heap.size, i, none⟩ = some (.int .u8 ((digit a (19 - i) : Nat) : Int)) := by rw [cell_of_row _ _ _ _ _ _ hm.a]; exact row_dig_get a i (by omega)
      have cb : wr.cell? ⟨w.heap.size + 1, i, none⟩ = some (.int .u8 ((digit b (19 - i) : Nat) : Int)) := by rw [cell_of_row _ _ _ _ _ _ hm.b]; exact row_dig_get b i (by omega)
      obtain ⟨vo, co⟩ : ∃ v, wr.cell? ⟨w.heap.size + 1 + 1 + 1, i, none⟩ = some v := by rw [cell_of_row _ _ _ _ _ _ hm.o]; exact row_part_get _ _ i hj (by omega)
      have fo : wr.frozen? ⟨w.heap.size + 1 + 1 + 1, i, none⟩ = false := frozen_of_row _ _ _ _ _ hm.o
      have h1 := digit_lt a (19 - i)
      have h2 := digit_lt b (19 - i)
      have h3 := borrow_lt a b (19 - i)
      have hp := Lib.hid (hm.put)
      have hs := Lib.hid (diff_step a b (19 - i) HB.out (by omega))
      have h0 : (0 : Int) ≤ i := by omega
      have h20 : (i : Int) < 20 := by omega
      clear hm
      generalize borrowOf a b (19 - i) = c at *
      generalize digit a (19 - i) = da at *
      generalize digit b (19 - i) = db at *
      go_wp2
      go_quiet (fail)
      go_wp2
      obtain ⟨e1, e2⟩ := hs.out
      refine ⟨⟨19 - i + 1, (i : Int) - 1, by omega, by omega, ?_, rfl, ?_⟩, by simp [intOf]⟩
      · rw [e2]
        refine congrArg (Value.int .i64) ?_
        split <;> omega
      · have := part_step (a + M - b) (19 - i) (by omega)
        rw [show 19 - (19 - i) = i by omega] at this
        rw [← this, ← e1]
        have hh := hp.out nq i (.int .u8 (((256 + da - db - c) % 256 : Nat) : Int))
        rw [show ((256 : Int) + da - db - c) % 256 = (((256 + da - db - c) % 256 : Nat) : Int) by omega]
        exact hh
    · obtain rfl : j = 20 := by omega
      have HZ := Lib.hid hm.z
      have HO := Lib.hid hm.o
      have HB := Lib.hid hm.below
      clear hm
      have hl := Lib.hid (part_length (a + M - b) 20 (by omega))
      go_wp2_with (first | (refine wpList_load_id rfl _ rfl _ rfl _ HO.out hl.out ?_) | (refine wpList_store_id rfl _ _ rfl _ _ rfl rfl _ HZ.out hl.out (by simp) ?_))
      refine bodyPost_ret (results_cell_row Try.results60 _ _ (w.heap.size + 1 + 1) 24 (row (part (a + M - b) 20)) (0, 0) _ rfl (setRow_heap _ _ _ _ _ _ HZ.out) Try.underlying24 rfl (by rw [row_size, hl.out]; exact Try.info23)) rfl ?_
      rw [part_full]
      exact ⟨rfl, below_setRow HB.out (by omega) _⟩
end Go.Proofs.Ytfajfmcabpmchaa
