/- Powers of two, and small places: the program's and the document's answer, as numbers. -/
import Derived.Test.YtfajfmcabpmchaaMem
import Derived.Deep.Cut
namespace Go.Proofs.Ytfajfmcabpmchaa
open Go.RowKit
theorem power_row : ∀ k, k < 160 → (List.replicate 20 0).set (19 - k / 8) (2 ^ (k % 8)) = dig 20 (2 ^ k) := by decide +kernel

/-- the memory of a function that makes a place -/
structure Mem1 (w wr : World) (Z O : Array Value) : Prop where
  below : Below w.heap.size w wr
  z : wr.heap[w.heap.size]? = some (.cells Z 24 (0, 0))
  o : wr.heap[w.heap.size + 1]? = some (.cells O 24 (0, 0))
theorem Mem1.made (w : World) (A B : Array Value) : Mem1 w ((w.alloc (.cells A 24)).alloc (.cells B 24)) A B :=
  ⟨((Below.refl _ _).alloc (Nat.le_refl _) _).alloc (by simp) _, heap_alloc2_old _ _ _, heap_alloc2_new _ _ _⟩
theorem Mem1.put {w wr : World} {Z O : Array Value} (h : Mem1 w wr Z O) (i : Nat) (v : Value) : Mem1 w (wr.setCell ⟨w.heap.size + 1, i, none⟩ v) Z (O.setIfInBounds i v) := by
  refine ⟨?_, ?_, ?_⟩
  · exact Below.setCell (p := ⟨w.heap.size + 1, i, none⟩) h.below (by simp) _
  · rw [heap_setCell_other _ _ _ _ (by simp)]; exact h.z
  · exact heap_setCell_same _ _ _ _ _ _ h.o

theorem results_place {fn : Func} {p t : Tmp} (h : fn.results = #[.cell p 24, .tmp t]) (tmps : Array Value) (w : World) (g n : Nat)
    (hp : tmps.getD p undef = .pointer (some ⟨g, 0, none⟩)) (hg : w.heap[g]? = some (.cells (row (dig 20 n)) 24 (0, 0))) :
    (results fn tmps).run Try.prog w = .ok (.tuple #[idv n, tmps.getD t undef]) w := by
  have hp' : tmps[p]?.getD undef = .pointer (some ⟨g, 0, none⟩) := by simpa using hp
  simp [results, h, hp', asAddr, run_loadVar_row w g 24 24 _ (0, 0) _ hg Try.underlying24 rfl (by rw [row_size, dig_length]; exact Try.info23), idv]

theorem pow_byte (k : Nat) : ((2 : Int) ^ (k % 8) % 256) = ((2 ^ (k % 8) : Nat) : Int) := by
  have h : 2 ^ (k % 8) < 256 := Nat.lt_of_le_of_lt (Nat.pow_le_pow_right (by omega) (show k % 8 ≤ 7 by omega)) (by omega)
  rw [Int.natCast_pow]
  have : ((2 ^ (k % 8) : Nat) : Int) < 256 := by omega
  rw [Int.natCast_pow] at this
  exact Int.emod_eq_of_lt (Int.pow_nonneg (by omega)) this
theorem row_set (l : List Nat) (i n : Nat) : (row l).setIfInBounds i (.int .u8 (n : Int)) = row (l.set i n) := by simp [row]
theorem zero_row : List.replicate 20 0 = dig 20 0 := by decide

theorem power_yes (k : Nat) (w : World) (hk : k < 160) : Calls Try.prog 87 #[.int .i64 (k : Int)] w fun e w' => e = .returned (.tuple #[idv (2 ^ k), .int .i64 0]) ∧ Below w.heap.size w w' := by
  have H := Lib.hid (power_row k hk)
  go_enter Try.func87, Try.ntmps87
  go_upto_region 4 with (fail)
  rw [zeros]
  generalize hW : (w.alloc (.cells (row (List.replicate 20 0)) 24)).alloc (.cells (row (List.replicate 20 0)) 24) = W
  have hm : Mem1 w W (row (List.replicate 20 0)) (row (List.replicate 20 0)) := hW ▸ Mem1.made w _ _
  clear hW
  have hq : k / 8 ≤ 19 := by omega
  obtain ⟨vo, co⟩ : ∃ v, W.cell? ⟨w.heap.size + 1, 19 - k / 8, none⟩ = some v := by rw [cell_of_row _ _ _ _ _ _ hm.o]; exact ⟨_, Array.getElem?_eq_getElem (by rw [row_size]; simp; omega)⟩
  have fo : W.frozen? ⟨w.heap.size + 1, 19 - k / 8, none⟩ = false := frozen_of_row _ _ _ _ _ hm.o
  have h1 : (0 : Int) ≤ k % 8 := by omega
  have h2 : (k : Int) % 8 < 8 := by omega
  have HM := Lib.hid hm
  clear hm
  go_upto_region 5 with (fail)
  rw [pow_byte]
  have hm := HM.out.put (19 - k / 8) (.int .u8 ((2 ^ (k % 8) : Nat) : Int))
  rw [row_set, H.out] at hm
  clear co fo HM
  generalize W.setCell _ _ = W2 at *
  go_wp2_with (first | (refine wpList_load_id rfl _ rfl _ rfl _ hm.o (dig_length _ _) ?_) | (refine wpList_store_id rfl _ _ rfl _ _ rfl rfl _ hm.z (dig_length _ _) (by simp) ?_))
  refine bodyPost_ret (results_place Try.results87 _ _ w.heap.size (2 ^ k) rfl (setRow_heap _ _ _ _ _ _ hm.z)) rfl ?_
  exact ⟨rfl, below_setRow hm.below (Nat.le_refl _) _⟩

theorem power_no (k : Int) (w : World) (hk : k < 0 ∨ 160 ≤ k) : Calls Try.prog 87 #[.int .i64 k] w fun e w' => e = .returned (.tuple #[idv 0, .int .i64 1]) ∧ Below w.heap.size w w' := by
  rcases hk with hk | hk
  all_goals
    go_enter Try.func87, Try.ntmps87
    go_upto_region 3 with (fail)
    rw [zeros]
    generalize hW : (w.alloc (.cells (row (List.replicate 20 0)) 24)).alloc (.cells (row (List.replicate 20 0)) 24) = W
    have hm : Mem1 w W (row (List.replicate 20 0)) (row (List.replicate 20 0)) := hW ▸ Mem1.made w _ _
    clear hW
    rw [zero_row] at hm
    go_wp2_with (first | (refine wpList_load_id rfl _ rfl _ rfl _ hm.o (dig_length _ _) ?_) | (refine wpList_store_id rfl _ _ rfl _ _ rfl rfl _ hm.z (dig_length _ _) (dig_length _ _) ?_))
    refine bodyPost_ret (results_place Try.results87 _ _ w.heap.size 0 rfl (setRow_heap _ _ _ _ _ _ hm.z)) rfl ?_
    exact ⟨rfl, below_setRow hm.below (Nat.le_refl _) _⟩

theorem refPower_no (k : Int) (w : World) (hk : k < 0 ∨ 160 ≤ k) : Calls Try.prog 67 #[.int .i64 k] w fun e w' => e = .returned (.tuple #[idv 0, .int .i64 1]) ∧ Below w.heap.size w w' := by
  rcases hk with hk | hk
  all_goals
    go_enter Try.func67, Try.ntmps67
    go_upto_region 3 with (fail)
    rw [zeros]
    generalize hW : (w.alloc (.cells (row (List.replicate 20 0)) 24)).alloc (.cells (row (List.replicate 20 0)) 24) = W
    have hm : Mem1 w W (row (List.replicate 20 0)) (row (List.replicate 20 0)) := hW ▸ Mem1.made w _ _
    clear hW
    rw [zero_row] at hm
    go_wp2_with (first | (refine wpList_load_id rfl _ rfl _ rfl _ hm.o (dig_length _ _) ?_) | (refine wpList_store_id rfl _ _ rfl _ _ rfl rfl _ hm.z (dig_length _ _) (dig_length _ _) ?_))
    refine bodyPost_ret (results_place Try.results67 _ _ w.heap.size 0 rfl (setRow_heap _ _ _ _ _ _ hm.z)) rfl ?_
    exact ⟨rfl, below_setRow hm.below (Nat.le_refl _) _⟩


theorem refPower_yes (k : Nat) (w : World) (hk : k < 160) : Calls Try.prog 67 #[.int .i64 (k : Int)] w fun e w' => e = .returned (.tuple #[idv (2 ^ k), .int .i64 0]) ∧ Below w.heap.size w w' := by
  have H := Lib.hid (power_row k hk)
  have d1 : decide ((k : Int) < 0) = false := by simp
  have d2 : decide ((160 : Int) ≤ k) = false := by simp; omega
  go_enter Try.func67, Try.ntmps67
  go_wp2
  rw [zeros]
  generalize hW : (w.alloc (.cells (row (List.replicate 20 0)) 24)).alloc (.cells (row (List.replicate 20 0)) 24) = W
  have hm : Mem1 w W (row (List.replicate 20 0)) (row (List.replicate 20 0)) := hW ▸ Mem1.made w _ _
  clear hW
  have HM := Lib.hid hm
  clear hm
  go_loop [5, 6] (fun b i => ∃ j n : Nat, j ≤ k % 8 ∧ n ≤ 128 ∧ Hid (n = 2 ^ j) ∧ b = .int .i64 n ∧ i = .int .i64 j) (fun _ i => 8 - (intOf i).toNat)
  case atStart => exact ⟨0, 1, by omega, by omega, rfl, rfl, rfl⟩
  case round =>
    obtain ⟨j, n, hj, hn, hp, rfl, rfl⟩ := hrel
    by_cases hlt : j < k % 8
    · have hlt' : (j : Int) < (k : Int) % 8 := by omega
      go_wp2
      refine ⟨⟨j + 1, 2 * n, by omega, ?_, ?_, by go_num, by go_num⟩, by simp [intOf]; omega⟩
      · rw [hp.out]
        have := Nat.pow_le_pow_right (show 0 < 2 by omega) (show j ≤ 6 by omega)
        omega
      · show 2 * n = 2 ^ (j + 1)
        rw [hp.out, Nat.pow_succ]; omega
    · have hge : ¬ (j : Int) < (k : Int) % 8 := by omega
      have e : Hid (j = k % 8) := by show j = k % 8; omega
      have hq : k / 8 ≤ 19 := by omega
      obtain ⟨vo, co⟩ : ∃ v, W.cell? ⟨w.heap.size + 1, 19 - k / 8, none⟩ = some v := by rw [cell_of_row _ _ _ _ _ _ HM.out.o]; exact ⟨_, Array.getElem?_eq_getElem (by rw [row_size]; simp; omega)⟩
      have fo : W.frozen? ⟨w.heap.size + 1, 19 - k / 8, none⟩ = false := frozen_of_row _ _ _ _ _ HM.out.o
      go_upto_region 10 with (fail)
      have hm := HM.out.put (19 - k / 8) (.int .u8 (n : Int))
      rw [row_set, hp.out, e.out, H.out] at hm
      rw [hp.out, e.out]
      clear co fo HM
      generalize W.setCell _ _ = W2 at *
      go_wp2_with (first | (refine wpList_load_id rfl _ rfl _ rfl _ hm.o (dig_length _ _) ?_) | (refine wpList_store_id rfl _ _ rfl _ _ rfl rfl _ hm.z (dig_length _ _) (by simp) ?_))
      refine bodyPost_ret (results_place Try.results67 _ _ w.heap.size (2 ^ k) rfl (setRow_heap _ _ _ _ _ _ hm.z)) rfl ?_
      exact ⟨rfl, below_setRow hm.below (Nat.le_refl _) _⟩

theorem small_all (n : Nat) (w : World) (hn : n ≤ 1000) (hrow : ((List.replicate 20 0).set 19 (n % 256)).set 18 (n / 256 % 256) = dig 20 n) :
    Calls Try.prog 32 #[.int .i64 (n : Int)] w fun e w' => e = .returned (idv n) ∧ Below w.heap.size w w' := by
  have H := Lib.hid hrow
  clear hrow
  go_enter Try.func32, Try.ntmps32
  go_upto_region 2 with (fail)
  rw [zeros]
  generalize hW : (w.alloc (.cells (row (List.replicate 20 0)) 24)).alloc (.cells (row (List.replicate 20 0)) 24) = W
  have hm : Mem1 w W (row (List.replicate 20 0)) (row (List.replicate 20 0)) := hW ▸ Mem1.made w _ _
  clear hW
  obtain ⟨vo, co⟩ : ∃ v, W.cell? ⟨w.heap.size + 1, 19, none⟩ = some v := by rw [cell_of_row _ _ _ _ _ _ hm.o]; exact ⟨_, Array.getElem?_eq_getElem (by rw [row_size]; simp)⟩
  have fo : W.frozen? ⟨w.heap.size + 1, 19, none⟩ = false := frozen_of_row _ _ _ _ _ hm.o
  have HM := Lib.hid hm
  clear hm
  go_upto_region 3 with (fail)
  rw [show ((n : Int) % 256) = ((n % 256 : Nat) : Int) by omega]
  have hm := HM.out.put 19 (.int .u8 ((n % 256 : Nat) : Int))
  rw [row_set] at hm
  clear co fo HM
  generalize W.setCell _ _ = W2 at *
  obtain ⟨vo2, co⟩ : ∃ v, W2.cell? ⟨w.heap.size + 1, 18, none⟩ = some v := by rw [cell_of_row _ _ _ _ _ _ hm.o]; exact ⟨_, Array.getElem?_eq_getElem (by rw [row_size]; simp)⟩
  have fo : W2.frozen? ⟨w.heap.size + 1, 18, none⟩ = false := frozen_of_row _ _ _ _ _ hm.o
  have HM := Lib.hid hm
  clear hm
  go_upto_region 4 with (fail)
  rw [show ((n : Int) / 256 % 256) = ((n / 256 % 256 : Nat) : Int) by omega]
  have hm := HM.out.put 18 (.int .u8 ((n / 256 % 256 : Nat) : Int))
  rw [row_set, H.out] at hm
  clear co fo HM
  generalize W2.setCell _ _ = W3 at *
  go_wp2_with (first | (refine wpList_load_id rfl _ rfl _ rfl _ hm.o (dig_length _ _) ?_) | (refine wpList_store_id rfl _ _ rfl _ _ rfl rfl _ hm.z (dig_length _ _) (by simp) ?_))
  refine bodyPost_ret (results_cell_row Try.results32 _ _ w.heap.size 24 (row (dig 20 n)) (0, 0) _ rfl (setRow_heap _ _ _ _ _ _ hm.z) Try.underlying24 rfl (by rw [row_size, dig_length]; exact Try.info23)) rfl ?_
  exact ⟨rfl, below_setRow hm.below (Nat.le_refl _) _⟩
end Go.Proofs.Ytfajfmcabpmchaa
