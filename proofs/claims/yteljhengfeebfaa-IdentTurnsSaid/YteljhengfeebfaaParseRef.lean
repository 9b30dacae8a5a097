/- A text is read, by the document's program. -/
import Derived.StillTailTactics
import Derived.Test.YteljhengfeebfaaParse
namespace Go.Proofs.Yteljhengfeebfaa
open Go.RowKit

/-- what the document's program has behind i digits -/
def rbyte (s : ByteArray) (i j : Nat) : Nat := if 2 * j + 1 < i then pair s j else if 2 * j < i then dvV (byteAt s (2 * j)) else 0
def rpart (s : ByteArray) (i : Nat) : List Nat := (List.range 20).map (rbyte s i)
theorem rpart_length (s : ByteArray) (i : Nat) : (rpart s i).length = 20 := by simp [rpart]
theorem rpart_zero (s : ByteArray) : rpart s 0 = List.replicate 20 0 := by
  unfold rpart
  rw [List.map_congr_left (g := fun _ => 0) (fun j _ => by unfold rbyte; rw [if_neg (by omega), if_neg (by omega)])]
  rfl
theorem rpart_full (s : ByteArray) : rpart s 40 = ppart s 20 := by
  unfold rpart ppart
  rw [List.map_congr_left (g := pair s) (fun j hj => by unfold rbyte; rw [if_pos (by have := List.mem_range.1 hj; omega)])]
  simp
theorem rpart_get (s : ByteArray) (i j : Nat) (h : j < 20) : (row (rpart s i))[j]? = some (.int .u8 ((rbyte s i j : Nat) : Int)) := by
  rw [row_get]; unfold rpart
  rw [List.getElem?_map, List.getElem?_range h]; rfl
theorem rbyte_lt (s : ByteArray) (i : Nat) : rbyte s i (i / 2) < 16 := by
  unfold rbyte
  have := dvV_lt (byteAt s (2 * (i / 2)))
  rw [if_neg (by omega)]
  split <;> omega
theorem rpart_step (s : ByteArray) (i : Nat) (h : i < 40) : (rpart s i).set (i / 2) (rbyte s i (i / 2) * 16 + dvV (byteAt s i)) = rpart s (i + 1) := by
  apply List.ext_getElem?
  intro j
  rw [List.getElem?_set]
  unfold rpart
  simp only [List.length_map, List.length_range, List.getElem?_map]
  rcases Nat.lt_or_ge j 20 with hj | hj
  · rw [List.getElem?_range hj]
    by_cases e : i / 2 = j
    · subst e
      rw [if_pos rfl, if_pos hj]
      refine congrArg some ?_
      unfold rbyte
      rcases Nat.mod_two_eq_zero_or_one i with h2 | h2
      · rw [if_neg (by omega), if_neg (by omega), if_neg (by omega), if_pos (by omega), show 2 * (i / 2) = i by omega]
        omega
      · rw [if_neg (by omega), if_pos (by omega), if_pos (by omega)]
        unfold pair
        rw [show 2 * (i / 2) + 1 = i by omega]
        omega
    · rw [if_neg e]
      refine congrArg some ?_
      unfold rbyte
      by_cases h1 : 2 * j + 1 < i
      · rw [if_pos h1, if_pos (by omega)]
      · rw [if_neg h1, if_neg (by omega), if_neg (by omega), if_neg (by omega)]
  · rw [List.getElem?_eq_none (by simp; omega)]
    rw [if_neg (by omega)]; rfl

theorem refParse_short (s : ByteArray) (w : World) (h : s.size ≠ 40) : Calls Try.prog 23 #[.string s] w fun e w' => e = .returned (parsed s) ∧ Below w.heap.size w w' := by
  have h' : ((s.size : Int) != 40) = true := by simp; omega
  have HP : Hid (parsed s = .tuple #[idv 0, .int .i64 3]) := by
    show parsed s = _
    unfold parsed; rw [if_neg (by rw [goodB_size h]; simp)]
  clear h
  go_enter Try.func23, Try.ntmps23
  go_upto_region 3 with (fail)
  rw [zeros]
  generalize hW : (w.alloc (.cells (row (List.replicate 20 0)) 23)).alloc (.cells (row (List.replicate 20 0)) 23) = W
  have hm : Mem1 w W (row (List.replicate 20 0)) (row (List.replicate 20 0)) := hW ▸ Mem1.made w _ _
  clear hW
  rw [zero_row] at hm
  go_wp2_with (first | (refine wpList_load_id rfl _ rfl _ rfl _ hm.o (dig_length _ _) ?_) | (refine wpList_store_id rfl _ _ rfl _ _ rfl rfl _ hm.z (dig_length _ _) (dig_length _ _) ?_))
  rw [HP.out]
  refine bodyPost_ret (results_place Try.results23 _ _ w.heap.size 0 rfl (setRow_heap _ _ _ _ _ _ hm.z)) rfl ?_
  exact ⟨rfl, below_setRow hm.below (Nat.le_refl _) _⟩

theorem wp_region_tail {P : Program} {id : Nat} {Q : Exit → Act → World → Prop} {a : Act} {w : World} {l : List Oper} (n : Nat) (hm : P.follows .mixedOrders = true) (hB : Region.lexTailB .any l.toArray n = true)
    (h : wpStill P l.toArray w.drew (fun a' => wpList P l.toArray Q (l.drop n) a' w.drew) (l.take n) a) : (Code.region id l.toArray true).wp P Q a w :=
  wp_region_still_tail n hm hB h

theorem refParse_40 (s : ByteArray) (w : World) (h : s.size = 40) : Calls Try.prog 23 #[.string s] w fun e w' => e = .returned (parsed s) ∧ Below w.heap.size w w' := by
  have h' : ((s.size : Int) != 40) = false := by simp [h]
  have H := Lib.hid h
  clear h
  go_enter Try.func23, Try.ntmps23
  go_wp2
  rw [zeros]
  generalize hW : (w.alloc (.cells (row (List.replicate 20 0)) 23)).alloc (.cells (row (List.replicate 20 0)) 23) = W
  have hm : Hid (Mem1 w W (row (List.replicate 20 0)) (row (List.replicate 20 0))) := hW ▸ Mem1.made w _ _
  clear hW
  go_loopw [5] (fun i wr => ∃ k : Nat, k ≤ 40 ∧ i = .int .i64 k ∧ Mem1 w wr (row (List.replicate 20 0)) (row (rpart s k)) ∧ Hid (∀ i, i < k → dvB (byteAt s i) = true)) (fun i _ => 40 - (intOf i).toNat)
  case atStart => exact ⟨0, by omega, rfl, by rw [rpart_zero]; exact hm.out, fun i hi => by omega⟩
  case round =>
    clear hm
    obtain ⟨k, hk, rfl, hm, hq⟩ := hrel
    by_cases hlt : k < 40
    · have HM := Lib.hid hm
      clear hm
      have hb1 : k < s.size := by rw [H.out]; omega
      have e1 : Hid (byteAt s k = s[k].toNat) := byteAt_get s k hb1
      have hs := Lib.hid (rpart_step s k hlt)
      have co : wr.cell? ⟨w.heap.size + 1, k / 2, none⟩ = some (.int .u8 ((rbyte s k (k / 2) : Nat) : Int)) := by rw [cell_of_row _ _ _ _ _ _ HM.out.o]; exact rpart_get s k _ (by omega)
      have fo : wr.frozen? ⟨w.heap.size + 1, k / 2, none⟩ = false := frozen_of_row _ _ _ _ _ HM.out.o
      have hr := rbyte_lt s k
      generalize rbyte s k (k / 2) = r at *
      cases hB1 : dvB (byteAt s k)
      · have hd : dvI s[k].toNat = -1 := by rw [← e1.out]; unfold dvI; rw [hB1]; rfl
        have HG := Lib.hid (goodB_false hlt hB1)
        clear hB1
        go_wp2_with (first | (go_at_call 28; refine (refDigit_all _ _ (UInt8.toNat_lt _)).mono ?_; rintro e w' ⟨rfl, rfl⟩) | (refine wpList_store_id rfl _ _ rfl _ (List.replicate 20 0) rfl rfl _ HM.out.z (by simp) (by simp) ?_))
        have HP : parsed s = .tuple #[idv 0, .int .i64 3] := by unfold parsed; rw [HG.out]; rfl
        rw [HP]
        have hm := HM.out
        rw [zero_row] at *
        refine bodyPost_ret (results_place Try.results23 _ _ w.heap.size 0 rfl (setRow_heap _ _ _ _ _ _ hm.z)) rfl ?_
        exact ⟨rfl, below_setRow hm.below (Nat.le_refl _) _⟩
      · have hd : Hid (dvI s[k].toNat = ((dvV (byteAt s k) : Nat) : Int)) := by show dvI s[k].toNat = _; rw [← e1.out]; unfold dvI; rw [hB1]; rfl
        have hd0 : 0 ≤ dvI s[k].toNat := by rw [hd.out]; omega
        have hd1 : dvI s[k].toNat < 16 := by rw [hd.out]; have := dvV_lt (byteAt s k); omega
        have HB1 := Lib.hid hB1
        clear hB1
        go_wp2_with (first | (go_at_call 28; refine (refDigit_all _ _ (UInt8.toNat_lt _)).mono ?_; rintro e w' ⟨rfl, rfl⟩))
        have c28 : Calls Try.prog 28 #[.int .u8 (s[k].toNat : Int)] wr.drew fun e w' => e = .returned (.int .i64 (dvI s[k].toNat)) ∧ w' = wr.drew := (refDigit_all _ _ (UInt8.toNat_lt _)).mono fun _ _ ⟨a, b⟩ => ⟨a, b.symm⟩
        have C28 := Lib.hid c28
        clear c28
        generalize dvI s[k].toNat = q at *
        have g1 : IntKind.i64.wrap ((k : Int) / 2) = (k : Int) / 2 := IntWalk.i64_in _ (by omega)
        have g2 : (0 : Int) ≤ k / 2 ∧ (k : Int) / 2 < 20 := by omega
        have g3 : ((k : Int) / 2).toNat = k / 2 := by omega
        have g4 : IntKind.i64.wrap (r : Int) = r := IntWalk.i64_in _ (by omega)
        have g5 : IntKind.i64.wrap ((r : Int) * 16) = (r : Int) * 16 := IntWalk.i64_in _ (by omega)
        have g6 : IntKind.i64.wrap ((r : Int) * 16 + q) = (r : Int) * 16 + q := IntWalk.i64_in _ (by omega)
        have g7 : IntKind.u8.wrap ((r : Int) * 16 + q) = (r : Int) * 16 + q := IntWalk.u8_in _ (by omega)
        refine wp_region_tail 14 (by kernel_rfl) (by kernel_rfl) ?_
        simp only [List.take_succ_cons, List.take_zero, List.drop_succ_cons, List.drop_zero]
        repeat still_step
        still_call C28.out
        repeat still_step
        refine wpStill_nil ?_
        clear g1 g4 g5 g6 g7 C28
        go_wp2
        refine ⟨⟨k + 1, by omega, by go_num, ?_, ?_⟩, by simp [intOf]; omega⟩
        · have hm2 : Mem1 w wr.drew (row (List.replicate 20 0)) (row (rpart s k)) := ⟨HM.out.below.drew, HM.out.z, HM.out.o⟩
          rw [← hs.out, ← row_set]
          have := hm2.put (k / 2) (.int .u8 ((r * 16 + dvV (byteAt s k) : Nat) : Int))
          rw [show ((r : Int) * 16 + q) = ((r * 16 + dvV (byteAt s k) : Nat) : Int) by rw [hd.out]; omega]
          exact this
        · intro i hi
          rcases Nat.lt_or_ge i k with h1 | h1
          · exact hq.out i h1
          · rw [show i = k by omega]; exact HB1.out
    · obtain rfl : k = 40 := by omega
      have HG := Lib.hid (goodB_true H.out (fun i hi => hq.out i (by omega)))
      have hm' := hm
      rw [rpart_full, ← ppart_full] at hm'
      have HM := Lib.hid hm'
      clear hm hm'
      go_wp2_with (first | (refine wpList_load_id rfl _ rfl _ rfl _ HM.out.o (dig_length _ _) ?_) | (refine wpList_store_id rfl _ _ rfl _ _ rfl rfl _ HM.out.z (dig_length _ _) (by simp) ?_))
      have HP : parsed s = .tuple #[idv (val (ppart s 20)), .int .i64 0] := by unfold parsed; rw [HG.out]; rfl
      rw [HP]
      refine bodyPost_ret (results_place Try.results23 _ _ w.heap.size _ rfl (setRow_heap _ _ _ _ _ _ HM.out.z)) rfl ?_
      exact ⟨rfl, below_setRow HM.out.below (Nat.le_refl _) _⟩

theorem parse_all (s : ByteArray) (w : World) : Calls Try.prog 22 #[.string s] w fun e w' => e = .returned (parsed s) ∧ Below w.heap.size w w' := by
  by_cases h : s.size = 40
  · exact parse_40 s w h
  · exact parse_short s w h
theorem refParse_all (s : ByteArray) (w : World) : Calls Try.prog 23 #[.string s] w fun e w' => e = .returned (parsed s) ∧ Below w.heap.size w w' := by
  by_cases h : s.size = 40
  · exact refParse_40 s w h
  · exact refParse_short s w h
end Go.Proofs.Yteljhengfeebfaa
