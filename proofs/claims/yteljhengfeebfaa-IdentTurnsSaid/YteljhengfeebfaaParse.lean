/- A text is read: the program's and the document's answer. -/
import Derived.Test.YteljhengfeebfaaDigit
namespace Go.Proofs.Yteljhengfeebfaa
open Go.RowKit

/-! a text is read -/
def byteAt (s : ByteArray) (i : Nat) : Nat := (s.data.toList.getD i 0).toNat
theorem byteAt_get (s : ByteArray) (i : Nat) (h : i < s.size) : byteAt s i = (s[i]'h).toNat := by
  unfold byteAt
  rw [List.getD, List.getElem?_eq_getElem (by simpa using h)]
  rfl
/-- the byte that two digits make -/
def pair (s : ByteArray) (j : Nat) : Nat := 16 * dvV (byteAt s (2 * j)) + dvV (byteAt s (2 * j + 1))
def ppart (s : ByteArray) (k : Nat) : List Nat := (List.range k).map (pair s) ++ List.replicate (20 - k) 0
theorem ppart_length (s : ByteArray) (k : Nat) (h : k ≤ 20) : (ppart s k).length = 20 := by unfold ppart; simp; omega
theorem ppart_zero (s : ByteArray) : ppart s 0 = List.replicate 20 0 := by simp [ppart]
theorem ppart_step (s : ByteArray) (k : Nat) (h : k < 20) : (ppart s k).set k (pair s k) = ppart s (k + 1) := by
  unfold ppart
  rw [show 20 - k = (20 - (k + 1)) + 1 by omega, List.replicate_succ, List.set_append_right _ _ (by simp), List.range_succ]
  simp


/-- whether a text is forty digits -/
def goodB (s : ByteArray) : Bool := decide (s.size = 40) && (List.range 40).all fun i => dvB (byteAt s i)
theorem goodB_true {s : ByteArray} (h : s.size = 40) (hd : ∀ i, i < 40 → dvB (byteAt s i) = true) : goodB s = true := by
  unfold goodB; simp only [h, decide_true, Bool.true_and, List.all_eq_true, List.mem_range]; exact hd
theorem goodB_false {s : ByteArray} {i : Nat} (hi : i < 40) (hd : dvB (byteAt s i) = false) : goodB s = false := by
  unfold goodB
  rw [Bool.and_eq_false_iff]
  right
  rw [List.all_eq_false]
  exact ⟨i, List.mem_range.2 hi, by simp [hd]⟩
theorem goodB_size {s : ByteArray} (h : s.size ≠ 40) : goodB s = false := by unfold goodB; simp [h]
/-- the number of digits of 256 -/
def val : List Nat → Nat
  | [] => 0
  | b :: r => val r + 256 ^ r.length * b
theorem val_spec (l : List Nat) (h : ∀ b ∈ l, b < 256) : val l < 256 ^ l.length ∧ dig l.length (val l) = l := by
  induction l with
  | nil => exact ⟨by simp [val], rfl⟩
  | cons b r ih =>
    obtain ⟨hn, hd⟩ := ih (fun x hx => h x (List.mem_cons_of_mem _ hx))
    have hb : b < 256 := h b (List.mem_cons_self ..)
    have hp : 0 < 256 ^ r.length := Nat.pow_pos (by omega)
    refine ⟨?_, ?_⟩
    · have : 256 ^ r.length * (b + 1) ≤ 256 ^ r.length * 256 := Nat.mul_le_mul_left _ (by omega)
      simp only [val, List.length_cons, Nat.pow_succ]
      rw [Nat.mul_add] at this
      omega
    · rw [List.length_cons, dig, val]
      congr 1
      · rw [Nat.add_mul_div_left _ _ hp, Nat.div_eq_of_lt hn, Nat.zero_add, Nat.mod_eq_of_lt hb]
      · conv => rhs; rw [← hd]
        refine dig_eq_of ?_
        rw [Nat.add_mul_mod_self_left]
/-- what a text says -/
def parsed (s : ByteArray) : Value := if goodB s = true then .tuple #[idv (val (ppart s 20)), .int .i64 0] else .tuple #[idv 0, .int .i64 3]
theorem pair_lt (s : ByteArray) (j : Nat) : pair s j < 256 := by
  have h1 := dvV_lt (byteAt s (2 * j))
  have h2 := dvV_lt (byteAt s (2 * j + 1))
  unfold pair; omega
theorem ppart_lt (s : ByteArray) (k : Nat) : ∀ b ∈ ppart s k, b < 256 := by
  intro b hb
  unfold ppart at hb
  rcases List.mem_append.1 hb with h | h
  · obtain ⟨j, _, rfl⟩ := List.mem_map.1 h
    exact pair_lt s j
  · rw [(List.mem_replicate.1 h).2]; omega
theorem ppart_full (s : ByteArray) : dig 20 (val (ppart s 20)) = ppart s 20 := by
  have := (val_spec (ppart s 20) (ppart_lt s 20)).2
  rwa [ppart_length s 20 (by omega)] at this

theorem parse_short (s : ByteArray) (w : World) (h : s.size ≠ 40) : Calls Try.prog 22 #[.string s] w fun e w' => e = .returned (parsed s) ∧ Below w.heap.size w w' := by
  have h' : ((s.size : Int) != 40) = true := by simp; omega
  have HP : Hid (parsed s = .tuple #[idv 0, .int .i64 3]) := by
    show parsed s = _
    unfold parsed; rw [if_neg (by rw [goodB_size h]; simp)]
  clear h
  go_enter Try.func22, Try.ntmps22
  go_upto_region 2 with (fail)
  rw [zeros]
  have HZ := Lib.hid (heap_alloc_new w (.cells (row (List.replicate 20 0)) 23))
  have HB : Hid (Below w.heap.size w (w.alloc (.cells (row (List.replicate 20 0)) 23))) := (Below.refl _ _).alloc (Nat.le_refl _) _
  generalize w.alloc (.cells (row (List.replicate 20 0)) 23) = W at *
  go_wp2_with (first | (refine wpList_store_id rfl _ _ rfl _ (List.replicate 20 0) rfl rfl _ HZ.out (by simp) (by simp) ?_))
  rw [HP.out]
  rw [zero_row] at *
  refine bodyPost_ret (results_place Try.results22 _ _ w.heap.size 0 rfl (setRow_heap _ _ _ _ _ _ HZ.out)) rfl ?_
  exact ⟨rfl, below_setRow HB.out (Nat.le_refl _) _⟩
theorem or_byte (x y : Nat) (hx : x < 16) (hy : y < 16) : bits BinOp.or IntKind.u8 ((x : Int) * 16) (y : Int) = ((16 * x + y : Nat) : Int) := by
  have : ∀ x y : Fin 16, bits BinOp.or IntKind.u8 (((x.val : Nat) : Int) * 16) ((y.val : Nat) : Int) = ((16 * x.val + y.val : Nat) : Int) := by decide +kernel
  exact this ⟨x, hx⟩ ⟨y, hy⟩
theorem parse_40 (s : ByteArray) (w : World) (h : s.size = 40) : Calls Try.prog 22 #[.string s] w fun e w' => e = .returned (parsed s) ∧ Below w.heap.size w w' := by
  have h' : ((s.size : Int) != 40) = false := by simp [h]
  have H := Lib.hid h
  clear h
  go_enter Try.func22, Try.ntmps22
  go_upto_region 4 with (fail)
  rw [zeros]
  generalize hW : (w.alloc (.cells (row (List.replicate 20 0)) 23)).alloc (.cells (row (List.replicate 20 0)) 23) = W
  have hm : Hid (Mem1 w W (row (List.replicate 20 0)) (row (List.replicate 20 0))) := hW ▸ Mem1.made w _ _
  clear hW
  go_wp2
  go_loopw [14] (fun i wr => ∃ k : Nat, k ≤ 20 ∧ i = .int .i64 k ∧ Mem1 w wr (row (List.replicate 20 0)) (row (ppart s k)) ∧ Hid (∀ i, i < 2 * k → dvB (byteAt s i) = true)) (fun i _ => 20 - (intOf i).toNat)
  case atStart => exact ⟨0, by omega, rfl, by rw [ppart_zero]; exact hm.out, fun i hi => by omega⟩
  case round =>
    clear hm
    obtain ⟨k, hk, rfl, hm, hq⟩ := hrel
    by_cases hlt : k < 20
    · have HM := Lib.hid hm
      clear hm
      have hb1 : 2 * k < s.size := by rw [H.out]; omega
      have hb2 : 2 * k + 1 < s.size := by rw [H.out]; omega
      have e1 : Hid (byteAt s (2 * k) = s[2 * k].toNat) := byteAt_get s (2 * k) hb1
      have e2 : Hid (byteAt s (2 * k + 1) = s[2 * k + 1].toNat) := byteAt_get s (2 * k + 1) hb2
      have hs := Lib.hid (ppart_step s k hlt)
      have hl := Lib.hid (ppart_length s k hk)
      obtain ⟨vo, co⟩ : ∃ v, wr.cell? ⟨w.heap.size + 1, k, none⟩ = some v := by rw [cell_of_row _ _ _ _ _ _ HM.out.o]; exact ⟨_, Array.getElem?_eq_getElem (by rw [row_size, hl.out]; omega)⟩
      have fo : wr.frozen? ⟨w.heap.size + 1, k, none⟩ = false := frozen_of_row _ _ _ _ _ HM.out.o
      go_upto_region 9 with (go_at_call 27; refine (digit_all _ _ (UInt8.toNat_lt _)).mono ?_; rintro e w' ⟨rfl, rfl⟩)
      rw [← e1.out, ← e2.out]
      have hv : Hid (pair s k = 16 * dvV (byteAt s (2 * k)) + dvV (byteAt s (2 * k + 1))) := rfl
      have d1 := dvV_lt (byteAt s (2 * k))
      have d2 := dvV_lt (byteAt s (2 * k + 1))
      generalize dvV (byteAt s (2 * k)) = x1 at *
      generalize dvV (byteAt s (2 * k + 1)) = x2 at *
      cases hB1 : dvB (byteAt s (2 * k))
      · have HG := Lib.hid (goodB_false (by omega) hB1)
        clear hB1
        go_wp2_with (first | (refine wpList_store_id rfl _ _ rfl _ (List.replicate 20 0) rfl rfl _ HM.out.z (by simp) (by simp) ?_))
        have HP : parsed s = .tuple #[idv 0, .int .i64 3] := by unfold parsed; rw [HG.out]; rfl
        rw [HP]
        have hm := HM.out
        rw [zero_row] at *
        refine bodyPost_ret (results_place Try.results22 _ _ w.heap.size 0 rfl (setRow_heap _ _ _ _ _ _ hm.z)) rfl ?_
        exact ⟨rfl, below_setRow hm.below (Nat.le_refl _) _⟩
      · cases hB2 : dvB (byteAt s (2 * k + 1))
        · have HG := Lib.hid (goodB_false (by omega) hB2)
          clear hB2
          go_wp2_with (first | (refine wpList_store_id rfl _ _ rfl _ (List.replicate 20 0) rfl rfl _ HM.out.z (by simp) (by simp) ?_))
          have HP : parsed s = .tuple #[idv 0, .int .i64 3] := by unfold parsed; rw [HG.out]; rfl
          rw [HP]
          have hm := HM.out
          rw [zero_row] at *
          refine bodyPost_ret (results_place Try.results22 _ _ w.heap.size 0 rfl (setRow_heap _ _ _ _ _ _ hm.z)) rfl ?_
          exact ⟨rfl, below_setRow hm.below (Nat.le_refl _) _⟩
        · have HB1 := Lib.hid hB1
          have HB2 := Lib.hid hB2
          clear hB1 hB2
          go_wp2
          refine ⟨⟨k + 1, by omega, by go_num, ?_, ?_⟩, by simp [intOf]; omega⟩
          · rw [or_byte x1 x2 d1 d2, ← hs.out, hv.out, ← row_set]
            exact HM.out.put _ _
          · intro i hi
            rcases Nat.lt_or_ge i (2 * k) with h1 | h1
            · exact hq.out i h1
            · rcases Nat.lt_or_ge i (2 * k + 1) with h2 | h2
              · rw [show i = 2 * k by omega]; exact HB1.out
              · rw [show i = 2 * k + 1 by omega]; exact HB2.out
    · obtain rfl : k = 20 := by omega
      have HG := Lib.hid (goodB_true H.out (fun i hi => hq.out i (by omega)))
      have hm' := hm
      rw [← ppart_full] at hm'
      have HM := Lib.hid hm'
      clear hm hm'
      go_wp2_with (first | (refine wpList_load_id rfl _ rfl _ rfl _ HM.out.o (dig_length _ _) ?_) | (refine wpList_store_id rfl _ _ rfl _ _ rfl rfl _ HM.out.z (dig_length _ _) (by simp) ?_))
      have HP : parsed s = .tuple #[idv (val (ppart s 20)), .int .i64 0] := by unfold parsed; rw [HG.out]; rfl
      rw [HP]
      refine bodyPost_ret (results_place Try.results22 _ _ w.heap.size _ rfl (setRow_heap _ _ _ _ _ _ HM.out.z)) rfl ?_
      exact ⟨rfl, below_setRow HM.out.below (Nat.le_refl _) _⟩
end Go.Proofs.Yteljhengfeebfaa
