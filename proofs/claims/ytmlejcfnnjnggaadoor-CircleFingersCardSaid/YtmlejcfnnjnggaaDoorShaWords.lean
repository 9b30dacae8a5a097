/- The words of a block: the program's and the document's answer, as one row. -/
import Derived.Test.YtmlejcfnnjnggaaDoorShaPad
import Derived.StillTailTactics
import Derived.OwnWalk
namespace Go.Proofs.YtmlejcfnnjnggaaDoor
set_option maxRecDepth 100000
open Go.RowKit

theorem info32 : (Tryd.prog.info? 69).map (fun i => (i.zero, i.size, i.bytes)) = some (some (.int .u32 0), 1, 4) := by kernel_rfl
theorem info64s : (Tryd.prog.info? 91).map (·.size) = some 64 := by kernel_rfl

/-- what Words tells: a slice of eighty words -/
def TellsWords (s : ByteArray) (w : World) (e : Ending) (w' : World) : Prop :=
  ∃ g cap, e = .returned (.tuple #[.slice (some ⟨g, 0, none⟩) 80 cap, .int .i64 0]) ∧ g < w'.heap.size ∧ (∀ t, t < 80 → w'.cell? ⟨g, t, none⟩ = some (.int .u32 (wd s t : Nat))) ∧ Below w.heap.size w w'

theorem words_no (s : ByteArray) (w : World) (h : s.size ≠ 64) :
    Calls Tryd.prog 66 #[.string s] w fun e w' => e = .returned (.tuple #[.slice none 0 0, .int .i64 1]) ∧ w = w' := by
  have h' : ((s.size : Int) != 64) = true := by rw [bne_iff_ne]; omega
  go_enter Tryd.func66, Tryd.ntmps66
  go_wp2
  go_ret2
  exact ⟨rfl, rfl⟩
theorem refWords_no (s : ByteArray) (w : World) (h : s.size ≠ 64) :
    Calls Tryd.prog 71 #[.string s] w fun e w' => e = .returned (.tuple #[.slice none 0 0, .int .i64 1]) ∧ w = w' := by
  have h' : ((s.size : Int) != 64) = true := by rw [bne_iff_ne]; omega
  go_enter Tryd.func71, Tryd.ntmps71
  go_wp2
  go_ret2
  exact ⟨rfl, rfl⟩

/-- the words of the first i bytes -/
def wf1 (s : ByteArray) (i j : Nat) : Nat := if j < 16 then beN s (4 * j) (min 4 (i - 4 * j)) else 0
/-- the words up to t -/
def wf2 (s : ByteArray) (t j : Nat) : Nat := if j < t then wd s j else 0
theorem wf1_zero (s : ByteArray) : (tab 80 fun _ => 0) = tab 80 (wf1 s 0) := tab_congr fun j _ => by unfold wf1; rw [Nat.zero_sub, Nat.min_zero]; split <;> rfl
theorem wf1_full (s : ByteArray) : tab 80 (wf1 s 64) = tab 80 (wf2 s 16) := tab_congr fun j _ => by
  unfold wf1 wf2
  split
  · rename_i h; rw [wd_low s j h, Nat.min_eq_left (by omega)]
  · rfl
theorem wf1_at (s : ByteArray) (i : Nat) (h : i < 64) : wf1 s i (i / 4) = beN s (4 * (i / 4)) (i % 4) := by
  unfold wf1
  rw [if_pos (by omega), show min 4 (i - 4 * (i / 4)) = i % 4 by omega]
theorem wf1_step (s : ByteArray) (i : Nat) (h : i < 64) : (tab 80 (wf1 s i)).set (i / 4) (256 * beN s (4 * (i / 4)) (i % 4) + byteAt s i) = tab 80 (wf1 s (i + 1)) := by
  rw [tab_set]
  refine tab_congr fun j _ => ?_
  unfold wf1
  by_cases e : j = i / 4
  · rw [if_pos e, if_pos (by omega), e, show min 4 (i + 1 - 4 * (i / 4)) = i % 4 + 1 by omega, beN, show 4 * (i / 4) + i % 4 = i by omega]
  · rw [if_neg e]
    split
    · congr 1; omega
    · rfl
theorem wf2_step (s : ByteArray) (t : Nat) : (tab 80 (wf2 s t)).set t (wd s t) = tab 80 (wf2 s (t + 1)) := by
  rw [tab_set]
  refine tab_congr fun j _ => ?_
  unfold wf2
  by_cases e : j = t
  · rw [if_pos e, if_pos (by omega), e]
  · rw [if_neg e]
    by_cases e2 : j < t
    · rw [if_pos e2, if_pos (by omega)]
    · rw [if_neg e2, if_neg (by omega)]
theorem shl8_or (x b : Nat) (hx : x < 16777216) (hb : b < 256) : bits .or .u32 ((x : Int) * 256) (b : Int) = ((256 * x + b : Nat) : Int) := by
  rw [show (x : Int) * 256 = ((x * 256 : Nat) : Int) by omega, u32_or_nat _ _ (by omega) (by omega), nat_join 8 _ _ (by omega) (by omega)]
  congr 1
  omega
theorem block_copied (s : ByteArray) (h : s.size = 64) : (Lib.byteCells s.data.toList ++ (row (List.replicate 64 0)).toList.drop s.size).toArray = row (tab 64 (byteAt s)) := by
  rw [byteCells_eq, bytesN_tab, h, List.drop_of_length_le (by simp [row_size]), List.append_nil]
  rfl

theorem zeros64 : (#[Value.int IntKind.u8 0, Value.int IntKind.u8 0, Value.int IntKind.u8 0, Value.int IntKind.u8 0, Value.int IntKind.u8 0, Value.int IntKind.u8 0, Value.int IntKind.u8 0, Value.int IntKind.u8 0, Value.int IntKind.u8 0, Value.int IntKind.u8 0, Value.int IntKind.u8 0, Value.int IntKind.u8 0, Value.int IntKind.u8 0, Value.int IntKind.u8 0, Value.int IntKind.u8 0, Value.int IntKind.u8 0, Value.int IntKind.u8 0, Value.int IntKind.u8 0, Value.int IntKind.u8 0, Value.int IntKind.u8 0, Value.int IntKind.u8 0, Value.int IntKind.u8 0, Value.int IntKind.u8 0, Value.int IntKind.u8 0, Value.int IntKind.u8 0, Value.int IntKind.u8 0, Value.int IntKind.u8 0, Value.int IntKind.u8 0, Value.int IntKind.u8 0, Value.int IntKind.u8 0, Value.int IntKind.u8 0, Value.int IntKind.u8 0, Value.int IntKind.u8 0, Value.int IntKind.u8 0, Value.int IntKind.u8 0, Value.int IntKind.u8 0, Value.int IntKind.u8 0, Value.int IntKind.u8 0, Value.int IntKind.u8 0, Value.int IntKind.u8 0, Value.int IntKind.u8 0, Value.int IntKind.u8 0, Value.int IntKind.u8 0, Value.int IntKind.u8 0, Value.int IntKind.u8 0, Value.int IntKind.u8 0, Value.int IntKind.u8 0, Value.int IntKind.u8 0, Value.int IntKind.u8 0, Value.int IntKind.u8 0, Value.int IntKind.u8 0, Value.int IntKind.u8 0, Value.int IntKind.u8 0, Value.int IntKind.u8 0, Value.int IntKind.u8 0, Value.int IntKind.u8 0, Value.int IntKind.u8 0, Value.int IntKind.u8 0, Value.int IntKind.u8 0, Value.int IntKind.u8 0, Value.int IntKind.u8 0, Value.int IntKind.u8 0, Value.int IntKind.u8 0, Value.int IntKind.u8 0] : Array Value) = row (List.replicate 64 0) := rfl
theorem byteAt_run (s : ByteArray) (i : Nat) (h : i < 64) (w : World) : (Instr.index 91 (.agg (row (tab 64 (byteAt s)))) (.int .i64 (i : Int))).run Tryd.prog w = .ok (.int .u8 ((byteAt s i : Nat) : Int)) w := by
  have ha : (isAgg 5).run Tryd.prog w = .ok false w := by
    unfold isAgg
    rw [Sem.run_bind, run_underlying Tryd.underlying5 w]
    rfl
  have hs : (sizeOf 5).run Tryd.prog w = .ok 1 w := by
    have := info8s
    cases hq : Tryd.prog.info? 5 with
    | none => simp [hq] at this
    | some i => simp [hq] at this; simp [sizeOf, typeInfo, hq, this]
  have e : (Go.part 5 (row (tab 64 (byteAt s))) i).run Tryd.prog w = .ok (.int .u8 ((byteAt s i : Nat) : Int)) w := by
    simp [Go.part, ha, row_tab 64 (byteAt s) i h]
  have hi : (0 : Int) ≤ i ∧ (i : Int) < 64 := by omega
  simp [Instr.index, asIntOf, run_underlying Tryd.underlying91, hs, e]
  omega
theorem n_xor4 {a b c d : Nat} (ha : a < 4294967296) (hb : b < 4294967296) (hc : c < 4294967296) (hd : d < 4294967296) : bits .xor .u32 (bits .xor .u32 (bits .xor .u32 (a : Int) (b : Int)) (c : Int)) (d : Int) = ((((a ^^^ b) ^^^ c) ^^^ d : Nat) : Int) := by
  rw [n_xor ha hb, n_xor (xor_lt ha hb) hc, n_xor (xor_lt (xor_lt ha hb) hc) hd]
theorem wp_region_tail {P : Program} {id : Nat} {Q : Exit → Act → World → Prop} {a : Act} {w : World} {l : List Oper} (n : Nat) (hm : P.follows .mixedOrders = true) (hB : Region.lexTailB .any l.toArray n = true)
    (h : wpStill P l.toArray w.drew (fun a' => wpList P l.toArray Q (l.drop n) a' w.drew) (l.take n) a) : (Code.region id l.toArray true).wp P Q a w :=
  wp_region_still_tail n hm hB h

set_option maxHeartbeats 1000000 in
theorem words_yes (s : ByteArray) (w : World) (h : s.size = 64) : Calls Tryd.prog 66 #[.string s] w (TellsWords s w) := by
  have h' : ((s.size : Int) != 64) = false := by rw [bne_eq_false_iff_eq]; omega
  have H := Lib.hid h
  clear h
  go_enter Tryd.func66, Tryd.ntmps66
  go_upto_region 4 with (fail)
  rw [zeros64]
  have hB := Blk.new w (row (List.replicate 64 0)) 91
  have B0 := (Below.refl w.heap.size w).alloc (Nat.le_refl _) (.cells (row (List.replicate 64 0)) 91)
  have hz : (w.alloc (.cells (row (List.replicate 64 0)) 91)).heap.size = w.heap.size + 1 := by simp
  generalize w.alloc _ = W at *
  go_upto_region 5 with (refine wpList_copy_str rfl _ _ 77 9 rfl 5 Tryd.underlying77 info8s w.heap.size _ _ s rfl rfl _ 91 hB (by rw [H.out]; omega) (by rw [row_size, H.out]; simp) _ (block_copied s H.out) ?_)
  replace hB := hB.setRow (row (tab 64 (byteAt s)))
  replace B0 := bel_setRow B0 (Nat.le_refl _) (row (tab 64 (byteAt s)))
  replace hz : (W.setRow w.heap.size (row (tab 64 (byteAt s)))).heap.size = w.heap.size + 1 := by rw [size_setRow, hz]
  generalize W.setRow _ _ = W1 at *
  clear W
  have HZ := Lib.hid hz
  clear hz
  go_upto_region 6 with (refine wpList_make_blk rfl _ _ 79 rfl 69 (.int .u32 0) 1 4 Tryd.underlying79 info32 _ 80 rfl rfl rfl (by decide) (by decide) _ (made32 _) ?_)
  rw [wf1_zero s]
  have hW := Blk.new W1 (row32 (tab 80 (wf1 s 0))) 69
  replace hB := hB.alloc (.cells (row32 (tab 80 (wf1 s 0))) 69)
  replace B0 := B0.alloc B0.size (.cells (row32 (tab 80 (wf1 s 0))) 69)
  rw [HZ.out] at hW ⊢
  generalize W1.alloc _ = W at *
  clear HZ
  clear W1
  have HB := Lib.hid hB
  have HW := Lib.hid hW
  have HB0 := Lib.hid B0
  clear hB hW B0
  go_wp2_with (refine wpList_load_row rfl 91 _ rfl w.heap.size rfl 91 _ (0, 0) _ HB.out Tryd.underlying91 rfl (by rw [row_size, tab_length]; exact info64s) ?_)
  clear HB
  go_loopw [17] (fun i wr => ∃ k : Nat, k ≤ 64 ∧ i = .int .i64 k ∧ Blk wr (w.heap.size + 1) (row32 (tab 80 (wf1 s k))) 69 ∧ Below w.heap.size w wr) (fun i _ => 64 - (intOf i).toNat)
  case atStart => exact ⟨0, by omega, rfl, HW.out, HB0.out⟩
  case round =>
    clear HW HB0
    obtain ⟨k, hk, rfl, hB, B0⟩ := hrel
    by_cases hlt : k < 64
    · have hI := byteAt_run s k hlt
      have c1 : wr.cell? ⟨w.heap.size + 1, k / 4, none⟩ = some (.int .u32 (beN s (4 * (k / 4)) (k % 4) : Nat)) := by rw [hB.cell, row32_tab _ _ _ (by omega), wf1_at s k hlt]
      have f1 := hB.free (k / 4)
      have HS := Lib.hid (wf1_step s k hlt)
      have hx : beN s (4 * (k / 4)) (k % 4) < 16777216 := Nat.lt_of_lt_of_le (beN_lt s (4 * (k / 4)) (k % 4)) (Nat.le_trans (Nat.pow_le_pow_right (by omega) (show k % 4 ≤ 3 by omega)) (by decide))
      have hb := byteAt_lt s k
      have HB := Lib.hid hB
      have HB0 := Lib.hid B0
      clear hB B0
      generalize beN s (4 * (k / 4)) (k % 4) = x at *
      have HO := Lib.hid (shl8_or x (byteAt s k) hx hb)
      generalize byteAt s k = b at *
      go_wp2
      rw [HO.out]
      refine ⟨⟨k + 1, by omega, by go_num, ?_, HB0.out.setCell (by simp) _⟩, by simp [intOf]; omega⟩
      rw [← HS.out, ← row32_set]
      exact HB.out.put _ _
    · obtain rfl : k = 64 := by omega
      rw [wf1_full] at hB
      rw [show ((64 : Nat) : Int) = 64 from rfl]
      have HB := Lib.hid hB
      have HB0 := Lib.hid B0
      clear hB B0
      go_wp2
      go_loopw [8] (fun i wr => ∃ k : Nat, 16 ≤ k ∧ k ≤ 80 ∧ i = .int .i64 k ∧ Blk wr (w.heap.size + 1) (row32 (tab 80 (wf2 s k))) 69 ∧ Below w.heap.size w wr) (fun i _ => 80 - (intOf i).toNat)
      case atStart => exact ⟨16, by omega, by omega, rfl, HB.out, HB0.out⟩
      case round =>
        clear HB HB0
        obtain ⟨k, hk0, hk, rfl, hB, B0⟩ := hrel
        by_cases hlt : k < 80
        · have HB := Lib.hid hB
          have HB0 := Lib.hid B0
          clear hB B0
          go_wp2
          have hB := HB.out
          have cc : ∀ j, j < k → wr.cell? ⟨w.heap.size + 1, j, none⟩ = some (.int .u32 (wd s j : Nat)) := fun j hj => by rw [hB.cell, row32_tab _ _ _ (by omega), wf2, if_pos hj]
          have c3 := cc (k - 3) (by omega)
          have c8 := cc (k - 8) (by omega)
          have c14 := cc (k - 14) (by omega)
          have c16 := cc (k - 16) (by omega)
          have c0 : wr.cell? ⟨w.heap.size + 1, k, none⟩ = some (.int .u32 (wf2 s k k : Nat)) := by rw [hB.cell, row32_tab _ _ _ (by omega)]
          have f1 := hB.free k
          have HS := Lib.hid (wf2_step s k)
          have HD := Lib.hid (wd_high s k hk0 hlt)
          have l3 := wd_lt s (k - 3)
          have l8 := wd_lt s (k - 8)
          have l14 := wd_lt s (k - 14)
          have l16 := wd_lt s (k - 16)
          clear hB cc
          generalize wd s (k - 3) = x3 at *
          generalize wd s (k - 8) = x8 at *
          generalize wd s (k - 14) = x14 at *
          generalize wd s (k - 16) = x16 at *
          have hcall : Calls Tryd.prog 68 #[.int .u32 (bits .xor .u32 (bits .xor .u32 (bits .xor .u32 (x3 : Int) (x8 : Int)) (x14 : Int)) (x16 : Int)), .int .i64 1] wr.drew fun e w' => e = .returned (.int .u32 ((wd s k : Nat) : Int)) ∧ w' = wr.drew := by
            rw [n_xor4 l3 l8 l14 l16, HD.out]
            exact (rot1 _ _ (xor_lt (xor_lt (xor_lt l3 l8) l14) l16)).mono fun _ _ ⟨a, b⟩ => ⟨a, b.symm⟩
          have HC := Lib.hid hcall
          clear hcall
          have g3 : IntKind.i64.wrap ((k : Int) - 3) = (k : Int) - 3 := IntWalk.i64_in _ (by omega)
          have g8 : IntKind.i64.wrap ((k : Int) - 8) = (k : Int) - 8 := IntWalk.i64_in _ (by omega)
          have g14 : IntKind.i64.wrap ((k : Int) - 14) = (k : Int) - 14 := IntWalk.i64_in _ (by omega)
          have g16 : IntKind.i64.wrap ((k : Int) - 16) = (k : Int) - 16 := IntWalk.i64_in _ (by omega)
          have t3 : ((k : Int) - 3).toNat = k - 3 := by omega
          have t8 : ((k : Int) - 8).toNat = k - 8 := by omega
          have t14 : ((k : Int) - 14).toNat = k - 14 := by omega
          have t16 : ((k : Int) - 16).toNat = k - 16 := by omega
          have b3 : (0 : Int) ≤ (k : Int) - 3 ∧ (k : Int) - 3 < 80 := by omega
          have b8 : (0 : Int) ≤ (k : Int) - 8 ∧ (k : Int) - 8 < 80 := by omega
          have b14 : (0 : Int) ≤ (k : Int) - 14 ∧ (k : Int) - 14 < 80 := by omega
          have b16 : (0 : Int) ≤ (k : Int) - 16 ∧ (k : Int) - 16 < 80 := by omega
          have b0 : (0 : Int) ≤ (k : Int) ∧ (k : Int) < 80 := by omega
          have q3 : (3 : Int) ≤ k ∧ (8 : Int) ≤ k ∧ (14 : Int) ≤ k ∧ (16 : Int) ≤ k := by omega
          refine wp_region_tail 27 (by kernel_rfl) (by kernel_rfl) ?_
          simp only [List.take_succ_cons, List.take_zero, List.drop_succ_cons, List.drop_zero]
          repeat still_step
          still_call HC.out
          repeat still_step
          refine wpStill_nil ?_
          clear g3 g8 g14 g16 t3 t8 t14 t16 HC
          go_wp2
          go_roundw
          case rel =>
            refine ⟨k + 1, by omega, by omega, by go_num, ?_, HB0.out.drew.setCell (by simp) _⟩
            rw [← HS.out, ← row32_set]
            exact HB.out.drew.put _ _
          case measure => simp [intOf]; omega
        · obtain rfl : k = 80 := by omega
          have HB := Lib.hid hB
          have HB0 := Lib.hid B0
          clear hB B0
          go_wp2
          go_ret2
          refine ⟨w.heap.size + 1, 80, rfl, HB.out.lt, fun t ht => ?_, HB0.out⟩
          rw [HB.out.cell, row32_tab _ _ _ ht, wf2, if_pos ht]
end Go.Proofs.YtmlejcfnnjnggaaDoor
