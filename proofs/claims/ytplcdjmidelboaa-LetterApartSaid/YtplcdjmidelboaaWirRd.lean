/- The program's reader: New, Left, fill. -/
import Derived.Test.YtplcdjmidelboaaWirGetL
namespace Go.Proofs.Ytplcdjmidelboaa
open Go.RowKit Go.Sort

theorem src_new (w : World) (s : ByteArray) (cap : Nat) : Src (w.drew.alloc (.cells (bytesRow s cap) 5 ((bytesRow s cap).size, (bytesRow s cap).size + 1))) w.heap.size s := by
  refine ⟨_, _, _, heap_alloc_new w.drew _, fun j hj => ?_⟩
  unfold bytesRow byteAt
  rw [Array.getElem?_append_left (by simpa using hj), Array.getElem?_map]
  have hj' : j < s.data.size := hj
  rw [Array.getElem?_eq_getElem hj']
  simp [Array.getD, show j < s.size from hj]
theorem new_any (s : ByteArray) (w : World) : Calls Try.prog 40 #[.string s] w fun e w' => ∃ c, e = .returned (.pointer (some ⟨w.heap.size + 1, 0, none⟩)) ∧ Rd w' (w.heap.size + 1) w.heap.size c s 0 ∧ Below w.heap.size w w' := by
  have hcv := run_bytes_of_string (P := Try.prog) w 9 85 5 s Try.underlying9 Try.underlying85 Try.underlying5
  have hge := grownCap_ge w s.size 0 5
  have HS := Lib.hid (src_new w s (grownCap w s.size 0 5))
  have HB : Hid (Below w.heap.size w (w.drew.alloc (.cells (bytesRow s (grownCap w s.size 0 5)) 5 ((bytesRow s (grownCap w s.size 0 5)).size, (bytesRow s (grownCap w s.size 0 5)).size + 1)))) := (Below.refl _ _).drew.alloc (Nat.le_refl _) _
  have hz : (w.drew.alloc (.cells (bytesRow s (grownCap w s.size 0 5)) 5 ((bytesRow s (grownCap w s.size 0 5)).size, (bytesRow s (grownCap w s.size 0 5)).size + 1))).heap.size = w.heap.size + 1 := by simp
  generalize grownCap w s.size 0 5 = c at *
  generalize w.drew.alloc _ = W at *
  go_enter Try.func40, Try.ntmps40
  go_wp2
  go_ret
  refine ⟨c, rfl, ?_, HB.out.alloc HB.out.size _⟩
  have hb := Blk.new W (rdc w.heap.size s.size c 0) 88
  rw [hz] at hb
  obtain ⟨C, e, fr, h3, h4⟩ := HS.out
  exact ⟨hb, ⟨C, e, fr, (Below.heap_alloc W _ _ (by omega)).trans h3, h4⟩, by omega, hge, by omega⟩

theorem left_nil (w : World) : Calls Try.prog 43 #[.pointer none] w fun e w' => e = .returned (.int .i64 0) ∧ Below w.heap.size w w' := by
  go_enter Try.func43, Try.ntmps43
  go_wp2
  go_ret
  exact ⟨rfl, Below.refl _ _⟩
theorem left_any {w : World} {g h c : Nat} {s : ByteArray} {p : Nat} (k : Rd w g h c s p) (hs : s.size ≤ 1000000) : Calls Try.prog 43 #[.pointer (some ⟨g, 0, none⟩)] w fun e w' => e = .returned (.int .i64 ((s.size - p : Nat) : Int)) ∧ Below w.heap.size w w' := by
  have hle := k.le
  have c0 := k.cell0
  have c1 := k.cell1
  clear k
  have g1 : IntKind.i64.wrap ((s.size : Int) - (p : Int)) = (s.size : Int) - (p : Int) := IntWalk.i64_in _ (by omega)
  go_enter Try.func43, Try.ntmps43
  go_upto_region 3 with (fail)
  go_quiet (fail)
  clear g1
  go_wp2
  go_ret
  refine ⟨congrArg Ending.returned (congrArg (Value.int IntKind.i64) (by omega)), ?_⟩
  exact bel_drewN (Below.refl _ _) _

/-! bytes are filled in -/
theorem under_s : Try.prog.underlying 85 = some (.slice (Try.prog.elem 85)) := by kernel_rfl
theorem elem_s : Try.prog.elem 85 = 5 := by kernel_rfl
theorem run_src (h n c p m : Nat) (hm : p + m ≤ c) (w : World) : (Instr.slice 85 (.slice (some ⟨h, 0, none⟩) n c) (some (.int .i64 (p : Int))) (some (.int .i64 ((p : Int) + (m : Int)))) (some (.int .i64 ((p : Int) + (m : Int))))).run Try.prog w = .ok (.slice (some ⟨h, offO p (p + m), none⟩) m m) w := by
  rw [run_slice_lhm w 85 (some ⟨h, 0, none⟩) n c under_s .i64 .i64 .i64 (p : Int) ((p : Int) + (m : Int)) ((p : Int) + (m : Int)) (by omega) (by omega) (by omega) (by omega), elem_s, size_u8]
  simp only [Result.andThen, sliced]
  rw [show ((p : Int) + (m : Int)).toNat = p + m by omega, Int.toNat_natCast, show p + m - p = m by omega]
  unfold offO
  by_cases h0 : m = 0
  · subst h0; simp
  · rw [if_neg (by omega)]
    simp [addr_add, h0]
theorem src_cells {w : World} {h : Nat} {s : ByteArray} (k : Src w h s) (p m : Nat) (hm : p + m ≤ s.size) : ∀ j v, (cellsN ((rest s p).take m))[j]? = some v → w.cell? ⟨h, offO p (p + m) + j, none⟩ = some v := by
  intro j v hj
  have hlt : j < m := by
    rcases Nat.lt_or_ge j m with h | h
    · exact h
    · rw [List.getElem?_eq_none (by rw [cellsN_length, List.length_take]; omega)] at hj; cases hj
  rw [offO_lt (by omega), k.cell _ (by omega)]
  rw [cellsN, List.getElem?_map, List.getElem?_take, if_pos hlt, rest_get s p j (by omega)] at hj
  exact hj
theorem fill_more {w : World} {g h c : Nat} {s : ByteArray} {p : Nat} (k : Rd w g h c s p) (hs : s.size ≤ 1000000) (b off m cap : Nat) (hlt : s.size < p + m) :
    Calls Try.prog 79 #[.pointer (some ⟨g, 0, none⟩), .slice (some ⟨b, off, none⟩) m cap] w fun e w' => e = .returned (.int .i64 4) ∧ Below w.heap.size w w' := by
  have hle := k.le
  have HL := Lib.hid (left_any k hs)
  have hd : decide (((s.size - p : Nat) : Int) < (m : Int)) = true := by simp; omega
  go_enter Try.func79, Try.ntmps79
  go_wp2_with (go_at_call 43; (with_reducible refine HL.out.mono ?_); rintro e w1 ⟨rfl, hb1⟩)
  go_ret
  exact ⟨rfl, hb1⟩
set_option maxRecDepth 100000 in
set_option maxHeartbeats 1000000 in
theorem fill_yes {w : World} {g h c : Nat} {s : ByteArray} {p : Nat} (k : Rd w g h c s p) (hs : s.size ≤ 1000000) (b off m cap : Nat) (hle : p + m ≤ s.size) (L : List Nat) (t : TypeId) (hB : Blk w b (row L) t) (hfit : off + m ≤ L.length) (hbg : b ≠ g) (hbh : b ≠ h) :
    Calls Try.prog 79 #[.pointer (some ⟨g, 0, none⟩), .slice (some ⟨b, off, none⟩) m cap] w fun e w' => e = .returned (.int .i64 0) ∧ Rd w' g h c s (p + m) ∧ Blk w' b (row (L.take off ++ (rest s p).take m ++ L.drop (off + m))) t ∧ Keep w w' g b := by
  have HL := Lib.hid (left_any k hs)
  have hd : decide (((s.size - p : Nat) : Int) < (m : Int)) = false := by simp; omega
  have HR := Lib.hid k
  have HB := Lib.hid hB
  have hcap := k.cap
  clear k hB
  go_enter Try.func79, Try.ntmps79
  go_upto_region 3 with (go_at_call 43; (with_reducible refine HL.out.mono ?_); rintro e w1 ⟨rfl, hb1⟩)
  have HK := Lib.hid (Keep.of hb1 g b)
  replace HR := Lib.hid (HR.out.below hb1)
  replace HB := Lib.hid (HB.out.below hb1 HB.out.lt)
  clear hb1 HL hd
  have c1 := HR.out.cell1
  go_upto_region 4 with (fail)
  have c0 := HR.out.cell0
  have hsl := run_src h s.size c p m (by omega)
  refine wp_region_tailP 12 0 _ _ rfl rfl rfl (by kernel_rfl) (by kernel_rfl) (fun _ _ _ _ _ h => h) ?_
  simp only [List.take_succ_cons, List.take_zero, List.drop_succ_cons, List.drop_zero, List.eraseIdx_cons_zero]
  repeat still_step
  refine wpStill_nil ?_
  clear c0 c1 hsl
  have hl : ((rest s p).take m).length = m := by rw [List.length_take, rest_length]; omega
  have HR2 := Lib.hid (HR.out.drew.row b (row (L.take off ++ (rest s p).take m ++ L.drop (off + m))) hbg.symm hbh.symm)
  have HB2 := Lib.hid (HB.out.drew.setRow (row (L.take off ++ (rest s p).take m ++ L.drop (off + m))))
  have HK2 : Hid (Keep w w1.drew g b) := HK.out.trans (Keep.of (Below.refl _ _).drew g b)
  go_upto_region 5 with (refine wpList_copy_slc rfl _ _ 85 85 rfl 5 Try.underlying85 info5 b off m cap h (offO p (p + m)) m rfl rfl (row L) t HB.out.drew (cellsN ((rest s p).take m)) (by rw [cellsN_length, hl]) (src_cells HR.out.drew.src p m hle) (by rw [row_size]; exact hfit) (cellsN_one _) _ (row_splice _ _ _ _) ?_)
  have HK3 := Lib.hid (HK2.out.setRow (row (L.take off ++ (rest s p).take m ++ L.drop (off + m))))
  clear HK2 HK HB HR
  generalize w1.drew.setRow _ _ = W at *
  have c1 := HR2.out.cell1
  have f1 := HR2.out.free1
  go_wp2
  go_ret
  refine ⟨rfl, HR2.out.at _ hle, HB2.out.other _ _ _ hbg, HK3.out.setCell 1 _⟩
end Go.Proofs.Ytplcdjmidelboaa
