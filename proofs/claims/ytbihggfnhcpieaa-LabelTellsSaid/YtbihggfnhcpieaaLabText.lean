/- The program's call Text. -/
import Derived.Test.YtbihggfnhcpieaaLabSib
import Derived.Test.YtbihggfnhcpieaaShaPad
namespace Go.Proofs.Ytbihggfnhcpieaa
open Go.RowKit Go.Sort

/-- a label's text, as numbers -/
def textN (n b : Nat) : List Nat := 47 :: bitsN n b
theorem textN_length (n b : Nat) : (textN n b).length = n + 1 := by rw [textN, List.length_cons, bitsN, tab_length]
def cells8 (l : List Nat) : List Value := l.map fun (n : Nat) => Value.int .u8 (n : Int)
theorem textN_snoc (k b : Nat) : cells8 (textN k b) ++ [.int .u8 (48 + (bitAt b k : Int))] = cells8 (textN (k + 1) b) := by
  rw [show (48 + (bitAt b k : Int)) = ((48 + bitAt b k : Nat) : Int) by omega]
  rw [textN, textN, bitsN, bitsN, ← tab_snoc k]
  simp [cells8]

/-- a slice of bytes is turned into a text -/
theorem run_text_cells {P : Program} (w : World) (src e dst : TypeId) (hs : P.underlying src = some (.slice e)) (he : P.underlying e = some (.int .u8)) (hd : P.underlying dst = some .string) (g n cap : Nat) (l : List Nat) (hn : l.length = n)
    (hc : ∀ j, j < n → w.cell? ⟨g, j, none⟩ = (cells8 l)[j]?) : (convert src dst (.slice (some ⟨g, 0, none⟩) n cap)).run P w = .ok (.string (txt l)) w := by
  rw [← txt_nums]
  exact run_convert_bytes_arg w src e hs he g 0 n cap _ (by rw [List.length_map, hn]) (fun i hi => by
    rw [Nat.zero_add, hc i hi, cells8, List.getElem?_map, List.getElem?_eq_getElem (by omega), List.getD, List.getElem?_map, List.getElem?_eq_getElem (by omega)]
    rfl) dst hd

theorem text_no (n : Int) (b : Nat) (w : World) (h1 : -9223372036854775808 ≤ n) (h2 : n ≤ 9223372036854775807) (hb : b < 18446744073709551616) (hi : isB n b = false) :
    Calls Try.prog 19 #[labv n b] w fun e w' => e = .returned (.tuple #[.string ⟨#[]⟩, .int .i64 1]) ∧ Below w.heap.size w w' := by
  have HI : Gives Try.prog 24 #[.agg (labc n b)] (.bool false) := fun w => hi ▸ isL_any n b w h1 h2 hb
  clear hi hb
  rw [labv_eq]
  go_enter Try.func19, Try.ntmps19
  go_upto_region 1 with (fail)
  have A1 := Lib.hid (Blk.new w (labc n b) 24)
  have B1 : Hid (Below w.heap.size w (w.alloc (.cells (labc n b) 24))) := (Below.refl _ _).alloc (Nat.le_refl _) _
  generalize w.alloc (.cells (labc n b) 24) = W at *
  go_wp2_with (first | (refine p_loadL rfl _ rfl _ rfl n b A1.out ?_) | (go_at_call 24; (with_reducible refine (HI.calls _).mono ?_); rintro e w' ⟨rfl, hb⟩))
  go_ret2
  exact ⟨rfl, B1.out.trans (hb.mono B1.out.size)⟩

set_option maxHeartbeats 1000000 in
theorem text_yes (n b : Nat) (w : World) (hn : n ≤ 64) (hb : b < 18446744073709551616) (hi : lowB n b = true) :
    Calls Try.prog 19 #[labv n b] w fun e w' => e = .returned (.tuple #[.string (txt (textN n b)), .int .i64 0]) ∧ Below w.heap.size w w' := by
  have HI : Gives Try.prog 24 #[.agg (labc n b)] (.bool true) := fun w => hi ▸ isL_yes n b w hn hb
  have HBT := Lib.hid (fun i g w => bitOf_any n b i g w hb)
  clear hi hb
  rw [labv_eq]
  go_enter Try.func19, Try.ntmps19
  go_upto_region 1 with (fail)
  have A1 := Lib.hid (Blk.new w (labc n b) 24)
  have B1 : Hid (Below w.heap.size w (w.alloc (.cells (labc n b) 24))) := (Below.refl _ _).alloc (Nat.le_refl _) _
  generalize w.alloc (.cells (labc n b) 24) = W at *
  go_upto_region 3 with (first | (refine p_loadL rfl _ rfl _ rfl n b A1.out ?_) | (go_at_call 24; (with_reducible refine (HI.calls _).mono ?_); rintro e w1 ⟨rfl, hb⟩))
  replace A1 := Lib.hid (A1.out.below hb A1.out.lt)
  replace B1 := Lib.hid (B1.out.trans (hb.mono B1.out.size))
  clear hb W
  go_upto_region 4 with (first | (refine p_loadL rfl _ rfl _ rfl n b A1.out ?_) | (go_at_call 37; (with_reducible refine (bitsOf_any _ _ _).mono ?_); rintro e w2 ⟨rfl, rfl⟩))
  replace A1 := Lib.hid (A1.out.alloc (.cells (labc n b) 24))
  have D := Lib.hid (Blk.new w1 (labc n b) 24)
  replace B1 := Lib.hid (B1.out.alloc B1.out.size (.cells (labc n b) 24))
  generalize w1.heap.size = q at *
  generalize w1.alloc _ = W at *
  clear w1
  go_upto_region 5 with (fail)
  have HO : Hid ((W.alloc (.cells #[.int .u8 47] 5)).ownsRow W.heap.size 5 1 (.slice (some ⟨W.heap.size, 0, none⟩) 1 1) 1 (cells8 (textN 0 b))) :=
    World.ownsRow_lit W _ 1 (Nat.le_refl _) (by unfold maxLen; omega) rfl
  have HW : Hid (Below W.heap.size W (W.alloc (.cells #[.int .u8 47] 5))) := (Below.refl _ _).alloc (Nat.le_refl _) _
  have c0 := lab0 (A1.out.alloc (.cells #[.int .u8 47] 5))
  generalize W.alloc (.cells #[.int .u8 47] 5) = W2 at *
  go_wp2
  clear c0
  go_loopw [5, 15] (fun v i wr => ∃ k : Nat, k ≤ n ∧ i = .int .i64 k ∧ wr.ownsRow W.heap.size 5 1 v (k + 1) (cells8 (textN k b)) ∧ Below W.heap.size W wr) (fun _ i _ => n - (intOf i).toNat)
  case atStart => exact ⟨0, by omega, rfl, HO.out, HW.out⟩
  case round =>
    clear HO HW
    obtain ⟨k, hk, rfl, hO, hW⟩ := hrel
    have HO := Lib.hid hO
    have HW := Lib.hid hW
    clear hO hW
    by_cases hlt : k < n
    · have hq := D.out.lt
      have HC : Gives1 Try.prog 48 #[.int .i64 (k : Int), .pointer (some ⟨q, 0, none⟩)] (.int .i64 ((bitAt b k : Nat) : Int)) wr := (HBT.out k q wr (by omega) (D.out.below HW.out hq))
      have hx := bitAt_lt b k
      have HS := Lib.hid (textN_snoc k b)
      generalize bitAt b k = x at *
      go_wp2_with (first | (go_at_call 48; (with_reducible refine HC.calls.mono ?_); rintro e w2 ⟨rfl, rfl⟩) | (refine wpList_append1 rfl _ _ 57 rfl W.heap.size 5 (.int .u8 0) 1 Try.underlying57 info8 rfl _ (k + 1) _ rfl HO.out (.int .u8 (48 + (x : Int))) rfl rfl (by omega) (by omega) HW.out HW.out.size ?_; intro v' w' hO' B'))
      rw [HS.out] at hO'
      have HO2 := Lib.hid hO'
      have HB2 := Lib.hid B'
      clear hO' B'
      go_wp2
      exact ⟨⟨k + 1, by omega, by go_num, HO2.out, HB2.out⟩, by simp [intOf]; omega⟩
    · obtain rfl : k = n := by omega
      obtain ⟨g, cap, rfl, hg, hg2, hcap, hcell⟩ := own_open HO.out (by omega)
      have HF : Hid (Below w.heap.size w wr) := B1.out.trans (HW.out.mono B1.out.size)
      have hcv := run_text_cells (P := Try.prog) wr 57 5 9 Try.underlying57 Try.underlying5 Try.underlying9 g (k + 1) cap (textN k b) (textN_length k b) hcell
      clear hcell
      go_wp2
      go_ret2
      exact ⟨rfl, HF.out⟩
end Go.Proofs.Ytbihggfnhcpieaa
