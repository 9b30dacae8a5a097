/- A place is written: the program's answer. -/
import Derived.Laws.BytesArg
import Derived.Deep.Cut
import Derived.Test.YtcmaneddhjlbdaaIdEq
namespace Go.Proofs.Ytcmaneddhjlbdaa
open Go.RowKit
theorem info41 : (Try.prog.info? 56).map (·.size) = some 40 := by kernel_rfl

def hx (d : Nat) : Nat := if d < 10 then 48 + d else 87 + d
/-- the text of the first k bytes, and zeros behind it -/
def tpart (a k : Nat) : List Nat := ((dig 20 a).take k).flatMap (fun b => [hx (b / 16), hx (b % 16)]) ++ List.replicate (40 - 2 * k) 0

/-- what is written -/
def textB (a : Nat) : ByteArray := strOfNums ((tpart a 20).map fun (n : Nat) => (n : Int))
theorem tpre_length (a k : Nat) (h : k ≤ 20) : (((dig 20 a).take k).flatMap (fun b => [hx (b / 16), hx (b % 16)])).length = 2 * k := by
  have : ∀ l : List Nat, (l.flatMap (fun b => [hx (b / 16), hx (b % 16)])).length = 2 * l.length := by
    intro l
    induction l with
    | nil => rfl
    | cons b r ih => rw [List.flatMap_cons, List.length_append, ih]; simp; omega
  rw [this, List.length_take, dig_length]
  omega
theorem tpart_length (a k : Nat) (h : k ≤ 20) : (tpart a k).length = 40 := by
  unfold tpart
  rw [List.length_append, tpre_length a k h, List.length_replicate]
  omega
theorem tpart_zero (a : Nat) : tpart a 0 = List.replicate 40 0 := by simp [tpart]
theorem tpart_step (a k : Nat) (h : k < 20) : ((tpart a k).set (2 * k) (hx (digit a (19 - k) / 16))).set (2 * k + 1) (hx (digit a (19 - k) % 16)) = tpart a (k + 1) := by
  unfold tpart
  have hp := tpre_length a k (by omega)
  have hg := dig_get 20 a k h
  have ht : (dig 20 a).take (k + 1) = (dig 20 a).take k ++ [digit a (19 - k)] := by
    rw [List.take_add_one, hg]; rfl
  rw [ht, List.flatMap_append]
  generalize ((dig 20 a).take k).flatMap (fun b => [hx (b / 16), hx (b % 16)]) = pre at *
  rw [show 40 - 2 * k = (40 - 2 * (k + 1)) + 1 + 1 by omega, List.replicate_succ, List.replicate_succ, ← hp, List.set_append_right _ _ (by omega), List.set_append_right _ _ (by omega)]
  simp
theorem hxb (d : Nat) (h : d < 16) : ((⟨#[48, 49, 50, 51, 52, 53, 54, 55, 56, 57, 97, 98, 99, 100, 101, 102]⟩ : ByteArray)[d]'h).toNat = hx d := by
  have : ∀ d : Fin 16, ((⟨#[48, 49, 50, 51, 52, 53, 54, 55, 56, 57, 97, 98, 99, 100, 101, 102]⟩ : ByteArray)[d.val]'d.isLt).toNat = hx d.val := by decide
  exact this ⟨d, h⟩

theorem run_index_id (a k : Nat) (h : k < 20) (w : World) : (Instr.index 34 (.agg (row (dig 20 a))) (.int .i64 (k : Int))).run Try.prog w = .ok (.int .u8 ((digit a (19 - k) : Nat) : Int)) w := by
  have e := run_part5 (dig 20 a) k (by rw [dig_length]; exact h) w
  have hg : (dig 20 a)[k]'(by rw [dig_length]; exact h) = digit a (19 - k) := by
    have := dig_get 20 a k h
    rw [List.getElem?_eq_getElem (by rw [dig_length]; exact h)] at this
    injection this
  rw [hg] at e
  have hs : (sizeOf 5).run Try.prog w = .ok 1 w := by
    have := info5
    cases hq : Try.prog.info? 5 with
    | none => simp [hq] at this
    | some i => simp [hq] at this; simp [sizeOf, typeInfo, hq, this]
  have hi : (0 : Int) ≤ k ∧ (k : Int) < 20 := by omega
  simp [Instr.index, asIntOf, run_underlying Try.underlying34, hs, e]
  omega

/-- the memory of Text -/
structure MemT (w wr : World) (A T : Array Value) : Prop where
  below : Below w.heap.size w wr
  size : wr.heap.size = w.heap.size + 2
  a : wr.heap[w.heap.size]? = some (.cells A 34 (0, 0))
  t : wr.heap[w.heap.size + 1]? = some (.cells T 56 (0, 0))
theorem MemT.made (w : World) (A B : Array Value) : MemT w ((w.alloc (.cells A 34)).alloc (.cells B 56)) A B :=
  ⟨((Below.refl _ _).alloc (Nat.le_refl _) _).alloc (by simp) _, by simp, heap_alloc2_old _ _ _, heap_alloc2_new _ _ _⟩
theorem MemT.put {w wr : World} {A T : Array Value} (h : MemT w wr A T) (i : Nat) (v : Value) : MemT w (wr.setCell ⟨w.heap.size + 1, i, none⟩ v) A (T.setIfInBounds i v) := by
  refine ⟨?_, ?_, ?_, ?_⟩
  · exact Below.setCell (p := ⟨w.heap.size + 1, i, none⟩) h.below (by simp) _
  · simpa [World.setCell] using h.size
  · rw [heap_setCell_other _ _ _ _ (by simp)]; exact h.a
  · exact heap_setCell_same _ _ _ _ _ _ h.t

theorem zeros40 : (#[Value.int IntKind.u8 0, Value.int IntKind.u8 0, Value.int IntKind.u8 0, Value.int IntKind.u8 0,
      Value.int IntKind.u8 0, Value.int IntKind.u8 0, Value.int IntKind.u8 0, Value.int IntKind.u8 0,
      Value.int IntKind.u8 0, Value.int IntKind.u8 0, Value.int IntKind.u8 0, Value.int IntKind.u8 0,
      Value.int IntKind.u8 0, Value.int IntKind.u8 0, Value.int IntKind.u8 0, Value.int IntKind.u8 0,
      Value.int IntKind.u8 0, Value.int IntKind.u8 0, Value.int IntKind.u8 0, Value.int IntKind.u8 0,
      Value.int IntKind.u8 0, Value.int IntKind.u8 0, Value.int IntKind.u8 0, Value.int IntKind.u8 0,
      Value.int IntKind.u8 0, Value.int IntKind.u8 0, Value.int IntKind.u8 0, Value.int IntKind.u8 0,
      Value.int IntKind.u8 0, Value.int IntKind.u8 0, Value.int IntKind.u8 0, Value.int IntKind.u8 0,
      Value.int IntKind.u8 0, Value.int IntKind.u8 0, Value.int IntKind.u8 0, Value.int IntKind.u8 0,
      Value.int IntKind.u8 0, Value.int IntKind.u8 0, Value.int IntKind.u8 0, Value.int IntKind.u8 0] : Array Value) = row (List.replicate 40 0) := rfl

theorem text_all (a : Nat) (w : World) : Calls Try.prog 26 #[idv a] w fun e w' => e = .returned (.string (textB a)) ∧ Below w.heap.size w w' := by
  rw [show idv a = .agg (row (dig 20 a)) from rfl]
  go_enter Try.func26, Try.ntmps26
  go_upto_region 2 with (fail)
  rw [zeros40]
  generalize hW : (w.alloc (.cells (row (dig 20 a)) 34)).alloc (.cells (row (List.replicate 40 0)) 56) = W
  have hm : MemT w W (row (dig 20 a)) (row (List.replicate 40 0)) := hW ▸ MemT.made w _ _
  clear hW
  go_wp2_with (first | (refine wpList_load_id rfl _ rfl _ rfl _ hm.a (dig_length _ _) ?_))
  have HM := Lib.hid hm
  clear hm
  go_loopw [7] (fun i wr => ∃ k : Nat, k ≤ 20 ∧ i = .int .i64 k ∧ MemT w wr (row (dig 20 a)) (row (tpart a k))) (fun i _ => 20 - (intOf i).toNat)
  case atStart => exact ⟨0, by omega, rfl, HM.out⟩
  case round =>
    clear HM
    obtain ⟨k, hk, rfl, hm⟩ := hrel
    by_cases hlt : k < 20
    · have hI := run_index_id a k hlt
      have HM := Lib.hid hm
      clear hm
      have h1 := digit_lt a (19 - k)
      have hs := Lib.hid (tpart_step a k hlt)
      have hl := tpart_length a k hk
      obtain ⟨v1, co⟩ : ∃ v, wr.cell? ⟨w.heap.size + 1, 2 * k, none⟩ = some v := by rw [cell_of_row _ _ _ _ _ _ HM.out.t]; exact ⟨_, Array.getElem?_eq_getElem (by rw [row_size]; omega)⟩
      have fo : wr.frozen? ⟨w.heap.size + 1, 2 * k, none⟩ = false := frozen_of_row _ _ _ _ _ HM.out.t
      generalize digit a (19 - k) = da at *
      have hl' := Lib.hid hl
      clear hl
      have b1 : (0 : Int) ≤ da / 16 ∧ (da : Int) / 16 < 16 := by omega
      have b2 : (0 : Int) ≤ da % 16 ∧ (da : Int) % 16 < 16 := by omega
      go_upto_region 6 with (fail)
      rw [hxb]
      have hm := HM.out.put (2 * k) (.int .u8 ((hx (da / 16) : Nat) : Int))
      rw [row8_set] at hm
      clear co fo HM
      generalize wr.setCell _ _ = W2 at *
      obtain ⟨v2, co⟩ : ∃ v, W2.cell? ⟨w.heap.size + 1, 2 * k + 1, none⟩ = some v := by rw [cell_of_row _ _ _ _ _ _ hm.t]; exact ⟨_, Array.getElem?_eq_getElem (by rw [row_size, List.length_set, hl'.out]; omega)⟩
      have fo : W2.frozen? ⟨w.heap.size + 1, 2 * k + 1, none⟩ = false := frozen_of_row _ _ _ _ _ hm.t
      have HM := Lib.hid hm
      clear hm
      go_wp2
      refine ⟨⟨k + 1, by omega, by go_num, ?_⟩, by simp [intOf]; omega⟩
      rw [hxb, ← hs.out, ← row8_set]
      exact HM.out.put _ _
    · obtain rfl : k = 20 := by omega
      have hl := tpart_length a 20 (by omega)
      have hcv : (convert 44 9 (Value.slice (some ⟨w.heap.size + 1, 0, none⟩) 40 40)).run Try.prog wr = .ok (.string (textB a)) wr :=
        run_convert_bytes_arg wr 44 5 Try.underlying44 Try.underlying5 (w.heap.size + 1) 0 40 40 ((tpart a 20).map fun (n : Nat) => (n : Int)) (by rw [List.length_map, hl]) (fun i hi => by
          rw [Nat.zero_add, cell_of_row _ _ _ _ _ _ hm.t, row_get, List.getElem?_eq_getElem (by omega), List.getD, List.getElem?_map, List.getElem?_eq_getElem (by omega)]
          rfl) 9 Try.underlying9
      have HB := Lib.hid hm.below
      clear hm hl
      go_wp2
      go_ret
      exact ⟨rfl, HB.out⟩
end Go.Proofs.Ytcmaneddhjlbdaa
