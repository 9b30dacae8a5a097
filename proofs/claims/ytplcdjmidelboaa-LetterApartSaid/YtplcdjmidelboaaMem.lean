/- Memory: the blocks of a function of two places that makes a third one, and the loads and stores of a whole place. -/
import Derived.WalkKit
import Derived.Deep.QuietTactic
import Derived.BigQuiet
import Derived.Lib.Hide
import Derived.Lib.QuietBelow
import Derived.Test.YtplcdjmidelboaaNum
import Derived.Test.YtplcdjmidelboaaRows
namespace Go.Proofs.Ytplcdjmidelboaa
open Go.RowKit

theorem Try.info23 : (Try.prog.info? 23).map (·.size) = some 20 := by kernel_rfl

theorem wpList_load_id {ops : Array Oper} {rest : List Oper} {o : Oper} {a : Act} {w : World} {Q : Exit → Act → World → Prop} (hgd : o.guard = none) (x : Operand) (ho : o.op = .load 23 x)
    (g : Nat) (hx : a.eval x = .pointer (some ⟨g, 0, none⟩)) (l : List Nat) (hg : w.heap[g]? = some (.cells (row l) 23 (0, 0))) (hs : l.length = 20)
    (h : wpList Try.prog ops Q rest (a.put o.dst (.agg (row l))) w) : wpList Try.prog ops Q (o :: rest) a w :=
  wpList_load_row hgd 23 x ho g hx 23 (row l) (0, 0) _ hg Try.underlying23 rfl (by rw [row_size, hs]; exact Try.info23) h
theorem row_one (l : List Nat) : (row l).all (·.oneCell') = true := by
  rw [Array.all_eq_true_iff_forall_mem]
  intro v hv
  simp [row] at hv
  obtain ⟨n, _, rfl⟩ := hv
  rfl
theorem wpList_store_id {ops : Array Oper} {rest : List Oper} {o : Oper} {a : Act} {w : World} {Q : Exit → Act → World → Prop} (hgd : o.guard = none) (x y : Operand) (ho : o.op = .store 23 x y)
    (g : Nat) (l : List Nat) (hx : a.eval x = .pointer (some ⟨g, 0, none⟩)) (hy : a.eval y = .agg (row l)) (l' : List Nat) (hg : w.heap[g]? = some (.cells (row l') 23 (0, 0)))
    (hs : l.length = 20) (hs' : l'.length = 20)
    (h : wpList Try.prog ops Q rest (a.put o.dst undef) (w.setRow g (row l))) : wpList Try.prog ops Q (o :: rest) a w :=
  wpList_store_row hgd 23 x y ho g (row l) hx hy 23 (row l') hg (by rw [row_size, hs]; exact Try.info23) (by rw [row_size, row_size, hs, hs']) (row_one l) h

/-- the memory of a function of two places that makes a third one -/
structure Mem (w wr : World) (A B Z O : Array Value) : Prop where
  below : Below w.heap.size w wr
  size : wr.heap.size = w.heap.size + 4
  a : wr.heap[w.heap.size]? = some (.cells A 23 (0, 0))
  b : wr.heap[w.heap.size + 1]? = some (.cells B 23 (0, 0))
  z : wr.heap[w.heap.size + 1 + 1]? = some (.cells Z 23 (0, 0))
  o : wr.heap[w.heap.size + 1 + 1 + 1]? = some (.cells O 23 (0, 0))
theorem Mem.made (w : World) (A B Z O : Array Value) : Mem w ((((w.alloc (.cells A 23)).alloc (.cells B 23)).alloc (.cells Z 23)).alloc (.cells O 23)) A B Z O := by
  refine ⟨?_, by simp, ?_, ?_, ?_, ?_⟩
  · exact ((((Below.refl _ _).alloc (Nat.le_refl _) _).alloc (by simp) _).alloc (by simp; omega) _).alloc (by simp; omega) _
  · rw [Below.heap_alloc _ _ _ (by simp; omega), Below.heap_alloc _ _ _ (by simp; omega), Below.heap_alloc _ _ _ (by simp), heap_alloc_new]
  · rw [Below.heap_alloc _ _ _ (by simp), Below.heap_alloc _ _ _ (by simp)]; exact heap_alloc2_new _ _ _
  · rw [Below.heap_alloc _ _ _ (by simp)]
    have := heap_alloc_new ((w.alloc (.cells A 23)).alloc (.cells B 23)) (.cells Z 23)
    simpa using this
  · have := heap_alloc_new (((w.alloc (.cells A 23)).alloc (.cells B 23)).alloc (.cells Z 23)) (.cells O 23)
    simpa using this

theorem zeros : (#[Value.int IntKind.u8 0, Value.int IntKind.u8 0, Value.int IntKind.u8 0, Value.int IntKind.u8 0,
      Value.int IntKind.u8 0, Value.int IntKind.u8 0, Value.int IntKind.u8 0, Value.int IntKind.u8 0,
      Value.int IntKind.u8 0, Value.int IntKind.u8 0, Value.int IntKind.u8 0, Value.int IntKind.u8 0,
      Value.int IntKind.u8 0, Value.int IntKind.u8 0, Value.int IntKind.u8 0, Value.int IntKind.u8 0,
      Value.int IntKind.u8 0, Value.int IntKind.u8 0, Value.int IntKind.u8 0, Value.int IntKind.u8 0] : Array Value) = row (List.replicate 20 0) := rfl

theorem Mem.put {w wr : World} {A B Z O : Array Value} (h : Mem w wr A B Z O) (n i : Nat) (v : Value) : Mem w ((wr.drewN n).setCell ⟨w.heap.size + 1 + 1 + 1, i, none⟩ v) A B Z (O.setIfInBounds i v) := by
  refine ⟨?_, ?_, ?_, ?_, ?_, ?_⟩
  · exact Below.setCell (w := wr.drewN n) (p := ⟨w.heap.size + 1 + 1 + 1, i, none⟩) ⟨h.below.os, h.below.tape, h.below.output, h.below.size, h.below.block⟩ (by simp; omega) _
  · simpa [World.setCell] using h.size
  · rw [heap_setCell_other _ _ _ _ (by simp; omega)]; exact h.a
  · rw [heap_setCell_other _ _ _ _ (by simp)]; exact h.b
  · rw [heap_setCell_other _ _ _ _ (by simp)]; exact h.z
  · exact heap_setCell_same _ _ _ _ _ _ h.o

theorem below_setRow {B : Nat} {a w : World} (h : Below B a w) {g : Nat} (hg : B ≤ g) (cs : Array Value) : Below B a (w.setRow g cs) :=
  ⟨h.os, h.tape, h.output, by simpa using h.size, fun k hk => (setRow_other w g k cs (by omega)).trans (h.block k hk)⟩
end Go.Proofs.Ytplcdjmidelboaa
