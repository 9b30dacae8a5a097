/- A map in memory: a block that holds a slice, and the slice's row. -/
import Derived.Test.YtbjlappppbaohaaSorNum
import Derived.Test.YtbjlappppbaohaaQRow
import Derived.Test.YtbjlappppbaohaaTail
import Derived.Test.YtbjlappppbaohaaOwn
import Derived.Deep.MidRow
import Derived.Maps.AppendAt
import Derived.Laws.OwnMore
import Derived.Laws.CopyRow
import Derived.Deep.Cut
import Derived.Deep.RegionHeld3
import Derived.Deep.RegionWith
import Derived.Laws.StructEq
import Derived.Lib.Hide
import Derived.BigQuiet
namespace Go.Proofs.Ytbjlappppbaohaa
open Go Go.RowKit Go.Sort

/-- the cells of an item -/
def itC (k : Nat) (s : ByteArray) : Array Value := #[.int .u64 (k : Int), .string s]
theorem itC_one (k : Nat) (s : ByteArray) : (itC k s).all (·.oneCell') = true := by simp [itC, Value.oneCell']
theorem infoI : (Try.prog.info? 61).map (fun i => (i.zero, i.size, i.bytes)) = some (some (.agg #[.int .u64 0, .string ⟨#[]⟩]), 2, 24) := by kernel_rfl
theorem infoA : (Try.prog.info? 46).map (fun i => (i.zero, i.size, i.bytes)) = some (some (.agg #[.int .u64 0, .string ⟨#[]⟩]), 2, 24) := by kernel_rfl
theorem sizeI : (Try.prog.info? 61).map (·.size) = some 2 := by kernel_rfl
theorem sizeA : (Try.prog.info? 46).map (·.size) = some 2 := by kernel_rfl

/-- all that was there is as it was, but for a map's own blocks -/
structure Chg (w w' : World) (g : Nat) (v : Value) : Prop where
  os : w'.os = w.os
  tape : w'.tape = w.tape
  output : w'.output = w.output
  size : w.heap.size ≤ w'.heap.size
  block : ∀ k, k < w.heap.size → k ≠ g → v.ownBlock ≠ some k → w'.heap[k]? = w.heap[k]?
theorem Chg.of {w w' : World} (h : Below w.heap.size w w') (g : Nat) (v : Value) : Chg w w' g v := ⟨h.os, h.tape, h.output, h.size, fun k hk _ _ => h.block k hk⟩
theorem Chg.refl (w : World) (g : Nat) (v : Value) : Chg w w g v := Chg.of (Below.refl _ _) g v
theorem Chg.trans {w w1 w2 : World} {g : Nat} {v : Value} (h : Chg w w1 g v) (k : Chg w1 w2 g v) : Chg w w2 g v :=
  ⟨k.os.trans h.os, k.tape.trans h.tape, k.output.trans h.output, Nat.le_trans h.size k.size, fun i hi h1 h2 => (k.block i (Nat.lt_of_lt_of_le hi h.size) h1 h2).trans (h.block i hi h1 h2)⟩
theorem Chg.later {w w1 w2 : World} {g : Nat} {v : Value} (h : Chg w w1 g v) (k : Below w1.heap.size w1 w2) : Chg w w2 g v := h.trans (Chg.of k g v)
theorem Chg.after {w w1 w2 : World} {g : Nat} {v : Value} (h : Below w.heap.size w w1) (k : Chg w1 w2 g v) : Chg w w2 g v := (Chg.of h g v).trans k
theorem Chg.setCell {w w' : World} {g : Nat} {v : Value} (k : Chg w w' g v) (i : Nat) (u : Value) : Chg w (w'.setCell ⟨g, i, none⟩ u) g v :=
  ⟨k.os, k.tape, k.output, by simpa [World.setCell] using k.size, fun j hj h1 h2 => (Below.heap_setCell _ _ _ _ (by simpa using h1)).trans (k.block j hj h1 h2)⟩
/-- a map that owns more changes no more than what was made behind -/
theorem Chg.grown {w w1 w2 : World} {g : Nat} {v v1 : Value} (h : Chg w w1 g v) (k : Chg w1 w2 g v1) (hv : v1.ownBlock = v.ownBlock ∨ ∃ f, v1.ownBlock = some f ∧ w.heap.size ≤ f) : Chg w w2 g v :=
  ⟨k.os.trans h.os, k.tape.trans h.tape, k.output.trans h.output, Nat.le_trans h.size k.size, fun i hi h1 h2 => (k.block i (Nat.lt_of_lt_of_le hi h.size) h1 (by
    rcases hv with hv | ⟨f, hv, hf⟩
    · rw [hv]; exact h2
    · rw [hv]; intro e; injection e; omega)).trans (h.block i hi h1 h2)⟩
theorem Chg.below {B : Nat} {w0 w w' : World} {g : Nat} {v : Value} (h : Below B w0 w) (k : Chg w w' g v) (hB : B ≤ w.heap.size) (hg : B ≤ g) (hb : ∀ f, v.ownBlock = some f → B ≤ f) : Below B w0 w' :=
  h.trans ⟨k.os, k.tape, k.output, k.size, fun i hi => k.block i (Nat.lt_of_lt_of_le hi hB) (by omega) (fun e => by have := hb i e; omega)⟩
theorem Blk.chg {w w' : World} {g j : Nat} {v : Value} {cs : Array Value} {t : TypeId} (h : Blk w j cs t) (k : Chg w w' g v) (h1 : j ≠ g) (h2 : v.ownBlock ≠ some j) : Blk w' j cs t := (k.block j h.lt h1 h2).trans h
theorem Chg.grownBy {w w' : World} {g : Nat} {v : Value} (h : w.grownBy w' v.ownBlock) : Chg w w' g v := ⟨h.os, h.tape, h.output, h.size, fun k hk _ h2 => h.block k hk fun e => h2 e.symm⟩
theorem own_keep {w w' : World} {B e size n : Nat} {v : Value} {xs : List Value} (h : w.ownsRow B e size v n xs) (hk : ∀ k, v.ownBlock = some k → w'.heap[k]? = w.heap[k]?) : w'.ownsRow B e size v n xs := by
  refine ⟨h.1, h.2.imp id ?_⟩
  rintro ⟨g, cap, cur, rfl, h1, h2, h3⟩
  exact ⟨g, cap, cur, rfl, h1, (hk g rfl).trans h2, h3⟩
theorem own_bel {w w' : World} {B e size n : Nat} {v : Value} {xs : List Value} (h : w.ownsRow B e size v n xs) (hb : Below w.heap.size w w') : w'.ownsRow B e size v n xs :=
  own_keep h fun k hk => hb.block k (h.lt k hk).2
theorem range_lt {w : World} {g o : Nat} {cs : List Value} (h : w.rangeAt g o cs) (hn : cs ≠ []) : g < w.heap.size := by
  cases cs with
  | nil => exact absurd rfl hn
  | cons v r => exact World.block_lt_of_cell? w _ (h 0 v rfl)
theorem range_bel {w w' : World} {g o B : Nat} {cs : List Value} (h : w.rangeAt g o cs) (hb : Below B w w') (hg : g < B) : w'.rangeAt g o cs := fun j v hv => by
  have hc := h j v hv
  exact (World.cell?_of_block (a := ⟨g, o + j, none⟩) (hb.block g hg)).trans hc
theorem own_shape {w : World} {B e size n : Nat} {v : Value} {xs : List Value} (h : w.ownsRow B e size v n xs) : (v = .slice none 0 0 ∧ n = 0) ∨ ∃ b c, v = .slice (some ⟨b, 0, none⟩) n c ∧ n ≤ c ∧ c ≤ maxLen ∧ w.rangeAt b 0 xs ∧ b < w.heap.size := by
  rcases h.2 with ⟨h1, h0⟩ | ⟨g, cap, cur, hv, hb, hg, hc, hm, _, ht⟩
  · exact .inl ⟨h1, h0⟩
  · refine .inr ⟨g, cap, hv, hc, hm, fun j v hj => ?_, (Array.getElem?_eq_some_iff.1 hg).1⟩
    rw [Nat.zero_add, cell_of_row w g j cur e _ hg]
    rw [← ht, List.getElem?_take] at hj
    split at hj
    · simpa using hj
    · cases hj

/-- a map in block g, whose slice is v -/
structure Mp (w : World) (T e : TypeId) (g : Nat) (v : Value) (L : List It) : Prop where
  blk : Blk w g #[v] T
  own : w.ownsRow 0 e 2 v L.length (flat L)
  ne : v.ownBlock ≠ some g
  sorted : Sorted L
  len : L.length ≤ 1000000
  key : ∀ x ∈ L, x.1 < 18446744073709551616
theorem Mp.lt {w : World} {T e g : Nat} {v : Value} {L : List It} (h : Mp w T e g v L) : g < w.heap.size := h.blk.lt
theorem Mp.own_lt {w : World} {T e g : Nat} {v : Value} {L : List It} (h : Mp w T e g v L) : ∀ f, v.ownBlock = some f → f < w.heap.size := fun f hf => (h.own.lt f hf).2
theorem Mp.bel {w w' : World} {T e g : Nat} {v : Value} {L : List It} (h : Mp w T e g v L) (hb : Below w.heap.size w w') : Mp w' T e g v L :=
  ⟨h.blk.below hb h.lt, own_bel h.own hb, h.ne, h.sorted, h.len, h.key⟩
/-- another map's change leaves it -/
theorem Mp.chg {w w' : World} {T e g : Nat} {v : Value} {L : List It} (h : Mp w T e g v L) {j : Nat} {u : Value} (k : Chg w w' j u) (h1 : g ≠ j) (h2 : u.ownBlock ≠ some g) (h3 : v.ownBlock ≠ some j) (h4 : ∀ f, v.ownBlock = some f → u.ownBlock ≠ some f) : Mp w' T e g v L :=
  ⟨h.blk.chg k h1 h2, own_keep h.own fun f hf => k.block f (h.own_lt f hf) (fun e => h3 (e ▸ hf)) (h4 f hf), h.ne, h.sorted, h.len, h.key⟩
theorem Mp.cell {w : World} {T e g : Nat} {v : Value} {L : List It} (h : Mp w T e g v L) : w.cell? ⟨g, 0, none⟩ = some v := h.blk.cell 0
theorem Mp.shape {w : World} {T e g : Nat} {v : Value} {L : List It} (h : Mp w T e g v L) : (v = .slice none 0 0 ∧ L = []) ∨ ∃ b c, v = .slice (some ⟨b, 0, none⟩) L.length c ∧ L.length ≤ c ∧ c ≤ maxLen ∧ w.rangeAt b 0 (flat L) ∧ b < w.heap.size ∧ b ≠ g := by
  rcases own_shape h.own with ⟨h1, h2⟩ | ⟨b, c, h1, h2, h3, h4, h5⟩
  · exact .inl ⟨h1, List.eq_nil_of_length_eq_zero h2⟩
  · refine .inr ⟨b, c, h1, h2, h3, h4, h5, fun e => h.ne ?_⟩
    rw [h1, e]; rfl
theorem row_at {w : World} {b : Nat} {L : List It} (h : w.rangeAt b 0 (flat L)) {j : Nat} {x : It} (hj : L[j]? = some x) : w.cell? ⟨b, j * 2, none⟩ = some (.int .u64 (x.1 : Int)) ∧ w.cell? ⟨b, j * 2 + 1, none⟩ = some (.string x.2) := by
  obtain ⟨h1, h2⟩ := flat_get hj
  have a := h _ _ h1
  have b := h _ _ h2
  rw [Nat.zero_add] at a b
  exact ⟨a, b⟩
theorem row_item {w : World} {b o : Nat} {L : List It} (h : w.rangeAt b o (flat L)) {j : Nat} {x : It} (hj : L[j]? = some x) : w.rangeAt b (o + j * 2) (itC x.1 x.2).toList := fun i v hv => by
  obtain ⟨h1, h2⟩ := flat_get hj
  match i, hv with
  | 0, hv =>
    simp only [itC, List.getElem?_cons_zero, Option.some.injEq] at hv
    subst hv
    rw [Nat.add_assoc]
    exact h _ _ h1
  | 1, hv =>
    simp only [itC, List.getElem?_cons_succ, List.getElem?_cons_zero, Option.some.injEq] at hv
    subst hv
    rw [Nat.add_assoc]
    exact h _ _ h2
  | i + 2, hv => simp [itC] at hv
/-- an item is loaded -/
theorem p_midI {ops : Array Oper} {rest : List Oper} {o : Oper} {a : Act} {w : World} {Q : Exit → Act → World → Prop} (hgd : o.guard = none) (x : Operand) (ho : o.op = .load 61 x)
    (g i : Nat) (hx : a.eval x = .pointer (some ⟨g, i, none⟩)) (k : Nat) (s : ByteArray) (hg : w.rangeAt g i (itC k s).toList)
    (h : wpList Try.prog ops Q rest (a.put o.dst (.agg (itC k s))) w) : wpList Try.prog ops Q (o :: rest) a w :=
  wpList_load_mid hgd 61 x ho g i hx (itC k s).toList _ hg Try.underlying61 rfl sizeI (by rw [Array.toArray_toList]; exact h)
theorem p_midA {ops : Array Oper} {rest : List Oper} {o : Oper} {a : Act} {w : World} {Q : Exit → Act → World → Prop} (hgd : o.guard = none) (x : Operand) (ho : o.op = .load 46 x)
    (g i : Nat) (hx : a.eval x = .pointer (some ⟨g, i, none⟩)) (k : Nat) (s : ByteArray) (hg : w.rangeAt g i (itC k s).toList)
    (h : wpList Try.prog ops Q rest (a.put o.dst (.agg (itC k s))) w) : wpList Try.prog ops Q (o :: rest) a w :=
  wpList_load_mid hgd 46 x ho g i hx (itC k s).toList _ hg Try.underlying46 rfl sizeA (by rw [Array.toArray_toList]; exact h)
/-- an item is stored into a block of its own -/
theorem p_storeA {ops : Array Oper} {rest : List Oper} {o : Oper} {a : Act} {w : World} {Q : Exit → Act → World → Prop} (hgd : o.guard = none) (x y : Operand) (ho : o.op = .store 46 x y)
    (g : Nat) (hx : a.eval x = .pointer (some ⟨g, 0, none⟩)) (k : Nat) (s : ByteArray) (hy : a.eval y = .agg (itC k s)) (Z : Array Value) (hZ : Z.size = 2) (hg : Blk w g Z 46)
    (h : wpList Try.prog ops Q rest (a.put o.dst undef) (w.setRow g (itC k s))) : wpList Try.prog ops Q (o :: rest) a w :=
  wpList_store_row hgd 46 x y ho g (itC k s) hx hy 46 Z hg sizeA (by rw [hZ]; rfl) (itC_one k s) h
theorem it_zero : (#[Value.int IntKind.u64 0, Value.string ⟨#[]⟩] : Array Value) = itC 0 ⟨#[]⟩ := rfl
end Go.Proofs.Ytbjlappppbaohaa
