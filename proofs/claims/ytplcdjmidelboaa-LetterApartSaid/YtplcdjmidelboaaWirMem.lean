/- A reader in memory, and what a call may change: its own block, and one more. Copies from slice to slice. Nothing of the program is named here but its types. -/
import Derived.Test.YtplcdjmidelboaaWirNum
import Derived.Test.YtplcdjmidelboaaQRow
import Derived.Test.YtplcdjmidelboaaLabMem
import Derived.Test.YtplcdjmidelboaaIdOps
import Derived.Laws.IdiomStrings
import Derived.Laws.CopyRow
namespace Go.Proofs.Ytplcdjmidelboaa
open Go.RowKit Go.Sort

/-- all that was there is as it was, but for two blocks -/
structure Keep (w w' : World) (g b : Nat) : Prop where
  os : w'.os = w.os
  tape : w'.tape = w.tape
  output : w'.output = w.output
  size : w.heap.size ≤ w'.heap.size
  block : ∀ k, k < w.heap.size → k ≠ g → k ≠ b → w'.heap[k]? = w.heap[k]?
theorem Keep.of {w w' : World} (h : Below w.heap.size w w') (g b : Nat) : Keep w w' g b := ⟨h.os, h.tape, h.output, h.size, fun k hk _ _ => h.block k hk⟩
theorem Keep.refl (w : World) (g b : Nat) : Keep w w g b := Keep.of (Below.refl _ _) g b
theorem Keep.trans {w w1 w2 : World} {g b : Nat} (h : Keep w w1 g b) (k : Keep w1 w2 g b) : Keep w w2 g b :=
  ⟨k.os.trans h.os, k.tape.trans h.tape, k.output.trans h.output, Nat.le_trans h.size k.size, fun i hi h1 h2 => (k.block i (Nat.lt_of_lt_of_le hi h.size) h1 h2).trans (h.block i hi h1 h2)⟩
/-- a block that was made behind may be changed -/
theorem Keep.new {w w1 w2 : World} {g b : Nat} (h : Keep w w1 g g) (k : Keep w1 w2 g b) (hb : w.heap.size ≤ b) : Keep w w2 g g :=
  ⟨k.os.trans h.os, k.tape.trans h.tape, k.output.trans h.output, Nat.le_trans h.size k.size, fun i hi h1 _ => (k.block i (Nat.lt_of_lt_of_le hi h.size) h1 (by omega)).trans (h.block i hi h1 h1)⟩
theorem Keep.below {B : Nat} {w0 w w' : World} {g b : Nat} (h : Below B w0 w) (k : Keep w w' g b) (hB : B ≤ w.heap.size) (hg : B ≤ g) (hb : B ≤ b) : Below B w0 w' :=
  h.trans ⟨k.os, k.tape, k.output, k.size, fun i hi => k.block i (Nat.lt_of_lt_of_le hi hB) (by omega) (by omega)⟩
theorem Keep.setCell {w w' : World} {g b : Nat} (k : Keep w w' g b) (i : Nat) (v : Value) : Keep w (w'.setCell ⟨g, i, none⟩ v) g b :=
  ⟨k.os, k.tape, k.output, by simpa [World.setCell] using k.size, fun j hj h1 h2 => (Below.heap_setCell _ _ _ _ (by simpa using h1)).trans (k.block j hj h1 h2)⟩
theorem Keep.setRow {w w' : World} {g b : Nat} (k : Keep w w' g b) (cs : Array Value) : Keep w (w'.setRow b cs) g b :=
  ⟨k.os, k.tape, k.output, by simpa [World.setRow] using k.size, fun j hj h1 h2 => (Go.setRow_other w' b j cs h2).trans (k.block j hj h1 h2)⟩
theorem Blk.keep {w w' : World} {g b j : Nat} {cs : Array Value} {t : TypeId} (h : Blk w j cs t) (k : Keep w w' g b) (h1 : j ≠ g) (h2 : j ≠ b) : Blk w' j cs t := (k.block j h.lt h1 h2).trans h

/-- a block whose first cells are a text's bytes -/
def Src (w : World) (h : Nat) (s : ByteArray) : Prop := ∃ C e fr, w.heap[h]? = some (.cells C e fr) ∧ ∀ j, j < s.size → C[j]? = some (.int .u8 (byteAt s j : Nat))
theorem Src.lt {w : World} {h : Nat} {s : ByteArray} (k : Src w h s) : h < w.heap.size := by
  obtain ⟨C, e, fr, h1, _⟩ := k
  exact (Array.getElem?_eq_some_iff.1 h1).1
theorem Src.keep {w w' : World} {h g b : Nat} {s : ByteArray} (k : Src w h s) (kk : Keep w w' g b) (h1 : h ≠ g) (h2 : h ≠ b) : Src w' h s := by
  have hl := k.lt
  obtain ⟨C, e, fr, h3, h4⟩ := k
  exact ⟨C, e, fr, (kk.block h hl h1 h2).trans h3, h4⟩
theorem Src.cell {w : World} {h : Nat} {s : ByteArray} (k : Src w h s) (j : Nat) (hj : j < s.size) : w.cell? ⟨h, j, none⟩ = some (.int .u8 (byteAt s j : Nat)) := by
  obtain ⟨C, e, fr, h1, h2⟩ := k
  rw [cell_of_row w h j C e fr h1, h2 j hj]

/-- a reader's cells -/
def rdc (h n c p : Nat) : Array Value := #[.slice (some ⟨h, 0, none⟩) n c, .int .i64 (p : Int)]
/-- a reader lies in block g, its bytes in block h -/
structure Rd (w : World) (g h c : Nat) (s : ByteArray) (p : Nat) : Prop where
  blk : Blk w g (rdc h s.size c p) 88
  src : Src w h s
  le : p ≤ s.size
  cap : s.size ≤ c
  ne : h < g
theorem Rd.lt {w : World} {g h c : Nat} {s : ByteArray} {p : Nat} (k : Rd w g h c s p) : g < w.heap.size := k.blk.lt
theorem Rd.keep {w w' : World} {g h c : Nat} {s : ByteArray} {p : Nat} {g' b : Nat} (k : Rd w g h c s p) (kk : Keep w w' g' b) (h1 : g ≠ g') (h2 : g ≠ b) (h3 : h ≠ g') (h4 : h ≠ b) : Rd w' g h c s p :=
  ⟨k.blk.keep kk h1 h2, k.src.keep kk h3 h4, k.le, k.cap, k.ne⟩
theorem Rd.below {w w' : World} {g h c : Nat} {s : ByteArray} {p : Nat} (k : Rd w g h c s p) (hb : Below w.heap.size w w') : Rd w' g h c s p :=
  ⟨k.blk.below hb k.lt, (by obtain ⟨C, e, fr, h3, h4⟩ := k.src; exact ⟨C, e, fr, (hb.block h (Nat.lt_trans k.ne k.lt)).trans h3, h4⟩), k.le, k.cap, k.ne⟩
theorem Rd.cell0 {w : World} {g h c : Nat} {s : ByteArray} {p : Nat} (k : Rd w g h c s p) : w.cell? ⟨g, 0, none⟩ = some (.slice (some ⟨h, 0, none⟩) s.size c) := k.blk.cell 0
theorem Rd.cell1 {w : World} {g h c : Nat} {s : ByteArray} {p : Nat} (k : Rd w g h c s p) : w.cell? ⟨g, 1, none⟩ = some (.int .i64 (p : Int)) := k.blk.cell 1
theorem Rd.free1 {w : World} {g h c : Nat} {s : ByteArray} {p : Nat} (k : Rd w g h c s p) : w.frozen? ⟨g, 1, none⟩ = false := k.blk.free 1
theorem Rd.at {w : World} {g h c : Nat} {s : ByteArray} {p : Nat} (k : Rd w g h c s p) (q : Nat) (hq : q ≤ s.size) : Rd (w.setCell ⟨g, 1, none⟩ (.int .i64 (q : Int))) g h c s q :=
  ⟨k.blk.put 1 _, (by
    obtain ⟨C, e, fr, h3, h4⟩ := k.src
    exact ⟨C, e, fr, (heap_setCell_other w ⟨g, 1, none⟩ h _ (by have := k.ne; simp; omega)).trans h3, h4⟩), hq, k.cap, k.ne⟩
theorem Rd.drewN {w : World} {g h c : Nat} {s : ByteArray} {p : Nat} (k : Rd w g h c s p) (n : Nat) : Rd (w.drewN n) g h c s p := by
  obtain ⟨C, e, fr, h3, h4⟩ := k.src
  exact ⟨k.blk.drewN n, ⟨C, e, fr, by simpa using h3, h4⟩, k.le, k.cap, k.ne⟩
theorem Rd.drew {w : World} {g h c : Nat} {s : ByteArray} {p : Nat} (k : Rd w g h c s p) : Rd w.drew g h c s p := by
  obtain ⟨C, e, fr, h3, h4⟩ := k.src
  exact ⟨k.blk.drew, ⟨C, e, fr, h3, h4⟩, k.le, k.cap, k.ne⟩
theorem Rd.row {w : World} {g h c : Nat} {s : ByteArray} {p : Nat} (k : Rd w g h c s p) (b : Nat) (cs : Array Value) (h1 : g ≠ b) (h2 : h ≠ b) : Rd (w.setRow b cs) g h c s p := by
  obtain ⟨C, e, fr, h3, h4⟩ := k.src
  exact ⟨k.blk.setRow_other b cs h1, ⟨C, e, fr, (Go.setRow_other w b h cs h2).trans h3, h4⟩, k.le, k.cap, k.ne⟩

/-- what is left of a text -/
def rest (s : ByteArray) (p : Nat) : List Nat := (bytesN s).drop p
theorem rest_length (s : ByteArray) (p : Nat) : (rest s p).length = s.size - p := by rw [rest, List.length_drop, bytesN_length]
theorem rest_lt (s : ByteArray) (p : Nat) : ∀ b ∈ rest s p, b < 256 := fun b hb => bytesN_lt s b (List.mem_of_mem_drop hb)
theorem bytesN_get (s : ByteArray) (j : Nat) (h : j < s.size) : (bytesN s)[j]? = some (byteAt s j) := by
  have hj : j < s.data.toList.length := by simpa using h
  unfold bytesN byteAt
  rw [List.getElem?_map, List.getElem?_eq_getElem hj]
  simp [Array.getD, h]
theorem rest_get (s : ByteArray) (p j : Nat) (h : p + j < s.size) : (rest s p)[j]? = some (byteAt s (p + j)) := by rw [rest, List.getElem?_drop, bytesN_get s _ h]
theorem rest_rest (s : ByteArray) (p n : Nat) : (rest s p).drop n = rest s (p + n) := by rw [rest, rest, List.drop_drop]
theorem rest_cons (s : ByteArray) (p : Nat) (h : p < s.size) : rest s p = byteAt s p :: rest s (p + 1) := by
  have h1 : (rest s p)[0]? = some (byteAt s p) := rest_get s p 0 (by omega)
  have h2 : (rest s p).drop 1 = rest s (p + 1) := rest_rest s p 1
  cases hr : rest s p with
  | nil => rw [hr] at h1; cases h1
  | cons a t =>
    rw [hr] at h1 h2
    simp at h1 h2
    rw [h1, h2]
theorem rest_nil (s : ByteArray) (p : Nat) (h : s.size ≤ p) : rest s p = [] := List.eq_nil_of_length_eq_zero (by rw [rest_length]; omega)

/-! slices -/
/-- where a slice begins that is cut out: nothing is told of the place of an empty one -/
def offO (lo hi : Nat) : Nat := if hi = lo then 0 else lo
theorem offO_lt {lo hi : Nat} (h : lo < hi) : offO lo hi = lo := by unfold offO; rw [if_neg (by omega)]
theorem offO_le (lo hi : Nat) (h : lo ≤ hi) : offO lo hi + (hi - lo) ≤ hi := by unfold offO; split <;> omega
theorem size_u8 (w : World) : (sizeOf 5).run Try.prog w = .ok 1 w := by
  have := info5
  cases hq : Try.prog.info? 5 with
  | none => simp [hq] at this
  | some i => simp [hq] at this; simp [sizeOf, typeInfo, hq, this]
theorem addr_add (b o j : Nat) : (⟨b, o, none⟩ : Addr).add j = ⟨b, o + j, none⟩ := by unfold Addr.add; split <;> simp_all

/-- bytes are copied from slice to slice -/
theorem wpList_copy_slc {P : Program} {w : World} {ops : Array Oper} {rest : List Oper} {o : Oper} {a : Act} {Q : Exit → Act → World → Prop} (hgd : o.guard = none) (d s : Operand) (dT sT : TypeId)
    (ho : o.op = .call { callee := .builtin .copy, args := #[d, s], argTypes := #[dT, sT] }) (elem : TypeId) (hu : P.underlying dT = some (.slice elem)) (hsz : (P.info? elem).map (·.size) = some 1)
    (b off n cap sb so sCap : Nat) (hd : a.eval d = .slice (some ⟨b, off, none⟩) n cap) (hs : a.eval s = .slice (some ⟨sb, so, none⟩) n sCap) (cur : Array Value) (t : TypeId) (hg : Blk w b cur t)
    (cs : List Value) (hn : cs.length = n) (hsrc : ∀ j v, cs[j]? = some v → w.cell? ⟨sb, so + j, none⟩ = some v) (hfit : off + n ≤ cur.size) (h1 : ∀ v ∈ cs, v.oneCell' = true) (new : Array Value) (hw : (cur.toList.take off ++ cs ++ cur.toList.drop (off + n)).toArray = new)
    (h : wpList P ops Q rest (a.put o.dst (goInt n)) (w.setRow b new)) : wpList P ops Q (o :: rest) a w := by
  refine wpList_plain hgd fun K hK => ?_
  have hrun := run_copy_row P w dT sT o.type elem b off n cap ⟨sb, so, none⟩ n sCap cur t cs hu hsz hg (by rw [hn]; exact (Nat.min_self n).symm) (fun j v hj => by rw [addr_add]; exact hsrc j v hj) (by omega) h1
  rw [hn, hw] at hrun
  unfold Oper.wp
  simp [execOp, ho, resolve, invoke, builtin, hd, hs, hrun, Result.andThen]
  exact hK _ _ h
/-- numbers are cells -/
def cellsN (l : List Nat) : List Value := l.map fun (n : Nat) => Value.int .u8 (n : Int)
theorem cellsN_length (l : List Nat) : (cellsN l).length = l.length := by simp [cellsN]
theorem cellsN_one (l : List Nat) : ∀ v ∈ cellsN l, v.oneCell' = true := by
  intro v hv
  simp only [cellsN, List.mem_map] at hv
  obtain ⟨n, _, rfl⟩ := hv
  rfl
theorem row_splice (l m : List Nat) (off n : Nat) : ((row l).toList.take off ++ cellsN m ++ (row l).toList.drop (off + n)).toArray = row (l.take off ++ m ++ l.drop (off + n)) := by
  simp [row, cellsN]
end Go.Proofs.Ytplcdjmidelboaa
