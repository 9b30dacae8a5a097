/- Blocks that are known whole: made, copied into, loaded and stored. Nothing of the program is named here. -/
import Derived.WalkKit
import Derived.Below
import Derived.Laws.Rows
import Derived.Laws.Tables
import Derived.Laws.MakeOwn
import Derived.Laws.BytesArg
import Derived.OwnWalk
import Derived.Lib.BufferWrite
import Derived.Lib.Hide
import Derived.Deep.WholeRow
import Derived.Deep.QuietTactic
import Derived.BigQuiet
import Derived.Test.YtplcdjmidelboaaNum
namespace Go.Proofs.Ytplcdjmidelboaa
open Go.RowKit

/-- block g of w is just these cells -/
def Blk (w : World) (g : Nat) (cs : Array Value) (t : TypeId) : Prop := w.heap[g]? = some (.cells cs t (0, 0))
theorem Blk.lt {w : World} {g : Nat} {cs : Array Value} {t : TypeId} (h : Blk w g cs t) : g < w.heap.size := by
  rcases Nat.lt_or_ge g w.heap.size with h' | h'
  · exact h'
  · unfold Blk at h; rw [Array.getElem?_eq_none h'] at h; cases h
theorem Blk.below {w w' : World} {g B : Nat} {cs : Array Value} {t : TypeId} (h : Blk w g cs t) (hb : Below B w w') (hg : g < B) : Blk w' g cs t := (hb.block g hg).trans h
theorem Blk.alloc {w : World} {g : Nat} {cs : Array Value} {t : TypeId} (h : Blk w g cs t) (o : Obj) : Blk (w.alloc o) g cs t := (Below.heap_alloc w o g h.lt).trans h
theorem Blk.new (w : World) (cs : Array Value) (t : TypeId) : Blk (w.alloc (.cells cs t)) w.heap.size cs t := heap_alloc_new _ _
theorem Blk.drew {w : World} {g : Nat} {cs : Array Value} {t : TypeId} (h : Blk w g cs t) : Blk w.drew g cs t := h
theorem Blk.drewN {w : World} {g : Nat} {cs : Array Value} {t : TypeId} (h : Blk w g cs t) (n : Nat) : Blk (w.drewN n) g cs t := by
  unfold Blk at *; simpa using h
theorem Blk.cell {w : World} {g : Nat} {cs : Array Value} {t : TypeId} (h : Blk w g cs t) (j : Nat) : w.cell? ⟨g, j, none⟩ = cs[j]? := cell_of_row w g j cs t _ h
theorem Blk.free {w : World} {g : Nat} {cs : Array Value} {t : TypeId} (h : Blk w g cs t) (j : Nat) : w.frozen? ⟨g, j, none⟩ = false := frozen_of_row w g j cs t h
theorem Blk.put {w : World} {g : Nat} {cs : Array Value} {t : TypeId} (h : Blk w g cs t) (i : Nat) (v : Value) : Blk (w.setCell ⟨g, i, none⟩ v) g (cs.setIfInBounds i v) t := heap_setCell_same w g i cs t v h
theorem Blk.other {w : World} {g : Nat} {cs : Array Value} {t : TypeId} (h : Blk w g cs t) (g' i : Nat) (v : Value) (hne : g ≠ g') : Blk (w.setCell ⟨g', i, none⟩ v) g cs t :=
  (heap_setCell_other w ⟨g', i, none⟩ g v hne).trans h
theorem Blk.setRow {w : World} {g : Nat} {cs : Array Value} {t : TypeId} (h : Blk w g cs t) (cs' : Array Value) : Blk (w.setRow g cs') g cs' t := setRow_heap w g cs cs' t _ h
theorem Blk.setRow_other {w : World} {g : Nat} {cs : Array Value} {t : TypeId} (h : Blk w g cs t) (g' : Nat) (cs' : Array Value) (hne : g ≠ g') : Blk (w.setRow g' cs') g cs t :=
  (Go.setRow_other w g' g cs' hne).trans h
theorem bel_setRow {B g : Nat} {w0 w : World} (hb : Below B w0 w) (hBg : B ≤ g) (cs : Array Value) : Below B w0 (w.setRow g cs) :=
  hb.trans ⟨rfl, rfl, rfl, by simp [World.setRow], fun k hk => Go.setRow_other w g k cs (by omega)⟩
theorem bel_drewN {B : Nat} {w0 w : World} (hb : Below B w0 w) (n : Nat) : Below B w0 (w.drewN n) := ⟨hb.os, hb.tape, hb.output, hb.size, hb.block⟩

/-- a row that is told place by place -/
def tab (n : Nat) (f : Nat → Nat) : List Nat := (List.range n).map f
theorem tab_length (n : Nat) (f : Nat → Nat) : (tab n f).length = n := by simp [tab]
theorem tab_get (n : Nat) (f : Nat → Nat) (i : Nat) (h : i < n) : (tab n f)[i]? = some (f i) := by simp [tab, h]
theorem tab_ext {l : List Nat} {n : Nat} {f : Nat → Nat} (hl : l.length = n) (h : ∀ i, i < n → l[i]? = some (f i)) : l = tab n f := by
  apply List.ext_getElem?
  intro i
  rcases Nat.lt_or_ge i n with hi | hi
  · rw [h i hi, tab_get n f i hi]
  · rw [List.getElem?_eq_none (by omega), List.getElem?_eq_none (by rw [tab_length]; omega)]
theorem tab_congr {n : Nat} {f g : Nat → Nat} (h : ∀ i, i < n → f i = g i) : tab n f = tab n g :=
  tab_ext (tab_length n f) fun i hi => by rw [tab_get n f i hi, h i hi]
theorem tab_set (n : Nat) (f : Nat → Nat) (k v : Nat) : (tab n f).set k v = tab n (fun i => if i = k then v else f i) :=
  tab_ext (by rw [List.length_set, tab_length]) fun i hi => by
    rw [List.getElem?_set, tab_length]
    by_cases e : k = i
    · subst e; simp [hi]
    · rw [if_neg e, tab_get n f i hi, if_neg (fun h => e h.symm)]
theorem tab_map {α : Type} (l : List α) (d : α) (f : α → Nat) : l.map f = tab l.length (fun i => f (l.getD i d)) :=
  tab_ext (by simp) fun i hi => by rw [List.getElem?_map, List.getElem?_eq_getElem hi, List.getD_eq_getElem?_getD, List.getElem?_eq_getElem hi]; rfl
theorem tab_append (n m : Nat) (f g : Nat → Nat) : tab n f ++ tab m g = tab (n + m) (fun i => if i < n then f i else g (i - n)) :=
  tab_ext (by simp [tab_length]) fun i hi => by
    rcases Nat.lt_or_ge i n with h | h
    · rw [List.getElem?_append_left (by rw [tab_length]; exact h), tab_get n f i h, if_pos h]
    · rw [List.getElem?_append_right (by rw [tab_length]; exact h), tab_length, tab_get m g _ (by omega), if_neg (by omega)]

/-- cells of numbers of 32 bits -/
def row32 (l : List Nat) : Array Value := (l.map fun (n : Nat) => Value.int .u32 (n : Int)).toArray
theorem row32_size (l : List Nat) : (row32 l).size = l.length := by simp [row32]
theorem row32_get (l : List Nat) (i : Nat) : (row32 l)[i]? = (l[i]?).map fun (n : Nat) => Value.int .u32 (n : Int) := by simp [row32]
theorem row32_tab (n : Nat) (f : Nat → Nat) (i : Nat) (h : i < n) : (row32 (tab n f))[i]? = some (.int .u32 (f i : Nat)) := by rw [row32_get, tab_get n f i h]; rfl
theorem row_tab (n : Nat) (f : Nat → Nat) (i : Nat) (h : i < n) : (row (tab n f))[i]? = some (.int .u8 (f i : Nat)) := by rw [row_get, tab_get n f i h]; rfl
theorem row32_set (l : List Nat) (i v : Nat) : (row32 l).setIfInBounds i (.int .u32 (v : Nat)) = row32 (l.set i v) := by simp [row32, List.map_set]
theorem row8_set (l : List Nat) (i v : Nat) : (row l).setIfInBounds i (.int .u8 (v : Nat)) = row (l.set i v) := by simp [row, List.map_set]
theorem row32_one (l : List Nat) : (row32 l).all (·.oneCell') = true := by
  rw [Array.all_eq_true_iff_forall_mem]
  intro v hv
  simp [row32] at hv
  obtain ⟨n, _, rfl⟩ := hv
  rfl
theorem row8_one (l : List Nat) : (row l).all (·.oneCell') = true := by
  rw [Array.all_eq_true_iff_forall_mem]
  intro v hv
  simp [row] at hv
  obtain ⟨n, _, rfl⟩ := hv
  rfl
theorem made8 (n : Nat) : madeCells (Value.int .u8 0).cells (n * 1) = row (tab n fun _ => 0) := by
  rw [Nat.mul_one]
  apply Array.ext_getElem?
  intro i
  rcases Nat.lt_or_ge i n with h | h
  · rw [row_tab _ _ _ h]; simp [madeCells, Value.cells, h, Nat.mod_one]
  · rw [Array.getElem?_eq_none (by rw [size_madeCells]; exact h), Array.getElem?_eq_none (by rw [row_size, tab_length]; exact h)]
theorem made32 (n : Nat) : madeCells (Value.int .u32 0).cells (n * 1) = row32 (tab n fun _ => 0) := by
  rw [Nat.mul_one]
  apply Array.ext_getElem?
  intro i
  rcases Nat.lt_or_ge i n with h | h
  · rw [row32_tab _ _ _ h]; simp [madeCells, Value.cells, h, Nat.mod_one]
  · rw [Array.getElem?_eq_none (by rw [size_madeCells]; exact h), Array.getElem?_eq_none (by rw [row32_size, tab_length]; exact h)]

/-- a slice is made: a new block -/
theorem wpList_make_blk {P : Program} {w : World} {ops : Array Oper} {rest : List Oper} {o : Oper} {a : Act} {Q : Exit → Act → World → Prop}
    (hg : o.guard = none) (l c : Operand) (t : TypeId) (hop : o.op = Op.makeSlice t l c)
    (e : TypeId) (z : Value) (size bytes : Nat) (h1 : P.underlying t = some (.slice e)) (hi : (P.info? e).map (fun i => (i.zero, i.size, i.bytes)) = some (some z, size, bytes))
    (L : Int) (n : Nat) (hl : a.eval l = .int .i64 L) (hc : a.eval c = .int .i64 L) (hL : L = (n : Int)) (b2 : bytes * n ≤ 281474976710656) (b3 : n ≤ 9223372036854775807) (Z : Array Value) (hZ : madeCells z.cells (n * size) = Z)
    (hK : wpList P ops Q rest (a.put o.dst (.slice (some ⟨w.heap.size, 0, none⟩) n n)) (w.alloc (.cells Z e))) :
    wpList P ops Q (o :: rest) a w := by
  refine wpList_plain hg fun K hK' => ?_
  obtain ⟨i, hi', hq⟩ := Option.map_eq_some_iff.1 hi
  simp only [Prod.mk.injEq] at hq
  obtain ⟨q1, q2, q3⟩ := hq
  subst hL
  have hb' : (i.bytes : Int) * (n : Int) ≤ 281474976710656 := by
    have h : ((i.bytes * n : Nat) : Int) ≤ 281474976710656 := by rw [q3]; omega
    rwa [Int.natCast_mul] at h
  have hr := run_make (P := P) w t e i z h1 hi' q1 .i64 .i64 n n (by omega) (Int.le_refl _) hb' (by omega)
  simp only [Int.toNat_natCast] at hr
  rw [q2, hZ] at hr
  unfold Oper.wp
  simp [execOp, hop, hl, hc, hr, Result.andThen]
  exact hK' _ _ hK

/-- a text is copied to the beginning of a block -/
theorem wpList_copy_str {P : Program} {w : World} {ops : Array Oper} {rest : List Oper} {o : Oper} {a : Act} {Q : Exit → Act → World → Prop} (hgd : o.guard = none) (d s : Operand) (dT sT : TypeId)
    (ho : o.op = .call { callee := .builtin .copy, args := #[d, s], argTypes := #[dT, sT] }) (elem : TypeId) (hu : P.underlying dT = some (.slice elem)) (hsz : (P.info? elem).map (·.size) = some 1)
    (g dLen dCap : Nat) (str : ByteArray) (hd : a.eval d = .slice (some ⟨g, 0, none⟩) dLen dCap) (hs : a.eval s = .string str)
    (cur : Array Value) (t : TypeId) (hg : Blk w g cur t) (hle : str.size ≤ dLen) (hfit : str.size ≤ cur.size) (new : Array Value) (hn : (Lib.byteCells str.data.toList ++ cur.toList.drop str.size).toArray = new)
    (h : wpList P ops Q rest (a.put o.dst (goInt str.size)) (w.setRow g new)) : wpList P ops Q (o :: rest) a w := by
  refine wpList_plain hgd fun K hK => ?_
  have hrun := Lib.run_copy_row_string (P := P) w dT sT o.type elem g 0 dLen dCap str cur t hu hsz hg hle (by omega)
  rw [Nat.zero_add, List.take_zero, List.nil_append, hn] at hrun
  unfold Oper.wp
  simp [execOp, ho, resolve, invoke, builtin, hd, hs, hrun, Result.andThen]
  exact hK _ _ h

/-- the bytes of a text, as numbers -/
def bytesN (s : ByteArray) : List Nat := s.data.toList.map (·.toNat)
theorem bytesN_length (s : ByteArray) : (bytesN s).length = s.size := by simp [bytesN]
theorem byteCells_eq (s : ByteArray) : Lib.byteCells s.data.toList = (bytesN s).map fun (n : Nat) => Value.int .u8 (n : Int) := by simp [Lib.byteCells, bytesN]
/-- the text of numbers -/
def txt (l : List Nat) : ByteArray := ⟨(l.map UInt8.ofNat).toArray⟩
theorem txt_size (l : List Nat) : (txt l).size = l.length := by simp [txt, ByteArray.size]
theorem txt_nums (l : List Nat) : strOfNums (l.map fun (n : Nat) => (n : Int)) = txt l := by simp [strOfNums, txt]
theorem txt_append (a b : List Nat) : txt (a ++ b) = txt a ++ txt b := by apply ByteArray.ext; simp [txt, ByteArray.data_append]
theorem txt_bytes (s : ByteArray) : txt (bytesN s) = s := by
  apply ByteArray.ext
  simp [txt, bytesN, Function.comp_def]
theorem txt_get (l : List Nat) (i : Nat) (h : i < (txt l).size) (hb : ∀ x ∈ l, x < 256) : ((txt l)[i]'h).toNat = l[i]'(by rw [txt_size] at h; exact h) := by
  have h' : i < l.length := by rw [txt_size] at h; exact h
  show ((l.map UInt8.ofNat).toArray[i]'(by simpa using h')).toNat = _
  simp [Nat.mod_eq_of_lt (hb _ (List.getElem_mem h'))]
theorem bytesN_txt (l : List Nat) (hb : ∀ x ∈ l, x < 256) : bytesN (txt l) = l := by
  unfold bytesN txt
  rw [List.toList_toArray, List.map_map]
  conv => rhs; rw [← List.map_id l]
  exact List.map_congr_left fun x hx => by simp [Nat.mod_eq_of_lt (hb x hx)]
theorem bytesN_lt (s : ByteArray) : ∀ x ∈ bytesN s, x < 256 := by
  intro x hx
  simp only [bytesN, List.mem_map] at hx
  obtain ⟨u, _, rfl⟩ := hx
  exact u.toNat_lt

/-- a slice of bytes that is a block's beginning is turned into a text -/
theorem run_text_blk {P : Program} (w : World) (src e dst : TypeId) (hs : P.underlying src = some (.slice e)) (he : P.underlying e = some (.int .u8)) (hd : P.underlying dst = some .string) (g n cap : Nat) (l : List Nat) (t : TypeId) (hn : l.length = n) (hb : Blk w g (row l) t) :
    (convert src dst (.slice (some ⟨g, 0, none⟩) n cap)).run P w = .ok (.string (txt l)) w := by
  rw [← txt_nums]
  exact run_convert_bytes_arg w src e hs he g 0 n cap _ (by rw [List.length_map, hn]) (fun i hi => by
    rw [Nat.zero_add, hb.cell, row_get, List.getElem?_eq_getElem (by omega), List.getD, List.getElem?_map, List.getElem?_eq_getElem (by omega)]
    rfl) dst hd

/-- one element is appended to a row of the call's own: what is appended lies in the block that was made last -/
theorem wpList_append1 {P : Program} {w w0 : World} {ops : Array Oper} {rest : List Oper} {o : Oper} {a : Act} {Q : Exit → Act → World → Prop} (hgd : o.guard = none) (s x : Operand) (t : TypeId)
    (ho : o.op = .call { callee := .builtin .append, args := #[s, x], argTypes := #[t, t] }) (base : Nat) (e : TypeId) (z : Value) (bytes : Nat) (ht : P.underlying t = some (.slice e))
    (hi : (P.info? e).map (fun i => (i.zero, i.size, i.bytes)) = some (some z, 1, bytes)) (hzs : z.cells.size = 1)
    (v : Value) (n : Nat) (xs : List Value) (hs : a.eval s = v) (hown : w.ownsRow base e 1 v n xs) (u : Value) (hu : u.oneCell' = true) (hx : a.eval x = .slice (some ⟨w.heap.size, 0, none⟩) 1 1)
    (h63 : n + 1 ≤ 9223372036854775807) (hbytes : (n + 1) * bytes ≤ 140737488355328) (hb : Below base w0 w) (hbs : base ≤ w.heap.size)
    (h : ∀ v' w', w'.ownsRow base e 1 v' (n + 1) (xs ++ [u]) → Below base w0 w' → wpList P ops Q rest (a.put o.dst v') w') : wpList P ops Q (o :: rest) a (w.alloc (.cells #[u] e)) := by
  obtain ⟨i, hi', hq⟩ := Option.map_eq_some_iff.1 hi
  simp only [Prod.mk.injEq] at hq
  obtain ⟨q1, q2, q3⟩ := hq
  refine wpList_append_own (w.alloc (.cells #[u] e)) hgd s x t ho base e i z 1 bytes ht hi' q1 q2 q3 hzs (by omega) v n xs hs (hown.alloc _) ⟨w.heap.size, 0, none⟩ 1 1 [u] hx rfl ?_ ?_ (by unfold maxLen; omega) hbytes (by simp; omega) ?_
  · intro j y hj
    have hj0 : j = 0 := by
      rcases Nat.eq_zero_or_pos j with h0 | h0
      · exact h0
      · rw [List.getElem?_eq_none (by simp; omega)] at hj; cases hj
    subst hj0
    have : ((⟨w.heap.size, 0, none⟩ : Addr).add 0) = ⟨w.heap.size, 0, none⟩ := by unfold Addr.add; split <;> simp_all
    rw [this, (Blk.new w #[u] e).cell]
    simpa using hj
  · intro y hy; simp at hy; subst hy; exact hu
  · intro v' w' h1 h2 _
    refine h v' w' h1 ((hb.alloc hbs _).grown h2 (by simp; omega) fun k hk => (hown.lt k hk).1)
/-- cells of numbers, as a list -/
def cells32 (l : List Nat) : List Value := l.map fun (n : Nat) => Value.int .u32 (n : Int)
theorem cells32_snoc (l : List Nat) (x : Nat) : cells32 l ++ [.int .u32 (x : Int)] = cells32 (l ++ [x]) := by simp [cells32]
theorem tab_snoc (n : Nat) (f : Nat → Nat) : tab n f ++ [f n] = tab (n + 1) f := by simp [tab, List.range_succ]
theorem own_open {w : World} {base n : Nat} {e : TypeId} {v : Value} {xs : List Value} (h : w.ownsRow base e 1 v n xs) (hn : 0 < n) : ∃ g cap, v = .slice (some ⟨g, 0, none⟩) n cap ∧ base ≤ g ∧ g < w.heap.size ∧ n ≤ cap ∧ ∀ j, j < n → w.cell? ⟨g, j, none⟩ = xs[j]? := by
  have h' := h
  rcases h.2 with ⟨_, h0⟩ | ⟨g, cap, cur, hv, hb, hg, hc, _⟩
  · omega
  · subst hv
    exact ⟨g, cap, rfl, hb, Blk.lt hg, hc, fun j hj => h'.cellAt j (by omega)⟩

/-- a whole array is stored into the block that was made last -/
theorem wpList_store_newrow {P : Program} {w : World} {ops : Array Oper} {rest : List Oper} {o : Oper} {a : Act} {Q : Exit → Act → World → Prop} (hgd : o.guard = none) (ty : TypeId) (x y : Operand) (ho : o.op = .store ty x y)
    (C : Array Value) (hx : a.eval x = .pointer (some ⟨w.heap.size, 0, none⟩)) (hy : a.eval y = .agg C) (hi : (P.info? ty).map (·.size) = some C.size) (h1 : C.all (·.oneCell') = true) {Z : Array Value} (hz : Z.size = C.size)
    (h : wpList P ops Q rest (a.put o.dst undef) (w.alloc (.cells C ty))) : wpList P ops Q (o :: rest) a (w.alloc (.cells Z ty)) := by
  refine wpList_store_row hgd ty x y ho w.heap.size C hx hy ty Z (heap_alloc_new _ _) hi hz h1 ?_
  rw [World.setRow_alloc_new]
  exact h

/-- a text is cut -/
theorem run_cut {P : Program} {T : TypeId} (hT : P.underlying T = some .string) (s : ByteArray) (lo hi : Int) (a b : Nat) (ha : lo = (a : Int)) (hb : hi = (b : Int)) (hab : a ≤ b) (hbs : b ≤ s.size) (w : World) :
    (Instr.slice T (.string s) (some (.int .i64 lo)) (some (.int .i64 hi)) none).run P w = .ok (.string (s.extract a b)) w := by
  subst ha hb
  have h1 : (0 : Int) ≤ (b : Int) ∧ (b : Int) ≤ (s.size : Int) := by omega
  have h2 : (0 : Int) ≤ (a : Int) ∧ (a : Int) ≤ (b : Int) := by omega
  simp [Instr.slice, run_underlying hT, Instr.sliceBounds, Instr.sliceBound, asIntOf, h1, h2, hab, hbs]
end Go.Proofs.Ytplcdjmidelboaa
