/- Errors and trees in memory. -/
import Derived.Test.YtgpmfiphebmldaaDoorBlaTree
import Derived.Test.YtgpmfiphebmldaaDoorBlk
import Derived.Deep.MidRow
namespace Go.Proofs.YtgpmfiphebmldaaDoor
open Go.RowKit

/-- blocks of p are as they were -/
def Kept (w w' : World) (p : Nat → Prop) : Prop := ∀ k, k < w.heap.size → p k → w'.heap[k]? = w.heap[k]?
theorem Blk.kept {w w' : World} {p : Nat → Prop} {g : Nat} {cs : Array Value} {t : TypeId} (h : Blk w g cs t) (k : Kept w w' p) (hp : p g) : Blk w' g cs t := (k g h.lt hp).trans h
theorem range_lt {w : World} {g o : Nat} {cs : List Value} (h : w.rangeAt g o cs) (hn : cs ≠ []) : g < w.heap.size := by
  cases cs with
  | nil => exact absurd rfl hn
  | cons v r => exact World.block_lt_of_cell? w _ (h 0 v rfl)
theorem range_kept {w w' : World} {p : Nat → Prop} {g o : Nat} {cs : List Value} (h : w.rangeAt g o cs) (k : Kept w w' p) (hp : p g) : w'.rangeAt g o cs := fun j v hv => by
  have hc := h j v hv
  exact (World.cell?_of_block (a := ⟨g, o + j, none⟩) (k g (World.block_lt_of_cell? w _ hc) hp)).trans hc
/-- v is the error t, told by blocks of p alone -/
inductive Er (w : World) (p : Nat → Prop) : Value → ET → Prop
  | code (c : Int) : okC c → Er w p (.iface 59 (.int .i64 c)) (.code c)
  | wrap (b : Nat) (op : ByteArray) (v : Value) (t : ET) : p b → Blk w b #[.string op, v] 69 → Er w p v t → Er w p (.iface 66 (.pointer (some ⟨b, 0, none⟩))) (.wrap op t)
  | join (b g cap : Nat) (vs : List Value) (ts : List ET) : p b → p g → ts ≠ [] → Blk w b #[.slice (some ⟨g, 0, none⟩) ts.length cap] 77 → ts.length ≤ cap → vs.length = ts.length → w.rangeAt g 0 vs →
      (∀ (j : Nat) v t, vs[j]? = some v → ts[j]? = some t → Er w p v t) → Er w p (.iface 75 (.pointer (some ⟨b, 0, none⟩))) (.join ts)

theorem Er.kept {w w' : World} {p : Nat → Prop} {v : Value} {t : ET} (h : Er w p v t) (k : Kept w w' p) : Er w' p v t := by
  induction h with
  | code c h0 => exact .code c h0
  | wrap b op v t hp hb _ ih => exact .wrap b op v t hp (hb.kept k hp) ih
  | join b g cap vs ts hp hg hn hb hc hl hv _ ih => exact .join b g cap vs ts hp hg hn (hb.kept k hp) hc hl (range_kept hv k hg) ih
theorem Er.mono {w : World} {p q : Nat → Prop} {v : Value} {t : ET} (h : Er w p v t) (k : ∀ i, i < w.heap.size → p i → q i) : Er w q v t := by
  induction h with
  | code c h0 => exact .code c h0
  | wrap b op v t hp hb _ ih => exact .wrap b op v t (k b hb.lt hp) hb ih
  | join b g cap vs ts hp hg hn hb hc hl hv _ ih => exact .join b g cap vs ts (k b hb.lt hp) (k g (range_lt hv (by intro e; rw [e] at hl; exact hn (List.eq_nil_of_length_eq_zero hl.symm))) hg) hn hb hc hl hv ih
theorem Er.ok {w : World} {p : Nat → Prop} {v : Value} {t : ET} (h : Er w p v t) : t.ok := by
  induction h with
  | code c h0 => exact h0
  | wrap b op v t hp hb _ ih => exact ih
  | join b g cap vs ts hp hg hn hb hc hl hv _ ih =>
    refine ⟨hn, ET.okL_iff.2 fun t ht => ?_⟩
    obtain ⟨j, hj, rfl⟩ := List.getElem_of_mem ht
    exact ih j (vs[j]'(by omega)) ts[j] (List.getElem?_eq_getElem _) (List.getElem?_eq_getElem _)
theorem Er.one {w : World} {p : Nat → Prop} {v : Value} {t : ET} (h : Er w p v t) : v.oneCell' = true := by cases h <;> rfl
theorem Er.bel {B : Nat} {w w' : World} {v : Value} {t : ET} (h : Er w (fun k => k < B) v t) (hb : Below B w w') : Er w' (fun k => k < B) v t := h.kept fun k _ hk => hb.block k hk
theorem Er.all {w : World} {p : Nat → Prop} {v : Value} {t : ET} (h : Er w p v t) {B : Nat} (hB : w.heap.size ≤ B) : Er w (fun k => k < B) v t := h.mono fun _ hi _ => Nat.lt_of_lt_of_le hi hB

theorem Er.cells {w : World} {p : Nat → Prop} {v : Value} {t : ET} (h : Er w p v t) : v.cells = #[v] := by cases h <;> rfl

theorem er_shape {w : World} {p : Nat → Prop} {v : Value} {t : ET} (h : Er w p v t) : (∃ c : Int, v = .iface 59 (.int .i64 c)) ∨ (∃ b : Nat, v = .iface 66 (.pointer (some ⟨b, 0, none⟩))) ∨ ∃ b : Nat, v = .iface 75 (.pointer (some ⟨b, 0, none⟩)) := by
  cases h with
  | code c h => exact .inl ⟨c, rfl⟩
  | wrap b => exact .inr (.inl ⟨b, rfl⟩)
  | join b => exact .inr (.inr ⟨b, rfl⟩)

/-- v is none, or an error -/
def Eo (w : World) (p : Nat → Prop) (v : Value) : Option ET → Prop
  | none => v = .nilIface
  | some t => Er w p v t
theorem Eo.kept {w w' : World} {p : Nat → Prop} {v : Value} {o : Option ET} (h : Eo w p v o) (k : Kept w w' p) : Eo w' p v o := by
  cases o with
  | none => exact h
  | some t => exact Er.kept h k
theorem Eo.mono {w : World} {p q : Nat → Prop} {v : Value} {o : Option ET} (h : Eo w p v o) (k : ∀ i, i < w.heap.size → p i → q i) : Eo w q v o := by
  cases o with
  | none => exact h
  | some t => exact Er.mono h k
theorem Eo.one {w : World} {p : Nat → Prop} {v : Value} {o : Option ET} (h : Eo w p v o) : v.oneCell' = true := by
  cases o with
  | none => cases h; first | rfl | simp [zeroT, treeC, Value.oneCell']
  | some t => exact Er.one h
theorem Eo.bel {B : Nat} {w w' : World} {v : Value} {o : Option ET} (h : Eo w (fun k => k < B) v o) (hb : Below B w w') : Eo w' (fun k => k < B) v o := h.kept fun k _ hk => hb.block k hk
theorem Eo.all {w : World} {p : Nat → Prop} {v : Value} {o : Option ET} (h : Eo w p v o) {B : Nat} (hB : w.heap.size ≤ B) : Eo w (fun k => k < B) v o := h.mono fun _ hi _ => Nat.lt_of_lt_of_le hi hB

/-- the cells of a tree -/
def treeC (k c : Int) (op : ByteArray) (x : Value) : Array Value := #[.int .i64 k, .int .i64 c, .string op, x]
/-- cells are the tree t, told by blocks of p alone -/
inductive Tr (w : World) (p : Nat → Prop) : Array Value → ET → Prop
  | code (c : Int) : okC c → Tr w p (treeC 1 c ⟨#[]⟩ (.slice none 0 0)) (.code c)
  | wrap (g cap : Nat) (op : ByteArray) (X : Array Value) (t : ET) : p g → 1 ≤ cap → w.rangeAt g 0 X.toList → Tr w p X t → Tr w p (treeC 2 0 op (.slice (some ⟨g, 0, none⟩) 1 cap)) (.wrap op t)
  | join (g cap : Nat) (xs : List (Array Value)) (ts : List ET) : p g → ts ≠ [] → ts.length ≤ cap → xs.length = ts.length → (∀ (j : Nat) X, xs[j]? = some X → w.rangeAt g (4 * j) X.toList) →
      (∀ (j : Nat) X t, xs[j]? = some X → ts[j]? = some t → Tr w p X t) → Tr w p (treeC 3 0 ⟨#[]⟩ (.slice (some ⟨g, 0, none⟩) ts.length cap)) (.join ts)
theorem Tr.size {w : World} {p : Nat → Prop} {X : Array Value} {t : ET} (h : Tr w p X t) : X.size = 4 := by cases h <;> rfl
theorem Tr.ne {w : World} {p : Nat → Prop} {X : Array Value} {t : ET} (h : Tr w p X t) : X.toList ≠ [] := by
  intro e
  have := h.size
  rw [← Array.length_toList, e] at this
  simp at this
theorem Tr.kept {w w' : World} {p : Nat → Prop} {X : Array Value} {t : ET} (h : Tr w p X t) (k : Kept w w' p) : Tr w' p X t := by
  induction h with
  | code c h0 => exact .code c h0
  | wrap g cap op X t hp hc hb _ ih => exact .wrap g cap op X t hp hc (range_kept hb k hp) ih
  | join g cap xs ts hp hn hc hl hv _ ih => exact .join g cap xs ts hp hn hc hl (fun j X hj => range_kept (hv j X hj) k hp) ih
theorem Tr.mono {w : World} {p q : Nat → Prop} {X : Array Value} {t : ET} (h : Tr w p X t) (k : ∀ i, i < w.heap.size → p i → q i) : Tr w q X t := by
  induction h with
  | code c h0 => exact .code c h0
  | wrap g cap op X t hp hc hb hX ih => exact .wrap g cap op X t (k g (range_lt hb hX.ne) hp) hc hb ih
  | join g cap xs ts hp hn hc hl hv hX ih =>
    refine .join g cap xs ts (k g ?_ hp) hn hc hl hv ih
    have h0 : 0 < ts.length := List.length_pos_iff.2 hn
    exact range_lt (hv 0 (xs[0]'(by omega)) (List.getElem?_eq_getElem _)) (hX 0 (xs[0]'(by omega)) ts[0] (List.getElem?_eq_getElem _) (List.getElem?_eq_getElem _)).ne
theorem Tr.one {w : World} {p : Nat → Prop} {X : Array Value} {t : ET} (h : Tr w p X t) : X.all (·.oneCell') = true := by cases h <;> simp [treeC, Value.oneCell']
theorem Tr.ok {w : World} {p : Nat → Prop} {X : Array Value} {t : ET} (h : Tr w p X t) : t.ok := by
  induction h with
  | code c h0 => exact h0
  | wrap g cap op X t hp hc hb _ ih => exact ih
  | join g cap xs ts hp hn hc hl hv _ ih =>
    refine ⟨hn, ET.okL_iff.2 fun t ht => ?_⟩
    obtain ⟨j, hj, rfl⟩ := List.getElem_of_mem ht
    exact ih j (xs[j]'(by omega)) ts[j] (List.getElem?_eq_getElem _) (List.getElem?_eq_getElem _)
def zeroT : Array Value := treeC 0 0 ⟨#[]⟩ (.slice none 0 0)
def To (w : World) (p : Nat → Prop) (X : Array Value) : Option ET → Prop
  | none => X = zeroT
  | some t => Tr w p X t
theorem To.kept {w w' : World} {p : Nat → Prop} {X : Array Value} {o : Option ET} (h : To w p X o) (k : Kept w w' p) : To w' p X o := by
  cases o with
  | none => exact h
  | some t => exact Tr.kept h k
theorem To.mono {w : World} {p q : Nat → Prop} {X : Array Value} {o : Option ET} (h : To w p X o) (k : ∀ i, i < w.heap.size → p i → q i) : To w q X o := by
  cases o with
  | none => exact h
  | some t => exact Tr.mono h k
theorem To.one {w : World} {p : Nat → Prop} {X : Array Value} {o : Option ET} (h : To w p X o) : X.all (·.oneCell') = true := by
  cases o with
  | none => cases h; first | rfl | simp [zeroT, treeC, Value.oneCell']
  | some t => exact Tr.one h
theorem To.size {w : World} {p : Nat → Prop} {X : Array Value} {o : Option ET} (h : To w p X o) : X.size = 4 := by
  cases o with
  | none => cases h; first | rfl | simp [zeroT, treeC, Value.oneCell']
  | some t => exact Tr.size h
theorem Tr.bel {B : Nat} {w w' : World} {X : Array Value} {t : ET} (h : Tr w (fun k => k < B) X t) (hb : Below B w w') : Tr w' (fun k => k < B) X t := h.kept fun k _ hk => hb.block k hk
theorem To.bel {B : Nat} {w w' : World} {X : Array Value} {o : Option ET} (h : To w (fun k => k < B) X o) (hb : Below B w w') : To w' (fun k => k < B) X o := h.kept fun k _ hk => hb.block k hk
theorem Tr.all {w : World} {p : Nat → Prop} {X : Array Value} {t : ET} (h : Tr w p X t) {B : Nat} (hB : w.heap.size ≤ B) : Tr w (fun k => k < B) X t := h.mono fun _ hi _ => Nat.lt_of_lt_of_le hi hB
theorem To.all {w : World} {p : Nat → Prop} {X : Array Value} {o : Option ET} (h : To w p X o) {B : Nat} (hB : w.heap.size ≤ B) : To w (fun k => k < B) X o := h.mono fun _ hi _ => Nat.lt_of_lt_of_le hi hB
end Go.Proofs.YtgpmfiphebmldaaDoor
