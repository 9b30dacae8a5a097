/- Timers in memory: the heap's row, and the map of places. -/
import Derived.Test.YtboojbgcleknlaaTimNum
import Derived.Test.YtboojbgcleknlaaQRow
import Derived.Test.YtboojbgcleknlaaTail
import Derived.Test.YtboojbgcleknlaaOwn
import Derived.Maps.OwnSet
import Derived.Maps.AppendAt
import Derived.Deep.MidRow
import Derived.Lib.Hide
namespace Go.Proofs.Ytboojbgcleknlaa
open Go Go.RowKit Go.Maps
open Go.ChangeMaps (setBlock)

/-- the cells of a timer -/
def duC (d : Du) : Array Value := #[.int .i64 d.id, .int .i64 d.tm]
theorem duC_one (d : Du) : (duC d).all (·.oneCell') = true := by simp [duC, Value.oneCell']
theorem sizeD : (Try.prog.info? 53).map (·.size) = some 2 := by kernel_rfl
theorem infoD : (Try.prog.info? 53).map (fun i => (i.zero, i.size, i.bytes)) = some (some (.agg #[.int .i64 0, .int .i64 0]), 2, 16) := by kernel_rfl
theorem lawI : Keyed Try.prog 3 := int_keyed Try.underlying3
theorem zeroI (w : World) : (zeroValue 3).run Try.prog w = .ok (.int .i64 0) w := by kernel_rfl
/-- an id fits -/
def Fit (k : Int) : Prop := (Lit.int .i64 k).wf = true
theorem keyI {k : Int} (h : Fit k) : keyOf Try.prog 3 (.int .i64 k) = some (.int .i64 k) := keyOf_int_mk Try.underlying3 h
theorem litI (k : Int) : WideAt.IsKeyLit (.int .i64 k) := trivial
theorem litI_ne {a b : Int} (h : a ≠ b) : (Lit.int .i64 a) ≠ .int .i64 b := fun e => h (by injection e)
def plR : Value → Option (DataW Unit × List MemPlace)
  | .int .i64 a => some (.lit (.int .i64 a), [])
  | _ => none
theorem plR_mk (a : Int) : plR (.int .i64 a) = some (.lit (.int .i64 a), []) := rfl
theorem plR_inv {v : Value} {a : Int} {ps : List MemPlace} (h : plR v = some (.lit (.int .i64 a), ps)) : v = .int .i64 a := by
  unfold plR at h
  split at h
  · simp only [Option.some.injEq, Prod.mk.injEq, DataW.lit.injEq, Lit.int.injEq, true_and] at h
    rw [h.1]
  · cases h
theorem own_tight {P : Program} {k : TypeId} {R : Value → Option (DataW Unit × List MemPlace)} {w : World} {b n : Nat} {D : DataW Unit} (h : w.ownsMap P k R b n D) : w.ownsMap P k R b (Maps.size D) D := by
  obtain ⟨es, clock, hb, F, hs, rfl⟩ := h
  exact ⟨es, clock, hb, F, Nat.le_of_eq (by simp [Maps.size, length_sorted]), rfl⟩

/-- block mb is a map of N ids, which tells the places f -/
def OwnsF (w : World) (mb N : Nat) (f : Int → Option Nat) : Prop := ∃ D : DataW Unit, w.ownsMap Try.prog 3 plR mb (Maps.size D) D ∧ Maps.size D = N ∧
  ∀ k : Int, Fit k → Maps.has D (.int .i64 k) = (f k).isSome ∧ ∀ p : Nat, f k = some p → ∀ zd, D.atKey (.int .i64 k) zd = .lit (.int .i64 (p : Int))
section
variable {w : World} {mb N : Nat} {f : Int → Option Nat}
theorem OwnsF.lt (h : OwnsF w mb N f) : mb < w.heap.size := by
  obtain ⟨D, h, _⟩ := h
  exact h.lt
theorem OwnsF.kept {w' : World} {row : Option Nat} (h : OwnsF w mb N f) (hg : w.grownBy w' row) (hne : some mb ≠ row) : OwnsF w' mb N f := by
  obtain ⟨D, h, r⟩ := h
  exact ⟨D, h.kept hg hne, r⟩
theorem OwnsF.same {w' : World} (h : OwnsF w mb N f) (hb : w'.heap[mb]? = w.heap[mb]?) : OwnsF w' mb N f := by
  obtain ⟨D, ⟨es, clock, h1, h2⟩, r⟩ := h
  exact ⟨D, ⟨es, clock, hb.trans h1, h2⟩, r⟩
theorem OwnsF.bel {w' : World} {B : Nat} (h : OwnsF w mb N f) (hb : Below B w w') (hm : mb < B) : OwnsF w' mb N f := h.same (hb.block mb hm)
theorem OwnsF.alloc (h : OwnsF w mb N f) (o : Obj) : OwnsF (w.alloc o) mb N f := h.kept (World.grownBy_alloc w o none) (by simp)
theorem OwnsF.ne {g : Nat} {cs : Array Value} {t : TypeId} (h : OwnsF w mb N f) (hg : Blk w g cs t) : g ≠ mb := by
  rintro rfl
  obtain ⟨D, ⟨es, clock, h1, _⟩, _⟩ := h
  unfold Blk at hg
  rw [hg] at h1
  cases h1
theorem OwnsF.made (w : World) : OwnsF (w.alloc (.map #[] 0)) w.heap.size 0 (fun _ => none) :=
  ⟨.map [], World.ownsMap_made w _ _ _, rfl, fun k _ => ⟨by simp [Maps.has], fun p hp => by simp at hp⟩⟩
theorem OwnsF.ext {f' : Int → Option Nat} (h : OwnsF w mb N f) (e : ∀ k, f' k = f k) : OwnsF w mb N f' := by
  obtain rfl : f' = f := funext e
  exact h
theorem OwnsF.has_yes (h : OwnsF w mb N f) {k : Int} {p : Nat} (hx : f k = some p) (hk : Fit k) : (Instr.lookup 47 (.map (some mb)) (.int .i64 k) true).run Try.prog w = .ok (.tuple #[.int .i64 (p : Int), .bool true]) w := by
  obtain ⟨D, h, _, r⟩ := h
  obtain ⟨v, ps, hrun, hv⟩ := h.look_ok lawI Try.underlying47 (zeroI w) (plR_mk 0) (keyI hk)
  rw [(r k hk).2 p hx] at hv
  have e : Maps.has D (.int .i64 k) = true := by rw [(r k hk).1, hx]; rfl
  rw [hrun, plR_inv hv, e]
theorem OwnsF.has_no (h : OwnsF w mb N f) {k : Int} (hx : f k = none) (hk : Fit k) : (Instr.lookup 47 (.map (some mb)) (.int .i64 k) true).run Try.prog w = .ok (.tuple #[.int .i64 0, .bool false]) w := by
  obtain ⟨D, h, _, r⟩ := h
  obtain ⟨v, ps, hrun, hv⟩ := h.look_ok lawI Try.underlying47 (zeroI w) (plR_mk 0) (keyI hk)
  have e : Maps.has D (.int .i64 k) = false := by rw [(r k hk).1, hx]; rfl
  rw [atKey_of_not_has e] at hv
  rw [hrun, plR_inv hv, e]
theorem OwnsF.store (h : OwnsF w mb N f) {k : Int} (hk : Fit k) (p : Nat) (hN : N ≤ 1000000) : ∃ w', (Instr.mapUpdate 47 (.map (some mb)) (.int .i64 k) (.int .i64 (p : Int))).run Try.prog w = .ok () w' ∧ OwnsF w' mb (if (f k).isSome then N else N + 1) (upf f k p) ∧ w.grownBy w' (some mb) := by
  obtain ⟨D, h, hs, r⟩ := h
  have hT := h.tidy lawI
  obtain ⟨w', hrun, h1, h2⟩ := h.update lawI Try.underlying47 (by unfold maxLen; omega) (keyI hk) (plR_mk (p : Int))
  refine ⟨w', hrun, ⟨_, own_tight h1, ?_, fun j hj => ?_⟩, h2⟩
  · rw [size_put hT, (r k hk).1, hs]
  · by_cases hne : j = k
    · subst hne
      rw [upf_at, has_put_same hT.isMap (litI _)]
      exact ⟨rfl, fun q hq zd => by rw [atKey_put_same hT.isMap (litI _)]; rw [Option.some.inj hq]⟩
    · rw [upf_ne hne, has_put_other (litI_ne hne)]
      refine ⟨(r j hj).1, fun q hq zd => ?_⟩
      rw [atKey_put_other (litI_ne hne)]
      exact (r j hj).2 q hq zd
theorem OwnsF.drop (h : OwnsF w mb N f) {k : Int} (hx : f k ≠ none) (hk : Fit k) (ty : TypeId) : ∃ w', (Builtin.delete_ #[47, 3] ty #[.map (some mb), .int .i64 k]).run Try.prog w = .ok (.tuple #[]) w' ∧ OwnsF w' mb (N - 1) (rmf f k) ∧ 0 < N ∧ w.grownBy w' (some mb) := by
  obtain ⟨D, h, hs, r⟩ := h
  have hT := h.tidy lawI
  obtain ⟨w', hrun, h1, h2⟩ := h.drop lawI Try.underlying47 (keyI hk) ty
  have e0 : Maps.has D (.int .i64 k) = true := by
    rw [(r k hk).1]
    cases e : f k with
    | none => exact absurd e hx
    | some p => rfl
  have h3 := size_del (k := .int .i64 k) hT
  rw [if_pos e0] at h3
  refine ⟨w', hrun, ⟨_, own_tight h1, by omega, fun j hj => ?_⟩, by omega, h2.grown⟩
  by_cases hne : j = k
  · subst hne
    refine ⟨?_, fun q hq => ?_⟩
    · rw [has_del_same]; simp [rmf]
    · simp [rmf] at hq
  · have e1 : rmf f k j = f j := if_neg hne
    rw [e1, has_del_other (litI_ne hne)]
    refine ⟨(r j hj).1, fun q hq zd => ?_⟩
    rw [atKey_del_other (litI_ne hne)]
    exact (r j hj).2 q hq zd
theorem OwnsF.clear (h : OwnsF w mb N f) (ty : TypeId) : ∃ w', (Builtin.clear_ #[47] ty #[.map (some mb)]).run Try.prog w = .ok (.tuple #[]) w' ∧ OwnsF w' mb 0 (fun _ => none) ∧ w.grownBy w' (some mb) := by
  have hlt := h.lt
  obtain ⟨D, ⟨es, clock, h1, h2, _⟩, _⟩ := h
  refine ⟨setBlock w mb (.map #[] clock), ?_, ⟨.map [], ⟨#[], clock, by simp [setBlock, hlt], ⟨by simp, ?_, by simp⟩, Nat.le_refl _, rfl⟩, rfl, fun k _ => ⟨by simp [Maps.has], fun p hp => by simp at hp⟩⟩, ⟨rfl, rfl, rfl, by simp [setBlock], fun k _ hk => ?_⟩⟩
  · simp [Builtin.clear_, run_underlying Try.underlying47, MapKept.run_getObj_map h1, MapKept.run_setObj_map _ h1, Result.andThen, setBlock]
  · exact ⟨by simp, by simp, by simp⟩
  · have hne : mb ≠ k := fun e => hk (by rw [e])
    simp [setBlock, hne]
end

/-- block b has room for c timers, of which the first n are h -/
def RowAt (w : World) (b n c : Nat) (h : Nat → Du) : Prop := ∃ cur, Blk w b cur 53 ∧ cur.size = c * 2 ∧ n ≤ c ∧ ∀ i, i < n → cur[i * 2]? = some (.int .i64 (h i).id) ∧ cur[i * 2 + 1]? = some (.int .i64 (h i).tm)
section
variable {w : World} {b n c : Nat} {h : Nat → Du}
theorem RowAt.lt (r : RowAt w b n c h) : b < w.heap.size := by obtain ⟨cur, r, _⟩ := r; exact r.lt
theorem RowAt.same {w' : World} (r : RowAt w b n c h) (hb : w'.heap[b]? = w.heap[b]?) : RowAt w' b n c h := by
  obtain ⟨cur, r, k⟩ := r
  exact ⟨cur, hb.trans r, k⟩
theorem RowAt.less (r : RowAt w b n c h) {m : Nat} (hm : m ≤ n) : RowAt w b m c h := by
  obtain ⟨cur, r, k1, k2, k3⟩ := r
  exact ⟨cur, r, k1, Nat.le_trans hm k2, fun i hi => k3 i (Nat.lt_of_lt_of_le hi hm)⟩
theorem RowAt.cell (r : RowAt w b n c h) {i : Nat} (hi : i < n) : w.cell? ⟨b, i * 2, none⟩ = some (.int .i64 (h i).id) ∧ w.cell? ⟨b, i * 2 + 1, none⟩ = some (.int .i64 (h i).tm) := by
  obtain ⟨cur, r, _, _, k⟩ := r
  exact ⟨(r.cell _).trans (k i hi).1, (r.cell _).trans (k i hi).2⟩
theorem RowAt.range (r : RowAt w b n c h) {i : Nat} (hi : i < n) : w.rangeAt b (i * 2) (duC (h i)).toList := fun j v hv => by
  obtain ⟨h1, h2⟩ := r.cell hi
  match j, hv with
  | 0, hv =>
    simp only [duC, List.getElem?_cons_zero, Option.some.injEq] at hv
    subst hv
    exact h1
  | 1, hv =>
    simp only [duC, List.getElem?_cons_succ, List.getElem?_cons_zero, Option.some.injEq] at hv
    subst hv
    exact h2
  | j + 2, hv => simp [duC] at hv
theorem RowAt.there (r : RowAt w b n c h) {i : Nat} (hi : i < n) : w.there b (i * 2) 2 := fun j hj => by
  obtain ⟨h1, h2⟩ := r.cell hi
  obtain ⟨cur, r, _⟩ := r
  refine ⟨?_, r.free _⟩
  match j, hj with
  | 0, _ => rw [Nat.add_zero, h1]; rfl
  | 1, _ => rw [h2]; rfl
theorem RowAt.put (r : RowAt w b n c h) {p : Nat} (hp : p < n) (d : Du) : RowAt (w.setCells b (p * 2) (duC d).toList) b n c (upd h p d) := by
  obtain ⟨cur, r, k1, k2, k3⟩ := r
  refine ⟨_, (r.put (p * 2) (.int .i64 d.id)).put (p * 2 + 1) (.int .i64 d.tm), by simpa using k1, k2, fun i hi => ?_⟩
  by_cases e : i = p
  · subst e
    rw [upd_at]
    refine ⟨?_, ?_⟩
    · rw [Array.getElem?_setIfInBounds_ne (by omega), Array.getElem?_setIfInBounds_self_of_lt (by omega)]
    · rw [Array.getElem?_setIfInBounds_self_of_lt (by simp; omega)]
  · rw [upd_ne e, Array.getElem?_setIfInBounds_ne (by omega), Array.getElem?_setIfInBounds_ne (by omega), Array.getElem?_setIfInBounds_ne (by omega), Array.getElem?_setIfInBounds_ne (by omega)]
    exact k3 i hi
end

/-- all that was there is as it was, but for the timers' own blocks -/
structure Kp (w w' : World) (g mb : Nat) (o : Option Nat) : Prop where
  os : w'.os = w.os
  tape : w'.tape = w.tape
  output : w'.output = w.output
  size : w.heap.size ≤ w'.heap.size
  block : ∀ k, k < w.heap.size → k ≠ g → k ≠ mb → o ≠ some k → w'.heap[k]? = w.heap[k]?
section
variable {w w' w1 w2 : World} {g mb : Nat} {o : Option Nat}
theorem Kp.of (h : Below w.heap.size w w') (g mb : Nat) (o : Option Nat) : Kp w w' g mb o := ⟨h.os, h.tape, h.output, h.size, fun k hk _ _ _ => h.block k hk⟩
theorem Kp.refl (w : World) (g mb : Nat) (o : Option Nat) : Kp w w g mb o := Kp.of (Below.refl _ _) g mb o
theorem Kp.trans (h : Kp w w1 g mb o) (k : Kp w1 w2 g mb o) : Kp w w2 g mb o :=
  ⟨k.os.trans h.os, k.tape.trans h.tape, k.output.trans h.output, Nat.le_trans h.size k.size, fun i hi h1 h2 h3 => (k.block i (Nat.lt_of_lt_of_le hi h.size) h1 h2 h3).trans (h.block i hi h1 h2 h3)⟩
/-- .. where another row was made in between -/
theorem Kp.step {o' : Option Nat} (h : Kp w w1 g mb o) (k : Kp w1 w2 g mb o') (ho : o' = o ∨ ∃ f, o' = some f ∧ w.heap.size ≤ f) : Kp w w2 g mb o :=
  ⟨k.os.trans h.os, k.tape.trans h.tape, k.output.trans h.output, Nat.le_trans h.size k.size, fun i hi h1 h2 h3 => (k.block i (Nat.lt_of_lt_of_le hi h.size) h1 h2 (by
    rcases ho with rfl | ⟨f, rfl, hf⟩
    · exact h3
    · intro e; injection e; omega)).trans (h.block i hi h1 h2 h3)⟩
theorem Kp.drew (w : World) (g mb : Nat) (o : Option Nat) : Kp w w.drew g mb o := ⟨rfl, rfl, rfl, Nat.le_refl _, fun _ _ _ _ _ => rfl⟩
theorem Kp.map (h : w.grownBy w' (some mb)) : Kp w w' g mb o := ⟨h.os, h.tape, h.output, h.size, fun k hk _ h2 _ => h.block k hk fun e => h2 (Option.some.inj e)⟩
theorem Kp.row (h : w.grownBy w' o) : Kp w w' g mb o := ⟨h.os, h.tape, h.output, h.size, fun k hk _ _ h3 => h.block k hk fun e => h3 e.symm⟩
theorem Kp.cells (w : World) (g mb b i : Nat) (d : Du) : Kp w (w.setCells b i (duC d).toList) g mb (some b) :=
  ⟨rfl, rfl, rfl, by simp [duC, World.setCells, World.setCell], fun k _ _ _ h3 => by
    have hne : k ≠ b := fun e => h3 (by rw [e])
    show ((w.setCell ⟨b, i, none⟩ _).setCell ⟨b, i + 1, none⟩ _).heap[k]? = _
    rw [heap_setCell_other _ ⟨b, i + 1, none⟩ k _ hne, heap_setCell_other _ ⟨b, i, none⟩ k _ hne]⟩
theorem Kp.own (w : World) (g mb : Nat) (o : Option Nat) (i : Nat) (u : Value) : Kp w (w.setCell ⟨g, i, none⟩ u) g mb o :=
  ⟨rfl, rfl, rfl, by simp [World.setCell], fun k _ h1 _ _ => heap_setCell_other _ ⟨g, i, none⟩ k _ h1⟩
theorem Blk.kp {j : Nat} {cs : Array Value} {t : TypeId} (h : Blk w j cs t) (k : Kp w w' g mb o) (h1 : j ≠ g) (h2 : j ≠ mb) (h3 : o ≠ some j) : Blk w' j cs t := (k.block j h.lt h1 h2 h3).trans h
end

/-- timers in block g, whose map is in block mb, and whose row is in block b -/
structure Hq (w : World) (g mb : Nat) (now : Int) (b n c : Nat) (h : Nat → Du) (N : Nat) (f : Int → Option Nat) : Prop where
  blk : Blk w g #[.int .i64 now, .slice (some ⟨b, 0, none⟩) n c, .map (some mb)] 50
  row : RowAt w b n c h
  map : OwnsF w mb N f
  ne : b ≠ g
  cap : c ≤ maxLen
  ids : ∀ i, i < n → Fit (h i).id
  len : n ≤ 1000
section
variable {w : World} {g mb : Nat} {now : Int} {b n c : Nat} {h : Nat → Du} {N : Nat} {f : Int → Option Nat}
theorem Hq.lt (H : Hq w g mb now b n c h N f) : g < w.heap.size := H.blk.lt
theorem Hq.gm (H : Hq w g mb now b n c h N f) : g ≠ mb := H.map.ne H.blk
theorem Hq.bm (H : Hq w g mb now b n c h N f) : b ≠ mb := by
  obtain ⟨cur, r, _⟩ := H.row
  exact H.map.ne r
theorem Hq.same {w' : World} (H : Hq w g mb now b n c h N f) (h1 : w'.heap[g]? = w.heap[g]?) (h2 : w'.heap[b]? = w.heap[b]?) (h3 : w'.heap[mb]? = w.heap[mb]?) : Hq w' g mb now b n c h N f :=
  ⟨h1.trans H.blk, H.row.same h2, H.map.same h3, H.ne, H.cap, H.ids, H.len⟩
theorem Hq.bel {w' : World} (H : Hq w g mb now b n c h N f) (hb : Below w.heap.size w w') : Hq w' g mb now b n c h N f :=
  H.same (hb.block g H.lt) (hb.block b H.row.lt) (hb.block mb H.map.lt)
theorem Hq.c0 (H : Hq w g mb now b n c h N f) : w.cell? ⟨g, 0, none⟩ = some (.int .i64 now) := H.blk.cell 0
theorem Hq.c1 (H : Hq w g mb now b n c h N f) : w.cell? ⟨g, 1, none⟩ = some (.slice (some ⟨b, 0, none⟩) n c) := H.blk.cell 1
theorem Hq.c2 (H : Hq w g mb now b n c h N f) : w.cell? ⟨g, 2, none⟩ = some (.map (some mb)) := H.blk.cell 2
theorem Hq.put (H : Hq w g mb now b n c h N f) {p : Nat} (hp : p < n) {d : Du} (hd : Fit d.id) : Hq (w.setCells b (p * 2) (duC d).toList) g mb now b n c (upd h p d) N f := by
  have k := Kp.cells w g mb b (p * 2) d
  have e : ∀ j, j ≠ b → (w.setCells b (p * 2) (duC d).toList).heap[j]? = w.heap[j]? := fun j hne => by
    show ((w.setCell ⟨b, p * 2, none⟩ _).setCell ⟨b, p * 2 + 1, none⟩ _).heap[j]? = _
    rw [heap_setCell_other _ ⟨b, p * 2 + 1, none⟩ j _ hne, heap_setCell_other _ ⟨b, p * 2, none⟩ j _ hne]
  refine ⟨(e g (Ne.symm H.ne)).trans H.blk, H.row.put hp d, H.map.same (e mb (Ne.symm H.bm)), H.ne, H.cap, fun i hi => ?_, H.len⟩
  by_cases ei : i = p
  · subst ei; rw [upd_at]; exact hd
  · rw [upd_ne ei]; exact H.ids i hi
theorem Hq.mapped (H : Hq w g mb now b n c h N f) {w' : World} {N' : Nat} {f' : Int → Option Nat} (hg : w.grownBy w' (some mb)) (hm : OwnsF w' mb N' f') : Hq w' g mb now b n c h N' f' :=
  ⟨(hg.block g H.lt (fun e => H.gm (Option.some.inj e))).trans H.blk, H.row.same (hg.block b H.row.lt (fun e => H.bm (Option.some.inj e))), hm, H.ne, H.cap, H.ids, H.len⟩
theorem Hq.ext {f' : Int → Option Nat} (H : Hq w g mb now b n c h N f) (e : ∀ k, f' k = f k) : Hq w g mb now b n c h N f' := by
  obtain rfl : f' = f := funext e
  exact H
end
end Go.Proofs.Ytboojbgcleknlaa
