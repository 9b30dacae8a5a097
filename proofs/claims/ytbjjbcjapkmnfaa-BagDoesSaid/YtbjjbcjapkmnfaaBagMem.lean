/- A bag's map in memory: messages by their numbers. -/
import Derived.Test.YtbjjbcjapkmnfaaBagNum
import Derived.Test.YtbjjbcjapkmnfaaQRow
import Derived.Test.YtbjjbcjapkmnfaaOwn
import Derived.Maps.OwnSet
import Derived.Lib.Hide
namespace Go.Proofs.Ytbjjbcjapkmnfaa
open Go Go.RowKit Go.Maps

/-- the cells of a message -/
def mlC (m : Ml) : Array Value := #[.int .i64 m.fr, .int .i64 m.to, .string m.bd]
/-- no message -/
def mlZ : Ml := ⟨0, 0, ⟨#[]⟩⟩
def mlD (m : Ml) : DataW Unit := .agg [.lit (.int .i64 m.fr), .lit (.int .i64 m.to), .lit (.string m.bd.data.toList)]
def mlR : Value → Option (DataW Unit × List MemPlace)
  | .agg ⟨[.int .i64 a, .int .i64 b, .string s]⟩ => some (mlD ⟨a, b, s⟩, [])
  | _ => none
theorem mlR_mk (m : Ml) : mlR (.agg (mlC m)) = some (mlD m, []) := rfl
theorem mlR_inv {v : Value} {m : Ml} {ps : List MemPlace} (h : mlR v = some (mlD m, ps)) : v = .agg (mlC m) := by
  unfold mlR at h
  split at h
  · rename_i a b s
    simp only [mlD, Option.some.injEq, Prod.mk.injEq, DataW.agg.injEq, List.cons.injEq, DataW.lit.injEq, Lit.int.injEq, Lit.string.injEq, true_and, and_true] at h
    obtain ⟨⟨h1, h2, h3⟩, _⟩ := h
    obtain ⟨a', b', s'⟩ := m
    simp only at h1 h2 h3
    obtain rfl := h1
    obtain rfl := h2
    obtain rfl : s = s' := by apply ByteArray.ext; apply Array.ext'; exact h3
    rfl
  · cases h
theorem mlC_one (m : Ml) : (mlC m).all (·.oneCell') = true := by simp [mlC, Value.oneCell']
theorem sizeM : (Try.prog.info? 33).map (·.size) = some 3 := by kernel_rfl
theorem infoM : (Try.prog.info? 33).map (fun i => (i.zero, i.size, i.bytes)) = some (some (.agg #[.int .i64 0, .int .i64 0, .string ⟨#[]⟩]), 3, 32) := by kernel_rfl
theorem zeroM (w : World) : (zeroValue 33).run Try.prog w = .ok (.agg (mlC mlZ)) w := by kernel_rfl
theorem lawI : Keyed Try.prog 3 := int_keyed Try.underlying3
theorem wfN {n : Nat} (h : n < 9223372036854775808) : (Lit.int .i64 (n : Int)).wf = true := WalkArith.wf_i64 (by omega)
theorem keyN {n : Nat} (h : n < 9223372036854775808) : keyOf Try.prog 3 (.int .i64 (n : Int)) = some (.int .i64 (n : Int)) := keyOf_int_mk Try.underlying3 (wfN h)
theorem litN (n : Nat) : WideAt.IsKeyLit (.int .i64 (n : Int)) := trivial
theorem lit_ne {a b : Nat} (h : a ≠ b) : (Lit.int .i64 (a : Int)) ≠ .int .i64 (b : Int) := fun e => h (by injection e; omega)

theorem own_tight {P : Program} {k : TypeId} {R : Value → Option (DataW Unit × List MemPlace)} {w : World} {b n : Nat} {D : DataW Unit} (h : w.ownsMap P k R b n D) : w.ownsMap P k R b (Maps.size D) D := by
  obtain ⟨es, clock, hb, F, hs, rfl⟩ := h
  exact ⟨es, clock, hb, F, Nat.le_of_eq (by simp [Maps.size, length_sorted]), rfl⟩

/-- block mb is a map that has just the messages of the row, by their numbers -/
def OwnsL (w : World) (mb : Nat) (L : List (Option Ml)) : Prop := ∃ D : DataW Unit, w.ownsMap Try.prog 3 mlR mb (Maps.size D) D ∧ Maps.size D = (msgs L).length ∧
  ∀ n : Nat, n < 9223372036854775808 → Maps.has D (.int .i64 (n : Int)) = (L[n]?.join).isSome ∧ ∀ m, L[n]? = some (some m) → ∀ zd, D.atKey (.int .i64 (n : Int)) zd = mlD m
variable {w : World} {mb : Nat} {L : List (Option Ml)}
theorem OwnsL.lt (h : OwnsL w mb L) : mb < w.heap.size := by
  obtain ⟨D, h, _⟩ := h
  exact h.lt
theorem OwnsL.kept {w' : World} {row : Option Nat} (h : OwnsL w mb L) (hg : w.grownBy w' row) (hne : some mb ≠ row) : OwnsL w' mb L := by
  obtain ⟨D, h, r⟩ := h
  exact ⟨D, h.kept hg hne, r⟩
theorem OwnsL.same {w' : World} (h : OwnsL w mb L) (hb : w'.heap[mb]? = w.heap[mb]?) : OwnsL w' mb L := by
  obtain ⟨D, ⟨es, clock, h1, h2⟩, r⟩ := h
  exact ⟨D, ⟨es, clock, hb.trans h1, h2⟩, r⟩
theorem OwnsL.bel {w' : World} {B : Nat} (h : OwnsL w mb L) (hb : Below B w w') (hm : mb < B) : OwnsL w' mb L := h.same (hb.block mb hm)
theorem OwnsL.alloc (h : OwnsL w mb L) (o : Obj) : OwnsL (w.alloc o) mb L := h.kept (World.grownBy_alloc w o none) (by simp)
theorem OwnsL.ne {g : Nat} {cs : Array Value} {t : TypeId} (h : OwnsL w mb L) (hg : Blk w g cs t) : g ≠ mb := by
  rintro rfl
  obtain ⟨D, ⟨es, clock, h1, _⟩, _⟩ := h
  unfold Blk at hg
  rw [hg] at h1
  cases h1
theorem OwnsL.made (w : World) : OwnsL (w.alloc (.map #[] 0)) w.heap.size [] :=
  ⟨.map [], World.ownsMap_made w _ _ _, rfl, fun n _ => ⟨by simp [Maps.has], fun m hm => by simp at hm⟩⟩
theorem OwnsL.look (h : OwnsL w mb L) {n : Nat} {m : Ml} (hx : L[n]? = some (some m)) (hn : n < 9223372036854775808) : (Instr.lookup 52 (.map (some mb)) (.int .i64 (n : Int)) false).run Try.prog w = .ok (.agg (mlC m)) w := by
  obtain ⟨D, h, _, r⟩ := h
  obtain ⟨v, ps, hrun, hv⟩ := h.lookup lawI Try.underlying52 (zeroM w) (mlR_mk mlZ) (keyN hn)
  rw [(r n hn).2 m hx] at hv
  rw [hrun, mlR_inv hv]
theorem OwnsL.has_yes (h : OwnsL w mb L) {n : Nat} {m : Ml} (hx : L[n]? = some (some m)) (hn : n < 9223372036854775808) : (Instr.lookup 52 (.map (some mb)) (.int .i64 (n : Int)) true).run Try.prog w = .ok (.tuple #[.agg (mlC m), .bool true]) w := by
  obtain ⟨D, h, _, r⟩ := h
  obtain ⟨v, ps, hrun, hv⟩ := h.look_ok lawI Try.underlying52 (zeroM w) (mlR_mk mlZ) (keyN hn)
  rw [(r n hn).2 m hx] at hv
  have e : Maps.has D (.int .i64 (n : Int)) = true := by rw [(r n hn).1, hx]; rfl
  rw [hrun, mlR_inv hv, e]
theorem OwnsL.has_no (h : OwnsL w mb L) {n : Nat} (hx : L[n]? = some none) (hn : n < 9223372036854775808) : (Instr.lookup 52 (.map (some mb)) (.int .i64 (n : Int)) true).run Try.prog w = .ok (.tuple #[.agg (mlC mlZ), .bool false]) w := by
  obtain ⟨D, h, _, r⟩ := h
  obtain ⟨v, ps, hrun, hv⟩ := h.look_ok lawI Try.underlying52 (zeroM w) (mlR_mk mlZ) (keyN hn)
  have e : Maps.has D (.int .i64 (n : Int)) = false := by rw [(r n hn).1, hx]; rfl
  rw [atKey_of_not_has e] at hv
  rw [hrun, mlR_inv hv, e]
theorem OwnsL.len (h : OwnsL w mb L) (ty : TypeId) : (Builtin.len_ #[52] ty #[.map (some mb)]).run Try.prog w = .ok (.int .i64 ((msgs L).length : Nat)) w := by
  obtain ⟨D, h, hs, _⟩ := h
  rw [h.len Try.underlying52 ty, hs]
theorem OwnsL.store (h : OwnsL w mb L) (m : Ml) (hl : L.length ≤ 1000000) : ∃ w', (Instr.mapUpdate 52 (.map (some mb)) (.int .i64 (L.length : Nat)) (.agg (mlC m))).run Try.prog w = .ok () w' ∧ OwnsL w' mb (L ++ [some m]) ∧ w.grownBy w' (some mb) := by
  obtain ⟨D, h, hs, r⟩ := h
  have hT := h.tidy lawI
  obtain ⟨w', hrun, h1, h2⟩ := h.update lawI Try.underlying52 (by have := msgs_le L; unfold maxLen; omega) (keyN (n := L.length) (by omega)) (mlR_mk m)
  have e0 : Maps.has D (.int .i64 (L.length : Int)) = false := by rw [(r L.length (by omega)).1]; simp
  refine ⟨w', hrun, ⟨_, own_tight h1, ?_, fun n hn => ?_⟩, h2⟩
  · rw [size_put hT, if_neg (by rw [e0]; simp), hs, msgs_append]
    simp [msgs]
  · by_cases hne : n = L.length
    · subst hne
      refine ⟨?_, fun m' hm' zd => ?_⟩
      · rw [has_put_same hT.isMap (litN _)]
        simp
      · obtain rfl : m = m' := by simpa using hm'
        exact atKey_put_same hT.isMap (litN _) _ _
    · have e1 : (L ++ [some m])[n]? = L[n]? := by
        rcases Nat.lt_or_ge n L.length with h | h
        · exact List.getElem?_append_left h
        · rw [List.getElem?_append_right h, List.getElem?_eq_none h, List.getElem?_eq_none (by simp; omega)]
      rw [e1, has_put_other (lit_ne hne)]
      refine ⟨(r n hn).1, fun m' hm' zd => ?_⟩
      rw [atKey_put_other (lit_ne hne)]
      exact (r n hn).2 m' hm' zd
theorem OwnsL.drop (h : OwnsL w mb L) {n : Nat} {m : Ml} (hx : L[n]? = some (some m)) (hn : n < 9223372036854775808) (ty : TypeId) : ∃ w', (Builtin.delete_ #[52, 3] ty #[.map (some mb), .int .i64 (n : Int)]).run Try.prog w = .ok (.tuple #[]) w' ∧ OwnsL w' mb (L.set n none) ∧ w.grownBy w' (some mb) := by
  obtain ⟨D, h, hs, r⟩ := h
  have hT := h.tidy lawI
  obtain ⟨hlt, _⟩ := List.getElem?_eq_some_iff.1 hx
  obtain ⟨w', hrun, h1, h2⟩ := h.drop lawI Try.underlying52 (keyN hn) ty
  have e0 : Maps.has D (.int .i64 (n : Int)) = true := by rw [(r n hn).1, hx]; rfl
  refine ⟨w', hrun, ⟨_, own_tight h1, ?_, fun j hj => ?_⟩, h2.grown⟩
  · have h3 := size_del (k := .int .i64 (n : Int)) hT
    rw [if_pos e0] at h3
    have h4 := msgs_set_length hx
    omega
  · by_cases hne : j = n
    · subst hne
      refine ⟨?_, fun m' hm' zd => ?_⟩
      · rw [has_del_same, List.getElem?_set_self hlt]
        rfl
      · rw [List.getElem?_set_self hlt] at hm'
        cases hm'
    · rw [List.getElem?_set_ne (fun e => hne e.symm), has_del_other (lit_ne hne)]
      refine ⟨(r j hj).1, fun m' hm' zd => ?_⟩
      rw [atKey_del_other (lit_ne hne)]
      exact (r j hj).2 m' hm' zd

/-- the cells of a bag -/
def bagC (M n mb : Nat) : Array Value := #[.int .i64 (M : Int), .int .i64 (n : Int), .map (some mb)]
/-- a bag in block g, whose map is in block mb -/
structure Bg (w : World) (g mb M : Nat) (L : List (Option Ml)) : Prop where
  blk : Blk w g (bagC M L.length mb) 54
  own : OwnsL w mb L
  len : L.length ≤ 1000000
variable {g M : Nat}
theorem Bg.lt (h : Bg w g mb M L) : g < w.heap.size := h.blk.lt
theorem Bg.ne (h : Bg w g mb M L) : g ≠ mb := h.own.ne h.blk
theorem Bg.bel {w' : World} {B : Nat} (h : Bg w g mb M L) (hb : Below B w w') (h1 : g < B) (h2 : mb < B) : Bg w' g mb M L := ⟨h.blk.below hb h1, h.own.bel hb h2, h.len⟩
theorem Bg.below {w' : World} (h : Bg w g mb M L) (hb : Below w.heap.size w w') : Bg w' g mb M L := h.bel hb h.lt h.own.lt
theorem Bg.kept {w' : World} {row : Option Nat} (h : Bg w g mb M L) (hg : w.grownBy w' row) (h1 : some g ≠ row) (h2 : some mb ≠ row) : Bg w' g mb M L := ⟨(hg.block g h.lt h1).trans h.blk, h.own.kept hg h2, h.len⟩
theorem Bg.c0 (h : Bg w g mb M L) : w.cell? ⟨g, 0, none⟩ = some (.int .i64 (M : Int)) := h.blk.cell 0
theorem Bg.c1 (h : Bg w g mb M L) : w.cell? ⟨g, 1, none⟩ = some (.int .i64 (L.length : Int)) := h.blk.cell 1
theorem Bg.c2 (h : Bg w g mb M L) : w.cell? ⟨g, 2, none⟩ = some (.map (some mb)) := h.blk.cell 2
end Go.Proofs.Ytbjjbcjapkmnfaa
