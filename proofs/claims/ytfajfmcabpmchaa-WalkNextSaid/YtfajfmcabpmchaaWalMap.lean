/- A map by numbers in memory, whatever its elements are. -/
import Derived.Test.YtfajfmcabpmchaaCirMem
import Derived.Maps.OwnSet
namespace Go.Proofs.Ytfajfmcabpmchaa
open Go Go.RowKit Go.Maps
open Go.ChangeMaps (setBlock)

theorem lawI : Keyed Try.prog 3 := int_keyed Try.underlying3
/-- a number fits -/
def Fit (k : Int) : Prop := (Lit.int .i64 k).wf = true
theorem fit_of {k : Int} (h : -9223372036854775808 ≤ k ∧ k ≤ 9223372036854775807) : Fit k := WalkArith.wf_i64 h
theorem keyI {k : Int} (h : Fit k) : keyOf Try.prog 3 (.int .i64 k) = some (.int .i64 k) := keyOf_int_mk Try.underlying3 h
theorem litI (k : Int) : WideAt.IsKeyLit (.int .i64 k) := trivial
theorem litI_ne {a b : Int} (h : a ≠ b) : (Lit.int .i64 a) ≠ .int .i64 b := fun e => h (by injection e)
/-- how an element reads: as it is -/
def hdR (v : Value) : Option (DataW Value × List MemPlace) := some (.held v, [])
theorem hdR_mk (v : Value) : hdR v = some (.held v, []) := rfl
theorem hdR_inv {v u : Value} {ps : List MemPlace} (h : hdR v = some (.held u, ps)) : v = u := by
  unfold hdR at h
  simp only [Option.some.injEq, Prod.mk.injEq, DataW.held.injEq] at h
  exact h.1
theorem hd_tight {w : World} {b n : Nat} {D : DataW Value} (h : w.ownsMap Try.prog 3 hdR b n D) : w.ownsMap Try.prog 3 hdR b (Maps.size D) D := by
  obtain ⟨es, clock, hb, F, hs, rfl⟩ := h
  exact ⟨es, clock, hb, F, Nat.le_of_eq (by simp [Maps.size, length_sorted]), rfl⟩
/-- what a map tells, when one more is put -/
def putV (f : Int → Option Value) (k : Int) (v : Value) (j : Int) : Option Value := if j = k then some v else f j
/-- block mb is a map of N numbers, which tells the values f -/
def OwnsV (w : World) (mb N : Nat) (f : Int → Option Value) : Prop := ∃ D : DataW Value, w.ownsMap Try.prog 3 hdR mb (Maps.size D) D ∧ Maps.size D = N ∧
  ∀ k : Int, Fit k → Maps.has D (.int .i64 k) = (f k).isSome ∧ ∀ p : Value, f k = some p → ∀ zd, D.atKey (.int .i64 k) zd = .held p
section
variable {w : World} {mb N : Nat} {f : Int → Option Value}
theorem OwnsV.lt (h : OwnsV w mb N f) : mb < w.heap.size := by
  obtain ⟨D, h, _⟩ := h
  exact h.lt
theorem OwnsV.kept {w' : World} {row : Option Nat} (h : OwnsV w mb N f) (hg : w.grownBy w' row) (hne : some mb ≠ row) : OwnsV w' mb N f := by
  obtain ⟨D, h, r⟩ := h
  exact ⟨D, h.kept hg hne, r⟩
theorem OwnsV.same {w' : World} (h : OwnsV w mb N f) (hb : w'.heap[mb]? = w.heap[mb]?) : OwnsV w' mb N f := by
  obtain ⟨D, ⟨es, clock, h1, h2⟩, r⟩ := h
  exact ⟨D, ⟨es, clock, hb.trans h1, h2⟩, r⟩
theorem OwnsV.bel {w' : World} (h : OwnsV w mb N f) (hb : Below w.heap.size w w') : OwnsV w' mb N f := h.same (hb.block mb h.lt)
theorem OwnsV.alloc (h : OwnsV w mb N f) (o : Obj) : OwnsV (w.alloc o) mb N f := h.kept (World.grownBy_alloc w o none) (by simp)
theorem OwnsV.ne {g : Nat} {cs : Array Value} {t : TypeId} (h : OwnsV w mb N f) (hg : Blk w g cs t) : g ≠ mb := by
  rintro rfl
  obtain ⟨D, ⟨es, clock, h1, _⟩, _⟩ := h
  unfold Blk at hg
  rw [hg] at h1
  cases h1
theorem OwnsV.row (h : OwnsV w mb N f) {g : Nat} (hne : mb ≠ g) (cs : Array Value) : OwnsV (w.setRow g cs) mb N f := h.same (Go.setRow_other _ _ _ _ hne)
theorem OwnsV.made (w : World) : OwnsV (w.alloc (.map #[] 0)) w.heap.size 0 (fun _ => none) :=
  ⟨.map [], World.ownsMap_made w _ _ _, rfl, fun k _ => ⟨by simp [Maps.has], fun p hp => by simp at hp⟩⟩
theorem OwnsV.ext {f' : Int → Option Value} (h : OwnsV w mb N f) (e : ∀ k, f' k = f k) : OwnsV w mb N f' := by
  obtain rfl : f' = f := funext e
  exact h
theorem OwnsV.look (h : OwnsV w mb N f) {T E : TypeId} (hT : Try.prog.underlying T = some (.map 3 E)) {z : Value} (hz : (zeroValue E).run Try.prog w = .ok z w) {k : Int} (hk : Fit k) :
    (Instr.lookup T (.map (some mb)) (.int .i64 k) true).run Try.prog w = .ok (.tuple #[(f k).getD z, .bool (f k).isSome]) w := by
  obtain ⟨D, h, _, r⟩ := h
  obtain ⟨v, ps, hrun, hv⟩ := h.look_ok lawI hT hz (hdR_mk z) (keyI hk)
  rw [hrun, (r k hk).1]
  cases hf : f k with
  | some p =>
    rw [(r k hk).2 p hf] at hv
    rw [hdR_inv hv]; rfl
  | none =>
    have e : Maps.has D (.int .i64 k) = false := by rw [(r k hk).1, hf]; rfl
    rw [atKey_of_not_has e] at hv
    rw [hdR_inv hv]; rfl
theorem OwnsV.store (h : OwnsV w mb N f) {T E : TypeId} (hT : Try.prog.underlying T = some (.map 3 E)) {k : Int} (hk : Fit k) (v : Value) (hN : N ≤ 1000000) :
    ∃ w', (Instr.mapUpdate T (.map (some mb)) (.int .i64 k) v).run Try.prog w = .ok () w' ∧ OwnsV w' mb (if (f k).isSome then N else N + 1) (putV f k v) ∧ w.grownBy w' (some mb) := by
  obtain ⟨D, h, hs, r⟩ := h
  have hT' := h.tidy lawI
  obtain ⟨w', hrun, h1, h2⟩ := h.update lawI hT (by unfold maxLen; omega) (keyI hk) (hdR_mk v)
  refine ⟨w', hrun, ⟨_, hd_tight h1, ?_, fun j hj => ?_⟩, h2⟩
  · rw [size_put hT', (r k hk).1, hs]
  · unfold putV
    by_cases hne : j = k
    · subst hne
      rw [if_pos rfl, has_put_same hT'.isMap (litI _)]
      exact ⟨rfl, fun q hq zd => by rw [atKey_put_same hT'.isMap (litI _)]; rw [Option.some.inj hq]⟩
    · rw [if_neg hne, has_put_other (litI_ne hne)]
      refine ⟨(r j hj).1, fun q hq zd => ?_⟩
      rw [atKey_put_other (litI_ne hne)]
      exact (r j hj).2 q hq zd
end
theorem look_none {T E : TypeId} (w : World) (hT : Try.prog.underlying T = some (.map 3 E)) {z : Value} (hz : (zeroValue E).run Try.prog w = .ok z w) {k : Int} (hk : Fit k) :
    (Instr.lookup T (.map none) (.int .i64 k) true).run Try.prog w = .ok (.tuple #[z, .bool false]) w := Maps.look_nil true lawI hT hz (keyI hk)
end Go.Proofs.Ytfajfmcabpmchaa
