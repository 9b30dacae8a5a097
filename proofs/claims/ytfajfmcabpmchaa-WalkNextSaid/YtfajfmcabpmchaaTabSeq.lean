/- A range over the peers of several rows: what a round owes, and what is known behind all of them. -/
import Derived.Test.YtfajfmcabpmchaaTabFind
import Derived.RangeFuncNested
import Derived.RangeFuncBound
import Derived.RangeFuncCalls
import Derived.RangeFuncLeaves
import Derived.Shelf.Abstract
import Derived.Shelf.RegionOpen
import Derived.WalkKit
import Derived.OwnWalkIn
import Derived.TacticsInMore
import Derived.LoopNIn
import Derived.LoopIn
import Derived.CallsIn
import Derived.OrdersIn
import Derived.TacticsIn
import Derived.Lib.QuietBelow
namespace Go.Proofs.Ytfajfmcabpmchaa
set_option maxRecDepth 100000
open Go Go.RowKit Go.Shelf Go.Sort
attribute [local go_sem] Oper.semAt_some
variable {F : Fence} {n : Nat}

/-- how a round ends: it goes on, or it leaves by a return -/
def rnd (B : Nat) (I : Nat → World → Prop) (Ix : World → Prop) (k : Nat) (W : World) : Exit → Act → World → Prop
  | .normal, _, W' => KeepsFrom B W W' ∧ I k W'
  | .ret, _, W' => KeepsFrom B W W' ∧ Ix W'
  | _, _, _ => False

/-- an iterator that hands over each peer, whatever the rounds make of the world, so long as they keep what it reads -/
def Goes (F : Fence) (n : Nat) (lb : Array Value) (L : List Pe) (Rr : World → Prop) : Prop :=
  ∀ (l : Nat) (J : Nat → World → Prop) (Jx : World → Prop) (W : World), (∀ k W1 W2, J k W1 → W1.grownBy W2 none → J k W2) → (∀ k W1, J k W1 → Rr W1) →
    (∀ k x W1, L[k]? = some x → J k W1 → YieldAt F (n - 1) Try.prog l #[.agg (peA x)] W1 fun e W2 => (e = .returned (.bool true) ∧ J (k + 1) W2) ∨ (e = .returned (.bool false) ∧ Jx W2)) →
    J 0 W → CallsIn F n Try.prog 73 (#[.func (.yield l) #[] #[]] ++ lb) W fun e W2 => (∃ v, e = .returned v) ∧ (J L.length W2 ∨ Jx W2)

/-- the statement that ranges over such an iterator -/
theorem range_in {g : Operand} {pt : Tmp} {assign body : Code} {Q : Exit → Act → World → Prop} {a : Act} {w : World} (hro : F.round = none) (h1 : 1 ≤ n) {lb : Array Value}
    (hg : a.eval g = .func (.func 73) #[] lb) (hF : F.fn 73) (L : List Pe) (Rr : World → Prop) (hseq : Goes F (n - 1) lb L Rr)
    (I : Nat → World → Prop) (Ix : World → Prop) (hI : OwnFrom w.heap.size I) (hIx : OwnFrom w.heap.size (fun (_ : Unit) => Ix)) (hR : ∀ k W, I k W → Rr W) (h0 : I 0 w) (a₁ : Pe → Nat → Act)
    (hassign : ∀ (l q : Nat) (x : Pe) (W : World) (K : Act → World → Prop), W.heap.size = q → K (a₁ x q) (W.alloc (.cells (peA x) 28)) → assign.wpIn (F.inRound l) (n - 1 - 1) Try.prog (Exit.then K (fun _ _ _ => False)) { tmps := a.tmps.setIfInBounds pt (.agg (peA x)), defers := [] } W)
    (hbody : ∀ (l k q : Nat) (x : Pe) (W : World), L[k]? = some x → PB W q x → w.heap.size + 2 ≤ q → I k W → body.wpIn (F.inRound l) (n - 1 - 1) Try.prog (rnd w.heap.size I Ix (k + 1) W) (a₁ x q) W)
    (hdone : ∀ (D : Nat) (W : World), w.heap.size ≤ D → I L.length W → W.heap[D]? = some (.deferred (some [])) → Q .normal { a with defers := { target := .collected D, args := #[] } :: a.defers } W)
    (hstop : ∀ (D : Nat) (W : World), w.heap.size ≤ D → Ix W → W.heap[D]? = some (.deferred (some [])) → Code.ret.wpIn F n Try.prog Q { a with defers := { target := .collected D, args := #[] } :: a.defers } W) :
    (Code.rangeFunc g #[pt] assign body).wpIn F n Try.prog Q a w := by
  refine wpIn_rangeFunc fun fn hfn => ?_
  rw [hro]
  -- the loop's record stands in block B + 1, the rounds' deferred calls (none) in block B
  generalize hB : w.heap.size = B at *
  have rec0 : ∃ rc : LoopState → Option Code → Obj, ∀ st pe, rc st pe = .loop { state := st, pending := pe, fn, tmps := a.tmps, params := #[pt], assign, body, defers := B } := ⟨_, fun _ _ => rfl⟩
  obtain ⟨rc, hrc⟩ := rec0
  let Book (st : LoopState) (pe : Option Code) (W : World) : Prop := W.heap[B + 1]? = some (rc st pe) ∧ W.heap[B]? = some (.deferred (some []))
  have hcell : ∀ st pe, (rc st pe).isCells = false := fun st pe => by rw [hrc]; rfl
  have book_new : ∀ st pe (W1 W2 : World), Book st pe W1 → W1.grownBy W2 none → Book st pe W2 := fun st pe W1 W2 h hg =>
    ⟨(hg.block _ (Array.getElem?_eq_some_iff.1 h.1).1 (by simp)).trans h.1, (hg.block _ (Array.getElem?_eq_some_iff.1 h.2).1 (by simp)).trans h.2⟩
  have book_put : ∀ st pe st' pe' (W : World), Book st pe W → Book st' pe' (W.putObj (B + 1) (rc st' pe')) := fun st pe st' pe' W h =>
    ⟨World.putObj_heap_same (Array.getElem?_eq_some_iff.1 h.1).1, (World.putObj_heap_other (by omega)).trans h.2⟩
  have book_keep : ∀ st pe (W1 W2 : World), Book st pe W1 → KeepsFrom B W1 W2 → Book st pe W2 := fun st pe W1 W2 h hk =>
    ⟨hk.same _ _ (by omega) h.1 (hcell _ _), hk.same _ _ (Nat.le_refl _) h.2 rfl⟩
  have I_put : ∀ k st pe (o : Obj) (W : World), Book st pe W → I k W → I k (W.putObj (B + 1) o) := fun k st pe o W h hi => hI.putObj o hi (by omega) h.1 (hcell _ _)
  have Ix_put : ∀ st pe (o : Obj) (W : World), Book st pe W → Ix W → Ix (W.putObj (B + 1) o) := fun st pe o W h hi => hIx.putObj (s := ()) o hi (by omega) h.1 (hcell _ _)
  -- the world in which the iterator is called
  obtain ⟨W1, hW1⟩ : ∃ W1, (w.alloc (.deferred (some []))).alloc (rc .ready none) = W1 := ⟨_, rfl⟩
  have hbk1 : Book .ready none W1 := by
    rw [← hW1]
    constructor
    · have := World.alloc_heap_new (w.alloc (.deferred (some []))) (rc .ready none)
      rwa [World.size_alloc, hB] at this
    · have := World.alloc_heap_new w (.deferred (some []))
      rw [hB] at this
      exact (Below.heap_alloc _ _ _ (by rw [World.size_alloc, hB]; omega)).trans this
  have hi1 : I 0 W1 := by rw [← hW1]; exact hI.alloc _ (hI.alloc _ h0)
  refine ⟨B + 1, [{ target := .collected B, args := #[] }], W1, { target := .fn (.func 73) lb, args := #[.func (.yield (B + 1)) #[] #[]] }, W1, 73, #[.func (.yield (B + 1)) #[] #[]] ++ lb, W1, ?_, ?_, ?_, ?_, fun _ => h1, ?_⟩
  · have := run_enterLoop_outer (P := Try.prog) (w := w) fn a.tmps #[pt] assign body
    rw [hB] at this
    rw [this, ← hW1, hrc]
  · simp only [resolve, hg]
    simp [go_sem]
  · intro f hf
    simp [Target.leads] at hf
    subst hf
    exact hF
  · simp [invoke, go_sem]
  · refine (hseq (B + 1) (fun k W => I k W ∧ Book .ready none W) (fun W => Ix W ∧ Book .done (some .ret) W) W1
      (fun k X Y h hg' => ⟨hI k X Y none h.1 hg' (fun r e => by cases e), book_new _ _ _ _ h.2 hg'⟩) (fun k X h => hR k X h.1) ?_ ⟨hi1, hbk1⟩).mono ?_
    · rintro k x W hx ⟨hi, hbk⟩
      have hl := hbk.1
      rw [hrc] at hl
      have hbk2 : Book .ready none (W.alloc (.cells (peA x) 28)) := ⟨(Below.heap_alloc W _ _ (Array.getElem?_eq_some_iff.1 hbk.1).1).trans hbk.1, (Below.heap_alloc W _ _ (Array.getElem?_eq_some_iff.1 hbk.2).1).trans hbk.2⟩
      have hl2 := hbk2.1
      rw [hrc] at hl2
      have hy : (Instr.yield (B + 1) #[.agg (peA x)]).run Try.prog W = .ok (.round (B + 1) fn (a.tmps.setIfInBounds pt (.agg (peA x))) assign body) W := by have h := run_yield (P := Try.prog) (args := #[.agg (peA x)]) hl rfl; simpa using h
      refine ⟨fn, a.tmps.setIfInBounds pt (.agg (peA x)), assign, body, hy, roundIn_of_wpIn hfn (hassign (B + 1) W.heap.size x W _ rfl ⟨_, run_beginRound hl2 rfl, ?_⟩)⟩
      have e1 := hrc .busy none
      rw [← e1]
      have hbusy : Book .busy none ((W.alloc (.cells (peA x) 28)).putObj (B + 1) (rc .busy none)) := book_put _ _ _ _ _ hbk2
      have hlt : B + 1 < W.heap.size := (Array.getElem?_eq_some_iff.1 hbk.1).1
      have hpb : PB ((W.alloc (.cells (peA x) 28)).putObj (B + 1) (rc .busy none)) W.heap.size x := (World.putObj_heap_other (by omega)).trans (PB.new W x)
      refine wpIn_mono (hbody (B + 1) k W.heap.size x _ hx hpb (by omega) (I_put _ _ _ _ _ hbk2 (hI.alloc _ hi))) ?_
      rintro e a3 W3 hp
      cases e with
      | normal =>
        have hb3 := book_keep _ _ _ _ hbusy hp.1
        have hl3 := hb3.1
        rw [hrc] at hl3
        refine ⟨_, _, run_endRound none hl3, .inl ⟨rfl, ?_⟩⟩
        have e2 := hrc .ready none
        simp only [Option.isNone_none, if_true]
        rw [← e2]
        exact ⟨I_put _ _ _ _ W3 hb3 hp.2, book_put _ _ _ _ W3 hb3⟩
      | ret =>
        have hb3 := book_keep _ _ _ _ hbusy hp.1
        have hl3 := hb3.1
        rw [hrc] at hl3
        refine ⟨_, _, run_endRound (some .ret) hl3, .inr ⟨rfl, ?_⟩⟩
        have e2 := hrc .done (some .ret)
        simp only [Option.isNone_some, Bool.false_eq_true, if_false]
        rw [← e2]
        exact ⟨Ix_put _ _ _ W3 hb3 hp.2, book_put _ _ _ _ W3 hb3⟩
      | exit id => exact hp.elim
      | goto t => exact hp.elim
      | panic ch => exact hp.elim
      | outgrown => exact hp.elim
    · rintro e W2 ⟨⟨v, rfl⟩, ⟨hi, hbk⟩ | ⟨hi, hbk⟩⟩
      · have hl := hbk.1
        rw [hrc] at hl
        have hend := run_endLoop (P := Try.prog) hl (by simp)
        rw [← hrc .exhausted none] at hend
        exact ⟨none, _, hend, hdone B _ (Nat.le_refl _) (I_put _ _ _ _ W2 hbk hi) (book_put _ _ .exhausted none W2 hbk).2⟩
      · have hl := hbk.1
        rw [hrc] at hl
        have hend := run_endLoop (P := Try.prog) hl (by simp)
        rw [← hrc .exhausted (some .ret)] at hend
        exact ⟨some .ret, _, hend, hstop B _ (Nat.le_refl _) (Ix_put _ _ _ W2 hbk hi) (book_put _ _ .exhausted (some .ret) W2 hbk).2⟩
end Go.Proofs.Ytfajfmcabpmchaa
