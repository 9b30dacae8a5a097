/- One of a script, answered by both bags. -/
import Derived.Test.YtbjjbcjapkmnfaaBagTwo
import Derived.Deep.RegionWith
namespace Go.Proofs.Ytbjjbcjapkmnfaa
open Go Go.RowKit Go.Sort

/-- the two bags, and the step's box -/
structure PB (B : Nat) (w0 w : World) (g h M : Nat) (K1 K2 : List Ml) (v : Value) (q : Nat) (s : Stp) : Prop where
  pr : Pr B w0 w g h M K1 K2 v
  box : Blk w q (stpC s) 35
def BoxC (w : World) (q : Nat) (s : Stp) : Prop := w.cell? ⟨q, 0, none⟩ = some (.int .i64 s.kind) ∧ w.cell? ⟨q, 1, none⟩ = some (.int .i64 s.m.fr) ∧ w.cell? ⟨q, 2, none⟩ = some (.int .i64 s.m.to) ∧ w.cell? ⟨q, 3, none⟩ = some (.string s.m.bd) ∧ w.cell? ⟨q, 4, none⟩ = some (.int .i64 s.i)
section
variable {B : Nat} {w0 w w' : World} {g h M q : Nat} {K1 K2 : List Ml} {v : Value} {s : Stp}
theorem PB.cells (t : PB B w0 w g h M K1 K2 v q s) : BoxC w q s := ⟨t.box.cell 0, t.box.cell 1, t.box.cell 2, t.box.cell 3, t.box.cell 4⟩
theorem PB.bel (t : PB B w0 w g h M K1 K2 v q s) (hb : Below w.heap.size w w') : PB B w0 w' g h M K1 K2 v q s := ⟨t.pr.bel hb, t.box.below hb t.box.lt⟩
theorem Pr.box (t : Pr B w0 w g h M K1 K2 v) (s : Stp) : PB B w0 (w.alloc (.cells (stpC s) 35)) g h M K1 K2 v w.heap.size s :=
  ⟨t.bel ((Below.refl _ _).alloc (Nat.le_refl _) _), Blk.new _ _ _⟩
theorem Pr.out (t : Pr B w0 w g h M K1 K2 v) {k : Nat} (hk : w.heap.size ≤ k) : v.ownBlock ≠ some k := fun e => by
  have := (t.rb.own.lt k e).2
  omega
theorem PB.fr {K' : List Ml} (t : PB B w0 w g h M K1 K2 v q s) (hp : Pr B w0 w' g h M K' K2 v) (hF : Fr w w') : PB B w0 w' g h M K' K2 v q s := ⟨hp, hF _ _ _ (by decide) t.box⟩
/-- the document's bag has the messages K' now, the box stays -/
def NB (B : Nat) (w0 w w' : World) (g h M : Nat) (K1 K' : List Ml) (v : Value) (q : Nat) (s : Stp) : Prop := ∃ v', PB B w0 w' g h M K1 K' v' q s ∧ ∀ (k : Nat) (m : Ml), v.ownBlock ≠ some k → Blk w k (mlC m) 33 → Blk w' k (mlC m) 33
theorem PB.nx {K' : List Ml} (t : PB B w0 w g h M K1 K2 v q s) (hN : Nx B w0 w w' g h M K1 K' v) : NB B w0 w w' g h M K1 K' v q s := by
  obtain ⟨v', h1, h2, h3⟩ := hN
  exact ⟨v', ⟨h1, h2 _ _ _ (by decide) (by decide) t.box⟩, h3⟩
theorem b_put (t : PB B w0 w g h M K1 K2 v q s) (m : Ml) : Calls Try.prog 13 #[.pointer (some ⟨g, 0, none⟩), .agg #[.int .i64 m.fr, .int .i64 m.to, .string m.bd]] w fun e w' => e = .returned (.int .i64 (putE M K1 m)) ∧ PB B w0 w' g h M (putK M K1 m) K2 v q s :=
  (pr_put t.pr m).mono fun _ _ ⟨h1, h2, h3⟩ => ⟨h1, t.fr h2 h3⟩
theorem b_take (t : PB B w0 w g h M K1 K2 v q s) (i : Int) : Calls Try.prog 14 #[.pointer (some ⟨g, 0, none⟩), .int .i64 i] w fun e w' => e = .returned (.tuple #[.agg (mlC (atV K1 i)), .int .i64 (atE K1 i)]) ∧ PB B w0 w' g h M (takeK K1 i) K2 v q s :=
  (pr_take t.pr i).mono fun _ _ ⟨h1, h2, h3⟩ => ⟨h1, t.fr h2 h3⟩
theorem b_twice (t : PB B w0 w g h M K1 K2 v q s) (i : Int) : Calls Try.prog 16 #[.pointer (some ⟨g, 0, none⟩), .int .i64 i] w fun e w' => e = .returned (.int .i64 (twE M K1 i)) ∧ PB B w0 w' g h M (twK M K1 i) K2 v q s :=
  (pr_twice t.pr i).mono fun _ _ ⟨h1, h2, h3⟩ => ⟨h1, t.fr h2 h3⟩
theorem b_lose (t : PB B w0 w g h M K1 K2 v q s) (a : Int) : Calls Try.prog 18 #[.pointer (some ⟨g, 0, none⟩), .int .i64 a] w fun e w' => e = .returned (.int .i64 ((toL K1 a 0).length : Nat)) ∧ PB B w0 w' g h M (left K1 a) K2 v q s :=
  (pr_lose t.pr a).mono fun _ _ ⟨h1, h2, h3⟩ => ⟨h1, t.fr h2 h3⟩
theorem b_rput (t : PB B w0 w g h M K1 K2 v q s) (hM : M ≤ 1000) (m : Ml) : Calls Try.prog 19 #[.pointer (some ⟨h, 0, none⟩), .agg #[.int .i64 m.fr, .int .i64 m.to, .string m.bd]] w fun e w' => e = .returned (.int .i64 (putE M K2 m)) ∧ NB B w0 w w' g h M K1 (putK M K2 m) v q s :=
  (pr_rput t.pr hM m).mono fun _ _ ⟨h1, h2⟩ => ⟨h1, t.nx h2⟩
theorem b_rtake (t : PB B w0 w g h M K1 K2 v q s) (i : Int) : Calls Try.prog 20 #[.pointer (some ⟨h, 0, none⟩), .int .i64 i] w fun e w' => e = .returned (.tuple #[.agg (mlC (atV K2 i)), .int .i64 (atE K2 i)]) ∧ NB B w0 w w' g h M K1 (takeK K2 i) v q s :=
  (pr_rtake t.pr i).mono fun _ _ ⟨h1, h2⟩ => ⟨h1, t.nx h2⟩
theorem b_rtwice (t : PB B w0 w g h M K1 K2 v q s) (hM : M ≤ 1000) (hT : Short K2) (i : Int) : Calls Try.prog 21 #[.pointer (some ⟨h, 0, none⟩), .int .i64 i] w fun e w' => e = .returned (.int .i64 (twE M K2 i)) ∧ NB B w0 w w' g h M K1 (twK M K2 i) v q s :=
  (pr_rtwice t.pr hM hT i).mono fun _ _ ⟨h1, h2⟩ => ⟨h1, t.nx h2⟩
theorem b_rlose (t : PB B w0 w g h M K1 K2 v q s) (a : Int) : Calls Try.prog 22 #[.pointer (some ⟨h, 0, none⟩), .int .i64 a] w fun e w' => e = .returned (.int .i64 ((toL K2 a 0).length : Nat)) ∧ NB B w0 w w' g h M K1 (left K2 a) v q s :=
  (pr_rlose t.pr a).mono fun _ _ ⟨h1, h2⟩ => ⟨h1, t.nx h2⟩
end

/-- what a step leaves -/
def StepP (B : Nat) (w0 : World) (g h M : Nat) (e : Ending) (w' : World) : Prop := e = .returned (.bool true) ∧ ∃ K' v', Pr B w0 w' g h M K' K' v' ∧ Short K'
theorem StepP.mk {B : Nat} {w0 w' : World} {g h M q : Nat} {K : List Ml} {v : Value} {s : Stp} (t : PB B w0 w' g h M K K v q s) (hT : Short K) : StepP B w0 g h M (.returned (.bool true)) w' := ⟨rfl, K, v, t.pr, hT⟩
section
variable {B : Nat} {w0 : World} {g h M : Nat} {K : List Ml} {v : Value}

set_option maxRecDepth 100000 in
set_option maxHeartbeats 4000000 in
theorem step_put (w : World) (t : Pr B w0 w g h M K K v) (hM : M ≤ 1000) (hT : Short K) (m : Ml) (i : Int) :
    Calls Try.prog 10 #[.pointer (some ⟨g, 0, none⟩), .pointer (some ⟨h, 0, none⟩), .agg #[.int .i64 0, .int .i64 m.fr, .int .i64 m.to, .string m.bd, .int .i64 i]] w (StepP B w0 g h M) := by
  have t1 := t.box ⟨0, m, i⟩
  clear t
  go_enter Try.func10, Try.ntmps10
  go_upto_region 1 with (fail)
  have T1 : Hid (PB B w0 (w.alloc (.cells #[.int .i64 0, .int .i64 m.fr, .int .i64 m.to, .string m.bd, .int .i64 i] 35)) g h M K K v w.heap.size ⟨0, m, i⟩) := t1
  clear t1
  generalize w.alloc _ = W at *
  generalize w.heap.size = q at *
  have D1 := Lib.hid (T1.out.bel (drew_bel W))
  have HK : Hid (Short (putK M K m)) := hT.put m
  have HP := Lib.hid (b_put D1.out m)
  have HQ : Hid (∀ w' , PB B w0 w' g h M (putK M K m) K v q ⟨0, m, i⟩ → _) := fun w' t' => b_rput t' hM m
  generalize putK M K m = K' at *
  generalize putE M K m = er at *
  have zr : (er == er) = true := by simp
  obtain ⟨c0, c1, c2, c3, c4⟩ := T1.out.cells
  go_upto_region 3 with (fail)
  obtain ⟨d0, d1, d2, d3, d4⟩ := D1.out.cells
  clear hT
  go_region_with (first
    | (go_at_call 13; (with_reducible refine HP.out.mono ?_); rintro e w2 ⟨rfl, t2⟩; obtain ⟨x0, x1, x2, x3, x4⟩ := t2.cells; have HQ2 := Lib.hid (HQ.out _ t2); clear t2)
    | (go_at_call 19; (with_reducible refine HQ2.out.mono ?_); rintro e w3 ⟨rfl, v3, t3, _⟩; have T3 := Lib.hid t3; clear t3))
  all_goals
    go_wp2
    go_ret
    exact StepP.mk T3.out HK.out

set_option maxRecDepth 100000 in
set_option maxHeartbeats 4000000 in
theorem step_twice (w : World) (t : Pr B w0 w g h M K K v) (hM : M ≤ 1000) (hT : Short K) (m : Ml) (i : Int) :
    Calls Try.prog 10 #[.pointer (some ⟨g, 0, none⟩), .pointer (some ⟨h, 0, none⟩), .agg #[.int .i64 2, .int .i64 m.fr, .int .i64 m.to, .string m.bd, .int .i64 i]] w (StepP B w0 g h M) := by
  have t1 := t.box ⟨2, m, i⟩
  clear t
  go_enter Try.func10, Try.ntmps10
  go_upto_region 1 with (fail)
  have T1 : Hid (PB B w0 (w.alloc (.cells #[.int .i64 2, .int .i64 m.fr, .int .i64 m.to, .string m.bd, .int .i64 i] 35)) g h M K K v w.heap.size ⟨2, m, i⟩) := t1
  clear t1
  generalize w.alloc _ = W at *
  generalize w.heap.size = q at *
  have D1 := Lib.hid (T1.out.bel (drew_bel W))
  have HK : Hid (Short (twK M K i)) := hT.twice i
  have HP := Lib.hid (b_twice D1.out i)
  have HQ : Hid (∀ w' , PB B w0 w' g h M (twK M K i) K v q ⟨2, m, i⟩ → _) := fun w' t' => b_rtwice t' hM hT i
  generalize twK M K i = K' at *
  generalize twE M K i = er at *
  have zr : (er == er) = true := by simp
  obtain ⟨c0, c1, c2, c3, c4⟩ := T1.out.cells
  go_upto_region 9 with (fail)
  obtain ⟨d0, d1, d2, d3, d4⟩ := D1.out.cells
  clear hT
  go_region_with (first
    | (go_at_call 16; (with_reducible refine HP.out.mono ?_); rintro e w2 ⟨rfl, t2⟩; obtain ⟨x0, x1, x2, x3, x4⟩ := t2.cells; have HQ2 := Lib.hid (HQ.out _ t2); clear t2)
    | (go_at_call 21; (with_reducible refine HQ2.out.mono ?_); rintro e w3 ⟨rfl, v3, t3, _⟩; have T3 := Lib.hid t3; clear t3))
  all_goals
    go_wp2
    go_ret
    exact StepP.mk T3.out HK.out

set_option maxRecDepth 100000 in
set_option maxHeartbeats 4000000 in
theorem step_lose (w : World) (t : Pr B w0 w g h M K K v) (_ : M ≤ 1000) (hT : Short K) (m : Ml) (i : Int) :
    Calls Try.prog 10 #[.pointer (some ⟨g, 0, none⟩), .pointer (some ⟨h, 0, none⟩), .agg #[.int .i64 3, .int .i64 m.fr, .int .i64 m.to, .string m.bd, .int .i64 i]] w (StepP B w0 g h M) := by
  have t1 := t.box ⟨3, m, i⟩
  clear t
  go_enter Try.func10, Try.ntmps10
  go_upto_region 1 with (fail)
  have T1 : Hid (PB B w0 (w.alloc (.cells #[.int .i64 3, .int .i64 m.fr, .int .i64 m.to, .string m.bd, .int .i64 i] 35)) g h M K K v w.heap.size ⟨3, m, i⟩) := t1
  clear t1
  generalize w.alloc _ = W at *
  generalize w.heap.size = q at *
  have D1 := Lib.hid (T1.out.bel (drew_bel W))
  have HK : Hid (Short (left K i)) := hT.left i
  have HP := Lib.hid (b_lose D1.out i)
  have HQ : Hid (∀ w' , PB B w0 w' g h M (left K i) K v q ⟨3, m, i⟩ → _) := fun w' t' => b_rlose t' i
  generalize left K i = K' at *
  generalize (toL K i 0).length = er at *
  have zr : ((er : Int) == (er : Int)) = true := by simp
  obtain ⟨c0, c1, c2, c3, c4⟩ := T1.out.cells
  go_upto_region 11 with (fail)
  obtain ⟨d0, d1, d2, d3, d4⟩ := D1.out.cells
  clear hT
  go_region_with (first
    | (go_at_call 18; (with_reducible refine HP.out.mono ?_); rintro e w2 ⟨rfl, t2⟩; obtain ⟨x0, x1, x2, x3, x4⟩ := t2.cells; have HQ2 := Lib.hid (HQ.out _ t2); clear t2)
    | (go_at_call 22; (with_reducible refine HQ2.out.mono ?_); rintro e w3 ⟨rfl, v3, t3, _⟩; have T3 := Lib.hid t3; clear t3))
  all_goals
    go_wp2
    go_ret
    exact StepP.mk T3.out HK.out
end
end Go.Proofs.Ytbjjbcjapkmnfaa
