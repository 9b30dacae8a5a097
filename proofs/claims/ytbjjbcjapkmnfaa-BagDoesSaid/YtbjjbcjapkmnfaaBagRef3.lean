/- The document's bag: At, Twice, Take. -/
import Derived.Test.YtbjjbcjapkmnfaaBagRef2
namespace Go.Proofs.Ytbjjbcjapkmnfaa
open Go Go.RowKit

/-- a message of a row is loaded -/
theorem p_midM {ops : Array Oper} {rest : List Oper} {o : Oper} {a : Act} {w : World} {Q : Exit → Act → World → Prop} (hgd : o.guard = none) (x : Operand) (ho : o.op = .load 33 x)
    (g i : Nat) (hx : a.eval x = .pointer (some ⟨g, i, none⟩)) (m : Ml) (hg : w.rangeAt g i (mlC m).toList)
    (h : wpList Try.prog ops Q rest (a.put o.dst (.agg (mlC m))) w) : wpList Try.prog ops Q (o :: rest) a w :=
  wpList_load_mid hgd 33 x ho g i hx (mlC m).toList _ hg Try.underlying33 rfl sizeM (by rw [Array.toArray_toList]; exact h)
theorem three_range {w : World} {b o : Nat} {m : Ml} (h0 : w.cell? ⟨b, o, none⟩ = some (.int .i64 m.fr)) (h1 : w.cell? ⟨b, o + 1, none⟩ = some (.int .i64 m.to)) (h2 : w.cell? ⟨b, o + 2, none⟩ = some (.string m.bd)) : w.rangeAt b o (mlC m).toList := fun i v hv => by
  match i, hv with
  | 0, hv => simp only [mlC, List.getElem?_cons_zero, Option.some.injEq] at hv; subst hv; exact h0
  | 1, hv => simp only [mlC, List.getElem?_cons_succ, List.getElem?_cons_zero, Option.some.injEq] at hv; subst hv; exact h1
  | 2, hv => simp only [mlC, List.getElem?_cons_succ, List.getElem?_cons_zero, Option.some.injEq] at hv; subst hv; exact h2
  | i + 3, hv => simp [mlC] at hv

set_option maxHeartbeats 1000000 in
theorem refat_no {w : World} {B h M : Nat} {v : Value} {K : List Ml} (r : Rb w B h v M K) {i : Int} (hi : i < 0 ∨ (K.length : Int) ≤ i) :
    Calls Try.prog 23 #[.pointer (some ⟨h, 0, none⟩), .int .i64 i] w fun e w' => e = .returned (.tuple #[.agg (mlC mlZ), .int .i64 7]) ∧ Below w.heap.size w w' := by
  have b0 := Blk.new w (mlC mlZ) 33
  have hB := (Below.refl w.heap.size w).alloc (Nat.le_refl _) (.cells (mlC mlZ) 33)
  obtain ⟨a, c, rfl, k0⟩ := (r.bel hB).shape
  have HB := Lib.hid b0
  have HB2 := Lib.hid hB
  clear r b0 hB
  have hz : (zeroValue 33).run Try.prog w = .ok (.agg (mlC mlZ)) w := zeroM w
  generalize K.length = n at *
  go_enter Try.func23, Try.ntmps23
  rcases hi with hi | hi
  · go_upto_region 2 with (fail)
    go_wp2_with (refine p_storeM rfl _ _ rfl w.heap.size rfl mlZ rfl _ rfl HB.out ?_)
    exact bodyPost_ret (results_ml2 Try.results23 _ _ _ mlZ _ rfl rfl (HB.out.setRow _)) rfl ⟨rfl, bel_setRow HB2.out (Nat.le_refl _) _⟩
  · have q1 : ¬ i < 0 := by omega
    go_upto_region 2 with (fail)
    go_wp2_with (refine p_storeM rfl _ _ rfl w.heap.size rfl mlZ rfl _ rfl HB.out ?_)
    exact bodyPost_ret (results_ml2 Try.results23 _ _ _ mlZ _ rfl rfl (HB.out.setRow _)) rfl ⟨rfl, bel_setRow HB2.out (Nat.le_refl _) _⟩
set_option maxHeartbeats 1000000 in
theorem refat_yes {w : World} {B h M : Nat} {v : Value} {K : List Ml} (r : Rb w B h v M K) {i : Nat} {m : Ml} (hi : K[i]? = some m) :
    Calls Try.prog 23 #[.pointer (some ⟨h, 0, none⟩), .int .i64 (i : Nat)] w fun e w' => e = .returned (.tuple #[.agg (mlC m), .int .i64 0]) ∧ Below w.heap.size w w' := by
  have b0 := Blk.new w (mlC mlZ) 33
  have hB := (Below.refl w.heap.size w).alloc (Nat.le_refl _) (.cells (mlC mlZ) 33)
  obtain ⟨b, c, rfl, k0, k1, k2, k3⟩ := (r.bel hB).item hi
  have hR := Lib.hid (three_range k1 k2 k3)
  have HB := Lib.hid b0
  have HB2 := Lib.hid hB
  have hlt : i < K.length := (List.getElem?_eq_some_iff.1 hi).1
  have hll := r.len
  clear r b0 hB hi k1 k2 k3
  have hz : (zeroValue 33).run Try.prog w = .ok (.agg (mlC mlZ)) w := zeroM w
  have q1 : ¬ ((i : Int) < 0) := by omega
  have q2 : ¬ ((K.length : Int) ≤ (i : Int)) := by omega
  generalize K.length = n at *
  go_enter Try.func23, Try.ntmps23
  go_upto_region 3 with (fail)
  go_wp2_with (first
    | (refine p_midM rfl _ rfl b (i * 3) rfl m hR.out ?_)
    | (refine p_storeM rfl _ _ rfl w.heap.size rfl m rfl _ rfl HB.out ?_))
  exact bodyPost_ret (results_ml2 Try.results23 _ _ _ m _ rfl rfl (HB.out.setRow _)) rfl ⟨rfl, bel_setRow HB2.out (Nat.le_refl _) _⟩
end Go.Proofs.Ytbjjbcjapkmnfaa
