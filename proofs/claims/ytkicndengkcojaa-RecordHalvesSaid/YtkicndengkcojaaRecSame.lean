/- The document's Same, Own, Big. -/
import Derived.Test.YtkicndengkcojaaRecRefA
import Derived.Test.YtkicndengkcojaaPkB
namespace Go.Proofs.Ytkicndengkcojaa
set_option maxRecDepth 100000
open Go Go.RowKit Go.Sort

def sameR (r q : Rc) : Bool := (r.kind == q.kind) && (decide (r.items = q.items) && (eqL r.nl r.nb q.nl q.nb && (r.mark == q.mark)))
theorem sameR_self (r : Rc) : sameR r r = true := by simp [sameR, eqL_self]
theorem sameR_iff {r q : Rc} : sameR r q = true ↔ r = q := by
  constructor
  · intro h
    simp only [sameR, Bool.and_eq_true, beq_iff_eq, decide_eq_true_eq, eqL_iff] at h
    obtain ⟨h1, h2, ⟨h3, h4⟩, h5⟩ := h
    cases r; cases q
    simp_all
  · rintro rfl; exact sameR_self r
set_option maxHeartbeats 2000000 in
theorem same_rec {r q : Rc} {u v : Value} {w : World} (hT : Told w u r.items) (hT' : Told w v q.items) (hl : r.items.length ≤ 1000000) :
    Calls Try.prog 17 #[.agg (recC r u), .agg (recC q v)] w fun e w' => e = .returned (.bool (sameR r q)) ∧ Below w.heap.size w w' := by
  have A0 := (Blk.new w (recC r u) 27).alloc (.cells (recC q v) 27)
  have B0 := Blk.new (w.alloc (.cells (recC r u) 27)) (recC q v) 27
  rw [World.size_alloc] at B0
  have L0 := ((Below.refl w.heap.size w).alloc (Nat.le_refl _) (.cells (recC r u) 27)).alloc (by simp) (.cells (recC q v) 27)
  have HS := Lib.hid (same_any (hT.bel L0) (hT'.bel L0) hl)
  have HR : Hid (sameR r q = ((r.kind == q.kind) && (decide (r.items = q.items) && (eqL r.nl r.nb q.nl q.nb && (r.mark == q.mark))))) := rfl
  have hmk : ((r.mark : Int) == (q.mark : Int)) = (r.mark == q.mark) := by rw [Bool.eq_iff_iff]; simp; omega
  clear hT hT' hl
  generalize sameR r q = res at *
  generalize decide (r.items = q.items) = si at *
  obtain ⟨k1, L1, n1, b1, m1⟩ := r
  obtain ⟨k2, L2, n2, b2, m2⟩ := q
  simp only at *
  cases hk : (k1 == k2)
  · rw [hk] at HR
    go_enter Try.func17, Try.ntmps17
    simp only [recC]
    go_upto_region 1 with (fail)
    simp only [recC] at A0 B0 L0 HS
    clear HS
    generalize (w.alloc _).alloc _ = W at *
    have c0 : W.cell? ⟨w.heap.size, 0, none⟩ = some (.int .i64 k1) := A0.cell 0
    have d0 : W.cell? ⟨w.heap.size + 1, 0, none⟩ = some (.int .i64 k2) := B0.cell 0
    go_wp2
    go_ret
    exact ⟨by rw [HR.out]; rfl, L0⟩
  · rw [hk] at HR
    cases si
    · go_enter Try.func17, Try.ntmps17
      simp only [recC]
      go_upto_region 1 with (fail)
      simp only [recC] at A0 B0 L0 HS
      generalize (w.alloc _).alloc _ = W at *
      have c0 : W.cell? ⟨w.heap.size, 0, none⟩ = some (.int .i64 k1) := A0.cell 0
      have d0 : W.cell? ⟨w.heap.size + 1, 0, none⟩ = some (.int .i64 k2) := B0.cell 0
      have c1 : W.cell? ⟨w.heap.size, 1, none⟩ = some u := A0.cell 1
      have d1 : W.cell? ⟨w.heap.size + 1, 1, none⟩ = some v := B0.cell 1
      go_wp2_with (go_at_call 31; (with_reducible refine HS.out.mono ?_); rintro e w1 ⟨rfl, hb1⟩)
      go_ret
      exact ⟨by rw [HR.out]; rfl, rstep L0 hb1⟩
    · cases hE : eqL n1 b1 n2 b2
      all_goals rw [hE] at HR
      all_goals
        have hq := fun w => hE ▸ run_eql_lab n1 b1 n2 b2 w
        go_enter Try.func17, Try.ntmps17
        simp only [recC]
        go_upto_region 1 with (fail)
        have A00 := Lib.hid A0
        have B00 := Lib.hid B0
        simp only [recC] at A0 B0 L0 HS A00 B00
        generalize (w.alloc _).alloc _ = W at *
        have c0 : W.cell? ⟨w.heap.size, 0, none⟩ = some (.int .i64 k1) := A0.cell 0
        have d0 : W.cell? ⟨w.heap.size + 1, 0, none⟩ = some (.int .i64 k2) := B0.cell 0
        have c1 : W.cell? ⟨w.heap.size, 1, none⟩ = some u := A0.cell 1
        have d1 : W.cell? ⟨w.heap.size + 1, 1, none⟩ = some v := B0.cell 1
        go_wp2_with (first
          | (go_at_call 31; (with_reducible refine HS.out.mono ?_); rintro e w1 ⟨rfl, hb1⟩; have A1 := A0.below hb1 A0.lt; have B1 := B0.below hb1 B0.lt; have c4 : w1.cell? ⟨w.heap.size, 4, none⟩ = some (.int .u64 (m1 : Int)) := A1.cell 4; have d4 : w1.cell? ⟨w.heap.size + 1, 4, none⟩ = some (.int .u64 (m2 : Int)) := B1.cell 4)
          | (go_guarded; refine o_midL _ rfl w.heap.size rfl ⟨k1, L1, n1, b1, m1⟩ u A1 ?_)
          | (go_guarded; refine o_midL _ rfl (w.heap.size + 1) rfl ⟨k2, L2, n2, b2, m2⟩ v B1 ?_))
        go_ret
        first
          | exact ⟨by rw [HR.out]; rfl, rstep L0 hb1⟩
          | exact ⟨by rw [HR.out, ← hmk]; rfl, rstep L0 hb1⟩
end Go.Proofs.Ytkicndengkcojaa
