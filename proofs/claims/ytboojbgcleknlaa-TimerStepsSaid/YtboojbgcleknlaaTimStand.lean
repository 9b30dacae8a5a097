/- A timer is laid at a place: in the row, and in the map of places. -/
import Derived.Test.YtboojbgcleknlaaTimMem
import Derived.Deep.RegionWith
import Derived.BigQuiet
import Derived.Deep.Cut
import Derived.Deep.RegionHeld3
namespace Go.Proofs.Ytboojbgcleknlaa
open Go Go.RowKit

def aheadB (a b : Du) : Bool := decide (a.tm < b.tm) || (decide (a.tm = b.tm) && decide (a.id < b.id))
theorem aheadB_iff (a b : Du) : aheadB a b = true ↔ ahead a b := by simp [aheadB, ahead]
set_option maxHeartbeats 1000000 in
theorem before_any (a b : Du) (w : World) : Calls Try.prog 27 #[.agg #[.int .i64 a.id, .int .i64 a.tm], .agg #[.int .i64 b.id, .int .i64 b.tm]] w fun e w' => e = .returned (.bool (aheadB a b)) ∧ Below w.heap.size w w' := by
  obtain ⟨i, s⟩ := a
  obtain ⟨j, t⟩ := b
  have b0 := (Blk.new w #[.int .i64 i, .int .i64 s] 53).alloc (.cells #[.int .i64 j, .int .i64 t] 53)
  have b1 := Blk.new (w.alloc (.cells #[.int .i64 i, .int .i64 s] 53)) #[.int .i64 j, .int .i64 t] 53
  have hB := ((Below.refl w.heap.size w).alloc (Nat.le_refl _) (.cells #[.int .i64 i, .int .i64 s] 53)).alloc (by simp) (.cells #[.int .i64 j, .int .i64 t] 53)
  rw [World.size_alloc] at b1
  have q0 := b0.cell 0
  have q1 := b0.cell 1
  have q2 := b1.cell 0
  have q3 := b1.cell 1
  have HB := Lib.hid hB
  clear b0 b1 hB
  unfold aheadB
  go_enter Try.func27, Try.ntmps27
  by_cases h1 : s < t
  · go_wp2
    go_ret
    exact ⟨by simp [h1], HB.out⟩
  · by_cases h2 : s = t
    · subst h2
      by_cases h3 : i < j
      · go_wp2
        go_ret
        exact ⟨by simp, HB.out⟩
      · go_wp2
        go_ret
        exact ⟨by simpa using h3, HB.out⟩
    · go_wp2
      go_ret
      exact ⟨by simp [h1], HB.out⟩
/-- a timer is stored into the row -/
theorem p_storeD {ops : Array Oper} {rest : List Oper} {o : Oper} {a : Act} {w : World} {Q : Exit → Act → World → Prop} (hgd : o.guard = none) (x y : Operand) (ho : o.op = .store 53 x y)
    (b i : Nat) (hx : a.eval x = .pointer (some ⟨b, i, none⟩)) (d : Du) (hy : a.eval y = .agg (duC d)) (ht : w.there b i 2)
    (h : wpList Try.prog ops Q rest (a.put o.dst undef) (w.setCells b i (duC d).toList)) : wpList Try.prog ops Q (o :: rest) a w :=
  wpList_store_mid hgd 53 x y ho b i (duC d) hx hy ht sizeD (duC_one d) h
section
variable {w : World} {g mb : Nat} {now : Int} {b n c : Nat} {h : Nat → Du} {N : Nat} {f : Int → Option Nat}
/-- the row's map behind a timer is told -/
def cntN (f : Int → Option Nat) (N : Nat) (k : Int) : Nat := if (f k).isSome then N else N + 1
set_option maxRecDepth 100000 in
set_option maxHeartbeats 2000000 in
theorem stand_any (H : Hq w g mb now b n c h N f) {p : Nat} (hp : p < n) {d : Du} (hd : Fit d.id) (hN : N ≤ 1000) :
    Calls Try.prog 21 #[.pointer (some ⟨g, 0, none⟩), .int .i64 (p : Int), .agg #[.int .i64 d.id, .int .i64 d.tm]] w fun e w' => e = .returned (.tuple #[]) ∧ Hq w' g mb now b n c (upd h p d) (cntN f N d.id) (upf f d.id p) ∧ Kp w w' g mb (some b) := by
  obtain ⟨W1, hW1⟩ : ∃ W1, W1 = (w.alloc (.cells #[.int .i64 d.id, .int .i64 d.tm] 53)).drew := ⟨_, rfl⟩
  have hB : Below w.heap.size w W1 := by
    rw [hW1]
    exact ((Below.refl w.heap.size w).alloc (Nat.le_refl _) _).trans ⟨rfl, rfl, rfl, Nat.le_refl _, fun _ _ => rfl⟩
  have H1 := H.bel hB
  have b0 : Blk W1 w.heap.size #[.int .i64 d.id, .int .i64 d.tm] 53 := by rw [hW1]; exact Blk.new w _ _
  have q1 := H1.c1
  have T1 := H1.row.there hp
  have H2 := H1.put hp hd
  have hbl := H.row.lt
  have b2 : Blk (W1.setCells b (p * 2) (duC d).toList) w.heap.size #[.int .i64 d.id, .int .i64 d.tm] 53 := b0.kp (Kp.cells W1 g mb b (p * 2) d) (by have := H.lt; omega) (by have := H.map.lt; omega) (by intro e; injection e; omega)
  have K2 : Kp w (W1.setCells b (p * 2) (duC d).toList) g mb (some b) := (Kp.of hB g mb (some b)).trans (Kp.cells W1 g mb b (p * 2) d)
  have H1n := H.len
  generalize hW2 : W1.setCells b (p * 2) (duC d).toList = W2 at *
  obtain ⟨W3, hst, m3, g3⟩ := (H2.map.same (w' := W2.drew) rfl).store hd p (by omega)
  have F3 : Hq W3 g mb now b n c (upd h p d) (cntN f N d.id) (upf f d.id p) := (H2.same (w' := W2.drew) rfl rfl rfl).mapped g3 m3
  have K3 : Kp w W3 g mb (some b) := (K2.trans (Kp.drew W2 g mb (some b))).trans (Kp.map g3)
  have HF := Lib.hid (And.intro F3 K3)
  have HT := Lib.hid T1
  have r2 := H2.c2
  have r3 := b2.cell 0
  have p0 := b0.cell 0
  have p1 := b0.cell 1
  have hpn : (p : Int) < (n : Int) := by omega
  have hp0 : (0 : Int) ≤ (p : Int) := by omega
  have HW := Lib.hid hW2
  have HWW := Lib.hid hW1
  clear H H1 H2 F3 K3 K2 T1 b0 b2 hB m3 g3 hW2 hW1
  go_enter Try.func21, Try.ntmps21
  go_upto_region 1 with (fail)
  refine wp_region_tail0 7 (by kernel_rfl) (by kernel_rfl) (fun _ _ _ _ _ h => h) ?_
  simp only [List.take_succ_cons, List.take_zero, List.drop_succ_cons, List.drop_zero]
  try rw [← HWW.out]
  repeat still_step
  refine wpStill_nil ?_
  go_upto_region 2 with (refine p_storeD rfl _ _ rfl b (p * 2) rfl d rfl HT.out ?_)
  simp only [HW.out, Act.put]
  refine wp_region_tail0 7 (by kernel_rfl) (by kernel_rfl) (fun _ _ _ _ _ h => h) ?_
  simp only [List.take_succ_cons, List.take_zero, List.drop_succ_cons, List.drop_zero]
  repeat still_step
  refine wpStill_nil ?_
  go_wp2
  refine bodyPost_end (results_none rfl _ _ _) rfl ?_
  exact ⟨rfl, HF.out⟩
end
end Go.Proofs.Ytboojbgcleknlaa
