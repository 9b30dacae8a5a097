/- Two timers change places. -/
import Derived.Test.YtboojbgcleknlaaTimStand
namespace Go.Proofs.Ytboojbgcleknlaa
open Go Go.RowKit
theorem keep_alloc {w : World} {a : Addr} {v : Value} {o : Obj} (h : w.cell? a = some v) : (w.alloc o).cell? a = some v := by
  rw [World.cell?_alloc_lt _ _ _ (World.block_lt_of_cell? w _ h)]; exact h
theorem keep_drew {w : World} {a : Addr} {v : Value} (h : w.cell? a = some v) : w.drew.cell? a = some v := h
theorem keep_set {w : World} {j i : Nat} {u : Value} {b k : Nat} {v : Value} (hne : b ≠ j) (h : w.cell? ⟨b, k, none⟩ = some v) : (w.setCell ⟨j, i, none⟩ u).cell? ⟨b, k, none⟩ = some v := by
  rw [World.cell?_setCell_other _ _ _ _ (fun e => hne (by injection e with e1; exact e1.symm))]; exact h
section
variable {w : World} {g mb : Nat} {now : Int} {b n c : Nat} {h : Nat → Du} {N : Nat} {f : Int → Option Nat}
theorem cntN_some {f : Int → Option Nat} {N : Nat} {k : Int} {p : Nat} (h : f k = some p) : cntN f N k = N := by simp [cntN, h]
set_option maxRecDepth 100000 in
set_option maxHeartbeats 4000000 in
theorem swap_any (H : Hq w g mb now b n c h N f) {p q : Nat} (hp : p < n) (hq : q < n) (hN : N ≤ 1000) {E : List Int} (G : Gd h n f E) :
    Calls Try.prog 28 #[.pointer (some ⟨g, 0, none⟩), .int .i64 (p : Int), .int .i64 (q : Int)] w fun e w' => e = .returned (.tuple #[]) ∧ Hq w' g mb now b n c (swp h p q) N (upf (upf f (h q).id p) (h p).id q) ∧ Kp w w' g mb (some b) := by
  obtain ⟨p1, p2⟩ := H.row.cell hp
  obtain ⟨q1, q2⟩ := H.row.cell hq
  have c1 := H.c1
  have hpn : (p : Int) < (n : Int) := by omega
  have hqn : (q : Int) < (n : Int) := by omega
  have hp0 : (0 : Int) ≤ (p : Int) := by omega
  have hq0 : (0 : Int) ≤ (q : Int) := by omega
  have hbl := H.row.lt
  have hgl := H.lt
  have HD : Hid (∀ W1 x, Below w.heap.size w W1 → w.heap.size ≤ x → Blk W1 x (duC (h p)) 53 →
      Calls Try.prog 21 #[.pointer (some ⟨g, 0, none⟩), .int .i64 (p : Int), .agg #[.int .i64 (h q).id, .int .i64 (h q).tm]] W1 fun e W2 => e = .returned (.tuple #[]) ∧
        W2.cell? ⟨x, 0, none⟩ = some (.int .i64 (h p).id) ∧ W2.cell? ⟨x, 1, none⟩ = some (.int .i64 (h p).tm) ∧
        Calls Try.prog 21 #[.pointer (some ⟨g, 0, none⟩), .int .i64 (q : Int), .agg #[.int .i64 (h p).id, .int .i64 (h p).tm]] W2 fun e W3 => e = .returned (.tuple #[]) ∧
          Hid (Hq W3 g mb now b n c (swp h p q) N (upf (upf f (h q).id p) (h p).id q) ∧ Kp w W3 g mb (some b))) := by
    intro W1 x hB hx B1
    have H1 := H.bel hB
    refine (stand_any H1 hp (d := h q) (H.ids q hq) hN).mono ?_
    rintro e W2 ⟨rfl, H2, K2⟩
    have B2 := B1.kp K2 (by omega) (by have := H.map.lt; omega) (fun e => by injection e; omega)
    rw [cntN_some (G.fits q hq)] at H2
    refine ⟨rfl, B2.cell 0, B2.cell 1, ?_⟩
    refine (stand_any H2 hq (d := h p) (H.ids p hp) hN).mono ?_
    rintro e W3 ⟨rfl, H3, K3⟩
    have hs : ∃ j, upf f (h q).id p (h p).id = some j := by
      by_cases e : (h p).id = (h q).id
      · rw [e]; exact ⟨p, upf_at _ _ _⟩
      · rw [upf_ne e]; exact ⟨p, G.fits p hp⟩
    obtain ⟨j, hj⟩ := hs
    rw [cntN_some hj] at H3
    exact ⟨rfl, H3, ((Kp.of hB g mb (some b)).trans K2).trans K3⟩
  clear H G
  go_enter Try.func28, Try.ntmps28
  go_upto_region 0 with (fail)
  go_region_held3 (fun w' => w'.cell? ⟨g, 1, none⟩ = some (.slice (some ⟨b, 0, none⟩) n c) ∧ w'.cell? ⟨b, p * 2, none⟩ = some (.int .i64 (h p).id) ∧ w'.cell? ⟨b, p * 2 + 1, none⟩ = some (.int .i64 (h p).tm) ∧ w'.cell? ⟨b, q * 2, none⟩ = some (.int .i64 (h q).id) ∧ w'.cell? ⟨b, q * 2 + 1, none⟩ = some (.int .i64 (h q).tm))
    (((try dsimp only); (repeat' apply And.intro) <;> (repeat (first | with_reducible exact c1 | with_reducible exact p1 | with_reducible exact p2 | with_reducible exact q1 | with_reducible exact q2 | with_reducible refine keep_drew ?_ | with_reducible refine keep_alloc ?_ | (with_reducible refine keep_set ?_ ?_; (simp only [World.size_alloc, World.size_drew]; omega))))))
    (fail)
  · have hB := (((Below.refl w.heap.size w).alloc (Nat.le_refl _) (.cells #[.int .i64 (h p).id, .int .i64 (h p).tm] 53)).alloc (by simp) (.cells #[.int .i64 (h q).id, .int .i64 (h q).tm] 53)).trans (⟨rfl, rfl, rfl, Nat.le_refl _, fun _ _ => rfl⟩ : Below w.heap.size ((w.alloc (.cells #[.int .i64 (h p).id, .int .i64 (h p).tm] 53)).alloc (.cells #[.int .i64 (h q).id, .int .i64 (h q).tm] 53)) ((w.alloc (.cells #[.int .i64 (h p).id, .int .i64 (h p).tm] 53)).alloc (.cells #[.int .i64 (h q).id, .int .i64 (h q).tm] 53)).drew)
    have bp := ((Blk.new w #[.int .i64 (h p).id, .int .i64 (h p).tm] 53).alloc (.cells #[.int .i64 (h q).id, .int .i64 (h q).tm] 53)).drew
    have bq := (Blk.new (w.alloc (.cells #[.int .i64 (h p).id, .int .i64 (h p).tm] 53)) #[.int .i64 (h q).id, .int .i64 (h q).tm] 53).drew
    rw [World.size_alloc] at bq
    generalize ((w.alloc (.cells #[.int .i64 (h p).id, .int .i64 (h p).tm] 53)).alloc (.cells #[.int .i64 (h q).id, .int .i64 (h q).tm] 53)).drew = W1 at *
    have HC := Lib.hid (HD.out W1 _ hB (Nat.le_refl _) bp)
    have r0 := bq.cell 0
    have r1 := bq.cell 1
    clear bp bq hB c1 p1 p2 q1 q2
    go_wp2_with (first
      | (go_at_call 21; (with_reducible refine HC.out.mono ?_); rintro e W2 ⟨rfl, x0, x1, hC2⟩; have HC2 := Lib.hid hC2; clear hC2)
      | (go_at_call 21; (with_reducible refine HC2.out.mono ?_); rintro e W3 ⟨rfl, hF⟩))
    refine bodyPost_end (results_none rfl _ _ _) rfl ⟨rfl, hF.out⟩
  · have hB := (((Below.refl w.heap.size w).alloc (Nat.le_refl _) (.cells #[.int .i64 (h q).id, .int .i64 (h q).tm] 53)).alloc (by simp) (.cells #[.int .i64 (h p).id, .int .i64 (h p).tm] 53)).trans (⟨rfl, rfl, rfl, Nat.le_refl _, fun _ _ => rfl⟩ : Below w.heap.size ((w.alloc (.cells #[.int .i64 (h q).id, .int .i64 (h q).tm] 53)).alloc (.cells #[.int .i64 (h p).id, .int .i64 (h p).tm] 53)) ((w.alloc (.cells #[.int .i64 (h q).id, .int .i64 (h q).tm] 53)).alloc (.cells #[.int .i64 (h p).id, .int .i64 (h p).tm] 53)).drew)
    have bq := ((Blk.new w #[.int .i64 (h q).id, .int .i64 (h q).tm] 53).alloc (.cells #[.int .i64 (h p).id, .int .i64 (h p).tm] 53)).drew
    have bp := (Blk.new (w.alloc (.cells #[.int .i64 (h q).id, .int .i64 (h q).tm] 53)) #[.int .i64 (h p).id, .int .i64 (h p).tm] 53).drew
    rw [World.size_alloc] at bp
    generalize ((w.alloc (.cells #[.int .i64 (h q).id, .int .i64 (h q).tm] 53)).alloc (.cells #[.int .i64 (h p).id, .int .i64 (h p).tm] 53)).drew = W1 at *
    have HC := Lib.hid (HD.out W1 _ hB (Nat.le_succ _) bp)
    have r0 := bq.cell 0
    have r1 := bq.cell 1
    clear bp bq hB c1 p1 p2 q1 q2
    go_wp2_with (first
      | (go_at_call 21; (with_reducible refine HC.out.mono ?_); rintro e W2 ⟨rfl, x0, x1, hC2⟩; have HC2 := Lib.hid hC2; clear hC2)
      | (go_at_call 21; (with_reducible refine HC2.out.mono ?_); rintro e W3 ⟨rfl, hF⟩))
    refine bodyPost_end (results_none rfl _ _ _) rfl ⟨rfl, hF.out⟩
end
end Go.Proofs.Ytboojbgcleknlaa
