/- A bag is made, and a message is put into it. -/
import Derived.Test.YtbjjbcjapkmnfaaBagLose
import Derived.Test.YtbjjbcjapkmnfaaBagClone
namespace Go.Proofs.Ytbjjbcjapkmnfaa
open Go Go.RowKit

theorem new_any {M : Nat} (h1 : 1 ≤ M) (h2 : M ≤ 1000) (w : World) : Calls Try.prog 8 #[.int .i64 (M : Int)] w fun e w' => e = .returned (.tuple #[.pointer (some ⟨w.heap.size + 1, 0, none⟩), .int .i64 0]) ∧ Bg w' (w.heap.size + 1) w.heap.size M [] ∧ Below w.heap.size w w' := by
  have m0 := (OwnsL.made w).alloc (.cells #[.int .i64 (M : Int), .int .i64 0, .map (some w.heap.size)] 54)
  have m1 := Blk.new (w.alloc (.map #[] 0)) #[.int .i64 (M : Int), .int .i64 0, .map (some w.heap.size)] 54
  have hB := ((Below.refl w.heap.size w).alloc (Nat.le_refl _) (.map #[] 0)).alloc (by simp) (.cells #[.int .i64 (M : Int), .int .i64 0, .map (some w.heap.size)] 54)
  rw [World.size_alloc] at m1
  have q1 : ¬ (M : Int) < 1 := by omega
  have q2 : ¬ (1000 : Int) < (M : Int) := by omega
  have hmk := @run_makeMap Try.prog
  go_enter Try.func8, Try.ntmps8
  go_wp2
  go_ret2
  exact ⟨rfl, ⟨m1, m0, by simp⟩, hB⟩
theorem new_err {M : Int} (h : M < 1 ∨ 1000 < M) (w : World) : Calls Try.prog 8 #[.int .i64 M] w fun e w' => e = .returned (.tuple #[.pointer none, .int .i64 1]) ∧ w = w' := by
  go_enter Try.func8, Try.ntmps8
  rcases h with h | h
  · go_wp2
    go_ret2
    exact ⟨rfl, rfl⟩
  · have q1 : ¬ M < 1 := by omega
    go_wp2
    go_ret2
    exact ⟨rfl, rfl⟩

set_option maxHeartbeats 2000000 in
theorem add_full {w : World} {g mb M : Nat} {L : List (Option Ml)} (h : Bg w g mb M L) (hf : M ≤ (msgs L).length) (m : Ml) :
    Calls Try.prog 27 #[.pointer (some ⟨g, 0, none⟩), .agg #[.int .i64 m.fr, .int .i64 m.to, .string m.bd]] w fun e w' => e = .returned (.int .i64 12) ∧ Below w.heap.size w w' := by
  have hB := (Below.refl w.heap.size w).alloc (Nat.le_refl _) (.cells #[.int .i64 m.fr, .int .i64 m.to, .string m.bd] 33)
  have hG := h.below hB
  have q0 := hG.c0
  have q2 := hG.c2
  have hlen := fun ty => (hG.own.same (w' := (w.alloc (.cells #[.int .i64 m.fr, .int .i64 m.to, .string m.bd] 33)).drew) rfl).len ty
  have HB := Lib.hid hB
  have hc : (M : Int) ≤ ((msgs L).length : Int) := by omega
  clear hG h hB
  generalize (msgs L).length = c at *
  go_enter Try.func27, Try.ntmps27
  go_wp2
  go_region
  go_wp2
  go_ret
  exact ⟨rfl, HB.out.trans ⟨rfl, rfl, rfl, Nat.le_refl _, fun _ _ => rfl⟩⟩

set_option maxHeartbeats 4000000 in
theorem add_yes {w : World} {g mb M : Nat} {L : List (Option Ml)} (h : Bg w g mb M L) (hf : (msgs L).length < M) (hM : M ≤ 1000) (hl : L.length ≤ 2 * (msgs L).length) (m : Ml) :
    Calls Try.prog 27 #[.pointer (some ⟨g, 0, none⟩), .agg #[.int .i64 m.fr, .int .i64 m.to, .string m.bd]] w fun e w' => e = .returned (.int .i64 0) ∧ Now w w' g mb M (msgs L ++ [m]) := by
  have hB := (Below.refl w.heap.size w).alloc (Nat.le_refl _) (.cells #[.int .i64 m.fr, .int .i64 m.to, .string m.bd] 33)
  have hG := h.below hB
  have B0 := Blk.new w #[.int .i64 m.fr, .int .i64 m.to, .string m.bd] 33
  have q0 := hG.c0
  have q1 := hG.c1
  have q2 := hG.c2
  have hgl := h.lt
  have hml := h.own.lt
  have hgm := h.ne
  have hlen := fun ty => (hG.own.same (w' := (w.alloc (.cells #[.int .i64 m.fr, .int .i64 m.to, .string m.bd] 33)).drew) rfl).len ty
  obtain ⟨w3, hst, o3, g3⟩ := (hG.own.same (w' := (w.alloc (.cells #[.int .i64 m.fr, .int .i64 m.to, .string m.bd] 33)).drew.drew) rfl).store m (by omega)
  dsimp only [mlC] at hst
  have hb3 : Blk w3 g (bagC M L.length mb) 54 := hG.blk.drew.drew.grow g3 hgm
  have r1 : w3.cell? ⟨g, 1, none⟩ = some (.int .i64 (L.length : Int)) := hb3.cell 1
  have f1 := hb3.free 1
  have HN : Hid (Now w (w3.setCell ⟨g, 1, none⟩ (.int .i64 ((L.length : Int) + 1))) g mb M (msgs L ++ [m])) := by
    refine ⟨mb, L ++ [some m], ⟨?_, o3.same (Below.heap_setCell _ _ _ _ (fun e => hgm e.symm)), by simp; omega⟩, ?_, ?_, ?_, .inl rfl⟩
    · have := hb3.put 1 (.int .i64 ((L.length : Int) + 1))
      rw [List.length_append]
      exact this
    · rw [msgs_append]
      rfl
    · simp
      omega
    · exact (((Bt.of hB g mb).trans ((Bt.drew g mb).trans (Bt.drew g mb))).trans (Bt.grown g3)).setCell 1 _
  have hc : ¬ ((M : Int) ≤ ((msgs L).length : Int)) := by omega
  have hw1 : IntKind.i64.wrap ((L.length : Int) + 1) = (L.length : Int) + 1 := IntWalk.i64_in _ (by omega)
  have hLl : L.length ≤ 2000 := by omega
  clear hG hB h o3 g3 hb3 hl
  generalize (msgs L).length = c at *
  generalize L.length = d at *
  go_enter Try.func27, Try.ntmps27
  go_wp2
  go_region
  go_wp2
  go_region
  go_wp2
  go_ret
  exact ⟨rfl, HN.out⟩

theorem put_nil (m : Ml) (w : World) : Calls Try.prog 13 #[.pointer none, .agg #[.int .i64 m.fr, .int .i64 m.to, .string m.bd]] w fun e w' => e = .returned (.int .i64 6) ∧ Below w.heap.size w w' := by
  have hB := (Below.refl w.heap.size w).alloc (Nat.le_refl _) (.cells #[.int .i64 m.fr, .int .i64 m.to, .string m.bd] 33)
  go_enter Try.func13, Try.ntmps13
  go_wp2
  go_ret
  exact ⟨rfl, hB⟩
theorem put_big (g : Nat) (m : Ml) (hs : 4096 < m.bd.size) (w : World) : Calls Try.prog 13 #[.pointer (some ⟨g, 0, none⟩), .agg #[.int .i64 m.fr, .int .i64 m.to, .string m.bd]] w fun e w' => e = .returned (.int .i64 2) ∧ Below w.heap.size w w' := by
  have hB := (Below.refl w.heap.size w).alloc (Nat.le_refl _) (.cells #[.int .i64 m.fr, .int .i64 m.to, .string m.bd] 33)
  have b0 := Blk.new w #[.int .i64 m.fr, .int .i64 m.to, .string m.bd] 33
  have q2 : (w.alloc (.cells #[.int .i64 m.fr, .int .i64 m.to, .string m.bd] 33)).cell? ⟨w.heap.size, 2, none⟩ = some (.string m.bd) := b0.cell 2
  have h1 : (4096 : Int) < (m.bd.size : Int) := by omega
  clear b0
  go_enter Try.func13, Try.ntmps13
  go_wp2
  go_ret
  exact ⟨rfl, hB⟩
theorem Now.pre {w w1 w2 : World} {g mb M : Nat} {K : List Ml} (hb : Below w.heap.size w w1) (h : Now w1 w2 g mb M K) : Now w w2 g mb M K := by
  obtain ⟨mb', L', h1, h2, h3, h4, h5⟩ := h
  have := hb.size
  exact ⟨mb', L', h1, h2, h3, (Bt.of hb g mb).trans h4, h5.imp id (fun h => by omega)⟩
set_option maxHeartbeats 2000000 in
theorem put_add (g : Nat) (m : Ml) (hs : ¬ 4096 < m.bd.size) (w : World) (r : Int) (R : World → Prop)
    (hadd : ∀ w1, Below w.heap.size w w1 → Calls Try.prog 27 #[.pointer (some ⟨g, 0, none⟩), .agg #[.int .i64 m.fr, .int .i64 m.to, .string m.bd]] w1 fun e w' => e = .returned (.int .i64 r) ∧ R w') :
    Calls Try.prog 13 #[.pointer (some ⟨g, 0, none⟩), .agg #[.int .i64 m.fr, .int .i64 m.to, .string m.bd]] w fun e w' => e = .returned (.int .i64 r) ∧ R w' := by
  have hB := (Below.refl w.heap.size w).alloc (Nat.le_refl _) (.cells #[.int .i64 m.fr, .int .i64 m.to, .string m.bd] 33)
  have b0 := Blk.new w #[.int .i64 m.fr, .int .i64 m.to, .string m.bd] 33
  have q2 : (w.alloc (.cells #[.int .i64 m.fr, .int .i64 m.to, .string m.bd] 33)).cell? ⟨w.heap.size, 2, none⟩ = some (.string m.bd) := b0.cell 2
  have h1 : ¬ (4096 : Int) < (m.bd.size : Int) := by omega
  have HA := Lib.hid hadd
  have HC : Hid (∀ w1, Calls Try.prog 26 #[.string m.bd] w1 fun e w' => e = .returned (.string m.bd) ∧ Below w1.heap.size w1 w') := fun w1 => clone_any m.bd w1 (by omega)
  have HF : Hid (∀ w1, Below (w.alloc (.cells #[.int .i64 m.fr, .int .i64 m.to, .string m.bd] 33)).heap.size (w.alloc (.cells #[.int .i64 m.fr, .int .i64 m.to, .string m.bd] 33)) w1 →
      w1.frozen? ⟨w.heap.size, 2, none⟩ = false ∧ w1.cell? ⟨w.heap.size, 2, none⟩ = some (.string m.bd) ∧ Blk (w1.setCell ⟨w.heap.size, 2, none⟩ (.string m.bd)) w.heap.size #[.int .i64 m.fr, .int .i64 m.to, .string m.bd] 33 ∧ Below w.heap.size w (w1.setCell ⟨w.heap.size, 2, none⟩ (.string m.bd))) := by
    intro w1 hb
    have b1 := b0.below hb b0.lt
    exact ⟨b1.free 2, b1.cell 2, b1.put 2 _, (hB.trans (hb.mono (by simp))).setCell (p := ⟨w.heap.size, 2, none⟩) (Nat.le_refl _) _⟩
  clear b0 hadd hB
  go_enter Try.func13, Try.ntmps13
  go_wp2_with (first
    | (go_at_call 26; (with_reducible refine (HC.out _).mono ?_); rintro e w1 ⟨rfl, hb1⟩; obtain ⟨f1, c1, hb2, hb3⟩ := HF.out w1 hb1; have s0 := hb2.cell 0; have s1 := hb2.cell 1; have s2 := hb2.cell 2)
    | (go_at_call 27; (with_reducible refine (HA.out _ hb3).mono ?_); rintro e w3 ⟨rfl, hR⟩))
  go_ret
  exact ⟨rfl, hR⟩
theorem put_yes {w : World} {g mb M : Nat} {L : List (Option Ml)} (h : Bg w g mb M L) (hf : (msgs L).length < M) (hM : M ≤ 1000) (hl : L.length ≤ 2 * (msgs L).length) (m : Ml) (hs : m.bd.size ≤ 4096) :
    Calls Try.prog 13 #[.pointer (some ⟨g, 0, none⟩), .agg #[.int .i64 m.fr, .int .i64 m.to, .string m.bd]] w fun e w' => e = .returned (.int .i64 0) ∧ Now w w' g mb M (msgs L ++ [m]) :=
  put_add g m (by omega) w 0 _ fun w1 hb => (add_yes (h.below hb) hf hM hl m).mono fun e w' hh => ⟨hh.1, hh.2.pre hb⟩
theorem put_full {w : World} {g mb M : Nat} {L : List (Option Ml)} (h : Bg w g mb M L) (hf : M ≤ (msgs L).length) (m : Ml) (hs : m.bd.size ≤ 4096) :
    Calls Try.prog 13 #[.pointer (some ⟨g, 0, none⟩), .agg #[.int .i64 m.fr, .int .i64 m.to, .string m.bd]] w fun e w' => e = .returned (.int .i64 12) ∧ Below w.heap.size w w' :=
  put_add g m (by omega) w 12 _ fun w1 hb => (add_full (h.below hb) hf m).mono fun e w' hh => ⟨hh.1, hb.trans (hh.2.mono hb.size)⟩
end Go.Proofs.Ytbjjbcjapkmnfaa
