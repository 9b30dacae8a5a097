/- Whether a record is right: Is, of any record. -/
import Derived.Test.YtkicndengkcojaaRecIs2
namespace Go.Proofs.Ytkicndengkcojaa
set_option maxRecDepth 100000
open Go Go.RowKit Go.Sort

theorem is_other (kind : Int) (items : List It) (nl : Int) (nb mark : Nat) (v : Value) (hk : ¬ (1 ≤ kind ∧ kind ≤ 5)) (w : World) :
    Calls Try.prog 15 #[.agg (recC ⟨kind, items, nl, nb, mark⟩ v)] w fun e w' => e = .returned (.bool false) ∧ Below w.heap.size w w' := by
  have k1 : (kind == 1) = false := by simp; omega
  have k2 : (kind == 2) = false := by simp; omega
  have k3 : (kind == 3) = false := by simp; omega
  have k4 : (kind == 4) = false := by simp; omega
  have k5 : (kind == 5) = false := by simp; omega
  clear hk
  go_enter Try.func15, Try.ntmps15
  simp only [recC]
  go_upto_region 1 with (fail)
  have A0 := Lib.hid (Blk.new w (recC ⟨kind, items, nl, nb, mark⟩ v) 27)
  have B0 := Lib.hid ((Below.refl w.heap.size w).alloc (Nat.le_refl _) (.cells (recC ⟨kind, items, nl, nb, mark⟩ v) 27))
  simp only [recC] at A0 B0
  generalize w.alloc _ = W at *
  have c0 : W.cell? ⟨w.heap.size, 0, none⟩ = some (.int .i64 kind) := A0.out.cell 0
  go_wp2
  go_ret
  exact ⟨rfl, B0.out⟩
theorem is_bool {P : Program} {f : FuncId} {args : Array Value} {w : World} {a b : Bool} (h : Calls P f args w fun e w' => e = .returned (.bool a) ∧ Below w.heap.size w w') (e : a = b) : Calls P f args w fun e w' => e = .returned (.bool b) ∧ Below w.heap.size w w' := e ▸ h
set_option maxHeartbeats 1000000 in
theorem is_of1 (items : List It) (nl : Int) (nb mark : Nat) (a : Option Addr) (c : Nat) (w : World)
    (HA : Hid (∀ w1, Below w.heap.size w w1 → Calls Try.prog 50 #[.slice a items.length c] w1 fun e w' => e = .returned (.bool (okI items)) ∧ Below w1.heap.size w1 w'))
    (HI : Gives Try.prog 51 #[.agg (labc nl nb)] (.bool (isB nl nb))) :
    Calls Try.prog 15 #[.agg (recC ⟨1, items, nl, nb, mark⟩ (.slice a items.length c))] w fun e w' => e = .returned (.bool (isR ⟨1, items, nl, nb, mark⟩)) ∧ Below w.heap.size w w' := by
  have hemp : items.isEmpty = decide (items.length = 0) := by cases items <;> simp
  by_cases hm : mark = 0
  · cases hok : okI items <;> rw [hok] at HA
    · exact is_bool (is1_false items nl nb mark a items.length c w hm HA _ HI) (by simp [isR, bareB, noneB, *])
    · cases hE : eqL nl nb (-1) 0
      · exact is_bool (is1_lab items nl nb mark a items.length c w hm HA hE _ HI) (by simp [isR, bareB, noneB, *])
      · exact is_bool (is1_none items nl nb mark a items.length c w hm HA hE _ HI) (by simp [isR, bareB, noneB, *])
  · exact is_bool (is1_mark items nl nb mark a items.length c w hm) (by simp [isR, bareB, noneB, *])
set_option maxHeartbeats 1000000 in
theorem is_of2 (items : List It) (nl : Int) (nb mark : Nat) (a : Option Addr) (c : Nat) (w : World)
    (HA : Hid (∀ w1, Below w.heap.size w w1 → Calls Try.prog 50 #[.slice a items.length c] w1 fun e w' => e = .returned (.bool (okI items)) ∧ Below w1.heap.size w1 w'))
    (HI : Gives Try.prog 51 #[.agg (labc nl nb)] (.bool (isB nl nb))) :
    Calls Try.prog 15 #[.agg (recC ⟨2, items, nl, nb, mark⟩ (.slice a items.length c))] w fun e w' => e = .returned (.bool (isR ⟨2, items, nl, nb, mark⟩)) ∧ Below w.heap.size w w' := by
  have hemp : items.isEmpty = decide (items.length = 0) := by cases items <;> simp
  by_cases hn : items.length = 0
  · cases hE : eqL nl nb (-1) 0
    · exact is_bool (is2_next items nl nb mark a items.length c w hn (by rw [hE]; rfl)) (by simp [isR, bareB, noneB, *])
    · by_cases hm : mark = 0
      · cases hok : okI items <;> rw [hok] at HA
        · exact is_bool (is2_false items nl nb mark a items.length c w hn (by rw [hE]; rfl) hE hm HA _ HI) (by simp [isR, bareB, noneB, *])
        · exact is_bool (is2_true items nl nb mark a items.length c w hn (by rw [hE]; rfl) hE hm HA _ HI) (by simp [isR, bareB, noneB, *])
      · exact is_bool (is2_mark items nl nb mark a items.length c w hn (by rw [hE]; rfl) hm) (by simp [isR, bareB, noneB, *])
  · exact is_bool (is2_items items nl nb mark a items.length c w (by omega)) (by simp [isR, bareB, noneB, *])
set_option maxHeartbeats 1000000 in
theorem is_of3 (items : List It) (nl : Int) (nb mark : Nat) (a : Option Addr) (c : Nat) (w : World)
    (HA : Hid (∀ w1, Below w.heap.size w w1 → Calls Try.prog 50 #[.slice a items.length c] w1 fun e w' => e = .returned (.bool (okI items)) ∧ Below w1.heap.size w1 w'))
    (HI : Gives Try.prog 51 #[.agg (labc nl nb)] (.bool (isB nl nb))) :
    Calls Try.prog 15 #[.agg (recC ⟨3, items, nl, nb, mark⟩ (.slice a items.length c))] w fun e w' => e = .returned (.bool (isR ⟨3, items, nl, nb, mark⟩)) ∧ Below w.heap.size w w' := by
  have hemp : items.isEmpty = decide (items.length = 0) := by cases items <;> simp
  by_cases hm : mark = 0
  · cases hok : okI items <;> rw [hok] at HA
    · exact is_bool (is3_false items nl nb mark a items.length c w hm HA _ HI) (by simp [isR, bareB, noneB, *])
    · cases hE : eqL nl nb (-1) 0
      · exact is_bool (is3_lab items nl nb mark a items.length c w hm HA hE _ HI) (by simp [isR, bareB, noneB, *])
      · exact is_bool (is3_none items nl nb mark a items.length c w hm HA hE _ HI) (by simp [isR, bareB, noneB, *])
  · exact is_bool (is3_mark items nl nb mark a items.length c w hm) (by simp [isR, bareB, noneB, *])
set_option maxHeartbeats 1000000 in
theorem is_of4 (items : List It) (nl : Int) (nb mark : Nat) (a : Option Addr) (c : Nat) (w : World)
    (HA : Hid (∀ w1, Below w.heap.size w w1 → Calls Try.prog 50 #[.slice a items.length c] w1 fun e w' => e = .returned (.bool (okI items)) ∧ Below w1.heap.size w1 w'))
    (HI : Gives Try.prog 51 #[.agg (labc nl nb)] (.bool (isB nl nb))) :
    Calls Try.prog 15 #[.agg (recC ⟨4, items, nl, nb, mark⟩ (.slice a items.length c))] w fun e w' => e = .returned (.bool (isR ⟨4, items, nl, nb, mark⟩)) ∧ Below w.heap.size w w' := by
  have hemp : items.isEmpty = decide (items.length = 0) := by cases items <;> simp
  by_cases hn : items.length = 0
  · cases hE : eqL nl nb (-1) 0
    · exact is_bool (is4_next items nl nb mark a items.length c w hn (by rw [hE]; rfl)) (by simp [isR, bareB, noneB, *])
    · by_cases hm : mark = 0
      · cases hok : okI items <;> rw [hok] at HA
        · exact is_bool (is4_false items nl nb mark a items.length c w hn (by rw [hE]; rfl) hE hm HA _ HI) (by simp [isR, bareB, noneB, *])
        · exact is_bool (is4_true items nl nb mark a items.length c w hn (by rw [hE]; rfl) hE hm HA _ HI) (by simp [isR, bareB, noneB, *])
      · exact is_bool (is4_mark items nl nb mark a items.length c w hn (by rw [hE]; rfl) hm) (by simp [isR, bareB, noneB, *])
  · exact is_bool (is4_items items nl nb mark a items.length c w (by omega)) (by simp [isR, bareB, noneB, *])
set_option maxHeartbeats 1000000 in
theorem is_of5 (items : List It) (nl : Int) (nb mark : Nat) (a : Option Addr) (c : Nat) (w : World)
    (HA : Hid (∀ w1, Below w.heap.size w w1 → Calls Try.prog 50 #[.slice a items.length c] w1 fun e w' => e = .returned (.bool (okI items)) ∧ Below w1.heap.size w1 w'))
    (HI : Gives Try.prog 51 #[.agg (labc nl nb)] (.bool (isB nl nb))) :
    Calls Try.prog 15 #[.agg (recC ⟨5, items, nl, nb, mark⟩ (.slice a items.length c))] w fun e w' => e = .returned (.bool (isR ⟨5, items, nl, nb, mark⟩)) ∧ Below w.heap.size w w' := by
  have hemp : items.isEmpty = decide (items.length = 0) := by cases items <;> simp
  cases hok : okI items <;> rw [hok] at HA
  · exact is_bool (is5_false items nl nb mark a items.length c w HA _ HI) (by simp [isR, bareB, noneB, *])
  · cases hE : eqL nl nb (-1) 0
    · exact is_bool (is5_lab items nl nb mark a items.length c w HA hE _ HI) (by simp [isR, bareB, noneB, *])
    · exact is_bool (is5_none items nl nb mark a items.length c w HA hE _ HI) (by simp [isR, bareB, noneB, *])
theorem is_any {r : Rc} {u : Value} {w : World} (hT : Told w u r.items) (hW : r.Wf) (hl : r.items.length ≤ 1000000) : Calls Try.prog 15 #[.agg (recC r u)] w fun e w' => e = .returned (.bool (isR r)) ∧ Below w.heap.size w w' := by
  have HA := Lib.hid (fun w1 (hb : Below w.heap.size w w1) => areRight_any (hT.bel hb) hl)
  have HI : Gives Try.prog 51 #[.agg (labc r.nl r.nb)] (.bool (isB r.nl r.nb)) := fun w => isL_any r.nl r.nb w hW.nl.1 hW.nl.2 hW.nb
  obtain ⟨a, c, rfl⟩ := told_shape hT
  obtain ⟨kind, items, nl, nb, mark⟩ := r
  simp only at HA HI ⊢
  clear hT hW hl
  by_cases hk : 1 ≤ kind ∧ kind ≤ 5
  · obtain rfl | rfl | rfl | rfl | rfl : kind = 1 ∨ kind = 2 ∨ kind = 3 ∨ kind = 4 ∨ kind = 5 := by omega
    · exact is_of1 items nl nb mark a c w HA HI
    · exact is_of2 items nl nb mark a c w HA HI
    · exact is_of3 items nl nb mark a c w HA HI
    · exact is_of4 items nl nb mark a c w HA HI
    · exact is_of5 items nl nb mark a c w HA HI
  · exact is_bool (is_other kind items nl nb mark _ hk w) (by simp [isR, hk])
end Go.Proofs.Ytkicndengkcojaa
