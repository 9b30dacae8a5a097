/- The document's Big; a record of a law's own. -/
import Derived.Test.YtkicndengkcojaaRecSame
namespace Go.Proofs.Ytkicndengkcojaa
set_option maxRecDepth 100000
open Go Go.RowKit Go.Sort

/-- the size of all values, as far as it is counted -/
def sizeL (L : List It) : Int := L.foldl (fun z x => wrap64 (z + (x.2.size : Int))) 0
def bigB (r : Rc) : Bool := decide (40 < (r.items.length : Int)) || decide (8000 < sizeL r.items)
theorem big_no {r : Rc} (h : bigB r = false) : r.items.length ≤ 40 := by
  simp only [bigB, Bool.or_eq_false_iff, decide_eq_false_iff_not] at h
  omega
theorem size_step {L : List It} {q : Nat} {x : It} (hx : L[q]? = some x) : sizeL (L.take (q + 1)) = wrap64 (sizeL (L.take q) + (x.2.size : Int)) := by
  obtain ⟨h1, rfl⟩ := List.getElem?_eq_some_iff.1 hx
  rw [List.take_succ_eq_append_getElem h1]
  unfold sizeL
  rw [List.foldl_append]
  rfl
set_option maxHeartbeats 2000000 in
theorem big_any {r : Rc} {u : Value} {w : World} (hT0 : Told w u r.items) :
    Calls Try.prog 9 #[.agg (recC r u)] w fun e w' => e = .returned (.bool (bigB r)) ∧ Below w.heap.size w w' := by
  obtain ⟨a, c, rfl⟩ := told_shape hT0
  obtain ⟨kind, L, nl, nb, mark⟩ := r
  simp only [bigB] at *
  obtain ⟨n, hn⟩ : ∃ n, n = L.length := ⟨_, rfl⟩
  rw [← hn] at hT0 ⊢
  have HN := Lib.hid hn
  have HT := Lib.hid hT0
  clear hT0 hn
  by_cases h40 : n ≤ 40
  · have hc : ¬ (40 : Int) < (n : Int) := by omega
    have hc2 : (n : Int) ≤ 40 := by omega
    go_enter Try.func9, Try.ntmps9
    simp only [recC]
    go_upto_region 1 with (fail)
    obtain ⟨A0, B0⟩ := rec_box w ⟨kind, L, nl, nb, mark⟩ (.slice a n c)
    simp only [recC] at A0 B0
    generalize w.alloc _ = W at *
    have c1 : W.cell? ⟨w.heap.size, 1, none⟩ = some (.slice a n c) := A0.cell 1
    clear A0
    have HB0 := Lib.hid B0
    clear B0
    go_wp2
    go_loop [3, 4] (fun s i => ∃ q : Nat, q ≤ n ∧ i = .int .i64 (q : Int) ∧ s = .int .i64 (sizeL (L.take q))) (fun _ i => n - (intOf i).toNat)
    case atStart => exact ⟨0, by omega, rfl, rfl⟩
    case round =>
      obtain ⟨q, hq, rfl, rfl⟩ := hrel
      by_cases hlt : q < n
      · obtain ⟨x, hx⟩ : ∃ x, L[q]? = some x := ⟨_, List.getElem?_eq_getElem (by have := HN.out; omega)⟩
        have hT : Told W (.slice a n c) L := HT.out.bel HB0.out
        obtain ⟨b1, o1, rfl, d1, d2, _⟩ := told_at hT hx
        have hz := size_step hx
        generalize sizeL (L.take q) = z at *
        have HZ := Lib.hid hz
        clear hx hT hz
        go_wp2
        refine ⟨⟨q + 1, by omega, by go_num, ?_⟩, by simp [intOf]; omega⟩
        rw [HZ.out]
      · obtain rfl : n = q := by omega
        go_wp2
        go_ret
        have hz : L.take n = L := List.take_of_length_le (by have := HN.out; omega)
        exact ⟨ret_bool (by rw [hz]), HB0.out⟩
  · have hc : (40 : Int) < (n : Int) := by omega
    have hc2 : ¬ (n : Int) ≤ 40 := by omega
    go_enter Try.func9, Try.ntmps9
    simp only [recC]
    go_upto_region 1 with (fail)
    obtain ⟨A0, B0⟩ := rec_box w ⟨kind, L, nl, nb, mark⟩ (.slice a n c)
    simp only [recC] at A0 B0
    generalize w.alloc _ = W at *
    have c1 : W.cell? ⟨w.heap.size, 1, none⟩ = some (.slice a n c) := A0.cell 1
    clear A0
    have HB0 := Lib.hid B0
    clear B0
    go_wp2
    go_loop [3, 4] (fun s i => s = .int .i64 0 ∧ i = .int .i64 0) (fun _ i => n - (intOf i).toNat)
    case atStart => exact ⟨rfl, rfl⟩
    case round =>
      obtain ⟨rfl, rfl⟩ := hrel
      have h0 : (0 : Int) < (n : Int) := by omega
      go_wp2
      go_ret
      exact ⟨ret_bool rfl, HB0.out⟩
end Go.Proofs.Ytkicndengkcojaa
