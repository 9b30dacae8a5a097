/- The value at a key: the program's Find, and the document's. -/
import Derived.Test.YtkicndengkcojaaRecIs
import Derived.Test.YtkicndengkcojaaPkB
namespace Go.Proofs.Ytkicndengkcojaa
set_option maxRecDepth 100000
open Go Go.RowKit Go.Sort

theorem rec_box (w : World) (r : Rc) (u : Value) : Blk (w.alloc (.cells (recC r u) 27)) w.heap.size (recC r u) 27 ∧ Below w.heap.size w (w.alloc (.cells (recC r u) 27)) :=
  ⟨Blk.new _ _ _, (Below.refl _ _).alloc (Nat.le_refl _) _⟩
set_option maxHeartbeats 2000000 in
theorem find_any {r : Rc} {u : Value} {w : World} (hT0 : Told w u r.items) (hl : r.items.length ≤ 1000000) (k : Nat) :
    Calls Try.prog 23 #[.agg (recC r u), .int .u64 (k : Int)] w fun e w' => e = .returned (.tuple #[.string (valL r.items k), .bool (hasL r.items k)]) ∧ Below w.heap.size w w' := by
  obtain ⟨a, c, rfl⟩ := told_shape hT0
  obtain ⟨kind, L, nl, nb, mark⟩ := r
  simp only at *
  obtain ⟨n, hn⟩ : ∃ n, n = L.length := ⟨_, rfl⟩
  rw [← hn] at hT0 hl ⊢
  have HN := Lib.hid hn
  have HT := Lib.hid hT0
  clear hT0 hn
  go_enter Try.func23, Try.ntmps23
  simp only [recC]
  go_upto_region 1 with (fail)
  obtain ⟨A0, B0⟩ := rec_box w ⟨kind, L, nl, nb, mark⟩ (.slice a n c)
  simp only [recC] at A0 B0
  generalize w.alloc _ = W at *
  have c1 : W.cell? ⟨w.heap.size, 1, none⟩ = some (.slice a n c) := A0.cell 1
  clear A0
  have HB0 := Lib.hid B0
  clear B0
  go_wp2
  go_loopw [7, 11] (fun _ i wr => ∃ q : Nat, q ≤ n ∧ i = .int .i64 (q : Int) ∧ Below w.heap.size w wr ∧ ∀ j y, j < q → L[j]? = some y → y.1 ≠ k) (fun _ i _ => n - (intOf i).toNat)
  case atStart => exact ⟨0, by omega, rfl, HB0.out, fun j y hj => by omega⟩
  case round =>
    obtain ⟨q, hq, rfl, hB, hM⟩ := hrel
    have HB := Lib.hid hB
    have HMI := Lib.hid hM
    clear hB hM c1
    by_cases hlt : q < n
    · obtain ⟨x, hx⟩ : ∃ x, L[q]? = some x := ⟨_, List.getElem?_eq_getElem (by have := HN.out; omega)⟩
      have hT : Told wr (.slice a n c) L := HT.out.bel HB.out
      obtain ⟨b1, o1, rfl, _, _, hr⟩ := told_at hT hx
      have HX := Lib.hid hx
      clear hx hT
      have HM := Lib.hid (made wr x.1 x.2 #[.int .u64 0, .string ⟨#[]⟩])
      have HR := Lib.hid hr
      clear hr
      go_upto_region 4 with (first
        | (refine p_midA rfl _ rfl _ _ rfl x.1 x.2 HR.out ?_)
        | (refine p_storeA rfl _ _ rfl wr.heap.size rfl x.1 x.2 rfl #[.int .u64 0, .string ⟨#[]⟩] rfl (Blk.new _ _ _) ?_))
      generalize (wr.alloc _).setRow _ _ = W2 at *
      have d1 : W2.cell? ⟨wr.heap.size, 0, none⟩ = some (.int .u64 (x.1 : Int)) := HM.out.blk.cell 0
      have d2 : W2.cell? ⟨wr.heap.size, 1, none⟩ = some (.string x.2) := HM.out.blk.cell 1
      have HB2 := Lib.hid (rstep HB.out HM.out.bel)
      by_cases hk : x.1 = k
      · have HG := Lib.hid (get_first HMI.out HX.out hk)
        have hd : ((x.1 : Int) == (k : Int)) = true := by rw [hk]; simp
        clear hk
        go_wp2
        go_ret2
        refine ⟨?_, HB2.out⟩
        rw [valL, hasL, HG.out]
        rfl
      · have hd : ((x.1 : Int) == (k : Int)) = false := by
          rw [Bool.eq_false_iff]; intro h; simp at h; omega
        have HK := Lib.hid hk
        clear hk
        go_wp2
        refine ⟨⟨q + 1, by omega, by go_num, HB2.out, fun j y hj hy => ?_⟩, by simp [intOf]; omega⟩
        rcases Nat.lt_or_ge j q with h | h
        · exact HMI.out j y h hy
        · obtain rfl : j = q := by omega
          have := HX.out
          rw [hy] at this
          obtain rfl := Option.some.inj this
          exact HK.out
    · obtain rfl : n = q := by omega
      have HG := Lib.hid (get_miss (L := L) (k := k) (by rw [← HN.out]; exact HMI.out))
      go_wp2
      go_ret2
      refine ⟨?_, HB.out⟩
      rw [valL, hasL, HG.out]
      rfl
set_option maxHeartbeats 2000000 in
theorem reffind_any {r : Rc} {u : Value} {w : World} (hT0 : Told w u r.items) (hl : r.items.length ≤ 1000000) (k : Nat) :
    Calls Try.prog 24 #[.agg (recC r u), .int .u64 (k : Int)] w fun e w' => e = .returned (.tuple #[.string (valL r.items k), .bool (hasL r.items k)]) ∧ Below w.heap.size w w' := by
  obtain ⟨a, c, rfl⟩ := told_shape hT0
  obtain ⟨kind, L, nl, nb, mark⟩ := r
  simp only at *
  obtain ⟨n, hn⟩ : ∃ n, n = L.length := ⟨_, rfl⟩
  rw [← hn] at hT0 hl ⊢
  have HN := Lib.hid hn
  have HT := Lib.hid hT0
  clear hT0 hn
  go_enter Try.func24, Try.ntmps24
  simp only [recC]
  go_upto_region 1 with (fail)
  obtain ⟨A0, B0⟩ := rec_box w ⟨kind, L, nl, nb, mark⟩ (.slice a n c)
  simp only [recC] at A0 B0
  generalize w.alloc _ = W at *
  have c1 : W.cell? ⟨w.heap.size, 1, none⟩ = some (.slice a n c) := A0.cell 1
  clear A0
  have HB0 := Lib.hid B0
  clear B0
  go_wp2
  go_loop [6] (fun i => ∃ q : Nat, q ≤ n ∧ i = .int .i64 (q : Int) ∧ ∀ j y, j < q → L[j]? = some y → y.1 ≠ k) (fun i => n - (intOf i).toNat)
  case atStart => exact ⟨0, by omega, rfl, fun j y hj => by omega⟩
  case round =>
    obtain ⟨q, hq, rfl, hM⟩ := hrel
    have HMI := Lib.hid hM
    clear hM
    by_cases hlt : q < n
    · obtain ⟨x, hx⟩ : ∃ x, L[q]? = some x := ⟨_, List.getElem?_eq_getElem (by have := HN.out; omega)⟩
      have hT : Told W (.slice a n c) L := HT.out.bel HB0.out
      obtain ⟨b1, o1, rfl, d1, d2, _⟩ := told_at hT hx
      have HX := Lib.hid hx
      clear hx hT
      by_cases hk : x.1 = k
      · have HG := Lib.hid (get_first HMI.out HX.out hk)
        have hd : ((x.1 : Int) == (k : Int)) = true := by rw [hk]; simp
        clear hk
        go_wp2
        go_ret2
        refine ⟨?_, HB0.out⟩
        rw [valL, hasL, HG.out]
        rfl
      · have hd : ((x.1 : Int) == (k : Int)) = false := by
          rw [Bool.eq_false_iff]; intro h; simp at h; omega
        have HK := Lib.hid hk
        clear hk
        go_wp2
        refine ⟨⟨q + 1, by omega, by go_num, fun j y hj hy => ?_⟩, by simp [intOf]; omega⟩
        rcases Nat.lt_or_ge j q with h | h
        · exact HMI.out j y h hy
        · obtain rfl : j = q := by omega
          have := HX.out
          rw [hy] at this
          obtain rfl := Option.some.inj this
          exact HK.out
    · obtain rfl : n = q := by omega
      have HG := Lib.hid (get_miss (L := L) (k := k) (by rw [← HN.out]; exact HMI.out))
      go_wp2
      go_ret2
      refine ⟨?_, HB0.out⟩
      rw [valL, hasL, HG.out]
      rfl
end Go.Proofs.Ytkicndengkcojaa
