/- The document's map: Get, Rank, Min, Max, and a row without a key. -/
import Derived.Test.YtbjlappppbaohaaSorLook
import Derived.Test.YtbjlappppbaohaaSorRow
namespace Go.Proofs.Ytbjlappppbaohaa
open Go Go.RowKit Go.Sort

/-- the document's map -/
def Rp (w : World) (g : Nat) (v : Value) (L : List It) : Prop := Mp w 29 46 g v L
theorem get_first {L : List It} {k i : Nat} {x : It} (h : ∀ j y, j < i → L[j]? = some y → y.1 ≠ k) (hx : L[i]? = some x) (hk : x.1 = k) : getL L k = some x.2 := by
  obtain ⟨hi, rfl⟩ := List.getElem?_eq_some_iff.1 hx
  have e : L = L.take i ++ L[i] :: L.drop (i + 1) := by rw [← List.drop_eq_getElem_cons hi, List.take_append_drop]
  have e1 : getL (L.take i) k = none := get_none fun y hy => by
    obtain ⟨j, hj, rfl⟩ := List.getElem_of_mem hy
    rw [List.length_take] at hj
    have := h j _ (by omega) (List.getElem?_eq_getElem (show j < L.length by omega))
    simpa using this
  have e2 : getL (L[i] :: L.drop (i + 1)) k = some L[i].2 := by
    unfold getL
    rw [List.find?_cons_of_pos (by simpa using hk)]
    rfl
  have e3 : getL (L.take i ++ L[i] :: L.drop (i + 1)) k = some L[i].2 := by rw [get_append, e1, e2]; rfl
  rwa [← e] at e3
theorem get_miss {L : List It} {k : Nat} (h : ∀ j y, j < L.length → L[j]? = some y → y.1 ≠ k) : getL L k = none := get_none fun y hy => by
  obtain ⟨j, hj, rfl⟩ := List.getElem_of_mem hy
  exact h j _ hj (List.getElem?_eq_getElem hj)
theorem Mp.at {w w1 : World} {T e g : Nat} {v : Value} {L : List It} (h : Mp w T e g v L) (hb1 : Below w.heap.size w w1) {i : Nat} {x : It} (hx : L[i]? = some x) :
    ∃ b c, v = .slice (some ⟨b, 0, none⟩) L.length c ∧ b < w.heap.size ∧ b ≠ g ∧ w1.cell? ⟨g, 0, none⟩ = some (.slice (some ⟨b, 0, none⟩) L.length c) ∧ w1.cell? ⟨b, i * 2, none⟩ = some (.int .u64 (x.1 : Int)) ∧ w1.cell? ⟨b, i * 2 + 1, none⟩ = some (.string x.2) ∧ w1.rangeAt b (i * 2) (itC x.1 x.2).toList := by
  rcases h.shape with ⟨_, rfl⟩ | ⟨b, c, rfl, _, _, hr, hb, hn⟩
  · simp at hx
  · have hr1 := range_bel hr hb1 hb
    obtain ⟨c1, c2⟩ := row_at hr1 hx
    have := row_item hr1 hx
    rw [Nat.zero_add] at this
    exact ⟨b, c, rfl, hb, hn, (h.bel hb1).cell, c1, c2, this⟩
theorem Mp.form {w w1 : World} {T e g : Nat} {v : Value} {L : List It} (h : Mp w T e g v L) (hb1 : Below w.heap.size w w1) : ∃ a c, v = .slice a L.length c ∧ w1.cell? ⟨g, 0, none⟩ = some (.slice a L.length c) := by
  rcases h.shape with ⟨rfl, rfl⟩ | ⟨b, c, rfl, _⟩
  · exact ⟨_, _, rfl, (h.bel hb1).cell⟩
  · exact ⟨_, _, rfl, (h.bel hb1).cell⟩
set_option maxHeartbeats 1000000 in
theorem refget_any {w : World} {g : Nat} {v : Value} {L : List It} (h : Rp w g v L) (k : Nat) : Calls Try.prog 24 #[.pointer (some ⟨g, 0, none⟩), .int .u64 (k : Int)] w fun e w' => e = .returned (.tuple #[.string (valL L k), .bool (hasL L k)]) ∧ w = w' := by
  have HM := Lib.hid h
  obtain ⟨a, c, hv, c0⟩ := Mp.form h (Below.refl _ _)
  have hlen := Mp.len h
  obtain ⟨n, hn⟩ : ∃ n, n = L.length := ⟨_, rfl⟩
  rw [← hn] at c0 hlen
  have HN := Lib.hid hn
  have HV := Lib.hid hv
  clear h hn hv
  go_enter Try.func24, Try.ntmps24
  go_wp2
  go_loop [6] (fun i => ∃ p : Nat, p ≤ n ∧ i = .int .i64 p ∧ ∀ j y, j < p → L[j]? = some y → y.1 ≠ k) (fun i => n - (intOf i).toNat)
  case atStart => exact ⟨0, by omega, rfl, fun j y hj => by omega⟩
  case round =>
    obtain ⟨p, hp, rfl, hmiss⟩ := hrel
    have HMI := Lib.hid hmiss
    clear hmiss
    by_cases hlt : p < n
    · obtain ⟨x, hx⟩ : ∃ x, L[p]? = some x := ⟨_, List.getElem?_eq_getElem (by have := HN.out; omega)⟩
      obtain ⟨b, c', hv', d1, d2, d3, c1, c2, d4⟩ := Mp.at HM.out (Below.refl _ _) hx
      clear d1 d2 d3 d4
      obtain rfl : a = some ⟨b, 0, none⟩ := by
        have := HV.out.symm.trans hv'
        simp only [Value.slice.injEq] at this
        exact this.1
      have HX := Lib.hid hx
      clear hx hv'
      by_cases hk : x.1 = k
      · have HG := Lib.hid (get_first HMI.out HX.out hk)
        have hd : ((x.1 : Int) == (k : Int)) = true := by rw [hk]; simp
        clear hk
        go_wp2
        go_ret2
        refine ⟨?_, rfl⟩
        rw [valL, hasL, HG.out]
        rfl
      · have hd : ((x.1 : Int) == (k : Int)) = false := by
          rw [Bool.eq_false_iff]; intro h; simp at h; omega
        have HK := Lib.hid hk
        clear hk
        go_wp2
        refine ⟨⟨p + 1, by omega, by go_num, fun j y hj hy => ?_⟩, by simp [intOf]; omega⟩
        rcases Nat.lt_or_ge j p with h | h
        · exact HMI.out j y h hy
        · obtain rfl : j = p := by omega
          have := HX.out
          rw [hy] at this
          obtain rfl := Option.some.inj this
          exact HK.out
    · obtain rfl : n = p := by omega
      have HG := Lib.hid (get_miss (L := L) (k := k) (by rw [← HN.out]; exact HMI.out))
      go_wp2
      go_ret2
      refine ⟨?_, rfl⟩
      rw [valL, hasL, HG.out]
      rfl
theorem rank_take {L : List It} {p : Nat} {x : It} (k : Nat) (hx : L[p]? = some x) : rankL (L.take (p + 1)) k = rankL (L.take p) k + if x.1 < k then 1 else 0 := by
  obtain ⟨hp, rfl⟩ := List.getElem?_eq_some_iff.1 hx
  rw [rankL, List.take_succ_eq_append_getElem hp, lo_append, List.length_append, ← rankL]
  congr 1
  unfold loL
  by_cases h : L[p].1 < k
  · rw [if_pos h, List.filter_cons_of_pos (by simpa using h)]; rfl
  · rw [if_neg h, List.filter_cons_of_neg (by simpa using h)]; rfl
set_option maxHeartbeats 1000000 in
theorem refrank_any {w : World} {g : Nat} {v : Value} {L : List It} (h : Rp w g v L) (k : Nat) : Calls Try.prog 25 #[.pointer (some ⟨g, 0, none⟩), .int .u64 (k : Int)] w fun e w' => e = .returned (.int .i64 (rankL L k)) ∧ w = w' := by
  have HM := Lib.hid h
  obtain ⟨a, c, hv, c0⟩ := Mp.form h (Below.refl _ _)
  have hlen := Mp.len h
  obtain ⟨n, hn⟩ : ∃ n, n = L.length := ⟨_, rfl⟩
  rw [← hn] at c0 hlen
  have HN := Lib.hid hn
  have HV := Lib.hid hv
  clear h hn hv
  go_enter Try.func25, Try.ntmps25
  go_wp2
  go_loop [5, 6] (fun q i => ∃ p : Nat, p ≤ n ∧ i = .int .i64 p ∧ q = .int .i64 (rankL (L.take p) k)) (fun _ i => n - (intOf i).toNat)
  case atStart => exact ⟨0, by omega, rfl, rfl⟩
  case round =>
    obtain ⟨p, hp, rfl, rfl⟩ := hrel
    by_cases hlt : p < n
    · obtain ⟨x, hx⟩ : ∃ x, L[p]? = some x := ⟨_, List.getElem?_eq_getElem (by have := HN.out; omega)⟩
      obtain ⟨b, c', hv', d1, d2, d3, c1, c2, d4⟩ := Mp.at HM.out (Below.refl _ _) hx
      clear d1 d2 d3 d4
      obtain rfl : a = some ⟨b, 0, none⟩ := by
        have := HV.out.symm.trans hv'
        simp only [Value.slice.injEq] at this
        exact this.1
      have hrt := rank_take k hx
      have hrl : rankL (L.take p) k ≤ p := Nat.le_trans (rank_le _ _) (by rw [List.length_take]; omega)
      clear hx hv'
      by_cases hk : x.1 < k
      · rw [if_pos hk] at hrt
        have HR := Lib.hid hrt
        clear hrt
        generalize rankL (L.take p) k = r at *
        go_wp2
        exact ⟨⟨p + 1, by omega, by go_num, by rw [HR.out]; go_num⟩, by simp [intOf]; omega⟩
      · rw [if_neg hk] at hrt
        have HR := Lib.hid hrt
        clear hrt
        generalize rankL (L.take p) k = r at *
        go_wp2
        exact ⟨⟨p + 1, by omega, by go_num, by rw [HR.out]; rfl⟩, by simp [intOf]; omega⟩
    · obtain rfl : n = p := by omega
      have hall : L.take n = L := by rw [HN.out, List.take_length]
      rw [hall]
      go_wp2
      go_ret
      exact ⟨rfl, rfl⟩
end Go.Proofs.Ytbjlappppbaohaa
