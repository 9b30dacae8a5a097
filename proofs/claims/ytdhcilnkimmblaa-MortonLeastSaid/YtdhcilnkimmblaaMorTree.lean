/- Plain numbers: the least key of a rectangle, sought from label to label. Nothing of the program is named here but in the imports. -/
import Derived.Test.YtdhcilnkimmblaaMorProg
namespace Go.Proofs.Ytdhcilnkimmblaa
open Go.RowKit Go.Sort

/-- whether a key is in a rectangle, and a label's -/
def InL (a b c d n s u : Nat) : Prop := insideB a b c d u = true ∧ u / gap n = s / gap n
theorem inL_box {a b c d n s u : Nat} (hs : s < 18446744073709551616) (hi : lowB n s = true) (hu : u < 18446744073709551616) : InL a b c d n s u ↔ insideB a b c d u = true ∧ inBox s (s + (gap n - 1)) u := by
  unfold InL gap
  rw [box_iff (64 - n) (by omega) (lowB_iff.1 hi) hs hu]
theorem span_iff {n s u : Nat} (hi : lowB n s = true) : u / gap n = s / gap n ↔ s ≤ u ∧ u ≤ s + (gap n - 1) := div_same (gap_pos n) (lowB_iff.1 hi)
theorem tree_past {a b c d n s z : Nat} (hi : lowB n s = true) (h : s + (gap n - 1) < z) : LeastAt (InL a b c d n s) z 0 false :=
  .inr ⟨rfl, rfl, fun u _ hp => by have := (span_iff hi).1 hp.2; omega⟩
section
variable {a b c d n s z : Nat} (hs : s < 18446744073709551616) (hi : lowB n s = true)
include hs hi
theorem tree_apart (h : meetsB a b c d (evX s) (evX (s + (gap n - 1))) (odY s) (odY (s + (gap n - 1))) = false) : LeastAt (InL a b c d n s) z 0 false := by
  refine .inr ⟨rfl, rfl, fun u hu hp => ?_⟩
  obtain ⟨h1, h2⟩ := (inL_box hs hi hu).1 hp
  have h1' := insideB_iff.1 h1
  unfold inBox at h2
  have : meetsB a b c d (evX s) (evX (s + (gap n - 1))) (odY s) (odY (s + (gap n - 1))) = true := by
    unfold meetsB
    rw [isR_iff.2 h1'.1]
    simp; omega
  rw [this] at h; cases h
theorem tree_whole (hz : z < 18446744073709551616) (hle : z ≤ s + (gap n - 1)) (h : holdsB a b c d (evX s) (evX (s + (gap n - 1))) (odY s) (odY (s + (gap n - 1))) = true) : LeastAt (InL a b c d n s) z (max s z) true := by
  have hh : (a ≤ b ∧ c ≤ d) ∧ a ≤ evX s ∧ evX (s + (gap n - 1)) ≤ b ∧ c ≤ odY s ∧ odY (s + (gap n - 1)) ≤ d := by
    unfold holdsB isR at h; simp at h; omega
  have hin : ∀ u, u < 18446744073709551616 → u / gap n = s / gap n → insideB a b c d u = true := fun u hu he => by
    have hb := (box_iff (64 - n) (by omega) (lowB_iff.1 hi) hs hu).1 he
    unfold inBox at hb
    rw [show 2 ^ (64 - n) = gap n from rfl] at hb
    exact insideB_iff.2 (by omega)
  have hm : max s z < 18446744073709551616 := by omega
  have hmd : max s z / gap n = s / gap n := (span_iff hi).2 (by omega)
  refine .inl ⟨rfl, ⟨by omega, hm⟩, ⟨hin _ hm hmd, hmd⟩, fun u hu hp hzu => ?_⟩
  have := (span_iff hi).1 hp.2
  omega
end
theorem tree_full {a b c d s : Nat} (h1 : meetsB a b c d (evX s) (evX s) (odY s) (odY s) = true) : holdsB a b c d (evX s) (evX s) (odY s) (odY s) = true := by
  unfold meetsB at h1
  unfold holdsB
  simp at h1 ⊢
  omega
theorem kids_iff {n s u : Nat} (hn : n < 64) (hi : lowB n s = true) : u / gap n = s / gap n ↔ u / gap (n + 1) = s / gap (n + 1) ∨ u / gap (n + 1) = (s + gap (n + 1)) / gap (n + 1) := by
  have hg := gap_pos (n + 1)
  have h2 := gap_succ n hn
  have hd : s / gap (n + 1) = 2 * (s / gap n) := by
    have hm := Nat.div_add_mod s (gap n)
    rw [lowB_iff.1 hi, Nat.add_zero] at hm
    conv => lhs; rw [← hm, h2, Nat.mul_comm 2, Nat.mul_assoc]
    rw [Nat.mul_div_cancel_left _ hg, h2, Nat.mul_comm 2 (gap (n + 1))]
  have hu : u / gap n = u / gap (n + 1) / 2 := by rw [h2, Nat.div_div_eq_div_mul, Nat.mul_comm]
  rw [Nat.add_div_right _ hg, hu, hd]
  omega
theorem kids_inL {a b c d n s u : Nat} (hn : n < 64) (hi : lowB n s = true) : InL a b c d n s u ↔ InL a b c d (n + 1) (chB n s 0) u ∨ InL a b c d (n + 1) (chB n s 1) u := by
  unfold InL chB
  rw [if_pos rfl, if_neg (by omega), kids_iff hn hi]
  constructor
  · rintro ⟨h1, h2 | h2⟩
    · exact .inl ⟨h1, h2⟩
    · exact .inr ⟨h1, h2⟩
  · rintro (⟨h1, h2⟩ | ⟨h1, h2⟩)
    · exact ⟨h1, .inl h2⟩
    · exact ⟨h1, .inr h2⟩
theorem kids_order {a b c d n s u v : Nat} (hu : InL a b c d (n + 1) (chB n s 0) u) (hv : InL a b c d (n + 1) (chB n s 1) v) : u < v := by
  unfold InL chB at hu hv
  rw [if_pos rfl] at hu
  rw [if_neg (by omega)] at hv
  have h1 := hu.2
  have h2 := hv.2
  rw [Nat.add_div_right _ (gap_pos _)] at h2
  refine Nat.lt_of_not_le fun hle => ?_
  have := Nat.div_le_div_right (c := gap (n + 1)) hle
  omega
theorem tree_left {a b c d n s z v : Nat} (hn : n < 64) (hi : lowB n s = true) (h : LeastAt (InL a b c d (n + 1) (chB n s 0)) z v true) : LeastAt (InL a b c d n s) z v true := by
  rcases h with ⟨_, h1, h2, h3⟩ | ⟨h, _⟩
  · refine .inl ⟨rfl, h1, (kids_inL hn hi).2 (.inl h2), fun u hu hp hz => ?_⟩
    rcases (kids_inL hn hi).1 hp with hp | hp
    · exact h3 u hu hp hz
    · exact Nat.le_of_lt (kids_order h2 hp)
  · cases h
theorem tree_right {a b c d n s z v0 v : Nat} {ok : Bool} (hn : n < 64) (hi : lowB n s = true) (h0 : LeastAt (InL a b c d (n + 1) (chB n s 0)) z v0 false) (h : LeastAt (InL a b c d (n + 1) (chB n s 1)) z v ok) : LeastAt (InL a b c d n s) z v ok := by
  rcases h0 with ⟨h0, _⟩ | ⟨_, _, h0⟩
  · cases h0
  rcases h with ⟨e, h1, h2, h3⟩ | ⟨e, h1, h3⟩
  · refine .inl ⟨e, h1, (kids_inL hn hi).2 (.inr h2), fun u hu hp hz => ?_⟩
    rcases (kids_inL hn hi).1 hp with hp | hp
    · have := h0 u hu hp; omega
    · exact h3 u hu hp hz
  · refine .inr ⟨e, h1, fun u hu hp => ?_⟩
    rcases (kids_inL hn hi).1 hp with hp | hp
    · exact h0 u hu hp
    · exact h3 u hu hp
/-- from the root: the least of all -/
theorem inL_root {a b c d u : Nat} (hu : u < 18446744073709551616) : InL a b c d 0 0 u ↔ insideB a b c d u = true := by
  unfold InL
  rw [gap_zero, Nat.div_eq_of_lt hu]; simp
theorem LeastAt.congr {P Q : Nat → Prop} {z v : Nat} {ok : Bool} (hPQ : ∀ u, u < 18446744073709551616 → (P u ↔ Q u)) (h : LeastAt P z v ok) : LeastAt Q z v ok := by
  rcases h with ⟨e, h1, h2, h3⟩ | ⟨e, h1, h3⟩
  · exact .inl ⟨e, h1, (hPQ _ h1.2).1 h2, fun u hu hp hz => h3 u hu ((hPQ u hu).2 hp) hz⟩
  · exact .inr ⟨e, h1, fun u hu hp => h3 u hu ((hPQ u hu).2 hp)⟩
/-- the program's Least: what it tells -/
theorem least_any {a b c d z v : Nat} {ok : Bool} (hb : b < 4294967296) (hd : d < 4294967296) (hz : z < 18446744073709551616) (h : LeastAt (fun u => insideB a b c d u = true) z v ok) :
    Gives Try.prog 11 #[.agg (rectc a b c d), .int .u64 (z : Int)] (.tuple #[.int .u64 (v : Int), .bool ok]) := by
  cases hr : isR a b c d
  · have h0 : LeastAt (fun u => insideB a b c d u = true) z 0 false := .inr ⟨rfl, rfl, fun u _ hp => by unfold insideB at hp; rw [hr] at hp; simp at hp⟩
    obtain ⟨rfl, rfl⟩ := h.uniq h0
    exact least_wrong a b c d z hr
  · have hr' := isR_iff.1 hr
    cases hin : insideB a b c d z
    · have hc : ∀ u, u < 18446744073709551616 → (insideB a b c d u = true ↔ InR a b c d u) := fun u _ => by
        rw [insideB_iff]; unfold InR; exact ⟨fun x => x.2, fun x => ⟨hr', x⟩⟩
      intro w
      refine (least_loop a b c d z hz hr'.1 hr'.2 hb hd hin w).mono ?_
      rintro e w' ⟨⟨v', ok', rfl, hl⟩, hb'⟩
      obtain ⟨rfl, rfl⟩ := (h.congr hc).uniq hl
      exact ⟨rfl, hb'⟩
    · have h0 : LeastAt (fun u => insideB a b c d u = true) z z true := .inl ⟨rfl, ⟨Nat.le_refl _, hz⟩, hin, fun u _ _ hzu => hzu⟩
      have e := h.uniq h0
      rw [e.1, e.2]
      exact least_here a b c d z hz hr hin
end Go.Proofs.Ytdhcilnkimmblaa
