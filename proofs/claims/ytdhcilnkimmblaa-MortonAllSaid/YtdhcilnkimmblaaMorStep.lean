/- Plain numbers: the rounds in which the least key of a rectangle is found. Nothing of the program is named here. -/
import Derived.Test.YtdhcilnkimmblaaMorLeast
namespace Go.Proofs.Ytdhcilnkimmblaa
open Go.RowKit

/-- what stands when all bits but the e lowest ones have been gone through -/
structure LeastInv (P : Nat → Prop) (z e lo hi v : Nat) (ok : Bool) : Prop where
  lo_lt : lo < 18446744073709551616
  hi_lt : hi < 18446744073709551616
  own : inBox lo hi lo ∧ inBox lo hi hi
  box : ∀ u, u < 18446744073709551616 → ((P u ∧ u / 2 ^ e = z / 2 ^ e) ↔ inBox lo hi u)
  found : (ok = false ∧ v = 0 ∧ ∀ u, u < 18446744073709551616 → P u → u / 2 ^ e ≤ z / 2 ^ e) ∨
    (ok = true ∧ v < 18446744073709551616 ∧ P v ∧ z / 2 ^ e < v / 2 ^ e ∧ ∀ u, u < 18446744073709551616 → P u → z / 2 ^ e < u / 2 ^ e → v ≤ u)
theorem div_succ (u k : Nat) : u / 2 ^ k = 2 * (u / 2 ^ (k + 1)) + u / 2 ^ k % 2 := by rw [← div2]; omega
theorem lt_of_div {u v k : Nat} (h : u / 2 ^ k < v / 2 ^ k) : u < v := Nat.lt_of_not_le fun hle => Nat.not_lt_of_le (Nat.div_le_div_right hle) h
theorem up_iff {a p q : Nat} (hp : 0 < p) (hq : a / p / 2 = q) : p * (2 * q + 1) ≤ a ↔ a / p % 2 = 1 := by
  rw [Nat.mul_comm, ← Nat.le_div_iff_mul_le hp]; omega
theorem low_iff {a p q : Nat} (hp : 0 < p) (hq : a / p / 2 = q) : a ≤ p * (2 * q) + (p - 1) ↔ a / p % 2 = 0 := by
  have h : a ≤ p * (2 * q) + (p - 1) ↔ a < p * (2 * q + 1) := by rw [Nat.mul_add]; omega
  rw [h, Nat.mul_comm, ← Nat.div_lt_iff_lt_mul hp]; omega
section
variable {P : Nat → Prop} {z k lo hi v : Nat} {ok : Bool}
theorem LeastInv.pre (h : LeastInv P z (k + 1) lo hi v ok) {u : Nat} (hu : u < 18446744073709551616) (hb : inBox lo hi u) : u / 2 ^ (k + 1) = z / 2 ^ (k + 1) := ((h.box u hu).2 hb).2
/-- the bits of what is in the box lie between those of its corners -/
theorem LeastInv.between (h : LeastInv P z (k + 1) lo hi v ok) (hk : k < 64) {u : Nat} (hu : u < 18446744073709551616) (hb : inBox lo hi u) : lo / 2 ^ k % 2 ≤ u / 2 ^ k % 2 ∧ u / 2 ^ k % 2 ≤ hi / 2 ^ k % 2 := by
  obtain ⟨A, B, m, hc⟩ := cut_any k hk
  have p1 := hc.same u lo hu h.lo_lt (by rw [h.pre hu hb, h.pre h.lo_lt h.own.1])
  have p2 := hc.same u hi hu h.hi_lt (by rw [h.pre hu hb, h.pre h.hi_lt h.own.2])
  have hb' := ((hc.box lo hi u).1 hb).1
  have d1 : A lo / 2 ^ m ≤ A u / 2 ^ m := Nat.div_le_div_right hb'.1
  have d2 : A u / 2 ^ m ≤ A hi / 2 ^ m := Nat.div_le_div_right hb'.2
  rw [hc.bit, hc.bit, hc.bit]
  omega
theorem LeastInv.keep (h : LeastInv P z (k + 1) lo hi v ok) (hno : ∀ u, u < 18446744073709551616 → P u → u / 2 ^ (k + 1) = z / 2 ^ (k + 1) → u / 2 ^ k % 2 ≤ z / 2 ^ k % 2) :
    (ok = false ∧ v = 0 ∧ ∀ u, u < 18446744073709551616 → P u → u / 2 ^ k ≤ z / 2 ^ k) ∨
    (ok = true ∧ v < 18446744073709551616 ∧ P v ∧ z / 2 ^ k < v / 2 ^ k ∧ ∀ u, u < 18446744073709551616 → P u → z / 2 ^ k < u / 2 ^ k → v ≤ u) := by
  have dz := div_succ z k
  rcases h.found with ⟨h1, h2, h3⟩ | ⟨h1, h2, h3, h4, h5⟩
  · refine .inl ⟨h1, h2, fun u hu hp => ?_⟩
    have := h3 u hu hp
    have := hno u hu hp
    have du := div_succ u k
    omega
  · refine .inr ⟨h1, h2, h3, ?_, fun u hu hp hlt => h5 u hu hp ?_⟩
    · have dv := div_succ v k
      omega
    · have := hno u hu hp
      have du := div_succ u k
      omega
/-- all three bits are the same -/
theorem LeastInv.same (h : LeastInv P z (k + 1) lo hi v ok) (hk : k < 64) (h1 : lo / 2 ^ k % 2 = z / 2 ^ k % 2) (h2 : hi / 2 ^ k % 2 = z / 2 ^ k % 2) : LeastInv P z k lo hi v ok := by
  refine ⟨h.lo_lt, h.hi_lt, h.own, fun u hu => ?_, h.keep fun u hu hp he => ?_⟩
  · rw [← h.box u hu]
    constructor
    · rintro ⟨hp, he⟩
      have du := div_succ u k
      have dz := div_succ z k
      exact ⟨hp, by omega⟩
    · intro hb
      have hbt := h.between hk hu ((h.box u hu).1 hb)
      have du := div_succ u k
      have dz := div_succ z k
      exact ⟨hb.1, by omega⟩
  · have hbt := h.between hk hu ((h.box u hu).1 ⟨hp, he⟩)
    omega
/-- both halves have keys, z is in the upper one -/
theorem LeastInv.upper (h : LeastInv P z (k + 1) lo hi v ok) (hk : k < 64) (hz : z / 2 ^ k % 2 = 1) (h1 : lo / 2 ^ k % 2 = 0) (h2 : hi / 2 ^ k % 2 = 1) : LeastInv P z k (upN lo k) hi v ok := by
  obtain ⟨A, B, m, hc⟩ := cut_any k hk
  have hp : 0 < 2 ^ m := Nat.pow_pos (by omega)
  have hup := hc.up lo h.lo_lt
  have hq : ∀ u, u < 18446744073709551616 → u / 2 ^ (k + 1) = z / 2 ^ (k + 1) → A u / 2 ^ m / 2 = A lo / 2 ^ m / 2 := fun u hu he => hc.same u lo hu h.lo_lt (by rw [he, h.pre h.lo_lt h.own.1])
  have hlo := (up_iff hp (hq hi h.hi_lt (h.pre h.hi_lt h.own.2))).2 (by rw [← hc.bit]; exact h2)
  have hll : A lo ≤ 2 ^ m * (2 * (A lo / 2 ^ m / 2) + 1) := by
    have := (not_congr (up_iff (a := A lo) hp rfl)).2 (by rw [← hc.bit]; omega)
    omega
  have bh := (hc.box lo hi hi).1 h.own.2
  have hbox : ∀ u, inBox (upN lo k) hi u ↔ inBox lo hi u ∧ 2 ^ m * (2 * (A lo / 2 ^ m / 2) + 1) ≤ A u := fun u => by
    rw [hc.box, hc.box, hup.1, hup.2]; omega
  refine ⟨upN_lt hk, h.hi_lt, ?_, fun u hu => ?_, h.keep fun u hu hpu he => by omega⟩
  · constructor
    · rw [hc.box, hup.1, hup.2]; omega
    · rw [hc.box, hup.1, hup.2]; omega
  · rw [hbox, ← h.box u hu]
    have du := div_succ u k
    have dz := div_succ z k
    constructor
    · rintro ⟨hpu, he⟩
      have he' : u / 2 ^ (k + 1) = z / 2 ^ (k + 1) := by omega
      exact ⟨⟨hpu, he'⟩, (up_iff hp (hq u hu he')).2 (by rw [← hc.bit]; omega)⟩
    · rintro ⟨⟨hpu, he⟩, hge⟩
      have := (up_iff hp (hq u hu he)).1 hge
      rw [← hc.bit] at this
      exact ⟨hpu, by omega⟩
/-- both halves have keys, z is in the lower one -/
theorem LeastInv.lower (h : LeastInv P z (k + 1) lo hi v ok) (hk : k < 64) (hz : z / 2 ^ k % 2 = 0) (h1 : lo / 2 ^ k % 2 = 0) (h2 : hi / 2 ^ k % 2 = 1) : LeastInv P z k lo (lwN hi k) (upN lo k) true := by
  obtain ⟨A, B, m, hc⟩ := cut_any k hk
  have hp : 0 < 2 ^ m := Nat.pow_pos (by omega)
  have hup := hc.up lo h.lo_lt
  have hlw := hc.lw hi h.hi_lt
  have hq : ∀ u, u < 18446744073709551616 → u / 2 ^ (k + 1) = z / 2 ^ (k + 1) → A u / 2 ^ m / 2 = A lo / 2 ^ m / 2 := fun u hu he => hc.same u lo hu h.lo_lt (by rw [he, h.pre h.lo_lt h.own.1])
  have hqh := hq hi h.hi_lt (h.pre h.hi_lt h.own.2)
  rw [hqh] at hlw
  have hlo := (up_iff hp hqh).2 (by rw [← hc.bit]; exact h2)
  have hll := (low_iff (a := A lo) hp rfl).2 (by rw [← hc.bit]; exact h1)
  have hlu : A lo ≤ 2 ^ m * (2 * (A lo / 2 ^ m / 2) + 1) := by rw [Nat.mul_add]; omega
  have hlt : 2 ^ m * (2 * (A lo / 2 ^ m / 2)) + (2 ^ m - 1) ≤ A hi := by rw [Nat.mul_add] at hlo; omega
  have bh := (hc.box lo hi hi).1 h.own.2
  have hbox : ∀ u, inBox lo (lwN hi k) u ↔ inBox lo hi u ∧ A u ≤ 2 ^ m * (2 * (A lo / 2 ^ m / 2)) + (2 ^ m - 1) := fun u => by
    rw [hc.box, hc.box, hlw.1, hlw.2]; omega
  have hbu : inBox lo hi (upN lo k) := by rw [hc.box, hup.1, hup.2]; omega
  have ul := upN_lt (lo := lo) hk
  have hub : upN lo k / 2 ^ k % 2 = 1 := by rw [hc.bit]; exact (up_iff hp (hq _ ul (h.pre ul hbu))).1 (by rw [hup.1]; omega)
  have dz := div_succ z k
  have dup := div_succ (upN lo k) k
  have hpre := h.pre ul hbu
  refine ⟨h.lo_lt, lwN_lt, ?_, fun u hu => ?_, .inr ⟨rfl, ul, ((h.box _ ul).2 hbu).1, by omega, fun u hu hpu hgt => ?_⟩⟩
  · constructor
    · rw [hc.box, hlw.1, hlw.2]; omega
    · rw [hc.box, hlw.1, hlw.2]; omega
  · rw [hbox, ← h.box u hu]
    have du := div_succ u k
    constructor
    · rintro ⟨hpu, he⟩
      have he' : u / 2 ^ (k + 1) = z / 2 ^ (k + 1) := by omega
      exact ⟨⟨hpu, he'⟩, (low_iff hp (hq u hu he')).2 (by rw [← hc.bit]; omega)⟩
    · rintro ⟨⟨hpu, he⟩, hge⟩
      have := (low_iff hp (hq u hu he)).1 hge
      rw [← hc.bit] at this
      exact ⟨hpu, by omega⟩
  · have du := div_succ u k
    by_cases he : u / 2 ^ (k + 1) = z / 2 ^ (k + 1)
    · have hb := (h.box u hu).1 ⟨hpu, he⟩
      have hA := (up_iff hp (hq u hu he)).2 (by rw [← hc.bit]; omega)
      have hb' := (hc.box lo hi u).1 hb
      exact hc.mono _ _ ul hu (by rw [hup.1]; exact hA) (by rw [hup.2]; exact hb'.2.1)
    · exact Nat.le_of_lt (lt_of_div (k := k + 1) (by omega))
/-- all keys here are above z: the least of them -/
theorem LeastInv.above (h : LeastInv P z (k + 1) lo hi v ok) (hz : z / 2 ^ k % 2 = 0) (h1 : lo / 2 ^ k % 2 = 1) : LeastAt P z lo true := by
  have dz := div_succ z k
  have dl := div_succ lo k
  have pl := h.pre h.lo_lt h.own.1
  refine .inl ⟨rfl, ⟨Nat.le_of_lt (lt_of_div (k := k) (by omega)), h.lo_lt⟩, ((h.box _ h.lo_lt).2 h.own.1).1, fun u hu hpu hzu => ?_⟩
  have hd : z / 2 ^ (k + 1) ≤ u / 2 ^ (k + 1) := Nat.div_le_div_right hzu
  by_cases he : u / 2 ^ (k + 1) = z / 2 ^ (k + 1)
  · have hb := (h.box u hu).1 ⟨hpu, he⟩
    exact key_mono h.lo_lt hu hb.1.1 hb.2.1
  · exact Nat.le_of_lt (lt_of_div (k := k + 1) (by omega))
/-- all keys here are below z: what was found before -/
theorem LeastInv.under (h : LeastInv P z (k + 1) lo hi v ok) (hk : k < 64) (hz : z / 2 ^ k % 2 = 1) (h2 : hi / 2 ^ k % 2 = 0) : LeastAt P z v ok := by
  have hlt : ∀ u, u < 18446744073709551616 → P u → z ≤ u → z / 2 ^ (k + 1) < u / 2 ^ (k + 1) := fun u hu hpu hzu => by
    have hd : z / 2 ^ (k + 1) ≤ u / 2 ^ (k + 1) := Nat.div_le_div_right hzu
    have hd2 : z / 2 ^ k ≤ u / 2 ^ k := Nat.div_le_div_right hzu
    by_cases he : u / 2 ^ (k + 1) = z / 2 ^ (k + 1)
    · have hbt := h.between hk hu ((h.box u hu).1 ⟨hpu, he⟩)
      have du := div_succ u k
      have dz := div_succ z k
      omega
    · omega
  rcases h.found with ⟨f1, f2, f3⟩ | ⟨f1, f2, f3, f4, f5⟩
  · exact .inr ⟨f1, f2, fun u hu hpu => Nat.lt_of_not_le fun hzu => by have := hlt u hu hpu hzu; have := f3 u hu hpu; omega⟩
  · exact .inl ⟨f1, ⟨Nat.le_of_lt (lt_of_div f4), f2⟩, f3, fun u hu hpu hzu => f5 u hu hpu (hlt u hu hpu hzu)⟩
theorem LeastInv.done (h : LeastInv P z 0 lo hi v ok) (hz : ¬ P z) : LeastAt P z v ok := by
  have hlt : ∀ u, P u → z ≤ u → z < u := fun u hpu hzu => by
    rcases Nat.lt_or_eq_of_le hzu with h | rfl
    · exact h
    · exact absurd hpu hz
  rcases h.found with ⟨f1, f2, f3⟩ | ⟨f1, f2, f3, f4, f5⟩
  · exact .inr ⟨f1, f2, fun u hu hpu => Nat.lt_of_not_le fun hzu => by have := hlt u hpu hzu; have := f3 u hu hpu; simp at this; omega⟩
  · simp only [Nat.pow_zero, Nat.div_one] at f4 f5
    exact .inl ⟨f1, ⟨Nat.le_of_lt f4, f2⟩, f3, fun u hu hpu hzu => f5 u hu hpu (hlt u hpu hzu)⟩
end
/-- a point is between a rectangle's sides -/
def InR (a b c d u : Nat) : Prop := (a ≤ evX u ∧ evX u ≤ b) ∧ c ≤ odY u ∧ odY u ≤ d
/-- how it begins: the corners of a rectangle -/
theorem LeastInv.start {a b c d z : Nat} (hz : z < 18446744073709551616) (h1 : a ≤ b) (h2 : c ≤ d) (hb : b < 4294967296) (hd : d < 4294967296) :
    LeastInv (InR a b c d) z 64 (wvZ a c) (wvZ b d) 0 false := by
  have e0 : ∀ u, u < 18446744073709551616 → u / 2 ^ 64 = 0 := fun u hu => Nat.div_eq_of_lt hu
  have eb : ∀ u, inBox (wvZ a c) (wvZ b d) u ↔ InR a b c d u := fun u => by
    unfold inBox InR
    rw [evX_wvZ (by omega), evX_wvZ hb, odY_wvZ (by omega), odY_wvZ hd]
  refine ⟨wvZ_lt _ _, wvZ_lt _ _, ?_, fun u hu => ?_, .inl ⟨rfl, rfl, fun u hu _ => by rw [e0 u hu]; omega⟩⟩
  · rw [eb, eb]; unfold InR; rw [evX_wvZ (by omega), evX_wvZ hb, odY_wvZ (by omega), odY_wvZ hd]; omega
  · rw [eb, e0 u hu, e0 z hz]; simp
end Go.Proofs.Ytdhcilnkimmblaa
