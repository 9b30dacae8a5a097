/- The place of an address: the sum of its text; no two addresses have the same one. -/
import Derived.Test.YtmlejcfnnjnggaaDoorCirFast
import Derived.Test.YtmlejcfnnjnggaaDoorShaSum
import Derived.Lib.ItoaLen
namespace Go.Proofs.YtmlejcfnnjnggaaDoor
set_option maxRecDepth 100000
open Go.RowKit

/-- texts of bytes -/
def bs (l : List UInt8) : ByteArray := ⟨l.toArray⟩
theorem bs_size (l : List UInt8) : (bs l).size = l.length := by simp [bs, ByteArray.size]
theorem bs_append (a b : List UInt8) : bs a ++ bs b = bs (a ++ b) := by apply ByteArray.ext; simp [bs, ByteArray.data_append]
theorem byteAt_bs (l : List UInt8) (i : Nat) : byteAt (bs l) i = (l.getD i 0).toNat := by simp [byteAt, bs]
/-- the text of an address -/
def nameL (a : Nat) : List UInt8 := [110, 111, 100, 101] ++ Lib.decDigits a
/-- the place of an address -/
def idN (a : Nat) : Nat := sumN (bs (nameL a))

theorem place_first {h k : S5} (ho : h.ok) (ko : k.ok) (e : placeN h = placeN k) : h.a = k.a := by
  have e1 : tab 20 (plf h) = tab 20 (plf k) := by rw [← place_dig, ← place_dig, e]
  have e2 : ∀ i, i < 20 → plf h i = plf k i := fun i hi => by
    have a1 := tab_get 20 (plf h) i hi
    have a2 := tab_get 20 (plf k) i hi
    rw [e1, a2] at a1
    exact (Option.some.inj a1).symm
  have f : ∀ (s : S5) i, i < 4 → plf s i = s.a / 256 ^ (3 - i) % 256 := fun s i hi => by
    unfold plf S5.list
    rw [show i / 4 = 0 by omega, show i % 4 = i by omega]
    rfl
  have p0 := e2 0 (by omega)
  have p1 := e2 1 (by omega)
  have p2 := e2 2 (by omega)
  have p3 := e2 3 (by omega)
  rw [f h _ (by omega), f k _ (by omega)] at p0 p1 p2 p3
  simp only [Nat.sub_zero, Nat.reduceSub, Nat.reducePow] at p0 p1 p2 p3
  have := ho.a
  have := ko.a
  omega
theorem place_lt (h : S5) : placeN h < M := by
  have := (valN_spec (tab 20 (plf h)) (fun b hb => by
    simp only [tab, List.mem_map] at hb
    obtain ⟨i, _, rfl⟩ := hb
    exact Nat.mod_lt _ (by omega))).1
  rw [tab_length] at this
  exact this
theorem idN_lt (a : Nat) : idN a < M := place_lt _

/-! a short text's block -/
theorem sum_one (s : ByteArray) (h : s.size ≤ 55) : sumN s = placeN (stepS startS (padB s)) := by
  have hp : padLen s.size = 64 := by unfold padLen; omega
  have hs : (padB s).size = 64 := by rw [padB_size, hp]
  unfold sumN
  rw [hp]
  show placeN (stepS startS (blkB (padB s) 0)) = _
  have e : blkB (padB s) 0 = padB s := by
    unfold blkB
    apply ByteArray.ext
    have : (padB s).data.size = 64 := hs
    rw [ByteArray.data_extract]
    apply Array.ext
    · simp [this]
    · intro i h1 h2; simp
  rw [e]
theorem pad_byte (s : ByteArray) (h : s.size ≤ 55) (i : Nat) (hi : i < 64) : byteAt (padB s) i = pf s 8 i := by
  have hp : padLen s.size = 64 := by unfold padLen; omega
  have e1 : bytesN (padB s) = padN s := by
    unfold padB
    refine bytesN_txt _ fun x hx => ?_
    simp only [padN, tab, List.mem_map] at hx
    obtain ⟨j, _, rfl⟩ := hx
    exact pf_lt _ _ _
  rw [bytesN_tab, padB_size, hp] at e1
  unfold padN at e1
  rw [hp] at e1
  have a1 := tab_get 64 (byteAt (padB s)) i hi
  have a2 := tab_get 64 (pf s 8) i hi
  rw [e1, a2] at a1
  exact (Option.some.inj a1).symm
theorem pf_zero (s : ByteArray) (h : s.size ≤ 7) (i : Nat) (h1 : 8 ≤ i) (h2 : i < 63) : pf s 8 i = 0 := by
  have hp : padLen s.size = 64 := by unfold padLen; omega
  unfold pf
  rw [if_neg (by omega), if_neg (by omega), hp]
  split
  · unfold digit
    obtain ⟨j, hj⟩ : ∃ j, 64 - 1 - i = j + 1 := ⟨62 - i, by omega⟩
    rw [hj, Nat.pow_succ, ← Nat.div_div_eq_div_mul]
    have : 8 * s.size / 256 ^ j ≤ 8 * s.size := Nat.div_le_self _ _
    rw [Nat.div_eq_of_lt (by omega)]
  · rfl
theorem pf_end (s : ByteArray) (h : s.size ≤ 7) : pf s 8 63 = 8 * s.size := by
  have hp : padLen s.size = 64 := by unfold padLen; omega
  unfold pf
  rw [if_neg (by omega), if_neg (by omega), hp, if_pos (by omega)]
  unfold digit
  rw [show 64 - 1 - 63 = 0 from rfl, Nat.pow_zero, Nat.div_one, Nat.mod_eq_of_lt (by omega)]
theorem word_pf (s : ByteArray) (h : s.size ≤ 55) (j : Nat) (hj : j < 16) : wu (padB s) j = 256 * (256 * (256 * pf s 8 (4 * j) + pf s 8 (4 * j + 1)) + pf s 8 (4 * j + 2)) + pf s 8 (4 * j + 3) := by
  rw [wu_low _ _ hj, beN, beN, beN, beN, beN, pad_byte s h _ (by omega), pad_byte s h _ (by omega), pad_byte s h _ (by omega), pad_byte s h _ (by omega)]
  simp
theorem first_fast (s : ByteArray) (h : s.size ≤ 7) (x : Nat) (h0 : 256 * (256 * (256 * pf s 8 0 + pf s 8 1) + pf s 8 2) + pf s 8 3 = 1852793957) (h1 : 256 * (256 * (256 * pf s 8 4 + pf s 8 5) + pf s 8 6) + pf s 8 7 = x) :
    (stepS startS (padB s)).a = fastA x (8 * s.size) := by
  have hz : ∀ j, 2 ≤ j → j < 15 → wu (padB s) j = 0 := fun j a b => by
    rw [word_pf s (by omega) j (by omega), pf_zero s h _ (by omega) (by omega), pf_zero s h _ (by omega) (by omega), pf_zero s h _ (by omega) (by omega), pf_zero s h _ (by omega) (by omega)]
  refine fast_spec (padB s) x (8 * s.size) ?_ ?_ (hz 2 (by omega) (by omega)) (hz 3 (by omega) (by omega)) (hz 4 (by omega) (by omega)) (hz 5 (by omega) (by omega)) (hz 6 (by omega) (by omega)) (hz 7 (by omega) (by omega)) (hz 8 (by omega) (by omega)) (hz 9 (by omega) (by omega)) (hz 10 (by omega) (by omega)) (hz 11 (by omega) (by omega)) (hz 12 (by omega) (by omega)) (hz 13 (by omega) (by omega)) (hz 14 (by omega) (by omega)) ?_
  · rw [word_pf s (by omega) 0 (by omega)]; exact h0
  · rw [word_pf s (by omega) 1 (by omega)]; exact h1
  · rw [word_pf s (by omega) 15 (by omega), pf_zero s h _ (by omega) (by omega), pf_zero s h _ (by omega) (by omega), pf_zero s h _ (by omega) (by omega), pf_end s h]
    omega
theorem pf_in (l : List UInt8) (i : Nat) (h : i < l.length) : pf (bs l) 8 i = (l.getD i 0).toNat := by
  unfold pf
  rw [bs_size, if_pos h, byteAt_bs]
theorem pf_mark (l : List UInt8) : pf (bs l) 8 l.length = 128 := by
  unfold pf
  rw [bs_size, if_neg (by omega), if_pos rfl]
theorem pf_gap (l : List UInt8) (i : Nat) (h : l.length < i) (h2 : i < 56) : pf (bs l) 8 i = 0 := by
  unfold pf
  rw [bs_size, if_neg (by omega), if_neg (by omega)]
  have hp : 64 ≤ padLen l.length := by unfold padLen; omega
  rw [if_neg (by omega)]
theorem ofNat_48 (a : Nat) (h : a < 10) : (UInt8.ofNat (48 + a)).toNat = 48 + a := by
  simp; omega
/-- the bytes that every name begins with -/
theorem name_head (l : List UInt8) : 256 * (256 * (256 * pf (bs (110 :: 111 :: 100 :: 101 :: l)) 8 0 + pf (bs (110 :: 111 :: 100 :: 101 :: l)) 8 1) + pf (bs (110 :: 111 :: 100 :: 101 :: l)) 8 2) + pf (bs (110 :: 111 :: 100 :: 101 :: l)) 8 3 = 1852793957 := by
  have q0 : pf (bs (110 :: 111 :: 100 :: 101 :: l)) 8 0 = 110 := by rw [pf_in _ 0 (by simp)]; rfl
  have q1 : pf (bs (110 :: 111 :: 100 :: 101 :: l)) 8 1 = 111 := by rw [pf_in _ 1 (by simp)]; rfl
  have q2 : pf (bs (110 :: 111 :: 100 :: 101 :: l)) 8 2 = 100 := by rw [pf_in _ 2 (by simp)]; rfl
  have q3 : pf (bs (110 :: 111 :: 100 :: 101 :: l)) 8 3 = 101 := by rw [pf_in _ 3 (by simp)]; rfl
  rw [q0, q1, q2, q3]
theorem name1 (u : UInt8) (d : Nat) (hu : u.toNat = 48 + d) : (stepS startS (padB (bs [110, 111, 100, 101, u]))).a = fastA (x1 d) 40 := by
  have hs : (bs [110, 111, 100, 101, u]).size = 5 := by rw [bs_size]; rfl
  have q4 : pf (bs [110, 111, 100, 101, u]) 8 4 = 48 + d := by rw [pf_in _ 4 (by simp), ← hu]; rfl
  have q5 : pf (bs [110, 111, 100, 101, u]) 8 5 = 128 := pf_mark [110, 111, 100, 101, u]
  have q6 : pf (bs [110, 111, 100, 101, u]) 8 6 = 0 := pf_gap _ 6 (by simp) (by omega)
  have q7 : pf (bs [110, 111, 100, 101, u]) 8 7 = 0 := pf_gap _ 7 (by simp) (by omega)
  have := first_fast (bs [110, 111, 100, 101, u]) (by omega) ((48 + d) * 16777216 + 8388608) (name_head _) (by rw [q4, q5, q6, q7]; omega)
  rw [this, hs]
  rfl
theorem name2 (u v : UInt8) (d c : Nat) (hu : u.toNat = 48 + d) (hv : v.toNat = 48 + c) : (stepS startS (padB (bs [110, 111, 100, 101, u, v]))).a = fastA ((48 + d) * 16777216 + (48 + c) * 65536 + 32768) 48 := by
  have hs : (bs [110, 111, 100, 101, u, v]).size = 6 := by rw [bs_size]; rfl
  have q4 : pf (bs [110, 111, 100, 101, u, v]) 8 4 = 48 + d := by rw [pf_in _ 4 (by simp), ← hu]; rfl
  have q5 : pf (bs [110, 111, 100, 101, u, v]) 8 5 = 48 + c := by rw [pf_in _ 5 (by simp), ← hv]; rfl
  have q6 : pf (bs [110, 111, 100, 101, u, v]) 8 6 = 128 := pf_mark [110, 111, 100, 101, u, v]
  have q7 : pf (bs [110, 111, 100, 101, u, v]) 8 7 = 0 := pf_gap _ 7 (by simp) (by omega)
  have := first_fast (bs [110, 111, 100, 101, u, v]) (by omega) ((48 + d) * 16777216 + (48 + c) * 65536 + 32768) (name_head _) (by rw [q4, q5, q6, q7]; omega)
  rw [this, hs]
theorem name3 (u v x : UInt8) (d c b : Nat) (hu : u.toNat = 48 + d) (hv : v.toNat = 48 + c) (hx : x.toNat = 48 + b) : (stepS startS (padB (bs [110, 111, 100, 101, u, v, x]))).a = fastA ((48 + d) * 16777216 + (48 + c) * 65536 + (48 + b) * 256 + 128) 56 := by
  have hs : (bs [110, 111, 100, 101, u, v, x]).size = 7 := by rw [bs_size]; rfl
  have q4 : pf (bs [110, 111, 100, 101, u, v, x]) 8 4 = 48 + d := by rw [pf_in _ 4 (by simp), ← hu]; rfl
  have q5 : pf (bs [110, 111, 100, 101, u, v, x]) 8 5 = 48 + c := by rw [pf_in _ 5 (by simp), ← hv]; rfl
  have q6 : pf (bs [110, 111, 100, 101, u, v, x]) 8 6 = 48 + b := by rw [pf_in _ 6 (by simp), ← hx]; rfl
  have q7 : pf (bs [110, 111, 100, 101, u, v, x]) 8 7 = 128 := pf_mark [110, 111, 100, 101, u, v, x]
  have := first_fast (bs [110, 111, 100, 101, u, v, x]) (by omega) ((48 + d) * 16777216 + (48 + c) * 65536 + (48 + b) * 256 + 128) (name_head _) (by rw [q4, q5, q6, q7]; omega)
  rw [this, hs]
theorem x1_eq (a : Nat) : x1 a = (48 + a) * 16777216 + 8388608 := rfl
theorem x2_eq (a : Nat) : x2 a = (48 + a / 10) * 16777216 + (48 + a % 10) * 65536 + 32768 := rfl
theorem x3_eq (a : Nat) : x3 a = (48 + a / 100) * 16777216 + (48 + a / 10 % 10) * 65536 + (48 + a % 10) * 256 + 128 := rfl
theorem first_word (a : Nat) (h : a < 1000) : (stepS startS (padB (bs (nameL a)))).a = wordA a ∧ (bs (nameL a)).size ≤ 7 := by
  unfold wordA
  by_cases h1 : a < 10
  · rw [if_pos h1]
    have e : nameL a = [110, 111, 100, 101, UInt8.ofNat (48 + a)] := by unfold nameL; rw [Lib.decDigits_one h1]; rfl
    rw [e, bs_size]
    exact ⟨name1 _ a (ofNat_48 a h1), by simp⟩
  rw [if_neg h1]
  by_cases h2 : a < 100
  · rw [if_pos h2, x2_eq]
    have e : nameL a = [110, 111, 100, 101, UInt8.ofNat (48 + a / 10), UInt8.ofNat (48 + a % 10)] := by unfold nameL; rw [Lib.decDigits_two h1 h2]; rfl
    rw [e, bs_size]
    exact ⟨name2 _ _ _ _ (ofNat_48 _ (by omega)) (ofNat_48 _ (by omega)), by simp⟩
  rw [if_neg h2, x3_eq]
  have e : nameL a = [110, 111, 100, 101, UInt8.ofNat (48 + a / 100), UInt8.ofNat (48 + a / 10 % 10), UInt8.ofNat (48 + a % 10)] := by
    unfold nameL
    rw [Lib.decDigits, dif_neg h1, Lib.decDigits_two (by omega) (by omega), Nat.div_div_eq_div_mul]
    rfl
  rw [e, bs_size]
  exact ⟨name3 _ _ _ _ _ _ (ofNat_48 _ (by omega)) (ofNat_48 _ (by omega)) (ofNat_48 _ (by omega)), by simp⟩
/-- no two addresses have the same place -/
theorem idN_inj {a b : Nat} (ha : a < 1000) (hb : b < 1000) (h : idN a = idN b) : a = b := by
  obtain ⟨a1, a2⟩ := first_word a ha
  obtain ⟨b1, b2⟩ := first_word b hb
  refine wordA_inj ha hb ?_
  rw [← a1, ← b1]
  unfold idN at h
  rw [sum_one _ (by omega), sum_one _ (by omega)] at h
  exact place_first (stepS_ok _ _) (stepS_ok _ _) h
theorem name_size (a : Nat) (h : a < 1000) : (bs (nameL a)).size ≤ 7 := (first_word a h).2
end Go.Proofs.YtmlejcfnnjnggaaDoor
