/- A bag of a law's own: what each call answers, and that all that was there ahead of it stays. -/
import Derived.Test.YtbjjbcjapkmnfaaBagRef4
namespace Go.Proofs.Ytbjjbcjapkmnfaa
open Go Go.RowKit

/-- the message at a place; no such place: an empty one, and code 7 -/
def ix (K : List Ml) (i : Int) : Option Ml := if 0 ≤ i then K[i.toNat]? else none
def atV (K : List Ml) (i : Int) : Ml := (ix K i).getD mlZ
def atE (K : List Ml) (i : Int) : Int := if (ix K i).isSome then 0 else 7
def takeK (K : List Ml) (i : Int) : List Ml := if (ix K i).isSome then K.eraseIdx i.toNat else K
def putE (M : Nat) (K : List Ml) (m : Ml) : Int := if 4096 < m.bd.size then 2 else if M ≤ K.length then 12 else 0
def putK (M : Nat) (K : List Ml) (m : Ml) : List Ml := if 4096 < m.bd.size then K else if M ≤ K.length then K else K ++ [m]
def twE (M : Nat) (K : List Ml) (i : Int) : Int := if (ix K i).isSome then (if M ≤ K.length then 12 else 0) else 7
def twK (M : Nat) (K : List Ml) (i : Int) : List Ml := match ix K i with | some m => if M ≤ K.length then K else K ++ [m] | none => K
theorem ix_no {K : List Ml} {i : Int} (h : ix K i = none) : i < 0 ∨ (K.length : Int) ≤ i := by
  unfold ix at h
  split at h
  · right
    have := List.getElem?_eq_none_iff.1 h
    omega
  · left; omega
theorem ix_yes {K : List Ml} {i : Int} {m : Ml} (h : ix K i = some m) : ∃ k : Nat, i = (k : Int) ∧ K[k]? = some m := by
  unfold ix at h
  split at h
  · exact ⟨i.toNat, by omega, h⟩
  · cases h
theorem ix_nat (K : List Ml) (k : Nat) : ix K (k : Int) = K[k]? := by unfold ix; rw [if_pos (by omega)]; simp

/-- a bag in block g, made behind B, has the messages K; the blocks below B are as in w0 -/
def HasB (B : Nat) (w0 w : World) (g M : Nat) (K : List Ml) : Prop := ∃ mb L, Bg w g mb M L ∧ msgs L = K ∧ L.length ≤ 2 * K.length ∧ Below B w0 w ∧ B ≤ g ∧ B ≤ mb ∧ M ≤ 1000
variable {B g M : Nat} {w0 w : World} {K : List Ml}
theorem HasB.below (h : HasB B w0 w g M K) : Below B w0 w := by obtain ⟨_, _, _, _, _, h, _⟩ := h; exact h
theorem HasB.le (h : HasB B w0 w g M K) : B ≤ w.heap.size := by obtain ⟨_, _, h1, _, _, _, h2, _⟩ := h; have := h1.lt; omega
theorem HasB.lt (h : HasB B w0 w g M K) : g < w.heap.size := by obtain ⟨_, _, h1, _⟩ := h; exact h1.lt
theorem HasB.bel {w' : World} (h : HasB B w0 w g M K) (hb : Below w.heap.size w w') : HasB B w0 w' g M K := by
  have hB := h.le
  obtain ⟨mb, L, h1, h2, h3, h4, h5⟩ := h
  exact ⟨mb, L, h1.below hb, h2, h3, h4.trans (hb.mono hB), h5⟩
/-- blocks that are no bag's stay -/
def Fr (w w' : World) : Prop := ∀ (k : Nat) (cs : Array Value) (t : TypeId), t ≠ 54 → Blk w k cs t → Blk w' k cs t
theorem Fr.of {w w' : World} (h : Below w.heap.size w w') : Fr w w' := fun _ _ _ _ hk => hk.below h hk.lt
theorem Fr.trans {w1 w2 w3 : World} (h : Fr w1 w2) (k : Fr w2 w3) : Fr w1 w3 := fun i cs t ht hi => k i cs t ht (h i cs t ht hi)
theorem Bg.fr {w' : World} {mb : Nat} {L : List (Option Ml)} (h : Bg w g mb M L) (hT : Bt w w' g mb) : Fr w w' := fun k cs t ht hk => by
  refine hk.bt hT ?_ ?_
  · rintro rfl
    have := h.blk
    unfold Blk at this hk
    rw [hk] at this
    simp at this
    exact ht this.2
  · exact h.own.ne hk
theorem Now.fr {w' : World} {mb : Nat} {L : List (Option Ml)} {K' : List Ml} (h : Bg w g mb M L) (hN : Now w w' g mb M K') : Fr w w' := by
  obtain ⟨_, _, _, _, _, n4, _⟩ := hN
  exact h.fr n4
theorem HasB.now {w' : World} {mb : Nat} {L : List (Option Ml)} {K' : List Ml} (h1 : Bg w g mb M L) (h4 : Below B w0 w) (h5 : B ≤ g) (h6 : B ≤ mb) (h7 : M ≤ 1000) (hN : Now w w' g mb M K') : HasB B w0 w' g M K' := by
  have hB : B ≤ w.heap.size := by have := h1.lt; omega
  obtain ⟨mb', L', n1, n2, n3, n4, n5⟩ := hN
  exact ⟨mb', L', n1, n2, n3, n4.below h4 hB h5 h6, h5, by rcases n5 with rfl | n5 <;> omega, h7⟩
theorem drew_bel (w : World) : Below w.heap.size w w.drew := ⟨rfl, rfl, rfl, Nat.le_refl _, fun _ _ => rfl⟩

theorem hb_new {M : Nat} (h1 : 1 ≤ M) (h2 : M ≤ 1000) (w : World) : Calls Try.prog 8 #[.int .i64 (M : Int)] w fun e w' => e = .returned (.tuple #[.pointer (some ⟨w.heap.size + 1, 0, none⟩), .int .i64 0]) ∧ HasB w.heap.size w w' (w.heap.size + 1) M [] := by
  refine (new_any h1 h2 w).mono ?_
  rintro e w' ⟨rfl, hG, hb⟩
  exact ⟨rfl, _, [], hG, rfl, by simp, hb, by omega, Nat.le_refl _, h2⟩
theorem hb_size (h : HasB B w0 w g M K) : Calls Try.prog 11 #[.pointer (some ⟨g, 0, none⟩)] w fun e w' => e = .returned (.int .i64 (K.length : Nat)) ∧ w = w' := by
  obtain ⟨mb, L, h1, rfl, _⟩ := h
  refine (size_any h1).mono ?_
  rintro e w' ⟨rfl, rfl⟩
  exact ⟨rfl, rfl⟩
theorem hb_put (h : HasB B w0 w g M K) (m : Ml) :
    Calls Try.prog 13 #[.pointer (some ⟨g, 0, none⟩), .agg #[.int .i64 m.fr, .int .i64 m.to, .string m.bd]] w fun e w' => e = .returned (.int .i64 (putE M K m)) ∧ HasB B w0 w' g M (putK M K m) ∧ Fr w w' := by
  have h' := h
  obtain ⟨mb, L, h1, rfl, h3, h4, h5, h6, h7⟩ := h
  unfold putE putK
  by_cases hs : 4096 < m.bd.size
  · rw [if_pos hs, if_pos hs]
    refine (put_big g m hs w).mono ?_
    rintro e w' ⟨rfl, hb⟩
    exact ⟨rfl, h'.bel hb, Fr.of hb⟩
  · rw [if_neg hs, if_neg hs]
    by_cases hf : M ≤ (msgs L).length
    · rw [if_pos hf, if_pos hf]
      refine (put_full h1 hf m (by omega)).mono ?_
      rintro e w' ⟨rfl, hb⟩
      exact ⟨rfl, h'.bel hb, Fr.of hb⟩
    · rw [if_neg hf, if_neg hf]
      refine (put_yes h1 (by omega) h7 h3 m (by omega)).mono ?_
      rintro e w' ⟨rfl, hN⟩
      exact ⟨rfl, HasB.now h1 h4 h5 h6 h7 hN, hN.fr h1⟩
theorem hb_at (h : HasB B w0 w g M K) (i : Int) :
    Calls Try.prog 15 #[.pointer (some ⟨g, 0, none⟩), .int .i64 i] w fun e w' => e = .returned (.tuple #[.agg (mlC (atV K i)), .int .i64 (atE K i)]) ∧ Below w.heap.size w w' := by
  obtain ⟨mb, L, h1, rfl, h3, h4, h5, h6, h7⟩ := h
  unfold atV atE
  cases hx : ix (msgs L) i with
  | none => exact at_err _ i 7 (by decide) w (fails_no h1 (ix_no hx))
  | some m =>
    obtain ⟨k, rfl, hk⟩ := ix_yes hx
    obtain ⟨j, m', hj, rfl, _⟩ := num_of (List.getElem?_eq_some_iff.1 hk).1
    have e := cnt_msg hj
    rw [hk] at e
    obtain rfl : m = m' := by simpa using e
    exact at_yes h1 hj
theorem hb_take (h : HasB B w0 w g M K) (i : Int) :
    Calls Try.prog 14 #[.pointer (some ⟨g, 0, none⟩), .int .i64 i] w fun e w' => e = .returned (.tuple #[.agg (mlC (atV K i)), .int .i64 (atE K i)]) ∧ HasB B w0 w' g M (takeK K i) ∧ Fr w w' := by
  have h' := h
  obtain ⟨mb, L, h1, rfl, h3, h4, h5, h6, h7⟩ := h
  unfold atV atE takeK
  cases hx : ix (msgs L) i with
  | none =>
    refine (take_err _ i 7 (by decide) w (fails_no h1 (ix_no hx))).mono ?_
    rintro e w' ⟨rfl, hb⟩
    exact ⟨rfl, h'.bel hb, Fr.of hb⟩
  | some m =>
    obtain ⟨k, rfl, hk⟩ := ix_yes hx
    obtain ⟨j, m', hj, rfl, _⟩ := num_of (List.getElem?_eq_some_iff.1 hk).1
    have e := cnt_msg hj
    rw [hk] at e
    obtain rfl : m = m' := by simpa using e
    refine (take_yes h1 hj).mono ?_
    rintro e w' ⟨rfl, hN⟩
    exact ⟨rfl, by simpa using HasB.now h1 h4 h5 h6 h7 hN, hN.fr h1⟩
theorem hb_twice (h : HasB B w0 w g M K) (i : Int) :
    Calls Try.prog 16 #[.pointer (some ⟨g, 0, none⟩), .int .i64 i] w fun e w' => e = .returned (.int .i64 (twE M K i)) ∧ HasB B w0 w' g M (twK M K i) ∧ Fr w w' := by
  have h' := h
  obtain ⟨mb, L, h1, rfl, h3, h4, h5, h6, h7⟩ := h
  unfold twE twK
  cases hx : ix (msgs L) i with
  | none =>
    refine (twice_err _ i 7 (by decide) w (fails_no h1 (ix_no hx))).mono ?_
    rintro e w' ⟨rfl, hb⟩
    exact ⟨rfl, h'.bel hb, Fr.of hb⟩
  | some m =>
    obtain ⟨k, rfl, hk⟩ := ix_yes hx
    obtain ⟨j, m', hj, rfl, _⟩ := num_of (List.getElem?_eq_some_iff.1 hk).1
    have e := cnt_msg hj
    rw [hk] at e
    obtain rfl : m = m' := by simpa using e
    by_cases hf : M ≤ (msgs L).length
    · rw [if_pos hf]
      refine (twice_full h1 hj hf).mono ?_
      rintro e w' ⟨rfl, hb⟩
      exact ⟨by simp, by simpa [hf] using h'.bel hb, Fr.of hb⟩
    · rw [if_neg hf]
      refine (twice_yes h1 hj (by omega) h7 h3).mono ?_
      rintro e w' ⟨rfl, hN⟩
      exact ⟨by simp, by simpa [hf] using HasB.now h1 h4 h5 h6 h7 hN, hN.fr h1⟩
theorem hb_lose (h : HasB B w0 w g M K) (a : Int) :
    Calls Try.prog 18 #[.pointer (some ⟨g, 0, none⟩), .int .i64 a] w fun e w' => e = .returned (.int .i64 ((toL K a 0).length : Nat)) ∧ HasB B w0 w' g M (left K a) ∧ Fr w w' := by
  obtain ⟨mb, L, h1, rfl, h3, h4, h5, h6, h7⟩ := h
  refine (lose_any h1 a).mono ?_
  rintro e w' ⟨rfl, hN⟩
  exact ⟨rfl, HasB.now h1 h4 h5 h6 h7 hN, hN.fr h1⟩

/-- a row of numbers that can be read -/
def IsI (w : World) (u : Value) (l : List Nat) : Prop := ∃ a c, u = .slice a l.length c ∧ (l = [] ∨ ∃ b, a = some ⟨b, 0, none⟩ ∧ b < w.heap.size ∧ ∀ (j x : Nat), l[j]? = some x → w.cell? ⟨b, j, none⟩ = some (.int .i64 (x : Int)))
theorem IsI.bel {w' : World} {u : Value} {l : List Nat} (h : IsI w u l) (hb : Below w.heap.size w w') : IsI w' u l := by
  obtain ⟨a, c, h1, h2⟩ := h
  refine ⟨a, c, h1, h2.imp id ?_⟩
  rintro ⟨b, h3, h4, h5⟩
  exact ⟨b, h3, Nat.lt_of_lt_of_le h4 hb.size, fun j x hj => (hb.cell (p := ⟨b, j, none⟩) h4).trans (h5 j x hj)⟩
theorem own_isI {B n : Nat} {u : Value} {l : List Nat} (h : w.ownsRow B 3 1 u n (ints l)) (hn : n = l.length) : IsI w u l := by
  subst hn
  rcases own_cells h with ⟨rfl, h0⟩ | ⟨b, c, rfl, _, _, _, h1, h2, _⟩
  · refine ⟨none, 0, by rw [h0], .inl (List.eq_nil_of_length_eq_zero h0)⟩
  · exact ⟨_, c, rfl, .inr ⟨b, rfl, h2, fun j x hj => h1 j _ (by simp [ints, hj])⟩⟩
theorem hb_to (h : HasB B w0 w g M K) (a : Int) :
    Calls Try.prog 17 #[.pointer (some ⟨g, 0, none⟩), .int .i64 a] w fun e w' => ∃ s c, e = .returned (.slice s (toL K a 0).length c) ∧ IsI w' (.slice s (toL K a 0).length c) (toL K a 0) ∧ Below w.heap.size w w' := by
  obtain ⟨mb, L, h1, rfl, _⟩ := h
  refine (to_any h1 a).mono ?_
  rintro e w' ⟨v, rfl, hb, ho⟩
  obtain ⟨s, c, rfl⟩ := own_form ho
  exact ⟨s, c, rfl, own_isI ho rfl, hb⟩
set_option maxHeartbeats 2000000 in
/-- a row is the same as one with the same numbers -/
theorem ints_same {u v : Value} {l : List Nat} {w : World} (hu : IsI w u l) (hv : IsI w v l) (hl : l.length ≤ 1000000) : Calls Try.prog 24 #[u, v] w fun e w' => e = .returned (.bool true) ∧ Below w.heap.size w w' := by
  obtain ⟨ua, uc, rfl, hu⟩ := hu
  obtain ⟨va, vc, rfl, hv⟩ := hv
  have HU := Lib.hid hu
  have HV := Lib.hid hv
  obtain ⟨n, hn⟩ : ∃ n, n = l.length := ⟨_, rfl⟩
  have HN := Lib.hid hn
  rw [← hn] at hl
  rw [← hn]
  clear hu hv hn
  go_enter Try.func24, Try.ntmps24
  go_wp2
  go_loopw [5] (fun kv wr => ∃ p : Nat, p ≤ n ∧ kv = .int .i64 p ∧ Below w.heap.size w wr) (fun kv _ => n - (intOf kv).toNat)
  case atStart => exact ⟨0, by omega, rfl, Below.refl _ _⟩
  case round =>
    obtain ⟨p, hp, rfl, hB⟩ := hrel
    have HB := Lib.hid hB
    clear hB
    by_cases hlt : p < n
    · obtain ⟨x, hx⟩ : ∃ x, l[p]? = some x := ⟨_, List.getElem?_eq_getElem (by have := HN.out; omega)⟩
      have hne : l ≠ [] := by rintro rfl; simp at hx
      obtain ⟨b1, rfl, l1, e1⟩ := HU.out.resolve_left hne
      obtain ⟨b2, rfl, l2, e2⟩ := HV.out.resolve_left hne
      have c1 := (HB.out.cell (p := ⟨b1, p, none⟩) l1).trans (e1 p x hx)
      have c2 := (HB.out.cell (p := ⟨b2, p, none⟩) l2).trans (e2 p x hx)
      have HB2 := Lib.hid (HB.out.trans ((drew_bel wr).mono HB.out.size))
      clear hx hne e1 e2
      go_wp2
      go_region
      go_wp2
      exact ⟨⟨p + 1, by omega, by go_num, HB2.out⟩, by simp [intOf]; omega⟩
    · obtain rfl : n = p := by omega
      go_wp2
      go_ret
      exact ⟨rfl, HB.out⟩
end Go.Proofs.Ytbjjbcjapkmnfaa
