/- Bytes of records: what is put is got, what is got put again is the bytes. Nothing of the program is named here. -/
import Derived.Test.YtkicndengkcojaaRecGet4
import Derived.Test.YtkicndengkcojaaRecPut2
import Derived.Test.YtkicndengkcojaaRecWithout
namespace Go.Proofs.Ytkicndengkcojaa
open Go.RowKit

theorem drop_step {b x r : List Nat} {p : Nat} (h : b.drop p = x ++ r) : b.drop (p + x.length) = r := by
  rw [← List.drop_drop, h, List.drop_left]
theorem rdN_put {b r : List Nat} {p v : Nat} (h : b.drop p = numN v ++ r) (hv : v < 18446744073709551616) : rdN b p = .ok (v, p + (numN v).length) := by
  unfold rdN
  rw [h, rNum_put hv, numN_length]; rfl
theorem rdT_put {b r s : List Nat} {p : Nat} (h : b.drop p = txtN s ++ r) (hs : s.length ≤ 4096) : rdT b p = .ok (s, p + (txtN s).length) := by
  unfold rdT
  rw [h, rTxt_put hs]; rfl
theorem rdL_put {b r : List Nat} {p n c : Nat} (h : b.drop p = labN n c ++ r) (hn : n ≤ 64) (hc : c < 18446744073709551616) (hi : lowB n c = true) : rdL b p = .ok ((n, c), p + (labN n c).length) := by
  unfold rdL
  rw [h, rLab_put hn hc hi, labN_length hn]; rfl
theorem last_lt {L : List It} {v : Nat} {t : ByteArray} (hs : Sorted (L ++ [(v, t)])) : lastGe L v = false := by
  unfold lastGe
  cases hx : L.getLast? with
  | none => rfl
  | some x =>
    have hm : x ∈ L := List.mem_of_getLast? hx
    have := (List.pairwise_append.1 hs).2.2 x hm (v, t) (by simp)
    simp only at this ⊢
    simp; omega
theorem lt_last {L : List It} {v : Nat} (t : ByteArray) (hs : Sorted L) (h : lastGe L v = false) : Sorted (L ++ [(v, t)]) := by
  refine List.pairwise_append.2 ⟨hs, List.pairwise_singleton _ _, fun a ha b hb => ?_⟩
  obtain rfl : b = (v, t) := by simpa using hb
  unfold lastGe at h
  cases hx : L.getLast? with
  | none => rw [List.getLast?_eq_none_iff.1 hx] at ha; cases ha
  | some x =>
    rw [hx] at h
    simp only [decide_eq_false_iff_not, Nat.not_le] at h
    obtain ⟨K, rfl⟩ := List.getLast?_eq_some_iff.1 hx
    rcases List.mem_append.1 ha with ha | ha
    · have := (List.pairwise_append.1 hs).2.2 a ha x (by simp)
      simp only; omega
    · obtain rfl : a = x := by simpa using ha
      exact h
theorem rdI_put {b : List Nat} : ∀ (K L : List It) (p : Nat) (r : List Nat), b.drop p = itsN K ++ r → Sorted (L ++ K) → (∀ x ∈ K, x.1 < 18446744073709551616 ∧ x.2.size ≤ 64) →
    rdI b K.length L p = .ok (L ++ K, p + (itsN K).length)
  | [], L, p, r, _, _, _ => by simp [rdI, itsN]
  | (k, s) :: K, L, p, r, h, hs, hb => by
    have hk := hb (k, s) (by simp)
    have e : itsN ((k, s) :: K) = numN k ++ (txtN (bytesN s) ++ itsN K) := by simp [itsN, itN]
    rw [e] at h ⊢
    simp only [List.append_assoc] at h
    have h1 := drop_step h
    have h2 := drop_step h1
    have hs' : Sorted ((L ++ [(k, s)]) ++ K) := by simpa using hs
    have hlast : lastGe L k = false := last_lt (t := s) ((List.pairwise_append.1 hs').1)
    have ih := rdI_put K (L ++ [(k, s)]) _ r h2 hs' fun x hx => hb x (by simp [hx])
    rw [List.length_cons]
    unfold rdI
    rw [rdN_put h hk.1]
    simp only [hlast]
    rw [rdT_put h1 (by rw [bytesN_length]; have := hk.2; simp only at this; omega)]
    simp only [txt_bytes]
    rw [if_neg (by simp), if_neg (by rw [bytesN_length]; have := hk.2; simp only at this; omega), ih]
    simp [Nat.add_assoc]
theorem rdIs_put {b r : List Nat} {p : Nat} {K : List It} (h : b.drop p = numN K.length ++ (itsN K ++ r)) (hl : K.length ≤ 16) (hs : Sorted K) (hb : ∀ x ∈ K, x.1 < 18446744073709551616 ∧ x.2.size ≤ 64) :
    rdIs b p = .ok (K, p + (numN K.length ++ itsN K).length) := by
  unfold rdIs
  rw [rdN_put h (by omega)]
  simp only
  rw [if_neg (by omega), rdI_put K [] _ r (drop_step h) (by simpa using hs) hb]
  simp [Nat.add_assoc]
theorem rdX_put {b r : List Nat} {p : Nat} {n : Int} {c : Nat} (h : b.drop p = nextN n c ++ r) (hc : c < 18446744073709551616) (hn : noneB n c = true ∨ isB n c = true) : rdX b p = .ok ((n, c), p + (nextN n c).length) := by
  unfold rdX
  unfold nextN at h ⊢
  by_cases h0 : noneB n c = true
  · rw [if_pos h0] at h ⊢
    rw [rdN_put h (by omega)]
    obtain ⟨rfl, rfl⟩ := noneB_iff.1 h0
    rfl
  · rw [if_neg h0] at h ⊢
    have hi := (hn.resolve_left h0)
    obtain ⟨h1, h2⟩ := isB_len hi
    obtain ⟨m, rfl⟩ : ∃ m : Nat, n = m := ⟨n.toNat, by omega⟩
    have h3 := isB_low hi
    simp only [Int.toNat_natCast] at h ⊢
    simp only [List.append_assoc] at h
    rw [rdN_put h (by omega)]
    simp only
    rw [if_neg (by omega), if_pos trivial, rdL_put (drop_step h) (by omega) hc h3]
    simp [Nat.add_assoc]
theorem rdM_put {b r : List Nat} {p k m : Nat} (h : b.drop p = (if k = 5 then numN m else []) ++ r) (hm : m < 18446744073709551616) (h5 : k ≠ 5 → m = 0) : rdM b k p = .ok (m, p + (if k = 5 then numN m else []).length) := by
  unfold rdM
  by_cases hk : k = 5
  · rw [if_pos hk] at h ⊢
    rw [if_pos hk, rdN_put h hm]
  · rw [if_neg hk, if_neg hk, h5 hk]; rfl
/-- what is put is got -/
theorem getR_put {r : Rc} (hr : Right r) (hW : r.Wf) : getR (putR r) = .ok r := by
  obtain ⟨kind, L, nl, c, mark⟩ := r
  obtain ⟨h1, h2, h3, h4, h5, h6, h7⟩ := hr
  obtain ⟨w1, w2, w3, w4, w5⟩ := hW
  simp only at *
  obtain ⟨k, rfl⟩ : ∃ k : Nat, kind = k := ⟨kind.toNat, by omega⟩
  unfold getR rdR putR markN
  simp only [Int.toNat_natCast]
  have hb : ∀ x ∈ L, x.1 < 18446744073709551616 ∧ x.2.size ≤ 64 := fun x hx => ⟨w5 x hx, h6 x hx⟩
  by_cases hk : bareB (k : Int) = true
  · rw [if_pos hk]
    have hk' : k = 2 ∨ k = 4 := by simp [bareB] at hk; omega
    rw [rdN_put (b := numN k ++ []) (p := 0) (r := []) rfl (by omega)]
    simp only
    rw [if_pos hk']
    obtain ⟨rfl, rfl, rfl⟩ := h2 hk
    obtain rfl := h3 (by omega)
    simp
  · rw [if_neg hk]
    have hk' : ¬ (k = 2 ∨ k = 4) := fun h => hk (by rcases h with rfl | rfl <;> rfl)
    have hk2 : k = 1 ∨ k = 3 ∨ k = 5 := by omega
    have e5 : ((k : Int) = 5) = (k = 5) := by apply propext; omega
    simp only [e5]
    generalize hB : numN k ++ _ = b
    have hd : b.drop 0 = numN k ++ (numN L.length ++ (itsN L ++ (nextN nl c ++ ((if k = 5 then numN mark else []) ++ [])))) := by rw [← hB]; simp
    have d1 := drop_step hd
    have d2 := drop_step (show b.drop _ = (numN L.length ++ itsN L) ++ _ by rw [d1, List.append_assoc])
    have d3 := drop_step d2
    have d4 := drop_step d3
    rw [rdN_put hd (by omega)]
    simp only
    rw [if_neg hk', if_pos hk2, rdIs_put d1 h4 h5 hb]
    simp only
    rw [rdX_put d2 w3 h7]
    simp only
    rw [rdM_put d3 w4 (fun h => h3 (by omega))]
    simp only
    rw [if_neg (by have := List.drop_eq_nil_iff.1 d4; omega)]

/-! what is got -/
theorem rdN_only {b : List Nat} (hb : ∀ x ∈ b, x < 256) {p v q : Nat} (h : rdN b p = .ok (v, q)) : b.drop p = numN v ++ b.drop q ∧ v < 18446744073709551616 := by
  unfold rdN at h
  split at h
  · rename_i h0
    injection h with h; injection h with e1 e2
    subst e1; subst e2
    obtain ⟨_, h2, h3⟩ := rNum_only (fun x hx => hb x (List.mem_of_mem_drop hx)) h0
    refine ⟨?_, h3⟩
    rw [h2, ← List.drop_drop, List.take_append_drop]
  · cases h
theorem rdT_only {b : List Nat} (hb : ∀ x ∈ b, x < 256) {p q : Nat} {s : List Nat} (h : rdT b p = .ok (s, q)) : b.drop p = txtN s ++ b.drop q ∧ ∀ x ∈ s, x < 256 := by
  unfold rdT at h
  split at h
  · rename_i h0
    injection h with h; injection h with e1 e2
    subst e1; subst e2
    obtain ⟨_, h2, _⟩ := rTxt_only (fun x hx => hb x (List.mem_of_mem_drop hx)) h0
    have hd : b.drop p = txtN (rTxt (b.drop p)).1 ++ b.drop (p + (rTxt (b.drop p)).2.1) := by rw [h2, ← List.drop_drop, List.take_append_drop]
    refine ⟨hd, fun x hx => hb x (List.mem_of_mem_drop (i := p) ?_)⟩
    rw [hd]
    exact List.mem_append_left _ (List.mem_append_right _ hx)
  · cases h
theorem rdL_only {b : List Nat} (hb : ∀ x ∈ b, x < 256) {p q n c : Nat} (h : rdL b p = .ok ((n, c), q)) : b.drop p = labN n c ++ b.drop q ∧ n ≤ 64 ∧ c < 18446744073709551616 ∧ lowB n c = true := by
  unfold rdL at h
  split at h
  · rename_i h0
    injection h with h; injection h with e1 e2; injection e1 with e1 e3
    subst e1; subst e2; subst e3
    obtain ⟨_, h2, h3, h4, h5⟩ := rLab_only (fun x hx => hb x (List.mem_of_mem_drop hx)) h0
    exact ⟨by rw [h2, ← List.drop_drop, List.take_append_drop], h3, h4, h5⟩
  · cases h
theorem rdI_only {b : List Nat} (hb : ∀ x ∈ b, x < 256) : ∀ (n : Nat) (L : List It) (p : Nat) {K : List It} {q : Nat}, rdI b n L p = .ok (K, q) → Sorted L →
    ∃ M, K = L ++ M ∧ M.length = n ∧ b.drop p = itsN M ++ b.drop q ∧ Sorted K ∧ ∀ x ∈ M, x.1 < 18446744073709551616 ∧ x.2.size ≤ 64
  | 0, L, p, K, q, h, hs => by
    unfold rdI at h
    injection h with h; injection h with e1 e2
    subst e1; subst e2
    exact ⟨[], by simp, rfl, by simp [itsN], hs, fun x hx => absurd hx (by simp)⟩
  | n + 1, L, p, K, q, h, hs => by
    unfold rdI at h
    split at h
    · cases h
    rename_i v q1 h1
    split at h
    · cases h
    rename_i hl
    split at h
    · cases h
    rename_i t q2 h2
    split at h
    · cases h
    rename_i ht
    obtain ⟨d1, hv⟩ := rdN_only hb h1
    obtain ⟨d2, ht2⟩ := rdT_only hb h2
    obtain ⟨M, rfl, hM, d3, hS, hx⟩ := rdI_only hb n _ _ h (lt_last (txt t) hs (by simpa using hl))
    refine ⟨(v, txt t) :: M, by simp, by simp [hM], ?_, hS, fun x hx' => ?_⟩
    · rw [d1, d2, d3]
      simp [itsN, itN, bytesN_txt t ht2]
    · rcases List.mem_cons.1 hx' with rfl | hx'
      · exact ⟨hv, by rw [txt_size]; omega⟩
      · exact hx x hx'
theorem getR_only {b : List Nat} (hb : ∀ x ∈ b, x < 256) {r : Rc} (h : getR b = .ok r) : putR r = b ∧ Right r ∧ r.Wf := by
  unfold getR at h
  split at h
  · cases h
  rename_i r' q hR
  split at h
  · cases h
  rename_i hq
  injection h with h
  subst h
  have hend : b.drop q = [] := List.drop_eq_nil_of_le (by omega)
  unfold rdR at hR
  split at hR
  · cases hR
  rename_i k q1 h1
  obtain ⟨d1, _⟩ := rdN_only hb h1
  rw [List.drop_zero] at d1
  split at hR
  · rename_i hk
    injection hR with hR; injection hR with e1 e2
    subst e1; subst e2
    have hbare : bareB (k : Int) = true := by rcases hk with rfl | rfl <;> rfl
    refine ⟨?_, ?_, ?_⟩
    · unfold putR
      simp only [Int.toNat_natCast]
      rw [if_pos hbare, d1, hend]
    · exact ⟨by simp only; omega, fun _ => ⟨rfl, rfl, rfl⟩, fun _ => rfl, by simp, sorted_nil, by simp, .inl rfl⟩
    · exact ⟨by simp only; omega, by simp, by simp, by simp, by simp⟩
  · rename_i hk
    split at hR
    · rename_i hk2
      split at hR
      · cases hR
      rename_i L q2 h2
      split at hR
      · cases hR
      rename_i n c q3 h3
      split at hR
      · cases hR
      rename_i m q4 h4
      injection hR with hR; injection hR with e1 e2
      subst e1; subst e2
      have hbare : ¬ bareB (k : Int) = true := by
        simp [bareB]; omega
      unfold rdIs at h2
      split at h2
      · cases h2
      rename_i N q5 h5
      split at h2
      · cases h2
      rename_i hN
      obtain ⟨d5, _⟩ := rdN_only hb h5
      obtain ⟨M, e, hM, d6, hS, hx⟩ := rdI_only hb _ _ _ h2 sorted_nil
      rw [List.nil_append] at e
      subst e
      -- the next one
      have hX : b.drop q2 = nextN n c ++ b.drop q3 ∧ (noneB n c = true ∨ isB n c = true) ∧ c < 18446744073709551616 ∧ -1 ≤ n ∧ n ≤ 64 := by
        unfold rdX at h3
        split at h3
        · cases h3
        rename_i t q6 h6
        obtain ⟨d7, _⟩ := rdN_only hb h6
        split at h3
        · rename_i ht
          injection h3 with h3; injection h3 with e1 e2; injection e1 with e1 e3
          subst e1; subst e2; subst e3
          subst ht
          exact ⟨by rw [d7]; rfl, .inl rfl, by omega, by omega, by omega⟩
        · split at h3
          · rename_i ht
            split at h3
            · cases h3
            rename_i n' c' q7 h7
            injection h3 with h3; injection h3 with e1 e2; injection e1 with e1 e3
            subst e1; subst e2; subst e3
            subst ht
            obtain ⟨d8, g1, g2, g3⟩ := rdL_only hb h7
            have hno : noneB (n' : Int) c' = false := by rw [Bool.eq_false_iff]; intro h; have := (noneB_iff.1 h).1; omega
            refine ⟨?_, .inr (isB_mk g1 g3), g2, by omega, by omega⟩
            rw [d7, d8]
            unfold nextN
            rw [hno]
            simp
          · cases h3
      obtain ⟨dX, hnx, hc, hn1, hn2⟩ := hX
      have hMk : b.drop q3 = markN ⟨k, L, n, c, m⟩ ++ b.drop q4 ∧ m < 18446744073709551616 ∧ (k ≠ 5 → m = 0) := by
        unfold rdM at h4
        unfold markN
        simp only
        split at h4
        · rename_i h5
          obtain ⟨d9, hm⟩ := rdN_only hb h4
          rw [if_pos (by omega)]
          exact ⟨d9, hm, fun h => absurd h5 h⟩
        · rename_i h5
          injection h4 with h4; injection h4 with e1 e2
          subst e1; subst e2
          rw [if_neg (by omega)]
          exact ⟨rfl, by omega, fun _ => rfl⟩
      obtain ⟨dM, hm, hm5⟩ := hMk
      refine ⟨?_, ?_, ?_⟩
      · unfold putR
        simp only [Int.toNat_natCast]
        rw [if_neg hbare]
        conv => rhs; rw [d1, d5, d6, dX, dM, hend]
        rw [hM]
        simp
      · refine ⟨by simp only; omega, fun h => absurd h hbare, fun h => hm5 (by simp only at h; omega), by simp only; omega, hS, fun x hx' => (hx x hx').2, hnx⟩
      · exact ⟨by simp only; omega, by simp only; omega, hc, hm, fun x hx' => (hx x hx').1⟩
    · cases hR
theorem rdN_err {b : List Nat} {p e : Nat} (h : rdN b p = .error e) : e = 3 ∨ e = 4 := by
  unfold rdN at h
  split at h
  · cases h
  · injection h with h
    rcases rNum_code (b.drop p) with h1 | h1 | h1 <;> omega
theorem rdT_err {b : List Nat} {p e : Nat} (h : rdT b p = .error e) : e = 3 ∨ e = 4 := by
  unfold rdT at h
  split at h
  · cases h
  · injection h with h
    rcases rTxt_code (b.drop p) with h1 | h1 | h1 <;> omega
theorem rdL_err {b : List Nat} {p e : Nat} (h : rdL b p = .error e) : e = 3 ∨ e = 4 := by
  unfold rdL at h
  split at h
  · cases h
  · injection h with h
    rcases rLab_code (b.drop p) with h1 | h1 | h1 <;> omega
theorem rdI_err {b : List Nat} : ∀ (n : Nat) (L : List It) (p : Nat) {e : Nat}, rdI b n L p = .error e → e = 3 ∨ e = 4
  | 0, L, p, e, h => by unfold rdI at h; cases h
  | n + 1, L, p, e, h => by
    unfold rdI at h
    split at h
    · rename_i h1
      injection h with h; subst h
      exact rdN_err h1
    · split at h
      · injection h with h; omega
      · split at h
        · rename_i h1
          injection h with h; subst h
          exact rdT_err h1
        · split at h
          · injection h with h; omega
          · exact rdI_err n _ _ h
theorem getR_err {b : List Nat} {e : Nat} (h : getR b = .error e) : e = 3 ∨ e = 4 := by
  unfold getR at h
  split at h
  · rename_i hR
    injection h with h; subst h
    unfold rdR at hR
    split at hR
    · rename_i h1
      injection hR with h; subst h
      exact rdN_err h1
    · split at hR
      · cases hR
      · split at hR
        · split at hR
          · rename_i h1
            injection hR with h; subst h
            unfold rdIs at h1
            split at h1
            · rename_i h2
              injection h1 with h; subst h
              exact rdN_err h2
            · split at h1
              · injection h1 with h; omega
              · exact rdI_err _ _ _ h1
          · split at hR
            · rename_i h1
              injection hR with h; subst h
              unfold rdX at h1
              split at h1
              · rename_i h2
                injection h1 with h; subst h
                exact rdN_err h2
              · split at h1
                · cases h1
                · split at h1
                  · split at h1
                    · rename_i h2
                      injection h1 with h; subst h
                      exact rdL_err h2
                    · cases h1
                  · injection h1 with h; omega
            · split at hR
              · rename_i h1
                injection hR with h; subst h
                unfold rdM at h1
                split at h1
                · exact rdN_err h1
                · cases h1
              · cases hR
        · injection hR with h; omega
  · split at h
    · injection h with h; omega
    · cases h
end Go.Proofs.Ytkicndengkcojaa
