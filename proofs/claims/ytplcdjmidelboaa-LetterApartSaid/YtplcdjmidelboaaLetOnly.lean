/- Bytes of letters: what is got, put again, is the bytes; which codes there are. Nothing of the program is named here. -/
import Derived.Test.YtplcdjmidelboaaLetBack
namespace Go.Proofs.Ytplcdjmidelboaa
set_option maxRecDepth 100000
open Go.RowKit

theorem rdN_only {b : List Nat} (hb : ∀ x ∈ b, x < 256) {p v q : Nat} (h : rdN b p = .ok (v, q)) : b.drop p = numN v ++ b.drop q ∧ v < 18446744073709551616 := by
  unfold rdN at h
  split at h
  · rename_i h0
    injection h with h; injection h with e1 e2
    subst e1; subst e2
    obtain ⟨_, h2, h3⟩ := rNum_only (fun x hx => hb x (List.mem_of_mem_drop hx)) h0
    refine ⟨?_, h3⟩
    rw [h2, ← List.drop_drop, List.take_append_drop]
  · cases h
theorem rdP_only {b : List Nat} (hb : ∀ x ∈ b, x < 256) {p v q : Nat} (h : rdP b p = .ok (v, q)) : b.drop p = dig 20 v ++ b.drop q ∧ v < M := by
  unfold rdP at h
  split at h
  · rename_i h0
    have h20 : ¬ (b.drop p).length < 20 := by
      intro hc
      unfold rPl at h0
      rw [if_pos hc] at h0
      cases h0
    have e1 : rPl (b.drop p) = (valN ((b.drop p).take 20), 20, 0) := by unfold rPl; rw [if_neg h20]
    rw [e1] at h
    injection h with h; injection h with e2 e3
    simp only at e2 e3
    subst e2; subst e3
    obtain ⟨k1, k2⟩ := rPl_only (fun x hx => hb x (List.mem_of_mem_drop hx)) h20
    refine ⟨?_, k2⟩
    rw [k1, ← List.drop_drop, List.take_append_drop]
  · cases h
theorem rdM_only {m : Nat} {b : List Nat} (hb : ∀ x ∈ b, x < 256) {p v q : Nat} (h : rdM m b p = .ok (v, q)) : b.drop p = numN v ++ b.drop q ∧ v ≤ m := by
  unfold rdM at h
  cases hn : rdN b p with
  | error e => rw [hn] at h; cases h
  | ok r =>
    obtain ⟨v1, q1⟩ := r
    rw [hn] at h
    simp only at h
    split at h
    · cases h
    · injection h with h; injection h with e1 e2
      subst e1; subst e2
      exact ⟨(rdN_only hb hn).1, by omega⟩
theorem rdE_only {b : List Nat} (hb : ∀ x ∈ b, x < 256) {p q : Nat} {x : Pe} (h : rdE b p = .ok (x, q)) : b.drop p = peN x ++ b.drop q ∧ adB x.1 = true ∧ x.2 < M := by
  unfold rdE at h
  cases hn : rdM 999 b p with
  | error e => rw [hn] at h; cases h
  | ok r =>
    obtain ⟨v1, q1⟩ := r
    rw [hn] at h
    simp only at h
    cases hp : rdP b q1 with
    | error e => rw [hp] at h; cases h
    | ok r =>
      obtain ⟨v2, q2⟩ := r
      rw [hp] at h
      injection h with h; injection h with e1 e2
      subst e1; subst e2
      obtain ⟨k1, k2⟩ := rdM_only hb hn
      obtain ⟨k3, k4⟩ := rdP_only hb hp
      refine ⟨?_, adB_iff.2 (by simp only; omega), k4⟩
      unfold peN
      rw [Int.toNat_natCast, List.append_assoc, ← k3, ← k1]
theorem rdAs_only {b : List Nat} (hb : ∀ x ∈ b, x < 256) : ∀ (n : Nat) (L : List Int) (p q : Nat) (L' : List Int), rdAs b n L p = .ok (L', q) → ∃ K, L' = L ++ K ∧ K.length = n ∧ b.drop p = avsN K ++ b.drop q ∧ ∀ x ∈ K, adB x = true
  | 0, L, p, q, L', h => by
    rw [rdAs] at h
    injection h with h; injection h with e1 e2
    subst e1; subst e2
    exact ⟨[], by simp, rfl, rfl, fun x hx => by cases hx⟩
  | n + 1, L, p, q, L', h => by
    rw [rdAs] at h
    cases hn : rdM 999 b p with
    | error e => rw [hn] at h; cases h
    | ok r =>
      obtain ⟨v, q1⟩ := r
      rw [hn] at h
      simp only at h
      obtain ⟨k1, k2⟩ := rdM_only hb hn
      obtain ⟨K, h1, h2, h3, h4⟩ := rdAs_only hb n _ q1 q L' h
      refine ⟨(v : Int) :: K, by rw [h1]; simp, by rw [List.length_cons, h2], ?_, fun x hx => ?_⟩
      · rw [avsN, Int.toNat_natCast, List.append_assoc, ← h3, ← k1]
      · rcases List.mem_cons.1 hx with rfl | hx
        · exact adB_iff.2 (by omega)
        · exact h4 x hx
theorem rdEs_only {b : List Nat} (hb : ∀ x ∈ b, x < 256) : ∀ (n : Nat) (L : List Pe) (p q : Nat) (L' : List Pe), rdEs b n L p = .ok (L', q) → ∃ K, L' = L ++ K ∧ K.length = n ∧ b.drop p = pesN K ++ b.drop q ∧ (∀ x ∈ K, adB x.1 = true) ∧ Wf K
  | 0, L, p, q, L', h => by
    rw [rdEs] at h
    injection h with h; injection h with e1 e2
    subst e1; subst e2
    exact ⟨[], by simp, rfl, rfl, fun x hx => (by cases hx), fun x hx => by cases hx⟩
  | n + 1, L, p, q, L', h => by
    rw [rdEs] at h
    cases hn : rdE b p with
    | error e => rw [hn] at h; cases h
    | ok r =>
      obtain ⟨v, q1⟩ := r
      rw [hn] at h
      simp only at h
      obtain ⟨k1, k2, k3⟩ := rdE_only hb hn
      obtain ⟨K, h1, h2, h3, h4, h5⟩ := rdEs_only hb n _ q1 q L' h
      refine ⟨v :: K, by rw [h1]; simp, by rw [List.length_cons, h2], ?_, fun x hx => ?_, fun x hx => ?_⟩
      · rw [pesN, List.append_assoc, ← h3, ← k1]
      · rcases List.mem_cons.1 hx with rfl | hx
        · exact k2
        · exact h4 x hx
      · rcases List.mem_cons.1 hx with rfl | hx
        · exact k3
        · exact h5 x hx
theorem rdA_only {b : List Nat} (hb : ∀ x ∈ b, x < 256) {p q : Nat} {K : List Int} (h : rdA b p = .ok (K, q)) : b.drop p = numN K.length ++ avsN K ++ b.drop q ∧ K.length ≤ 16 ∧ ∀ x ∈ K, adB x = true := by
  unfold rdA at h
  cases hn : rdM 16 b p with
  | error e => rw [hn] at h; cases h
  | ok r =>
    obtain ⟨v, q1⟩ := r
    rw [hn] at h
    simp only at h
    obtain ⟨k1, k2⟩ := rdM_only hb hn
    obtain ⟨K', h1, h2, h3, h4⟩ := rdAs_only hb v _ q1 q K h
    rw [List.nil_append] at h1
    subst h1
    exact ⟨by rw [h2, List.append_assoc, ← h3, ← k1], by omega, h4⟩
theorem rdL_only {b : List Nat} (hb : ∀ x ∈ b, x < 256) {p q : Nat} {K : List Pe} (h : rdL b p = .ok (K, q)) : b.drop p = numN K.length ++ pesN K ++ b.drop q ∧ K.length ≤ 8 ∧ (∀ x ∈ K, adB x.1 = true) ∧ Wf K := by
  unfold rdL at h
  cases hn : rdM 8 b p with
  | error e => rw [hn] at h; cases h
  | ok r =>
    obtain ⟨v, q1⟩ := r
    rw [hn] at h
    simp only at h
    obtain ⟨k1, k2⟩ := rdM_only hb hn
    obtain ⟨K', h1, h2, h3, h4, h5⟩ := rdEs_only hb v _ q1 q K h
    rw [List.nil_append] at h1
    subst h1
    exact ⟨by rw [h2, List.append_assoc, ← h3, ← k1], by omega, h4, h5⟩
theorem ad_no {x : Pe} (h : adB x.1 = true) : x ≠ noP := by
  rintro rfl
  exact absurd h (by decide)
theorem rdY_only {k : Int} {b : List Nat} (hb : ∀ x ∈ b, x < 256) {p q : Nat} {x : Pe} (h : rdY k b p = .ok (x, q)) : b.drop p = mayN x ++ b.drop q ∧ (x = noP ∨ adB x.1 = true) ∧ x.2 < M ∧ (k = 2 → x ≠ noP) := by
  unfold rdY at h
  cases hn : rdM 1 b p with
  | error e => rw [hn] at h; cases h
  | ok r =>
    obtain ⟨v, q1⟩ := r
    rw [hn] at h
    simp only at h
    obtain ⟨k1, k2⟩ := rdM_only hb hn
    split at h
    · rename_i h0
      subst h0
      split at h
      · cases h
      · rename_i hk
        injection h with h; injection h with e1 e2
        subst e1; subst e2
        exact ⟨by unfold mayN; rw [if_pos rfl]; exact k1, .inl rfl, M_pos, fun h => absurd h hk⟩
    · rename_i h0
      obtain rfl : v = 1 := by omega
      obtain ⟨k3, k4, k5⟩ := rdE_only hb h
      exact ⟨by unfold mayN; rw [if_neg (ad_no k4), List.append_assoc, ← k3]; exact k1, .inr k4, k5, fun _ => ad_no k4⟩
theorem opt_only {α : Type} {c : Bool} {X : Except Nat (α × Nat)} {s : St} {put : α → Lt} {l' : Lt} {q : Nat} {b : List Nat} (zero : α) (enc : α → List Nat) (P : α → Prop) (h : opt c X s put = .ok (l', q)) (hX : c = true → ∀ v q, X = .ok (v, q) → b.drop s.2 = enc v ++ b.drop q ∧ P v)
    (h0 : c = false → P zero) (hz : put zero = s.1) : ∃ v, l' = put v ∧ P v ∧ (c = false → v = zero) ∧ b.drop s.2 = (if c then enc v else []) ++ b.drop q := by
  unfold opt at h
  cases c
  · rw [if_neg (by decide)] at h
    injection h with h
    subst h
    exact ⟨zero, hz.symm, h0 rfl, fun _ => rfl, rfl⟩
  · rw [if_pos rfl] at h
    cases hv : X with
    | error e => rw [hv] at h; cases h
    | ok r =>
      obtain ⟨v, q1⟩ := r
      rw [hv] at h
      injection h with h; injection h with e1 e2
      subst e1; subst e2
      obtain ⟨k1, k2⟩ := hX rfl v q1 hv
      exact ⟨v, rfl, k2, fun h => (by cases h), by rw [if_pos rfl]; exact k1⟩
theorem thn_ok {X : Except Nat St} {f : St → Except Nat St} {r : St} (h : thn X f = .ok r) : ∃ s, X = .ok s ∧ f s = .ok r := by
  unfold thn at h
  cases X with
  | error e => cases h
  | ok s => exact ⟨s, rfl, h⟩
theorem peer_two {k : Int} (h : peerK k = false) : k ≠ 2 := by rintro rfl; exact absurd h (by decide)
theorem getS_only {b : List Nat} (hb : ∀ x ∈ b, x < 256) {l : Lt} {q : Nat} (h : getS b = .ok (l, q)) : b = putN l ++ b.drop q ∧ Right l ∧ l.Wf := by
  unfold getS rdK at h
  cases hn : rdN b 0 with
  | error e => rw [hn] at h; cases h
  | ok r =>
    obtain ⟨k, pp1⟩ := r
    rw [hn] at h
    simp only at h
    split at h
    · rename_i hh; split at hh <;> simp_all
    · rename_i k' pp1' hh
      split at hh
      · cases hh
      rename_i hk
      injection hh with hh; injection hh with e1 e2
      subst e1; subst e2
      obtain ⟨d0, _⟩ := rdN_only hb hn
      cases he : rdE b pp1 with
      | error e => rw [he] at h; cases h
      | ok r =>
        obtain ⟨f, pp2⟩ := r
        rw [he] at h
        simp only at h
        obtain ⟨d1, f1, f2⟩ := rdE_only hb he
        obtain ⟨⟨l1, q1⟩, x1, h⟩ := thn_ok h
        obtain ⟨v1, rfl, P1, z1, d2⟩ := opt_only (b := b) 0 numN (fun v => v < 18446744073709551616) x1 (fun _ v q h => rdN_only hb h) (fun _ => by decide) rfl
        obtain ⟨⟨l2, q2⟩, x2, h⟩ := thn_ok h
        obtain ⟨v2, rfl, P2, z2, d3⟩ := opt_only (b := b) 0 (dig 20) (fun v => v < M) x2 (fun _ v q h => rdP_only hb h) (fun _ => M_pos) rfl
        obtain ⟨⟨l3, q3⟩, x3, h⟩ := thn_ok h
        obtain ⟨v3, rfl, P3, z3, d4⟩ := opt_only (b := b) [] (fun K => numN K.length ++ avsN K) (fun K => K.length ≤ 16 ∧ ∀ x ∈ K, adB x = true) x3 (fun _ v q h => rdA_only hb h) (fun _ => ⟨by decide, fun x hx => by cases hx⟩) rfl
        obtain ⟨⟨l4, q4⟩, x4, h⟩ := thn_ok h
        obtain ⟨v4, rfl, P4, z4, d5⟩ := opt_only (b := b) 0 numN (fun v => v ≤ 1) x4 (fun _ v q h => rdM_only hb h) (fun _ => by decide) rfl
        obtain ⟨⟨l5, q5⟩, x5, h⟩ := thn_ok h
        obtain ⟨v5, rfl, P5, z5, d6⟩ := opt_only (b := b) noP mayN (fun x => (x = noP ∨ adB x.1 = true) ∧ x.2 < M ∧ ((k : Int) = 2 → x ≠ noP)) x5 (fun _ v q h => rdY_only hb h) (fun c => ⟨.inl rfl, M_pos, fun h => absurd h (peer_two c)⟩) rfl
        obtain ⟨v6, rfl, P6, z6, d7⟩ := opt_only (b := b) [] (fun K => numN K.length ++ pesN K) (fun K => K.length ≤ 8 ∧ (∀ x ∈ K, adB x.1 = true) ∧ Wf K) h (fun _ v q h => rdL_only hb h) (fun _ => ⟨by decide, fun x hx => (by cases hx), fun x hx => (by cases hx)⟩) rfl
        have e4 : bitN (decide (v4 = 1)) = numN v4 := by
          rcases (show v4 = 0 ∨ v4 = 1 by omega) with rfl | rfl <;> rfl
        refine ⟨?_, ⟨by simp only [newL]; omega, f1, P3.1, P6.1, P5.2.2, P5.1, z1, z2, z3, fun c => ?_, z5, z6, P3.2, P6.2.1⟩, ⟨by simp only [newL]; omega, f2, P1, P2, P5.2.1, P6.2.2⟩⟩
        · unfold putN p5 p4 p3 p2 p1 p0
          simp only [newL] at d2 d3 d4 d5 d6 d7 ⊢
          rw [Int.toNat_natCast, e4]
          simp only [List.append_assoc]
          rw [← d7, ← d6, ← d5, ← d4, ← d3, ← d2, ← d1, ← d0]
          exact List.drop_zero.symm
        · have := z4 c
          subst this
          rfl
theorem getN_only {b : List Nat} (hb : ∀ x ∈ b, x < 256) {l : Lt} (h : getN b = .ok l) : b = putN l ∧ Right l ∧ l.Wf := by
  unfold getN at h
  cases hs : getS b with
  | error e => rw [hs] at h; cases h
  | ok r =>
    obtain ⟨l1, q⟩ := r
    rw [hs] at h
    simp only at h
    split at h
    · cases h
    · rename_i hq
      injection h with h
      subst h
      obtain ⟨h1, h2, h3⟩ := getS_only hb hs
      refine ⟨?_, h2, h3⟩
      rw [List.drop_eq_nil_of_le (by omega), List.append_nil] at h1
      exact h1

/-! which codes there are -/
def Code34 {α : Type} (X : Except Nat α) : Prop := ∀ e, X = .error e → e = 3 ∨ e = 4
theorem c_ok {α : Type} (x : α) : Code34 (.ok x) := fun e h => by cases h
theorem c_3 {α : Type} : Code34 (.error 3 : Except Nat α) := fun e h => by cases h; exact .inl rfl
theorem c_if {α : Type} {c : Prop} [Decidable c] {X Y : Except Nat α} (hX : Code34 X) (hY : Code34 Y) : Code34 (if c then X else Y) := by split <;> assumption
theorem c_rdN (b : List Nat) (p : Nat) : Code34 (rdN b p) := by
  intro e h
  unfold rdN at h
  split at h
  · cases h
  · rename_i h0
    injection h with h
    rcases rNum_code (b.drop p) with k | ⟨k, _⟩ | ⟨k, _⟩
    · exact absurd k h0
    · exact .inl (by omega)
    · exact .inr (by omega)
theorem c_rdP (b : List Nat) (p : Nat) : Code34 (rdP b p) := by
  intro e h
  unfold rdP at h
  by_cases h1 : (b.drop p).length < 20
  · rw [show rPl (b.drop p) = (0, 0, 4) by unfold rPl; rw [if_pos h1]] at h
    cases h
    exact .inr rfl
  · rw [show rPl (b.drop p) = (valN ((b.drop p).take 20), 20, 0) by unfold rPl; rw [if_neg h1]] at h
    cases h
theorem c_bnd {α β : Type} {X : Except Nat (α × Nat)} {f : α → Nat → Except Nat (β × Nat)} (hX : Code34 X) (hf : ∀ v q, Code34 (f v q)) : Code34 (bnd X f) := by
  unfold bnd
  cases X with
  | error e => exact fun e' h => hX e' (by cases h; rfl)
  | ok r => exact hf _ _
theorem c_eq {α : Type} {X Y : Except Nat α} (h : X = Y) (hY : Code34 Y) : Code34 X := h ▸ hY
theorem c_rdM (m : Nat) (b : List Nat) (p : Nat) : Code34 (rdM m b p) := c_eq (by unfold rdM bnd; cases rdN b p <;> rfl) (c_bnd (f := fun v q => if m < v then .error 3 else .ok (v, q)) (c_rdN b p) fun v q => c_if c_3 (c_ok _))
theorem c_rdE (b : List Nat) (p : Nat) : Code34 (rdE b p) := c_eq (by
    unfold rdE bnd
    cases rdM 999 b p with
    | error e => rfl
    | ok r => simp only; cases rdP b r.2 <;> rfl) (c_bnd (f := fun (a : Nat) q => bnd (rdP b q) fun i r => .ok (((a : Int), i), r)) (c_rdM 999 b p) fun v q => c_bnd (c_rdP b q) fun i r => c_ok _)
theorem c_rdAs (b : List Nat) : ∀ (n : Nat) (L : List Int) (p : Nat), Code34 (rdAs b n L p)
  | 0, L, p => c_ok _
  | n + 1, L, p => c_eq (by rw [rdAs]; unfold bnd; cases rdM 999 b p <;> rfl) (c_bnd (f := fun (a : Nat) q => rdAs b n (L ++ [(a : Int)]) q) (c_rdM 999 b p) fun v q => c_rdAs b n _ q)
theorem c_rdEs (b : List Nat) : ∀ (n : Nat) (L : List Pe) (p : Nat), Code34 (rdEs b n L p)
  | 0, L, p => c_ok _
  | n + 1, L, p => c_eq (by rw [rdEs]; unfold bnd; cases rdE b p <;> rfl) (c_bnd (f := fun x q => rdEs b n (L ++ [x]) q) (c_rdE b p) fun v q => c_rdEs b n _ q)
theorem c_rdA (b : List Nat) (p : Nat) : Code34 (rdA b p) := c_eq (by unfold rdA bnd; cases rdM 16 b p <;> rfl) (c_bnd (f := fun n q => rdAs b n [] q) (c_rdM 16 b p) fun v q => c_rdAs b v _ q)
theorem c_rdL (b : List Nat) (p : Nat) : Code34 (rdL b p) := c_eq (by unfold rdL bnd; cases rdM 8 b p <;> rfl) (c_bnd (f := fun n q => rdEs b n [] q) (c_rdM 8 b p) fun v q => c_rdEs b v _ q)
theorem c_rdY (k : Int) (b : List Nat) (p : Nat) : Code34 (rdY k b p) := c_eq (by unfold rdY bnd; cases rdM 1 b p <;> rfl) (c_bnd (f := fun v q => if v = 0 then (if k = 2 then .error 3 else .ok (noP, q)) else rdE b q) (c_rdM 1 b p) fun v q => c_if (c_if c_3 (c_ok _)) (c_rdE b q))
theorem c_rdK (b : List Nat) (p : Nat) : Code34 (rdK b p) := c_eq (by unfold rdK bnd; cases rdN b p <;> rfl) (c_bnd (f := fun v q => if v < 1 ∨ 8 < v then .error 3 else .ok (v, q)) (c_rdN b p) fun v q => c_if c_3 (c_ok _))
theorem c_opt {α : Type} {c : Bool} {X : Except Nat (α × Nat)} (hX : Code34 X) (s : St) (put : α → Lt) : Code34 (opt c X s put) := by
  cases c
  · exact c_ok _
  · exact c_eq (by unfold opt bnd; rw [if_pos rfl]; cases X <;> rfl) (c_bnd (f := fun v q => .ok (put v, q)) hX fun v q => c_ok _)
theorem c_thn {X : Except Nat St} {f : St → Except Nat St} (hX : Code34 X) (hf : ∀ s, Code34 (f s)) : Code34 (thn X f) := by
  unfold thn
  cases X with
  | error e => exact fun e' h => hX e' (by cases h; rfl)
  | ok r => exact hf _
theorem c_getS (b : List Nat) : Code34 (getS b) := c_eq (by
    unfold getS bnd
    cases rdK b 0 with
    | error e => rfl
    | ok r => simp only; cases rdE b r.2 <;> rfl) (c_bnd (f := fun (k : Nat) q => bnd (rdE b q) fun f r => t1 b (newL k f, r)) (c_rdK b 0) fun k q => c_bnd (c_rdE b q) fun f r =>
      c_thn (c_opt (c_rdN b _) _ _) fun s => c_thn (c_opt (c_rdP b _) _ _) fun s => c_thn (c_opt (c_rdA b _) _ _) fun s => c_thn (c_opt (c_rdM 1 b _) _ _) fun s => c_thn (c_opt (c_rdY _ b _) _ _) fun s => c_opt (c_rdL b _) _ _)
theorem c_getN (b : List Nat) : Code34 (getN b) := by
  unfold getN
  cases hs : getS b with
  | error e => exact fun e' h => c_getS b e' (by cases h; exact hs)
  | ok r => exact c_if c_3 (c_ok _)
end Go.Proofs.Ytplcdjmidelboaa
