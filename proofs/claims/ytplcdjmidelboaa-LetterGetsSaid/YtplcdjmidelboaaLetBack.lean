/- Bytes of letters: what is put is got, what is got put again is the bytes, what is cut short ends ahead. Nothing of the program is named here. -/
import Derived.Test.YtplcdjmidelboaaLetNum
namespace Go.Proofs.Ytplcdjmidelboaa
set_option maxRecDepth 100000
open Go.RowKit

theorem drop_step {b x r : List Nat} {p : Nat} (h : b.drop p = x ++ r) : b.drop (p + x.length) = r := by
  rw [← List.drop_drop, h, List.drop_left]
theorem rdN_put {b r : List Nat} {p v : Nat} (h : b.drop p = numN v ++ r) (hv : v < 18446744073709551616) : rdN b p = .ok (v, p + (numN v).length) := by
  unfold rdN
  rw [h, rNum_put hv, numN_length]; rfl
theorem rdP_put {b r : List Nat} {p v : Nat} (h : b.drop p = dig 20 v ++ r) (hv : v < M) : rdP b p = .ok (v, p + (dig 20 v).length) := by
  unfold rdP
  rw [h, rPl_put hv, dig_length]; rfl
theorem rdM_put {m : Nat} {b r : List Nat} {p v : Nat} (h : b.drop p = numN v ++ r) (hv : v ≤ m) (hm : m < 18446744073709551616) : rdM m b p = .ok (v, p + (numN v).length) := by
  unfold rdM
  rw [rdN_put h (by omega)]
  simp only
  rw [if_neg (by omega)]
theorem rdE_put {b r : List Nat} {p : Nat} {x : Pe} (h : b.drop p = peN x ++ r) (hx : adB x.1 = true) (hp : x.2 < M) : rdE b p = .ok (x, p + (peN x).length) := by
  have ha := adB_iff.1 hx
  unfold peN at h ⊢
  rw [List.append_assoc] at h
  unfold rdE
  rw [rdM_put h (by omega) (by decide)]
  simp only
  rw [rdP_put (drop_step h) hp]
  simp only [List.length_append]
  rw [Int.toNat_of_nonneg ha.1, Nat.add_assoc]
theorem rdAs_put {b : List Nat} : ∀ (K L : List Int) (p : Nat) (r : List Nat), b.drop p = avsN K ++ r → (∀ x ∈ K, adB x = true) → rdAs b K.length L p = .ok (L ++ K, p + (avsN K).length)
  | [], L, p, r, _, _ => by simp [rdAs, avsN]
  | a :: K, L, p, r, h, hb => by
    have ha := adB_iff.1 (hb a (by simp))
    rw [avsN, List.append_assoc] at h
    have ih := rdAs_put K (L ++ [a]) _ r (drop_step h) fun x hx => hb x (by simp [hx])
    rw [List.length_cons, rdAs, rdM_put h (by omega) (by decide)]
    simp only
    rw [Int.toNat_of_nonneg ha.1, ih, avsN]
    simp [Nat.add_assoc]
theorem rdEs_put {b : List Nat} : ∀ (K L : List Pe) (p : Nat) (r : List Nat), b.drop p = pesN K ++ r → (∀ x ∈ K, adB x.1 = true) → Wf K → rdEs b K.length L p = .ok (L ++ K, p + (pesN K).length)
  | [], L, p, r, _, _, _ => by simp [rdEs, pesN]
  | a :: K, L, p, r, h, hb, hw => by
    rw [pesN, List.append_assoc] at h
    have ih := rdEs_put K (L ++ [a]) _ r (drop_step h) (fun x hx => hb x (by simp [hx])) (fun x hx => hw x (by simp [hx]))
    rw [List.length_cons, rdEs, rdE_put h (hb a (by simp)) (hw a (by simp))]
    simp only
    rw [ih, pesN]
    simp [Nat.add_assoc]
theorem rdA_put {b r : List Nat} {p : Nat} {K : List Int} (h : b.drop p = numN K.length ++ avsN K ++ r) (hl : K.length ≤ 16) (hb : ∀ x ∈ K, adB x = true) : rdA b p = .ok (K, p + (numN K.length ++ avsN K).length) := by
  rw [List.append_assoc] at h
  unfold rdA
  rw [rdM_put h hl (by decide)]
  simp only
  rw [rdAs_put K [] _ r (drop_step h) hb, List.length_append, Nat.add_assoc]
  rfl
theorem rdL_put {b r : List Nat} {p : Nat} {K : List Pe} (h : b.drop p = numN K.length ++ pesN K ++ r) (hl : K.length ≤ 8) (hb : ∀ x ∈ K, adB x.1 = true) (hw : Wf K) : rdL b p = .ok (K, p + (numN K.length ++ pesN K).length) := by
  rw [List.append_assoc] at h
  unfold rdL
  rw [rdM_put h hl (by decide)]
  simp only
  rw [rdEs_put K [] _ r (drop_step h) hb hw, List.length_append, Nat.add_assoc]
  rfl
theorem rdY_put {k : Int} {b r : List Nat} {p : Nat} {x : Pe} (h : b.drop p = mayN x ++ r) (hx : x = noP ∨ adB x.1 = true) (hp : x.2 < M) (h2 : k = 2 → x ≠ noP) : rdY k b p = .ok (x, p + (mayN x).length) := by
  unfold mayN at h ⊢
  unfold rdY
  by_cases h0 : x = noP
  · rw [if_pos h0] at h ⊢
    rw [rdM_put h (by omega) (by decide)]
    simp only
    rw [if_pos trivial, if_neg fun hk => h2 hk h0, h0]
  · rw [if_neg h0] at h ⊢
    rw [List.append_assoc] at h
    rw [rdM_put h (Nat.le_refl 1) (by decide)]
    simp only
    rw [if_neg (by omega), rdE_put (drop_step h) (hx.resolve_left h0) hp, List.length_append, Nat.add_assoc]
theorem opt_yes {α : Type} {c : Bool} {X : Except Nat (α × Nat)} {v : α} {s : St} {put : α → Lt} {e : List Nat} {d : Lt} (h1 : c = true → X = .ok (v, s.2 + e.length)) (h2 : c = true → put v = d) (h3 : c = false → s.1 = d) :
    opt c X s put = .ok (d, s.2 + (if c then e else []).length) := by
  unfold opt
  cases c
  · rw [if_neg (by decide), if_neg (by decide), ← h3 rfl]; rfl
  · rw [if_pos rfl, if_pos rfl, h1 rfl, ← h2 rfl]
/-- what is put is got, whatever is behind it -/
theorem getS_put {l : Lt} (hr : Right l) (hw : l.Wf) (r : List Nat) : getS (putN l ++ r) = .ok (l, (putN l).length) := by
  generalize hB : putN l ++ r = b
  have hk := hr.kind
  have d0 : b.drop 0 = numN l.kind.toNat ++ (peN l.fr ++ ((if reqK l.kind then numN l.req else []) ++ ((if idK l.kind then dig 20 l.id else []) ++ ((if idK l.kind then numN l.avoid.length ++ avsN l.avoid else []) ++ ((if doneK l.kind then bitN l.done else []) ++ ((if peerK l.kind then mayN l.peer else []) ++ ((if peersK l.kind then numN l.peers.length ++ pesN l.peers else []) ++ r))))))) := by
    rw [← hB]
    unfold putN p5 p4 p3 p2 p1 p0
    simp only [List.append_assoc, List.drop_zero]
  have d1 := drop_step d0
  have d2 := drop_step d1
  have d3 := drop_step d2
  have d4 := drop_step d3
  have d5 := drop_step d4
  have d6 := drop_step d5
  have d7 := drop_step d6
  unfold getS rdK
  rw [rdN_put d0 (by omega)]
  simp only
  rw [if_neg (by omega)]
  simp only
  rw [rdE_put d1 hr.fr hw.fr]
  simp only
  rw [Int.toNat_of_nonneg (by omega)]
  have e1 : s1 b (newL l.kind l.fr, 0 + (numN l.kind.toNat).length + (peN l.fr).length) = .ok ({ newL l.kind l.fr with req := l.req }, 0 + (numN l.kind.toNat).length + (peN l.fr).length + (if reqK l.kind then numN l.req else []).length) :=
    opt_yes (v := l.req) (fun c => by rw [if_pos (show reqK l.kind = true from c)] at d2; exact rdN_put d2 hw.req) (fun _ => rfl) (fun c => by rw [hr.req0 c]; rfl)
  have e2 : s2 b ({ newL l.kind l.fr with req := l.req }, 0 + (numN l.kind.toNat).length + (peN l.fr).length + (if reqK l.kind then numN l.req else []).length) = .ok ({ newL l.kind l.fr with req := l.req, id := l.id }, 0 + (numN l.kind.toNat).length + (peN l.fr).length + (if reqK l.kind then numN l.req else []).length + (if idK l.kind then dig 20 l.id else []).length) :=
    opt_yes (v := l.id) (fun c => by rw [if_pos (show idK l.kind = true from c)] at d3; exact rdP_put d3 hw.id) (fun _ => rfl) (fun c => by rw [hr.id0 c]; rfl)
  have e3 : s3 b ({ newL l.kind l.fr with req := l.req, id := l.id }, 0 + (numN l.kind.toNat).length + (peN l.fr).length + (if reqK l.kind then numN l.req else []).length + (if idK l.kind then dig 20 l.id else []).length) = .ok ({ newL l.kind l.fr with req := l.req, id := l.id, avoid := l.avoid }, 0 + (numN l.kind.toNat).length + (peN l.fr).length + (if reqK l.kind then numN l.req else []).length + (if idK l.kind then dig 20 l.id else []).length + (if idK l.kind then numN l.avoid.length ++ avsN l.avoid else []).length) :=
    opt_yes (v := l.avoid) (fun c => by rw [show (if idK l.kind = true then numN l.avoid.length ++ avsN l.avoid else []) = numN l.avoid.length ++ avsN l.avoid from if_pos c] at d4; exact rdA_put d4 hr.navoid hr.avoid) (fun _ => rfl) (fun c => by rw [hr.avoid0 c]; rfl)
  have e4 : s4 b ({ newL l.kind l.fr with req := l.req, id := l.id, avoid := l.avoid }, 0 + (numN l.kind.toNat).length + (peN l.fr).length + (if reqK l.kind then numN l.req else []).length + (if idK l.kind then dig 20 l.id else []).length + (if idK l.kind then numN l.avoid.length ++ avsN l.avoid else []).length) = .ok ({ newL l.kind l.fr with req := l.req, id := l.id, avoid := l.avoid, done := l.done }, 0 + (numN l.kind.toNat).length + (peN l.fr).length + (if reqK l.kind then numN l.req else []).length + (if idK l.kind then dig 20 l.id else []).length + (if idK l.kind then numN l.avoid.length ++ avsN l.avoid else []).length + (if doneK l.kind then bitN l.done else []).length) :=
    opt_yes (v := if l.done then 1 else 0) (fun c => by rw [if_pos (show doneK l.kind = true from c)] at d5; exact rdM_put d5 (by split <;> omega) (by decide)) (fun _ => by cases l.done <;> rfl) (fun c => by rw [hr.done0 c]; rfl)
  have e5 : s5 b ({ newL l.kind l.fr with req := l.req, id := l.id, avoid := l.avoid, done := l.done }, 0 + (numN l.kind.toNat).length + (peN l.fr).length + (if reqK l.kind then numN l.req else []).length + (if idK l.kind then dig 20 l.id else []).length + (if idK l.kind then numN l.avoid.length ++ avsN l.avoid else []).length + (if doneK l.kind then bitN l.done else []).length) = .ok ({ newL l.kind l.fr with req := l.req, id := l.id, avoid := l.avoid, done := l.done, peer := l.peer }, 0 + (numN l.kind.toNat).length + (peN l.fr).length + (if reqK l.kind then numN l.req else []).length + (if idK l.kind then dig 20 l.id else []).length + (if idK l.kind then numN l.avoid.length ++ avsN l.avoid else []).length + (if doneK l.kind then bitN l.done else []).length + (if peerK l.kind then mayN l.peer else []).length) :=
    opt_yes (v := l.peer) (fun c => by rw [if_pos (show peerK l.kind = true from c)] at d6; exact rdY_put d6 hr.peer hw.peer hr.found) (fun _ => rfl) (fun c => by rw [hr.peer0 c]; rfl)
  have e6 : s6 b ({ newL l.kind l.fr with req := l.req, id := l.id, avoid := l.avoid, done := l.done, peer := l.peer }, 0 + (numN l.kind.toNat).length + (peN l.fr).length + (if reqK l.kind then numN l.req else []).length + (if idK l.kind then dig 20 l.id else []).length + (if idK l.kind then numN l.avoid.length ++ avsN l.avoid else []).length + (if doneK l.kind then bitN l.done else []).length + (if peerK l.kind then mayN l.peer else []).length) = .ok (l, 0 + (numN l.kind.toNat).length + (peN l.fr).length + (if reqK l.kind then numN l.req else []).length + (if idK l.kind then dig 20 l.id else []).length + (if idK l.kind then numN l.avoid.length ++ avsN l.avoid else []).length + (if doneK l.kind then bitN l.done else []).length + (if peerK l.kind then mayN l.peer else []).length + (if peersK l.kind then numN l.peers.length ++ pesN l.peers else []).length) :=
    opt_yes (v := l.peers) (fun c => by rw [if_pos (show peersK l.kind = true from c)] at d7; exact rdL_put d7 hr.npeers hr.peers hw.peers) (fun _ => rfl) (fun c => by have := hr.peers0 c; cases l; simp only at this; subst this; rfl)
  unfold t1 t2 t3 t4 t5
  rw [e1]
  simp only [thn]
  rw [e2]
  simp only
  rw [e3]
  simp only
  rw [e4]
  simp only
  rw [e5]
  simp only
  rw [e6]
  unfold putN p5 p4 p3 p2 p1 p0
  simp only [List.length_append, Nat.zero_add, Nat.add_assoc]
theorem getN_put {l : Lt} (hr : Right l) (hw : l.Wf) : getN (putN l) = .ok l := by
  have h := getS_put hr hw []
  rw [List.append_nil] at h
  unfold getN
  rw [h]
  simp only
  rw [if_neg (Nat.lt_irrefl _)]
theorem getN_more {l : Lt} (hr : Right l) (hw : l.Wf) {r : List Nat} (h0 : r ≠ []) : getN (putN l ++ r) = .error 3 := by
  unfold getN
  rw [getS_put hr hw r]
  simp only
  rw [if_pos (by rw [List.length_append]; have := List.length_pos_iff.2 h0; omega)]

/-! what is cut short -/
def CutOK {α : Type} (R : List Nat → Nat → Except Nat (α × Nat)) : Prop :=
  ∀ b p v q, (∀ x ∈ b, x < 256) → R b p = .ok (v, q) → p ≤ q ∧ ∀ n, p ≤ n → R (b.take n) p = if n < q then .error 4 else .ok (v, q)
theorem drop_take' (b : List Nat) (p n : Nat) : (b.take n).drop p = (b.drop p).take (n - p) := by rw [List.drop_take]
theorem cut_rdN : CutOK rdN := by
  intro b p v q hb h
  unfold rdN at h
  split at h
  · rename_i h0
    simp only [Except.ok.injEq, Prod.mk.injEq] at h
    obtain ⟨rfl, rfl⟩ := h
    refine ⟨by omega, fun n hn => ?_⟩
    have hb' : ∀ x ∈ b.drop p, x < 256 := fun x hx => hb x (List.mem_of_mem_drop hx)
    obtain ⟨h1, h2, h3⟩ := rNum_only hb' h0
    unfold rdN
    rw [drop_take']
    generalize hc : (rNum (b.drop p)).2.1 = c at *
    generalize hv : (rNum (b.drop p)).1 = v at *
    have hl : 1 + nb v = c := by rw [← numN_length, h2, List.length_take]; omega
    by_cases hlt : n < p + c
    · rw [if_pos hlt, show (b.drop p).take (n - p) = (numN v).take (n - p) by rw [h2, List.take_take, Nat.min_eq_left (by omega)], rNum_cut h3 (n - p) (by omega)]
      rfl
    · rw [if_neg hlt]
      have e : (b.drop p).take (n - p) = numN v ++ ((b.drop p).drop c).take (n - p - c) := by
        rw [h2]
        conv => lhs; rw [show n - p = c + (n - p - c) by omega]
        rw [List.take_add]
      rw [e, rNum_put h3]
      simp only [if_true]
      rw [hl]
  · cases h
theorem cut_rdP : CutOK rdP := by
  intro b p v q hb h
  unfold rdP at h
  split at h
  · rename_i h0
    simp only [Except.ok.injEq, Prod.mk.injEq] at h
    obtain ⟨rfl, rfl⟩ := h
    have h20 : ¬ (b.drop p).length < 20 := by
      intro hc
      unfold rPl at h0
      rw [if_pos hc] at h0
      cases h0
    have e1 : rPl (b.drop p) = (valN ((b.drop p).take 20), 20, 0) := by unfold rPl; rw [if_neg h20]
    rw [e1]
    simp only
    refine ⟨by omega, fun n hn => ?_⟩
    unfold rdP
    rw [drop_take']
    by_cases hlt : n < p + 20
    · rw [if_pos hlt]
      have : rPl ((b.drop p).take (n - p)) = (0, 0, 4) := by unfold rPl; rw [if_pos (by rw [List.length_take]; omega)]
      rw [this]
      rfl
    · rw [if_neg hlt]
      have : rPl ((b.drop p).take (n - p)) = (valN ((b.drop p).take 20), 20, 0) := by
        unfold rPl
        rw [if_neg (by rw [List.length_take]; omega), List.take_take, Nat.min_eq_left (by omega)]
      rw [this]
      rfl
  · cases h
/-- one reader behind another one -/
def bnd {α β : Type} (X : Except Nat (α × Nat)) (f : α → Nat → Except Nat (β × Nat)) : Except Nat (β × Nat) := match X with
  | .error e => .error e
  | .ok (v, q) => f v q
theorem cut_then {α β : Type} {R : List Nat → Nat → Except Nat (α × Nat)} {S : α → List Nat → Nat → Except Nat (β × Nat)} (hR : CutOK R) (hS : ∀ v, CutOK (S v)) :
    CutOK fun b p => bnd (R b p) fun v q => S v b q := by
  intro b p v q hb h
  cases h1 : R b p with
  | error e => simp only [h1, bnd] at h; cases h
  | ok r =>
    obtain ⟨v1, q1⟩ := r
    simp only [h1, bnd] at h
    obtain ⟨k1, k2⟩ := hR b p v1 q1 hb h1
    obtain ⟨k3, k4⟩ := hS v1 b q1 v q hb h
    refine ⟨by omega, fun n hn => ?_⟩
    simp only
    rw [k2 n hn]
    by_cases hlt : n < q1
    · rw [if_pos hlt, if_pos (by omega)]; rfl
    · rw [if_neg hlt]
      exact k4 n (by omega)
theorem cut_congr {α : Type} {R S : List Nat → Nat → Except Nat (α × Nat)} (h : ∀ b p, R b p = S b p) (hS : CutOK S) : CutOK R := by
  rw [show R = S from funext fun b => funext fun p => h b p]; exact hS
theorem cut_ok {α : Type} (x : α) : CutOK fun _ p => .ok (x, p) := by
  intro b p v q _ h
  simp only [Except.ok.injEq, Prod.mk.injEq] at h
  obtain ⟨rfl, rfl⟩ := h
  exact ⟨Nat.le_refl _, fun n hn => by simp only; rw [if_neg (by omega)]⟩
theorem cut_err {α : Type} (e : Nat) : CutOK fun (_ : List Nat) (_ : Nat) => (.error e : Except Nat (α × Nat)) := by intro b p v q _ h; cases h
theorem cut_if {α : Type} {c : Prop} [Decidable c] {R S : List Nat → Nat → Except Nat (α × Nat)} (hR : CutOK R) (hS : CutOK S) : CutOK fun b p => if c then R b p else S b p := by
  by_cases h : c
  · simp only [if_pos h]; exact hR
  · simp only [if_neg h]; exact hS
theorem cut_rdM (m : Nat) : CutOK (rdM m) := cut_congr (S := fun b p => bnd (rdN b p) fun v q => if m < v then .error 3 else .ok (v, q)) (fun b p => by unfold rdM bnd; cases rdN b p <;> rfl)
  (cut_then (S := fun v _ q => if m < v then .error 3 else .ok (v, q)) cut_rdN fun v => cut_if (cut_err 3) (cut_ok v))
theorem cut_rdE : CutOK rdE := cut_congr (S := fun b p => bnd (rdM 999 b p) fun a q => bnd (rdP b q) fun i r => .ok (((a : Int), i), r)) (fun b p => by
    unfold rdE bnd
    cases rdM 999 b p with
    | error e => rfl
    | ok r => simp only; cases rdP b r.2 <;> rfl)
  (cut_then (S := fun (a : Nat) b q => bnd (rdP b q) fun i r => .ok (((a : Int), i), r)) (cut_rdM 999) fun a => cut_then (S := fun i _ r => .ok (((a : Int), i), r)) cut_rdP fun i => cut_ok _)
theorem cut_rdAs : ∀ (n : Nat) (L : List Int), CutOK fun b p => rdAs b n L p
  | 0, L => cut_ok L
  | n + 1, L => cut_congr (S := fun b p => bnd (rdM 999 b p) fun a q => rdAs b n (L ++ [(a : Int)]) q) (fun b p => by rw [rdAs]; unfold bnd; cases rdM 999 b p <;> rfl)
    (cut_then (S := fun (a : Nat) b q => rdAs b n (L ++ [(a : Int)]) q) (cut_rdM 999) fun a => cut_rdAs n _)
theorem cut_rdEs : ∀ (n : Nat) (L : List Pe), CutOK fun b p => rdEs b n L p
  | 0, L => cut_ok L
  | n + 1, L => cut_congr (S := fun b p => bnd (rdE b p) fun x q => rdEs b n (L ++ [x]) q) (fun b p => by rw [rdEs]; unfold bnd; cases rdE b p <;> rfl)
    (cut_then (S := fun x b q => rdEs b n (L ++ [x]) q) cut_rdE fun x => cut_rdEs n _)
theorem cut_rdA : CutOK rdA := cut_congr (S := fun b p => bnd (rdM 16 b p) fun n q => rdAs b n [] q) (fun b p => by unfold rdA bnd; cases rdM 16 b p <;> rfl)
  (cut_then (S := fun n b q => rdAs b n [] q) (cut_rdM 16) fun n => cut_rdAs n _)
theorem cut_rdL : CutOK rdL := cut_congr (S := fun b p => bnd (rdM 8 b p) fun n q => rdEs b n [] q) (fun b p => by unfold rdL bnd; cases rdM 8 b p <;> rfl)
  (cut_then (S := fun n b q => rdEs b n [] q) (cut_rdM 8) fun n => cut_rdEs n _)
theorem cut_rdY (k : Int) : CutOK (rdY k) := cut_congr (S := fun b p => bnd (rdM 1 b p) fun v q => if v = 0 then (if k = 2 then .error 3 else .ok (noP, q)) else rdE b q) (fun b p => by unfold rdY bnd; cases rdM 1 b p <;> rfl)
  (cut_then (S := fun v b q => if v = 0 then (if k = 2 then .error 3 else .ok (noP, q)) else rdE b q) (cut_rdM 1) fun v => cut_if (cut_if (cut_err 3) (cut_ok noP)) cut_rdE)
theorem cut_rdK : CutOK rdK := cut_congr (S := fun b p => bnd (rdN b p) fun v q => if v < 1 ∨ 8 < v then .error 3 else .ok (v, q)) (fun b p => by unfold rdK bnd; cases rdN b p <;> rfl)
  (cut_then (S := fun v _ q => if v < 1 ∨ 8 < v then .error 3 else .ok (v, q)) cut_rdN fun v => cut_if (cut_err 3) (cut_ok v))
theorem cut_opt {α : Type} {R : List Nat → Nat → Except Nat (α × Nat)} (hR : CutOK R) (c : Bool) (l : Lt) (put : α → Lt) : CutOK fun b p => opt c (R b p) (l, p) put := by
  cases c
  · exact cut_ok l
  · exact cut_congr (S := fun b p => bnd (R b p) fun v q => .ok (put v, q)) (fun b p => by unfold opt bnd; rw [if_pos rfl]; cases R b p <;> rfl) (cut_then (S := fun v _ q => .ok (put v, q)) hR fun v => cut_ok _)
theorem cut_thn {F : List Nat → St → Except Nat St} {G : List Nat → St → Except Nat St} (hF : ∀ l, CutOK fun b p => F b (l, p)) (hG : ∀ l, CutOK fun b p => G b (l, p)) (l : Lt) : CutOK fun b p => thn (F b (l, p)) (G b) :=
  cut_congr (S := fun b p => bnd (F b (l, p)) fun v q => G b (v, q)) (fun b p => by unfold thn bnd; cases F b (l, p) <;> rfl) (cut_then (S := fun v b q => G b (v, q)) (hF l) hG)
theorem cut_s6 (l : Lt) : CutOK fun b p => s6 b (l, p) := cut_opt cut_rdL (peersK l.kind) l (fun v => { l with peers := v })
theorem cut_t5 (l : Lt) : CutOK fun b p => t5 b (l, p) := cut_thn (fun l => cut_opt (cut_rdY l.kind) (peerK l.kind) l (fun v => { l with peer := v })) cut_s6 l
theorem cut_t4 (l : Lt) : CutOK fun b p => t4 b (l, p) := cut_thn (fun l => cut_opt (cut_rdM 1) (doneK l.kind) l (fun v => { l with done := decide (v = 1) })) cut_t5 l
theorem cut_t3 (l : Lt) : CutOK fun b p => t3 b (l, p) := cut_thn (fun l => cut_opt cut_rdA (idK l.kind) l (fun v => { l with avoid := v })) cut_t4 l
theorem cut_t2 (l : Lt) : CutOK fun b p => t2 b (l, p) := cut_thn (fun l => cut_opt cut_rdP (idK l.kind) l (fun v => { l with id := v })) cut_t3 l
theorem cut_t1 (l : Lt) : CutOK fun b p => t1 b (l, p) := cut_thn (fun l => cut_opt cut_rdN (reqK l.kind) l (fun v => { l with req := v })) cut_t2 l
theorem cut_getS {b : List Nat} (hb : ∀ x ∈ b, x < 256) {l : Lt} {q n : Nat} (h : getS b = .ok (l, q)) (hn : n < q) : getS (b.take n) = .error 4 := by
  have hc : CutOK fun b p => bnd (rdK b p) fun k q => bnd (rdE b q) fun f r => t1 b (newL k f, r) :=
    cut_then (S := fun (k : Nat) b q => bnd (rdE b q) fun f r => t1 b (newL k f, r)) cut_rdK fun k => cut_then (S := fun f b r => t1 b (newL k f, r)) cut_rdE fun f => cut_t1 _
  have he : ∀ b, getS b = bnd (rdK b 0) fun k q => bnd (rdE b q) fun f r => t1 b (newL k f, r) := fun b => by
    unfold getS bnd
    cases rdK b 0 with
    | error e => rfl
    | ok r => simp only; cases rdE b r.2 <;> rfl
  rw [he] at h ⊢
  have := (hc b 0 l q hb h).2 n (Nat.zero_le _)
  rw [if_pos hn] at this
  exact this
theorem peN_lt {x : Pe} (h : adB x.1 = true) : ∀ b ∈ peN x, b < 256 := by
  have := adB_iff.1 h
  intro b hb
  rcases List.mem_append.1 hb with hb | hb
  · exact numN_lt (by omega) b hb
  · exact dig_lt _ _ b hb
theorem avsN_lt {L : List Int} (h : ∀ a ∈ L, adB a = true) : ∀ b ∈ avsN L, b < 256 := by
  induction L with
  | nil => intro b hb; cases hb
  | cons a L ih =>
    have := adB_iff.1 (h a (by simp))
    intro b hb
    rcases List.mem_append.1 hb with hb | hb
    · exact numN_lt (by omega) b hb
    · exact ih (fun x hx => h x (by simp [hx])) b hb
theorem pesN_lt {L : List Pe} (h : ∀ x ∈ L, adB x.1 = true) : ∀ b ∈ pesN L, b < 256 := by
  induction L with
  | nil => intro b hb; cases hb
  | cons a L ih =>
    intro b hb
    rcases List.mem_append.1 hb with hb | hb
    · exact peN_lt (h a (by simp)) b hb
    · exact ih (fun x hx => h x (by simp [hx])) b hb
theorem mem_if {c : Bool} {A : List Nat} {b : Nat} (h : b ∈ (if c then A else [])) : b ∈ A := by
  cases c
  · cases h
  · exact h
theorem putN_lt {l : Lt} (hr : Right l) (hw : l.Wf) : ∀ b ∈ putN l, b < 256 := by
  have hk := hr.kind
  intro b hb
  unfold putN p5 p4 p3 p2 p1 p0 at hb
  simp only [List.mem_append] at hb
  have hna := hr.navoid
  have hnp := hr.npeers
  rcases hb with (((((((hb | hb) | hb) | hb) | hb) | hb) | hb) | hb)
  · exact numN_lt (by omega) b hb
  · exact peN_lt hr.fr b hb
  · exact numN_lt hw.req b (mem_if hb)
  · exact dig_lt _ _ b (mem_if hb)
  · rcases List.mem_append.1 (mem_if hb) with hb | hb
    · exact numN_lt (by omega) b hb
    · exact avsN_lt hr.avoid b hb
  · have := mem_if hb
    unfold bitN at this
    exact numN_lt (by split <;> omega) b this
  · have := mem_if hb
    unfold mayN at this
    split at this
    · exact numN_lt (by omega) b this
    · rename_i h0
      rcases List.mem_append.1 this with hb | hb
      · exact numN_lt (by omega) b hb
      · exact peN_lt (hr.peer.resolve_left h0) b hb
  · rcases List.mem_append.1 (mem_if hb) with hb | hb
    · exact numN_lt (by omega) b hb
    · exact pesN_lt hr.peers b hb
theorem getN_cut {l : Lt} (hr : Right l) (hw : l.Wf) {n : Nat} (hn : n < (putN l).length) : getN ((putN l).take n) = .error 4 := by
  have h := getS_put hr hw []
  rw [List.append_nil] at h
  unfold getN
  rw [cut_getS (putN_lt hr hw) h hn]
end Go.Proofs.Ytplcdjmidelboaa
