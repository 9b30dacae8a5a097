/- Timers as a heap, told place by place, and as a row in order: in plain numbers and lists. Nothing of the program is named here. -/
import Derived.Test.YtboojbgcleknlaaBlk
namespace Go.Proofs.Ytboojbgcleknlaa

/-- a timer: its id, and when it is due -/
structure Du where
  id : Int
  tm : Int
theorem Du.same {a b : Du} (h1 : a.id = b.id) (h2 : a.tm = b.tm) : a = b := by
  obtain ⟨i, t⟩ := a
  obtain ⟨j, s⟩ := b
  simp only at h1 h2
  rw [h1, h2]
/-- one is due ahead of the other -/
def ahead (a b : Du) : Prop := a.tm < b.tm ∨ (a.tm = b.tm ∧ a.id < b.id)
theorem ahead_irrefl (a : Du) : ¬ ahead a a := by unfold ahead; omega
theorem ahead_trans {a b c : Du} (h : ahead a b) (k : ahead b c) : ahead a c := by unfold ahead at *; omega
theorem ahead_asymm {a b : Du} (h : ahead a b) : ¬ ahead b a := by unfold ahead at *; omega
theorem ahead_tri (a b : Du) : ahead a b ∨ a = b ∨ ahead b a := by
  by_cases h1 : a.id = b.id
  · by_cases h2 : a.tm = b.tm
    · exact .inr (.inl (Du.same h1 h2))
    · unfold ahead; omega
  · unfold ahead; omega
/-- not behind -/
theorem le_trans {a b c : Du} (h : ¬ ahead b a) (k : ¬ ahead c b) : ¬ ahead c a := by unfold ahead at *; omega

/-- another timer at a place -/
def upd (h : Nat → Du) (p : Nat) (d : Du) : Nat → Du := fun i => if i = p then d else h i
theorem upd_at (h : Nat → Du) (p : Nat) (d : Du) : upd h p d p = d := if_pos rfl
theorem upd_ne {h : Nat → Du} {p i : Nat} {d : Du} (hi : i ≠ p) : upd h p d i = h i := if_neg hi
/-- two timers change places -/
def swp (h : Nat → Du) (a b : Nat) : Nat → Du := upd (upd h a (h b)) b (h a)
theorem swp_b (h : Nat → Du) (a b : Nat) : swp h a b b = h a := if_pos rfl
theorem swp_a (h : Nat → Du) (a b : Nat) : swp h a b a = h b := by
  unfold swp upd
  by_cases e : a = b
  · rw [if_pos e, e]
  · rw [if_neg e, if_pos rfl]
theorem swp_ne {h : Nat → Du} {a b i : Nat} (h1 : i ≠ a) (h2 : i ≠ b) : swp h a b i = h i := by
  unfold swp
  rw [upd_ne h2, upd_ne h1]

/-- at a timer's place, less one and halved, stands one that is not due behind it -/
def Heap (h : Nat → Du) (n : Nat) : Prop := ∀ i, 0 < i → i < n → ¬ ahead (h i) (h ((i - 1) / 2))
/-- .. but for what stands at p, above and below -/
def Exc (h : Nat → Du) (n p : Nat) : Prop := ∀ i, 0 < i → i < n → i ≠ p → (i - 1) / 2 ≠ p → ¬ ahead (h i) (h ((i - 1) / 2))
def Gra (h : Nat → Du) (n p : Nat) : Prop := 0 < p → ∀ i, 0 < i → i < n → (i - 1) / 2 = p → ¬ ahead (h i) (h ((p - 1) / 2))
def Kid (h : Nat → Du) (n p : Nat) : Prop := ∀ i, 0 < i → i < n → (i - 1) / 2 = p → ¬ ahead (h i) (h p)
/-- .. but for what stands at p and below -/
def Dow (h : Nat → Du) (n p : Nat) : Prop := ∀ i, 0 < i → i < n → (i - 1) / 2 ≠ p → ¬ ahead (h i) (h ((i - 1) / 2))
structure Up (h : Nat → Du) (n p0 p : Nat) : Prop where
  exc : Exc h n p
  gra : Gra h n p
  kid : p = p0 ∨ Kid h n p
structure Sink (h : Nat → Du) (n p : Nat) : Prop where
  dow : Dow h n p
  gra : Gra h n p
theorem Up.swap {h : Nat → Du} {n p0 p : Nat} (H : Up h n p0 p) (h0 : 0 < p) (hp : p < n) (hlt : ahead (h p) (h ((p - 1) / 2))) : Up (swp h p ((p - 1) / 2)) n p0 ((p - 1) / 2) := by
  obtain ⟨exc, gra, _⟩ := H
  obtain ⟨q, hq⟩ : ∃ q, q = (p - 1) / 2 := ⟨_, rfl⟩
  rw [← hq] at hlt ⊢
  have hqp : q < p := by omega
  have gra' : ∀ i, 0 < i → i < n → (i - 1) / 2 = p → ¬ ahead (h i) (h q) := by rw [hq]; exact gra h0
  refine ⟨?_, ?_, .inr ?_⟩
  · intro i h1 h2 h3 h4
    by_cases e1 : (i - 1) / 2 = p
    · rw [e1, swp_a, swp_ne (by omega) (by omega)]
      exact gra' i h1 h2 e1
    · by_cases e2 : i = p
      · subst e2; omega
      · rw [swp_ne e2 h3, swp_ne e1 h4]
        exact exc i h1 h2 e2 e1
  · intro hq0 i h1 h2 h3
    have eq : swp h p q ((q - 1) / 2) = h ((q - 1) / 2) := swp_ne (by omega) (by omega)
    have up : ¬ ahead (h q) (h ((q - 1) / 2)) := exc q hq0 (by omega) (by omega) (by omega)
    rw [eq]
    by_cases e2 : i = p
    · subst e2
      rw [swp_a]
      exact up
    · rw [swp_ne e2 (by omega)]
      have k := exc i h1 h2 e2 (by omega)
      rw [h3] at k
      exact le_trans up k
  · intro i h1 h2 h3
    rw [swp_b]
    by_cases e2 : i = p
    · subst e2
      rw [swp_a]
      exact ahead_asymm hlt
    · rw [swp_ne e2 (by omega)]
      have k := exc i h1 h2 e2 (by omega)
      rw [h3] at k
      exact le_trans (ahead_asymm hlt) k
theorem Up.stop {h : Nat → Du} {n p0 p : Nat} (H : Up h n p0 p) (hs : 0 < p → ¬ ahead (h p) (h ((p - 1) / 2))) : Sink h n p0 := by
  obtain ⟨exc, gra, kid⟩ := H
  rcases kid with rfl | kid
  · refine ⟨fun i h1 h2 h3 => ?_, gra⟩
    by_cases e : i = p
    · subst e; exact hs h1
    · exact exc i h1 h2 e h3
  · have heap : Heap h n := fun i h1 h2 => by
      by_cases e : i = p
      · subst e; exact hs h1
      · by_cases e2 : (i - 1) / 2 = p
        · rw [e2]; exact kid i h1 h2 e2
        · exact exc i h1 h2 e e2
    refine ⟨fun i h1 h2 _ => heap i h1 h2, fun h0 i h1 h2 h3 => ?_⟩
    have k1 := heap i h1 h2
    rw [h3] at k1
    exact le_trans (heap p0 h0 (by omega)) k1
theorem Up.of {h : Nat → Du} {n p : Nat} {d : Du} (H : Heap h n) : Up (upd h p d) n p p := by
  refine ⟨fun i h1 h2 h3 h4 => ?_, fun h0 i h1 h2 h3 => ?_, .inl rfl⟩
  · rw [upd_ne h3, upd_ne h4]; exact H i h1 h2
  · rw [upd_ne (by omega), upd_ne (by omega)]
    have k1 := H i h1 h2
    rw [h3] at k1
    exact le_trans (H p h0 (by omega)) k1
theorem Up.of_new {h : Nat → Du} {n : Nat} {d : Du} (H : Heap h n) : Up (upd h n d) (n + 1) n n := by
  refine ⟨fun i h1 h2 h3 h4 => ?_, fun h0 i h1 h2 h3 => ?_, .inl rfl⟩
  · rw [upd_ne h3, upd_ne h4]; exact H i h1 (by omega)
  · omega
theorem Heap.less {h : Nat → Du} {n m : Nat} (H : Heap h n) (hm : m ≤ n) : Heap h m := fun i h1 h2 => H i h1 (by omega)
theorem Sink.swap {h : Nat → Du} {n p c : Nat} (H : Sink h n p) (hc : c < n) (hpc : (c - 1) / 2 = p) (h0 : 0 < c) (hlt : ahead (h c) (h p)) (hmin : ∀ i, 0 < i → i < n → (i - 1) / 2 = p → ¬ ahead (h i) (h c)) : Sink (swp h p c) n c := by
  obtain ⟨dow, gra⟩ := H
  have hpc' : p < c := by omega
  refine ⟨?_, ?_⟩
  · intro i h1 h2 h3
    by_cases e1 : i = p
    · subst e1
      rw [swp_a, swp_ne (by omega) (by omega)]
      exact gra h1 c h0 hc hpc
    · by_cases e2 : (i - 1) / 2 = p
      · rw [e2, swp_a]
        by_cases e3 : i = c
        · subst e3
          rw [swp_b]
          exact ahead_asymm hlt
        · rw [swp_ne e1 e3]
          exact hmin i h1 h2 e2
      · by_cases e3 : i = c
        · subst e3; omega
        · rw [swp_ne e1 e3, swp_ne e2 h3]
          exact dow i h1 h2 e2
  · intro _ i h1 h2 h3
    rw [hpc, swp_a, swp_ne (by omega) (by omega)]
    have k := dow i h1 h2 (by omega)
    rw [h3] at k
    exact k
theorem Sink.stop {h : Nat → Du} {n p : Nat} (H : Sink h n p) (hk : Kid h n p) : Heap h n := fun i h1 h2 => by
  by_cases e : (i - 1) / 2 = p
  · rw [e]; exact hk i h1 h2 e
  · exact H.dow i h1 h2 e
theorem Heap.first {h : Nat → Du} {n : Nat} (H : Heap h n) : ∀ i, i < n → ¬ ahead (h i) (h 0) := by
  intro i
  induction i using Nat.strongRecOn with
  | _ i ih =>
    intro hi
    by_cases h0 : i = 0
    · subst h0; exact ahead_irrefl _
    · exact le_trans (ih ((i - 1) / 2) (by omega) (by omega)) (H i (by omega) hi)

/-- where each id's timer is -/
def upf (f : Int → Option Nat) (k : Int) (p : Nat) : Int → Option Nat := fun j => if j = k then some p else f j
theorem upf_at (f : Int → Option Nat) (k : Int) (p : Nat) : upf f k p k = some p := if_pos rfl
theorem upf_ne {f : Int → Option Nat} {k j : Int} {p : Nat} (h : j ≠ k) : upf f k p j = f j := if_neg h
def rmf (f : Int → Option Nat) (k : Int) : Int → Option Nat := fun j => if j = k then none else f j
/-- each place is told, and no other id but those that are still to be forgotten -/
structure Gd (h : Nat → Du) (n : Nat) (f : Int → Option Nat) (E : List Int) : Prop where
  fits : ∀ i, i < n → f (h i).id = some i
  back : ∀ k, f k ≠ none → (∃ i, i < n ∧ (h i).id = k) ∨ k ∈ E
  ext : ∀ k, k ∈ E → f k ≠ none ∧ ∀ i, i < n → (h i).id ≠ k
  nodup : E.Nodup
theorem Gd.inj {h : Nat → Du} {n : Nat} {f : Int → Option Nat} {E : List Int} (G : Gd h n f E) {i j : Nat} (hi : i < n) (hj : j < n) (e : (h i).id = (h j).id) : i = j := by
  have h1 := G.fits i hi
  rw [e, G.fits j hj] at h1
  exact (Option.some.inj h1).symm
theorem Gd.swap {h : Nat → Du} {n : Nat} {f : Int → Option Nat} {E : List Int} (G : Gd h n f E) {a b : Nat} (ha : a < n) (hb : b < n) (hab : a ≠ b) : Gd (swp h a b) n (upf (upf f (h b).id a) (h a).id b) E := by
  have hne : (h b).id ≠ (h a).id := fun e => hab (G.inj hb ha e).symm
  refine ⟨fun i hi => ?_, fun k hk => ?_, fun k hk => ?_, G.nodup⟩
  · by_cases e1 : i = b
    · subst e1; rw [swp_b, upf_at]
    · by_cases e2 : i = a
      · subst e2; rw [swp_a, upf_ne hne, upf_at]
      · rw [swp_ne e2 e1, upf_ne (fun e => e2 (G.inj hi ha e)), upf_ne (fun e => e1 (G.inj hi hb e))]
        exact G.fits i hi
  · by_cases e1 : k = (h a).id
    · exact .inl ⟨b, hb, by rw [swp_b, e1]⟩
    · rw [upf_ne e1] at hk
      by_cases e2 : k = (h b).id
      · exact .inl ⟨a, ha, by rw [swp_a, e2]⟩
      · rw [upf_ne e2] at hk
        rcases G.back k hk with ⟨i, hi, e⟩ | he
        · refine .inl ⟨i, hi, ?_⟩
          rw [swp_ne (fun x => e1 (by rw [← e, x])) (fun x => e2 (by rw [← e, x]))]
          exact e
        · exact .inr he
  · obtain ⟨h1, h2⟩ := G.ext k hk
    refine ⟨?_, fun i hi => ?_⟩
    · rw [upf_ne (fun e => h2 a ha e.symm), upf_ne (fun e => h2 b hb e.symm)]
      exact h1
    · by_cases e1 : i = b
      · subst e1; rw [swp_b]; exact h2 a ha
      · by_cases e2 : i = a
        · subst e2; rw [swp_a]; exact h2 b hb
        · rw [swp_ne e2 e1]; exact h2 i hi
/-- the same timers -/
def Alike (h h' : Nat → Du) (n : Nat) : Prop := ∀ d, (∃ i, i < n ∧ h' i = d) ↔ ∃ i, i < n ∧ h i = d
theorem Alike.refl (h : Nat → Du) (n : Nat) : Alike h h n := fun _ => Iff.rfl
theorem Alike.trans {h h1 h2 : Nat → Du} {n : Nat} (a : Alike h h1 n) (b : Alike h1 h2 n) : Alike h h2 n := fun d => (b d).trans (a d)
theorem Alike.swap (h : Nat → Du) {n a b : Nat} (ha : a < n) (hb : b < n) : Alike h (swp h a b) n := fun d => by
  constructor
  · rintro ⟨i, hi, e⟩
    by_cases e1 : i = b
    · subst e1; rw [swp_b] at e; exact ⟨a, ha, e⟩
    · by_cases e2 : i = a
      · subst e2; rw [swp_a] at e; exact ⟨b, hb, e⟩
      · rw [swp_ne e2 e1] at e; exact ⟨i, hi, e⟩
  · rintro ⟨i, hi, e⟩
    by_cases e1 : i = b
    · subst e1; exact ⟨a, ha, by rw [swp_a]; exact e⟩
    · by_cases e2 : i = a
      · subst e2; exact ⟨b, hb, by rw [swp_b]; exact e⟩
      · exact ⟨i, hi, by rw [swp_ne e2 e1]; exact e⟩

/-! the row in order -/
def Ord (K : List Du) : Prop := K.Pairwise ahead
/-- the heap has just the row's timers -/
structure Con (h : Nat → Du) (n : Nat) (K : List Du) : Prop where
  mem : ∀ d, d ∈ K ↔ ∃ i, i < n ∧ h i = d
  len : n = K.length
  ord : Ord K
/-- no two have one id -/
def Ids (K : List Du) : Prop := ∀ a ∈ K, ∀ b ∈ K, a.id = b.id → a = b
theorem Con.ids {h : Nat → Du} {n : Nat} {f : Int → Option Nat} {E : List Int} {K : List Du} (C : Con h n K) (G : Gd h n f E) : Ids K := by
  intro a ha b hb e
  obtain ⟨i, hi, rfl⟩ := (C.mem a).1 ha
  obtain ⟨j, hj, rfl⟩ := (C.mem b).1 hb
  rw [G.inj hi hj e]
theorem Con.alike {h h' : Nat → Du} {n : Nat} {K : List Du} (C : Con h n K) (A : Alike h h' n) : Con h' n K := ⟨fun d => (C.mem d).trans (A d).symm, C.len, C.ord⟩
def insK (d : Du) : List Du → List Du
  | [] => [d]
  | x :: K => if d.tm < x.tm ∨ (d.tm = x.tm ∧ d.id < x.id) then d :: x :: K else x :: insK d K
theorem mem_insK (d x : Du) (K : List Du) : x ∈ insK d K ↔ x = d ∨ x ∈ K := by
  induction K with
  | nil => simp [insK]
  | cons y K ih =>
    rw [insK]
    split
    · simp
    · rw [List.mem_cons, ih, List.mem_cons]
      constructor
      · rintro (h | h | h) <;> simp [h]
      · rintro (h | h | h) <;> simp [h]
theorem len_insK (d : Du) (K : List Du) : (insK d K).length = K.length + 1 := by
  induction K with
  | nil => rfl
  | cons y K ih =>
    rw [insK]
    split
    · rfl
    · simp [ih]
theorem ord_insK {d : Du} {K : List Du} (h : Ord K) (hd : d ∉ K) : Ord (insK d K) := by
  induction K with
  | nil => simp [insK, Ord]
  | cons y K ih =>
    obtain ⟨h1, h2⟩ := List.pairwise_cons.1 h
    rw [insK]
    split
    · rename_i hlt
      exact List.pairwise_cons.2 ⟨fun z hz => by
        rcases List.mem_cons.1 hz with rfl | hz
        · exact hlt
        · exact ahead_trans hlt (h1 z hz), h⟩
    · rename_i hlt
      refine List.pairwise_cons.2 ⟨fun z hz => ?_, ih h2 (fun hx => hd (List.mem_cons_of_mem _ hx))⟩
      rcases (mem_insK d z K).1 hz with rfl | hz
      · rcases ahead_tri y z with h | h | h
        · exact h
        · exact absurd (h ▸ List.mem_cons_self ..) hd
        · exact absurd h hlt
      · exact h1 z hz
def delK (k : Int) (K : List Du) : List Du := K.filter fun d => !decide (d.id = k)
def hasK (k : Int) (K : List Du) : Bool := K.any fun d => decide (d.id = k)
def setK (k t : Int) (K : List Du) : List Du := insK ⟨k, t⟩ (delK k K)
def dueK (t : Int) (K : List Du) : List Du := K.filter fun d => decide (d.tm ≤ t)
def restK (t : Int) (K : List Du) : List Du := K.filter fun d => !decide (d.tm ≤ t)
theorem mem_delK (k : Int) (K : List Du) (d : Du) : d ∈ delK k K ↔ d ∈ K ∧ d.id ≠ k := by simp [delK]
theorem hasK_yes (k : Int) (K : List Du) : hasK k K = true ↔ ∃ d ∈ K, d.id = k := by simp [hasK]
theorem hasK_no {k : Int} {K : List Du} (h : ∀ d ∈ K, d.id ≠ k) : hasK k K = false := by
  cases e : hasK k K with
  | false => rfl
  | true =>
    obtain ⟨d, hd, e⟩ := (hasK_yes k K).1 e
    exact absurd e (h d hd)
theorem mem_dueK (t : Int) (K : List Du) (d : Du) : d ∈ dueK t K ↔ d ∈ K ∧ d.tm ≤ t := by simp [dueK]
theorem mem_restK (t : Int) (K : List Du) (d : Du) : d ∈ restK t K ↔ d ∈ K ∧ ¬ d.tm ≤ t := by simp [restK]
theorem Ord.filter {K : List Du} (h : Ord K) (p : Du → Bool) : Ord (K.filter p) := List.Pairwise.filter p h
theorem mem_setK (k t : Int) (K : List Du) (d : Du) : d ∈ setK k t K ↔ d = ⟨k, t⟩ ∨ (d ∈ K ∧ d.id ≠ k) := by rw [setK, mem_insK, mem_delK]
theorem not_delK (k t : Int) (K : List Du) : (⟨k, t⟩ : Du) ∉ delK k K := fun h => ((mem_delK k K _).1 h).2 rfl
theorem ord_setK (k t : Int) {K : List Du} (h : Ord K) : Ord (setK k t K) := ord_insK (h.filter _) (not_delK k t K)
theorem del_none {k : Int} {K : List Du} (h : ∀ d ∈ K, d.id ≠ k) : delK k K = K := List.filter_eq_self.2 fun d hd => by simp [h d hd]
theorem del_len {k : Int} {K : List Du} (hu : Ids K) (ho : Ord K) {d : Du} (hd : d ∈ K) (hk : d.id = k) : (delK k K).length + 1 = K.length := by
  induction K with
  | nil => cases hd
  | cons x K ih =>
    obtain ⟨h1, h2⟩ := List.pairwise_cons.1 ho
    by_cases e : x.id = k
    · have hn : ∀ y ∈ K, y.id ≠ k := fun y hy ey => by
        have exy := hu x (List.mem_cons_self ..) y (List.mem_cons_of_mem _ hy) (by rw [e, ey])
        subst exy
        exact ahead_irrefl _ (h1 _ hy)
      have := del_none hn
      unfold delK at this ⊢
      rw [List.filter_cons_of_neg (by simp [e]), this]
      rfl
    · have hd' : d ∈ K := by
        rcases List.mem_cons.1 hd with rfl | hd
        · exact absurd hk e
        · exact hd
      have := ih (fun a ha b hb => hu a (List.mem_cons_of_mem _ ha) b (List.mem_cons_of_mem _ hb)) h2 hd'
      unfold delK at this ⊢
      rw [List.filter_cons_of_pos (by simp [e])]
      simp only [List.length_cons]
      omega
/-- in order, with the same timers: the same row -/
theorem ord_uniq {K L : List Du} (hK : Ord K) (hL : Ord L) (h : ∀ d, d ∈ K ↔ d ∈ L) : K = L := by
  induction K generalizing L with
  | nil =>
    cases L with
    | nil => rfl
    | cons y L => exact absurd ((h y).2 (List.mem_cons_self ..)) (by simp)
  | cons x K ih =>
    cases L with
    | nil => exact absurd ((h x).1 (List.mem_cons_self ..)) (by simp)
    | cons y L =>
      obtain ⟨a1, a2⟩ := List.pairwise_cons.1 hK
      obtain ⟨b1, b2⟩ := List.pairwise_cons.1 hL
      have e : x = y := by
        rcases List.mem_cons.1 ((h x).1 (List.mem_cons_self ..)) with e | e
        · exact e
        · rcases List.mem_cons.1 ((h y).2 (List.mem_cons_self ..)) with e' | e'
          · exact e'.symm
          · exact absurd (b1 x e) (ahead_asymm (a1 y e'))
      subst e
      congr 1
      refine ih a2 b2 fun d => ?_
      constructor
      · intro hd
        rcases List.mem_cons.1 ((h d).1 (List.mem_cons_of_mem _ hd)) with e | e
        · subst e; exact absurd (a1 _ hd) (ahead_irrefl _)
        · exact e
      · intro hd
        rcases List.mem_cons.1 ((h d).2 (List.mem_cons_of_mem _ hd)) with e | e
        · subst e; exact absurd (b1 _ hd) (ahead_irrefl _)
        · exact e
/-- what is due first stands first -/
theorem Con.head {h : Nat → Du} {n : Nat} {K : List Du} {d : Du} (C : Con h n (d :: K)) (H : Heap h n) : h 0 = d := by
  have h0 : 0 < n := by rw [C.len]; simp
  obtain ⟨i, hi, e⟩ := (C.mem d).1 (List.mem_cons_self ..)
  have hm := (C.mem (h 0)).2 ⟨0, h0, rfl⟩
  rcases List.mem_cons.1 hm with h1 | h1
  · exact h1
  · have h2 := (List.pairwise_cons.1 C.ord).1 _ h1
    rw [← e] at h2
    exact absurd h2 (H.first i hi)
end Go.Proofs.Ytboojbgcleknlaa
