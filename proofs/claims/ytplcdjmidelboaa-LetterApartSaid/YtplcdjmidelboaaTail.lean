/- A region that draws its order: operations that leave the world alone (one move among them that nothing waits for early), then a tail in a forced order, but for moves and extracts in it. Over any program. -/
import Derived.StillTailTactics
import Derived.WalkKit
namespace Go.Proofs.Ytplcdjmidelboaa
open Go Go.RowKit

section
variable {P : Program} {ops : Array Oper} {md : Region.Mode} {w : World}

/-- all but the one at p are waited for before the tail begins -/
def sinkP (md : Region.Mode) (ops : Array Oper) (n p : Nat) : Bool :=
  (List.range n).all fun i => i == p || (List.range (n + 1)).any fun j => decide (i < j) && Region.waitsFor md ops j i

/-- each of the tail but its first one waits for one of the tail -/
def chainW (md : Region.Mode) (ops : Array Oper) (n : Nat) : Bool :=
  (List.range ops.size).all fun t => decide (t ≤ n) || (List.range t).any fun j => decide (n ≤ j) && Region.waitsFor md ops t j

theorem tail_waitsP {n p : Nat} {listed : Array Bool} (hs : sinkP md ops n p = true) (hc : chainW md ops n = true) (inv : HeadInv md ops n listed) (hp : p < n → listed.getD p false = true) :
    ∀ (d i : Nat), n - i = d → i < n → listed.getD i true = false → ∀ t, n ≤ t → t ∉ Region.ready md ops listed := by
  intro d
  induction d using Nat.strongRecOn with
  | _ d ih =>
    intro i hd hi hun t ht hr
    obtain ⟨_, ot, hot, hall⟩ := mem_ready.1 hr
    have htlt : t < ops.size := (Array.getElem?_eq_some_iff.1 hot).1
    by_cases htn : t = n
    · subst htn
      have h1 := List.all_eq_true.1 hs i (List.mem_range.2 hi)
      rw [Bool.or_eq_true] at h1
      rcases h1 with h1 | h1
      · rw [beq_iff_eq] at h1
        subst h1
        have hp' := hp hi
        rw [getD_both hun] at hp'
        cases hp'
      obtain ⟨j, hj, hj2⟩ := List.any_eq_true.1 h1
      simp only [Bool.and_eq_true, decide_eq_true_eq] at hj2
      obtain ⟨oj, hoj, e, he, hb, hon⟩ := Region.waitsFor_spec hj2.2
      have hjle : j ≤ t := by have := List.mem_range.1 hj; omega
      by_cases hjt : j = t
      · subst hjt
        have : oj = ot := Option.some.inj (hoj.symm.trans hot)
        subst this
        have h2 := hall e he hb
        rw [hon, getD_both hun] at h2
        cases h2
      · cases hl : listed.getD j false with
        | true =>
          have h2 := inv.closed j oj hoj hl e he hb
          rw [hon, getD_both hun] at h2
          cases h2
        | false =>
          have hjs : j < listed.size := by rw [inv.size]; omega
          exact ih (t - j) (by omega) j rfl (by omega) (getD_in hjs hl) t (Nat.le_refl _) hr
    · have h1 := List.all_eq_true.1 hc t (List.mem_range.2 htlt)
      simp only [Bool.or_eq_true, decide_eq_true_eq] at h1
      rcases h1 with h1 | h1
      · omega
      · obtain ⟨j, hj, hj2⟩ := List.any_eq_true.1 h1
        simp only [Bool.and_eq_true, decide_eq_true_eq] at hj2
        have hjt := List.mem_range.1 hj
        obtain ⟨o', ho', e, he, hb, hon⟩ := Region.waitsFor_spec hj2.2
        have : o' = ot := Option.some.inj (ho'.symm.trans hot)
        subst this
        have h2 := hall e he hb
        rw [hon, getD_both (inv.tail j hj2.1 (by omega))] at h2
        cases h2

theorem wpAnyL_firstP {n p i : Nat} {oi : Oper} {v : Value} {L : Array Bool → Act → Prop} (hi : ops[i]? = some oi) (hsel : ∀ (j : Nat) (o : Oper) cs b, ops[j]? = some o → o.op ≠ .select cs b)
    (hs : sinkP md ops n p = true) (hc : chainW md ops n = true) (hin : i < n)
    (hdone : ∀ listed a, L listed a → ∀ j ∈ Region.ready md ops listed, n ≤ j) :
    ∀ (f : Nat) (listed : Array Bool) (a : Act), HeadInv md ops n listed → (p < n → listed.getD p false = true) →
      (∀ j oj, ops[j]? = some oj → j ≠ i → listed.getD j true = false → (∀ e ∈ oj.after, Region.binds md e = true → e.on ≠ i) → oi.apart ops oj = true) →
      i ∈ Region.ready md ops listed → YieldsAt P ops w oi v a →
      wpAnyL P md ops w n L f (listed.setIfInBounds i true) (a.put oi.dst v) → wpAnyL P md ops w n L (f + 1) listed a := by
  intro f
  induction f with
  | zero =>
    intro listed a inv hp _ hr hy H
    have hun := (mem_ready.1 hr).1
    refine ⟨fun h => (by rw [h] at hr; cases hr), fun j hj => ?_⟩
    have hjn : j < n := by
      rcases Nat.lt_or_ge j n with h | h
      · exact h
      · exact absurd hj (tail_waitsP hs hc inv hp _ i rfl hin hun j h)
    refine ⟨hjn, ?_⟩
    by_cases hji : j = i
    · subst hji; exact hy.stOp hi H
    · have := hdone _ _ H j (ready_mono hj hji)
      omega
  | succ f ih =>
    intro listed a inv hp hfree hr hy H
    have hun := (mem_ready.1 hr).1
    refine ⟨fun h => (by rw [h] at hr; cases hr), fun j hj => ?_⟩
    have hjn : j < n := by
      rcases Nat.lt_or_ge j n with h | h
      · exact h
      · exact absurd hj (tail_waitsP hs hc inv hp _ i rfl hin hun j h)
    refine ⟨hjn, ?_⟩
    by_cases hji : j = i
    · subst hji; exact hy.stOp hi H
    · have h1 := (H.2 j (ready_mono hj hji)).2
      obtain ⟨hjun, oj, hoj, hall⟩ := mem_ready.1 hj
      have hnot : ∀ e ∈ oj.after, Region.binds md e = true → e.on ≠ i := fun e he hb heq => by
        have h1 := hall e he hb
        rw [heq, getD_both hun] at h1
        cases h1
      have h2 := stOp_put hoj (hfree j oj hoj hji hjun hnot) (fun cs b => hsel i oi cs b hi) (fun cs b => hsel j oj cs b hoj) hy h1
      have hfree' : ∀ k ok, ops[k]? = some ok → k ≠ i → (listed.setIfInBounds j true).getD k true = false →
          (∀ e ∈ ok.after, Region.binds md e = true → e.on ≠ i) → oi.apart ops ok = true := fun k ok hk hki hun hno => by
        refine hfree k ok hk hki ?_ hno
        by_cases hjk : j = k
        · subst hjk; exact hjun
        · rw [getD_set_ne true hjk] at hun; exact hun
      refine stOp_mono (fun a' h3 => ih (listed.setIfInBounds j true) a' (inv.set hj hjn) (fun h => getD_set_true (hp h)) hfree' (ready_mono hr (Ne.symm hji)) h3.1 ?_) h2
      rw [Array.setIfInBounds_comm _ _ hji]
      exact h3.2

/-- operations that yield the same in whatever world -/
def pureAt (ops : Array Oper) (k : Nat) : Bool :=
  match ops[k]? with
  | some o => o.guard.isNone && (match o.op with | .move _ | .assign _ | .extract _ _ => true | _ => false)
  | none => false

theorem extract_cases (t : Value) (i : Nat) : (∃ v, Instr.extract t i = pure v) ∨ ∃ why, Instr.extract t i = stuck why := by
  unfold Instr.extract
  split
  · split
    · exact .inl ⟨_, rfl⟩
    · exact .inr ⟨_, rfl⟩
  · exact .inr ⟨_, rfl⟩
theorem pure_step {Q : Exit → Act → World → Prop} {rest : List Oper} {o : Oper} {a : Act} {w : World} (hg : o.guard.isNone = true) (hop : (match o.op with | .move _ | .assign _ | .extract _ _ => true | _ => false) = true)
    (h : wpList P ops Q (o :: rest) a w) : ∃ v, Yields P ops o v a ∧ wpList P ops Q rest (a.put o.dst v) w := by
  have hg' : o.guard = none := by simpa using hg
  have hw : Region.wanted o (yielded ops a.tmps) = true := by simp [Region.wanted, hg']
  simp only [wpList, hw, if_true] at h
  cases hq : o.op with
  | move x =>
    refine ⟨a.eval x, Or.inl ⟨hw, fun w => by simp [execOp, hq]⟩, ?_⟩
    have e : execOp a.eval o = pure (.value (a.eval x)) := by unfold execOp; rw [hq]
    rcases h with h | ⟨h, _⟩
    · simpa [Oper.wp, e, Oper.upon] using h
    · rw [Oper.asks, e] at h
      exact absurd h.1 (by show noRoomEvent ∉ (#[] : Array Event); simp)
  | assign x =>
    refine ⟨a.eval x, Or.inl ⟨hw, fun w => by simp [execOp, hq]⟩, ?_⟩
    have e : execOp a.eval o = pure (.value (a.eval x)) := by unfold execOp; rw [hq]
    rcases h with h | ⟨h, _⟩
    · simpa [Oper.wp, e, Oper.upon] using h
    · rw [Oper.asks, e] at h
      exact absurd h.1 (by show noRoomEvent ∉ (#[] : Array Event); simp)
  | extract x i =>
    rcases extract_cases (a.eval x) i with ⟨v, hv⟩ | ⟨why, hv⟩
    · have e : execOp a.eval o = (do pure (.value (← (pure v : Sem Value)))) := by unfold execOp; rw [hq]; simp only [hv]
      refine ⟨v, Or.inl ⟨hw, fun w => by rw [e]; rfl⟩, ?_⟩
      rcases h with h | ⟨h, _⟩
      · rw [Oper.wp, e] at h
        exact h
      · rw [Oper.asks, e] at h
        exact absurd h.1 (by show noRoomEvent ∉ (#[] : Array Event); simp)
    · have e : execOp a.eval o = (do pure (.value (← (stuck why : Sem Value)))) := by unfold execOp; rw [hq]; simp only [hv]
      rcases h with h | ⟨h, _⟩
      · rw [Oper.wp, e] at h
        exact absurd h (by intro h; exact h)
      · rw [Oper.asks, e] at h
        exact absurd h.1 (by show noRoomEvent ∉ (#[] : Array Event); simp)
  | _ => simp [hq] at hop

/-- the tail, one behind the other: each is the only one that may come, or yields the same in whatever world -/
def seqP (md : Region.Mode) (ops : Array Oper) : Nat → Nat → Array Bool → Bool
  | 0, _, listed => (Region.ready md ops listed).isEmpty
  | g + 1, k, listed => (decide (Region.ready md ops listed = [k]) || ((Region.ready md ops listed).contains k && Region.free md ops listed k && pureAt ops k)) && seqP md ops g (k + 1) (listed.setIfInBounds k true)

theorem wpAny_of_seqP {Q' : Exit → Act → World → Prop} (hsel : Region.noSelect ops = true) (hQ : ∀ c a d v w, Q' (.panic c) (a.put d v) w → Q' (.panic c) a w) : ∀ (l : List Oper) (k : Nat) (listed : Array Bool) (a : Act) (w : World), (∀ j, l[j]? = ops[k + j]?) →
    seqP md ops l.length k listed = true → wpList P ops Q' l a w → wpAny P md ops Q' l.length listed a w
  | [], _, _, _, _, _, hB, h => ⟨by simpa [seqP] using hB, h⟩
  | o :: l, k, listed, a, w, hl, hB, h => by
    have h0 : ops[k]? = some o := by simpa using (hl 0).symm
    have hl' : ∀ j, l[j]? = ops[k + 1 + j]? := fun j => by have := hl (j + 1); simpa [Nat.add_assoc, Nat.add_comm 1 j] using this
    simp only [List.length_cons, seqP, Bool.and_eq_true, Bool.or_eq_true, decide_eq_true_eq] at hB
    obtain ⟨hB1 | hB1, hB2⟩ := hB
    · refine ⟨fun h1 => (by rw [hB1] at h1; cases h1), fun i hi => ?_⟩
      rw [hB1] at hi
      have hik : i = k := by simpa using hi
      subst hik
      have hw : wpOp P ops Q' i (wpList P ops Q' l) a w := by unfold wpOp; simp only [h0]; exact h
      exact wpOp_mono (fun a' w' h' => wpAny_of_seqP hsel hQ l (i + 1) _ a' w' hl' hB2 h') hw
    · obtain ⟨⟨hr, hf⟩, hp⟩ := hB1
      simp only [pureAt, h0, Bool.and_eq_true] at hp
      obtain ⟨v, hy, h'⟩ := pure_step hp.1 hp.2 h
      exact wpAny_take h0 hsel hf hr (fun c a w => hQ c a _ _ w) hy (wpAny_of_seqP hsel hQ l (k + 1) _ _ w hl' hB2 h')

/-- the head's operations, by their places -/
def lexHeadI (md : Region.Mode) (ops : Array Oper) (g n : Nat) : List Nat → Array Bool → Bool
  | [], listed => seqP md ops g n listed && (Region.ready md ops listed).all (fun j => decide (n ≤ j))
  | k :: ks, listed => (Region.ready md ops listed).contains k && Region.free md ops listed k && decide (k < n) && lexHeadI md ops g n ks (listed.setIfInBounds k true)

theorem wpAnyL_lexI {n g p : Nat} {Lq : Act → Prop} (hsel : Region.noSelect ops = true) (hs : sinkP md ops n p = true) (hc : chainW md ops n = true) :
    ∀ (ks : List Nat) (l : List Oper) (listed : Array Bool) (a : Act), l.map some = ks.map (fun k => ops[k]?) → HeadInv md ops n listed → (p < n → listed.getD p false = true) →
    lexHeadI md ops g n ks listed = true → wpStill P ops w Lq l a →
    wpAnyL P md ops w n (fun listed' a' => (seqP md ops g n listed' && (Region.ready md ops listed').all (fun j => decide (n ≤ j))) = true ∧ Lq a') ks.length listed a
  | [], [], _, _, _, _, _, hB, h => ⟨by simpa only [lexHeadI] using hB, h⟩
  | [], _ :: _, _, _, hl, _, _, _, _ => by simp at hl
  | _ :: _, [], _, _, hl, _, _, _, _ => by simp at hl
  | k :: ks, o :: l, listed, a, hl, inv, hp, hB, h => by
    rw [List.map_cons, List.map_cons, List.cons.injEq] at hl
    have h0 : ops[k]? = some o := hl.1.symm
    simp only [lexHeadI, Bool.and_eq_true, decide_eq_true_eq] at hB
    obtain ⟨⟨⟨hr, hf⟩, hkn⟩, hB'⟩ := hB
    have hr' : k ∈ Region.ready md ops listed := by simpa using hr
    have hst : stOp P ops w k (wpStill P ops w Lq l) a := by unfold stOp; simp only [h0]; exact h
    obtain ⟨v, hy, hK⟩ := yieldsAt_of_stOp h0 hst
    exact wpAnyL_firstP h0 (Region.noSelect_spec hsel) hs hc hkn (fun listed' a' hL j hj => by
        have := hL.1
        rw [Bool.and_eq_true] at this
        simpa using List.all_eq_true.1 this.2 j hj) ks.length listed a inv hp (Region.free_spec h0 hf) hr' hy
      (wpAnyL_lexI hsel hs hc ks l _ _ hl.2 (inv.set hr' hkn) (fun h => getD_set_true (hp h)) hB' hK)

/-- what is asked of a region: a number of operations n before the tail, and the place p of the move that is taken first -/
def tailP (md : Region.Mode) (ops : Array Oper) (n p : Nat) : Bool :=
  Region.noSelect ops && decide (n < ops.size) && decide (p < n) && sinkP md ops n p && chainW md ops n && (Region.ready md ops (Array.replicate ops.size false)).contains p && Region.free md ops (Array.replicate ops.size false) p
    && lexHeadI md ops (ops.size - n) n ((List.range n).eraseIdx p) ((Array.replicate ops.size false).setIfInBounds p true)
/-- the same where no move is taken first -/
def tail0 (md : Region.Mode) (ops : Array Oper) (n : Nat) : Bool :=
  Region.noSelect ops && decide (n < ops.size) && sinkP md ops n n && chainW md ops n && lexHeadI md ops (ops.size - n) n (List.range n) (Array.replicate ops.size false)

theorem eraseIdx_map {α β : Type} (f : α → β) : ∀ (l : List α) (i : Nat), (l.eraseIdx i).map f = (l.map f).eraseIdx i
  | [], _ => rfl
  | _ :: _, 0 => rfl
  | a :: l, i + 1 => by simp [List.eraseIdx, eraseIdx_map f l i]
theorem take_map (l : List Oper) (n : Nat) (hn : n < l.length) : (l.take n).map some = (List.range n).map (fun k => l.toArray[k]?) := by
  apply List.ext_getElem?
  intro j
  rcases Nat.lt_or_ge j n with hj | hj
  · have hj' : j < l.length := by omega
    simp [hj, hj']
  · simp [List.getElem?_take, Nat.not_lt.2 hj]

theorem panic_put {Q : Exit → Act → World → Prop} (hQ : ∀ c a t v w, Q (.panic c) (a.put (some t) v) w → Q (.panic c) a w) : ∀ c a d v w, Q (.panic c) (a.put d v) w → Q (.panic c) a w := by
  intro c a d v w h
  cases d with
  | none => exact h
  | some t => exact hQ c a t v w h
/-- whatever order is drawn, where the tail is forced -/
theorem any_tail0 {Q : Exit → Act → World → Prop} {a : Act} {w : World} {l : List Oper} (n : Nat)
    (hB : tail0 .any l.toArray n = true) (hQ0 : ∀ c a t v w, Q (.panic c) (a.put (some t) v) w → Q (.panic c) a w)
    (h : wpStill P l.toArray w (fun a' => wpList P l.toArray Q (l.drop n) a' w) (l.take n) a) : wpAny P .any l.toArray Q l.toArray.size (Array.replicate l.toArray.size false) a w := by
  have hQ := panic_put hQ0
  simp only [tail0, Bool.and_eq_true, decide_eq_true_eq] at hB
  obtain ⟨⟨⟨⟨hsel, hn⟩, hs⟩, hc⟩, hlex⟩ := hB
  have hn' : n < l.length := by simpa using hn
  have hdl : (l.drop n).length = l.toArray.size - n := by simp
  have inv0 : HeadInv .any l.toArray n (Array.replicate l.toArray.size false) :=
    ⟨by simp, fun j oj _ hl => (by rw [getD_replicate_false] at hl; cases hl), fun t _ ht => getD_in (by simpa using ht) (getD_replicate_false _ _)⟩
  have H := wpAnyL_lexI (md := .any) (P := P) (w := w) (g := l.toArray.size - n) (Lq := fun a' => wpList P l.toArray Q (l.drop n) a' w) hsel hs hc (List.range n) (l.take n) _ a (take_map l n hn') inv0 (fun h => absurd h (by omega)) hlex h
  have H2 := wpAny_of_head (Q' := Q) (g := l.toArray.size - n) (fun listed a' hL => by
    have h1 := hL.1
    rw [Bool.and_eq_true] at h1
    have := wpAny_of_seqP (md := .any) (Q' := Q) hsel hQ (l.drop n) n listed a' w (fun j => by simp [List.getElem?_drop]) (by rw [hdl]; exact h1.1) hL.2
    rwa [hdl] at this) _ _ _ H
  rw [List.length_range, show n + (l.toArray.size - n) = l.toArray.size by simp; omega] at H2
  exact H2
theorem wp_region_tail0 {id : Nat} {Q : Exit → Act → World → Prop} {a : Act} {w : World} {l : List Oper} (n : Nat)
    (hm : P.follows .mixedOrders = true) (hB : tail0 .any l.toArray n = true) (hQ0 : ∀ c a t v w, Q (.panic c) (a.put (some t) v) w → Q (.panic c) a w)
    (h : wpStill P l.toArray w.drew (fun a' => wpList P l.toArray Q (l.drop n) a' w.drew) (l.take n) a) : (Code.region id l.toArray true).wp P Q a w :=
  wp_region_any hm (any_tail0 n hB hQ0 h)

theorem wp_region_tailP {id : Nat} {Q : Exit → Act → World → Prop} {a : Act} {w : World} {l : List Oper} (n p : Nat) (o : Oper) (x : Operand) (ho : l[p]? = some o) (hx : o.op = .move x) (hg : o.guard = none)
    (hm : P.follows .mixedOrders = true) (hB : tailP .any l.toArray n p = true) (hQ0 : ∀ c a t v w, Q (.panic c) (a.put (some t) v) w → Q (.panic c) a w)
    (h : wpStill P l.toArray w.drew (fun a' => wpList P l.toArray Q (l.drop n) a' w.drew) ((l.take n).eraseIdx p) (a.put o.dst (a.eval x))) : (Code.region id l.toArray true).wp P Q a w := by
  have hQ := panic_put hQ0
  simp only [tailP, Bool.and_eq_true, decide_eq_true_eq] at hB
  obtain ⟨⟨⟨⟨⟨⟨⟨hsel, hn⟩, hpn⟩, hs⟩, hc⟩, hr⟩, hf⟩, hlex⟩ := hB
  have hn' : n < l.length := by simpa using hn
  have hdl : (l.drop n).length = l.toArray.size - n := by simp
  have hr' : p ∈ Region.ready .any l.toArray (Array.replicate l.toArray.size false) := by simpa using hr
  have inv0 : HeadInv .any l.toArray n (Array.replicate l.toArray.size false) :=
    ⟨by simp, fun j oj _ hl => (by rw [getD_replicate_false] at hl; cases hl), fun t _ ht => getD_in (by simpa using ht) (getD_replicate_false _ _)⟩
  have hlp : ((Array.replicate l.toArray.size false).setIfInBounds p true).getD p false = true := by
    have : p < l.length := by omega
    simp [this]
  have hmap : ((l.take n).eraseIdx p).map some = ((List.range n).eraseIdx p).map (fun k => l.toArray[k]?) := by
    rw [eraseIdx_map, eraseIdx_map, take_map l n hn']
  have H := wpAnyL_lexI (md := .any) (P := P) (w := w.drew) (g := l.toArray.size - n) (Lq := fun a' => wpList P l.toArray Q (l.drop n) a' w.drew) hsel hs hc ((List.range n).eraseIdx p) ((l.take n).eraseIdx p) _ (a.put o.dst (a.eval x)) hmap (inv0.set hr' hpn) (fun _ => hlp) hlex h
  refine wp_region_any hm ?_
  have H2 := wpAny_of_head (Q' := Q) (g := l.toArray.size - n) (fun listed a' hL => by
    have h1 := hL.1
    rw [Bool.and_eq_true] at h1
    have := wpAny_of_seqP (md := .any) (Q' := Q) hsel hQ (l.drop n) n listed a' w.drew (fun j => by simp [List.getElem?_drop]) (by rw [hdl]; exact h1.1) hL.2
    rwa [hdl] at this) _ _ _ H
  have hlen : ((List.range n).eraseIdx p).length = n - 1 := by rw [List.length_eraseIdx]; simp [hpn]
  have hy : Yields P l.toArray o (a.eval x) a := Or.inl ⟨by simp [Region.wanted, hg], fun w => by simp [execOp, hx]⟩
  have H3 := wpAny_take (Q := Q) (v := a.eval x) (by simpa using ho) hsel hf hr (fun c a w => hQ c a _ _ w) hy H2
  rw [hlen, show n - 1 + (l.toArray.size - n) + 1 = l.toArray.size by simp; omega] at H3
  exact H3
end
end Go.Proofs.Ytplcdjmidelboaa
