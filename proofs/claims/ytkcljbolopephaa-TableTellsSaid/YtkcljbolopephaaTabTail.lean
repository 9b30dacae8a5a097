/- A region that draws its order: some operations are taken first, then others that leave the world alone, then a tail in a forced order. Over any program. -/
import Derived.Test.YtkcljbolopephaaTail
import Derived.Deep.MidRow
namespace Go.Proofs.Ytkcljbolopephaa
open Go Go.RowKit

section
variable {P : Program} {ops : Array Oper} {md : Region.Mode} {w : World}

/-- all but those of ex are waited for before the tail begins -/
def sinkX (md : Region.Mode) (ops : Array Oper) (n : Nat) (ex : Nat → Bool) : Bool :=
  (List.range n).all fun i => ex i || (List.range (n + 1)).any fun j => decide (i < j) && Region.waitsFor md ops j i

theorem tail_waitsX {n : Nat} {ex : Nat → Bool} {listed : Array Bool} (hs : sinkX md ops n ex = true) (hc : chainW md ops n = true) (inv : HeadInv md ops n listed) (hp : ∀ i, i < n → ex i = true → listed.getD i false = true) :
    ∀ (d i : Nat), n - i = d → i < n → listed.getD i true = false → ∀ t, n ≤ t → t ∉ Region.ready md ops listed := by
  intro d
  induction d using Nat.strongRecOn with
  | _ d ih =>
    intro i hd hi hun t ht hr
    obtain ⟨_, ot, hot, hall⟩ := mem_ready.1 hr
    have htlt : t < ops.size := (Array.getElem?_eq_some_iff.1 hot).1
    by_cases htn : t = n
    · subst htn
      have h1 := List.all_eq_true.1 hs i (List.mem_range.2 hi)
      rw [Bool.or_eq_true] at h1
      rcases h1 with h1 | h1
      · have hp' := hp i hi h1
        rw [getD_both hun] at hp'
        cases hp'
      obtain ⟨j, hj, hj2⟩ := List.any_eq_true.1 h1
      simp only [Bool.and_eq_true, decide_eq_true_eq] at hj2
      obtain ⟨oj, hoj, e, he, hb, hon⟩ := Region.waitsFor_spec hj2.2
      have hjle : j ≤ t := by have := List.mem_range.1 hj; omega
      by_cases hjt : j = t
      · subst hjt
        have : oj = ot := Option.some.inj (hoj.symm.trans hot)
        subst this
        have h2 := hall e he hb
        rw [hon, getD_both hun] at h2
        cases h2
      · cases hl : listed.getD j false with
        | true =>
          have h2 := inv.closed j oj hoj hl e he hb
          rw [hon, getD_both hun] at h2
          cases h2
        | false =>
          have hjs : j < listed.size := by rw [inv.size]; omega
          exact ih (t - j) (by omega) j rfl (by omega) (getD_in hjs hl) t (Nat.le_refl _) hr
    · have h1 := List.all_eq_true.1 hc t (List.mem_range.2 htlt)
      simp only [Bool.or_eq_true, decide_eq_true_eq] at h1
      rcases h1 with h1 | h1
      · omega
      · obtain ⟨j, hj, hj2⟩ := List.any_eq_true.1 h1
        simp only [Bool.and_eq_true, decide_eq_true_eq] at hj2
        have hjt := List.mem_range.1 hj
        obtain ⟨o', ho', e, he, hb, hon⟩ := Region.waitsFor_spec hj2.2
        have : o' = ot := Option.some.inj (ho'.symm.trans hot)
        subst this
        have h2 := hall e he hb
        rw [hon, getD_both (inv.tail j hj2.1 (by omega))] at h2
        cases h2

theorem wpAnyL_firstX {n i : Nat} {ex : Nat → Bool} {oi : Oper} {v : Value} {L : Array Bool → Act → Prop} (hi : ops[i]? = some oi) (hsel : ∀ (j : Nat) (o : Oper) cs b, ops[j]? = some o → o.op ≠ .select cs b)
    (hs : sinkX md ops n ex = true) (hc : chainW md ops n = true) (hin : i < n)
    (hdone : ∀ listed a, L listed a → ∀ j ∈ Region.ready md ops listed, n ≤ j) :
    ∀ (f : Nat) (listed : Array Bool) (a : Act), HeadInv md ops n listed → (∀ i, i < n → ex i = true → listed.getD i false = true) →
      (∀ j oj, ops[j]? = some oj → j ≠ i → listed.getD j true = false → (∀ e ∈ oj.after, Region.binds md e = true → e.on ≠ i) → oi.apart ops oj = true) →
      i ∈ Region.ready md ops listed → YieldsAt P ops w oi v a →
      wpAnyL P md ops w n L f (listed.setIfInBounds i true) (a.put oi.dst v) → wpAnyL P md ops w n L (f + 1) listed a := by
  intro f
  induction f with
  | zero =>
    intro listed a inv hp _ hr hy H
    have hun := (mem_ready.1 hr).1
    refine ⟨fun h => (by rw [h] at hr; cases hr), fun j hj => ?_⟩
    have hjn : j < n := by
      rcases Nat.lt_or_ge j n with h | h
      · exact h
      · exact absurd hj (tail_waitsX hs hc inv hp _ i rfl hin hun j h)
    refine ⟨hjn, ?_⟩
    by_cases hji : j = i
    · subst hji; exact hy.stOp hi H
    · have := hdone _ _ H j (ready_mono hj hji)
      omega
  | succ f ih =>
    intro listed a inv hp hfree hr hy H
    have hun := (mem_ready.1 hr).1
    refine ⟨fun h => (by rw [h] at hr; cases hr), fun j hj => ?_⟩
    have hjn : j < n := by
      rcases Nat.lt_or_ge j n with h | h
      · exact h
      · exact absurd hj (tail_waitsX hs hc inv hp _ i rfl hin hun j h)
    refine ⟨hjn, ?_⟩
    by_cases hji : j = i
    · subst hji; exact hy.stOp hi H
    · have h1 := (H.2 j (ready_mono hj hji)).2
      obtain ⟨hjun, oj, hoj, hall⟩ := mem_ready.1 hj
      have hnot : ∀ e ∈ oj.after, Region.binds md e = true → e.on ≠ i := fun e he hb heq => by
        have h1 := hall e he hb
        rw [heq, getD_both hun] at h1
        cases h1
      have h2 := stOp_put hoj (hfree j oj hoj hji hjun hnot) (fun cs b => hsel i oi cs b hi) (fun cs b => hsel j oj cs b hoj) hy h1
      have hfree' : ∀ k ok, ops[k]? = some ok → k ≠ i → (listed.setIfInBounds j true).getD k true = false →
          (∀ e ∈ ok.after, Region.binds md e = true → e.on ≠ i) → oi.apart ops ok = true := fun k ok hk hki hun hno => by
        refine hfree k ok hk hki ?_ hno
        by_cases hjk : j = k
        · subst hjk; exact hjun
        · rw [getD_set_ne true hjk] at hun; exact hun
      refine stOp_mono (fun a' h3 => ih (listed.setIfInBounds j true) a' (inv.set hj hjn) (fun k hk hx => getD_set_true (hp k hk hx)) hfree' (ready_mono hr (Ne.symm hji)) h3.1 ?_) h2
      rw [Array.setIfInBounds_comm _ _ hji]
      exact h3.2

theorem wpAnyL_lexX {n g : Nat} {ex : Nat → Bool} {Lq : Act → Prop} (hsel : Region.noSelect ops = true) (hs : sinkX md ops n ex = true) (hc : chainW md ops n = true) :
    ∀ (ks : List Nat) (l : List Oper) (listed : Array Bool) (a : Act), l.map some = ks.map (fun k => ops[k]?) → HeadInv md ops n listed → (∀ i, i < n → ex i = true → listed.getD i false = true) →
    lexHeadI md ops g n ks listed = true → wpStill P ops w Lq l a →
    wpAnyL P md ops w n (fun listed' a' => (seqP md ops g n listed' && (Region.ready md ops listed').all (fun j => decide (n ≤ j))) = true ∧ Lq a') ks.length listed a
  | [], [], _, _, _, _, _, hB, h => ⟨by simpa only [lexHeadI] using hB, h⟩
  | [], _ :: _, _, _, hl, _, _, _, _ => by simp at hl
  | _ :: _, [], _, _, hl, _, _, _, _ => by simp at hl
  | k :: ks, o :: l, listed, a, hl, inv, hp, hB, h => by
    rw [List.map_cons, List.map_cons, List.cons.injEq] at hl
    have h0 : ops[k]? = some o := hl.1.symm
    simp only [lexHeadI, Bool.and_eq_true, decide_eq_true_eq] at hB
    obtain ⟨⟨⟨hr, hf⟩, hkn⟩, hB'⟩ := hB
    have hr' : k ∈ Region.ready md ops listed := by simpa using hr
    have hst : stOp P ops w k (wpStill P ops w Lq l) a := by unfold stOp; simp only [h0]; exact h
    obtain ⟨v, hy, hK⟩ := yieldsAt_of_stOp h0 hst
    exact wpAnyL_firstX h0 (Region.noSelect_spec hsel) hs hc hkn (fun listed' a' hL j hj => by
        have := hL.1
        rw [Bool.and_eq_true] at this
        simpa using List.all_eq_true.1 this.2 j hj) ks.length listed a inv hp (Region.free_spec h0 hf) hr' hy
      (wpAnyL_lexX hsel hs hc ks l _ _ hl.2 (inv.set hr' hkn) (fun k hk hx => getD_set_true (hp k hk hx)) hB' hK)


def closedX (md : Region.Mode) (ops : Array Oper) (n : Nat) (listed : Array Bool) : Bool :=
  decide (listed.size = ops.size) && ((List.range ops.size).all fun j => !listed.getD j false || (match ops[j]? with | some o => o.after.toList.all fun e => !Region.binds md e || listed.getD e.on false | none => true)) && ((List.range ops.size).all fun t => decide (t < n) || !listed.getD t true)
theorem closedX_inv {n : Nat} {listed : Array Bool} (h : closedX md ops n listed = true) : HeadInv md ops n listed := by
  simp only [closedX, Bool.and_eq_true, decide_eq_true_eq] at h
  obtain ⟨⟨h1, h2⟩, h3⟩ := h
  refine ⟨h1, fun j oj hj hl e he hb => ?_, fun t ht hts => ?_⟩
  · have hjs : j < ops.size := (Array.getElem?_eq_some_iff.1 hj).1
    have := List.all_eq_true.1 h2 j (List.mem_range.2 hjs)
    rw [hl, hj] at this
    simp only [Bool.not_true, Bool.false_or] at this
    have := List.all_eq_true.1 this e (by simpa using he)
    rw [hb] at this
    simpa using this
  · have := List.all_eq_true.1 h3 t (List.mem_range.2 hts)
    simp only [Bool.or_eq_true, decide_eq_true_eq, Bool.not_eq_true'] at this
    rcases this with h | h
    · omega
    · exact h
/-- the operations at these places -/
def pickL (l : List Oper) : List Nat → List Oper
  | [] => []
  | k :: ks => match l[k]? with
    | some o => o :: pickL l ks
    | none => pickL l ks
theorem pickL_map (l : List Oper) : ∀ ks : List Nat, (∀ k ∈ ks, k < l.length) → (pickL l ks).map some = ks.map fun k => l.toArray[k]?
  | [], _ => rfl
  | k :: ks, h => by
    have hk := h k (List.mem_cons_self ..)
    rw [pickL, List.getElem?_eq_getElem hk]
    simp only [List.map_cons]
    rw [pickL_map l ks fun j hj => h j (List.mem_cons_of_mem _ hj)]
    simp [hk]
/-- what is asked: which are taken, the places of those that follow, and where the tail begins -/
def tailX (md : Region.Mode) (ops : Array Oper) (n : Nat) (ks : List Nat) (listed : Array Bool) : Bool :=
  Region.noSelect ops && decide (n < ops.size) && closedX md ops n listed && sinkX md ops n (fun i => listed.getD i false) && chainW md ops n && lexHeadI md ops (ops.size - n) n ks listed && ks.all fun k => decide (k < ops.size)
theorem any_tailX {Q : Exit → Act → World → Prop} {a : Act} {l : List Oper} {listed : Array Bool} {fuel : Nat} (n : Nat) (ks : List Nat)
    (hB : tailX .any l.toArray n ks listed = true) (hf : fuel = ks.length + (l.toArray.size - n)) (hQ0 : ∀ c a t v w, Q (.panic c) (a.put (some t) v) w → Q (.panic c) a w)
    (h : wpStill P l.toArray w (fun a' => wpList P l.toArray Q (l.drop n) a' w) (pickL l ks) a) : wpAny P .any l.toArray Q fuel listed a w := by
  have hQ := panic_put hQ0
  simp only [tailX, Bool.and_eq_true, decide_eq_true_eq] at hB
  obtain ⟨⟨⟨⟨⟨⟨hsel, hn⟩, hcl⟩, hs⟩, hc⟩, hlex⟩, hks⟩ := hB
  have hn' : n < l.length := by simpa using hn
  have hdl : (l.drop n).length = l.toArray.size - n := by simp
  have H := wpAnyL_lexX (md := .any) (P := P) (w := w) (g := l.toArray.size - n) (Lq := fun a' => wpList P l.toArray Q (l.drop n) a' w) hsel hs hc ks (pickL l ks) listed a
    (pickL_map l ks fun k hk => by have := List.all_eq_true.1 hks k hk; simpa using this) (closedX_inv hcl) (fun i _ hi => hi) hlex h
  have H2 := wpAny_of_head (Q' := Q) (g := l.toArray.size - n) (fun listed a' hL => by
    have h1 := hL.1
    rw [Bool.and_eq_true] at h1
    have := wpAny_of_seqP (md := .any) (Q' := Q) hsel hQ (l.drop n) n listed a' w (fun j => by simp [List.getElem?_drop]) (by rw [hdl]; exact h1.1) hL.2
    rwa [hdl] at this) _ _ _ H
  rw [hf]
  exact H2
/-- a load from the middle of a block, of one that leaves the world alone -/
theorem wpStill_mid {rest : List Oper} {o : Oper} {a : Act} {Q : Act → Prop} (hgd : o.guard = none) (ty : TypeId) (x : Operand) (ho : o.op = .load ty x) (b off : Nat) (hx : a.eval x = .pointer (some ⟨b, off, none⟩)) (cs : List Value) (d : TypeDesc)
    (hc : w.rangeAt b off cs) (hu : P.underlying ty = some d) (hd : d.isRow = true) (hi : (P.info? ty).map (·.size) = some cs.length) (h : wpStill P ops w Q rest (a.put o.dst (.agg cs.toArray))) : wpStill P ops w Q (o :: rest) a := by
  have hw : Region.wanted o (yielded ops a.tmps) = true := by simp [Region.wanted, hgd]
  refine wpStill_step fun K hK => ?_
  rw [if_pos hw]
  unfold Oper.still execOp
  simp only [ho, hx, Sem.run_bind, run_loadAt_mid w b off ty cs d hc hu hd hi, Sem.run_pure, Result.andThen_ok]
  exact ⟨rfl, hK _ h⟩
end
end Go.Proofs.Ytkcljbolopephaa
