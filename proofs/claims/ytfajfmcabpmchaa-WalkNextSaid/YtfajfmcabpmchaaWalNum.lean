/- Walks over tables, and settled tables, as lists: a walk ends at the owner, and each hop halves the way. -/
import Derived.Test.YtfajfmcabpmchaaTabKit
import Derived.Test.YtfajfmcabpmchaaCirPk
namespace Go.Proofs.Ytfajfmcabpmchaa
set_option maxRecDepth 100000
open Go Go.RowKit Go.Sort

/-! places on a ring of m -/
/-- from a place back to itself is all the way round -/
def dstS (m A X : Nat) : Nat := if A = X then m else dst m A X
theorem dst_lt {m A X : Nat} (hA : A < m) (_hX : X < m) : dst m A X < m := by unfold dst; split <;> omega
/-- three places: from a to x is no farther than from a to g, if g is the last one ahead of b -/
theorem dst_last {m a x g b : Nat} (ha : a < m) (hx : x < m) (hg : g < m) (hb : b < m) (hgx : dstS m g b ≤ dstS m x b) (h2 : a = b ∨ dst m a x < dst m a b) : dst m a x ≤ dst m a g := by
  unfold dstS dst at *
  repeat' split at hgx
  all_goals (repeat' split at h2)
  all_goals (repeat' split)
  all_goals omega
theorem dst_open {m a g b : Nat} (ha : a < m) (hg : g < m) (hga : dstS m g b ≤ dstS m a b) : a = b ∨ dst m a g < dst m a b := by
  unfold dstS dst at *
  repeat' split at hga
  all_goals (repeat' split)
  all_goals omega
/-- a place a step on, and the one that is nearest to it from there -/
theorem dst_on {m a g o s : Nat} (ha : a < m) (hg : g < m) (ho : o < m) (hs : 1 ≤ s) (hsg : s ≤ dst m a g) (hn : ¬ dst m ((a + s) % m) g < dst m ((a + s) % m) o) : s ≤ dst m a o ∧ dst m a o ≤ dst m a g ∧ o ≠ a := by
  have e : (a + s) % m = if a + s < m then a + s else a + s - m := by
    have := dst_lt ha hg
    split
    · rename_i h; exact Nat.mod_eq_of_lt h
    · rw [show a + s = (a + s - m) + m by omega, Nat.add_mod_right, Nat.mod_eq_of_lt (by omega)]; omega
  rw [e] at hn
  unfold dst at *
  repeat' split at hsg
  all_goals (repeat' split at hn)
  all_goals (repeat' split)
  all_goals omega
/-- of two in an open arc the farther one is open behind the nearer one -/
theorem dst_farther {m a x y b : Nat} (ha : a < m) (hx : x < m) (hy : y < m) (hb : b < m) (h3 : a = b ∨ dst m a y < dst m a b) (h : dst m a x < dst m a y) : y ≠ x ∧ (x = b ∨ dst m x y < dst m x b) := by
  unfold dst at *
  repeat' split at h3
  all_goals (repeat' split at h)
  all_goals (repeat' split)
  all_goals omega
theorem dst_sum {m a x g : Nat} (ha : a < m) (hx : x < m) (hg : g < m) (h : dst m a x ≤ dst m a g) : dst m x g = dst m a g - dst m a x := by
  unfold dst at *
  repeat' split at h
  all_goals (repeat' split)
  all_goals omega
/-- the greatest power of two that is no greater -/
theorem pow_in {n : Nat} (h : 1 ≤ n) : ∃ k, 2 ^ k ≤ n ∧ n < 2 ^ (k + 1) := ⟨Nat.log2 n, Nat.log2_self_le (by omega), Nat.lt_log2_self⟩
theorem pow_below {n k q : Nat} (h : 2 ^ k ≤ n) (h2 : n < 2 ^ q) : k < q := by
  rcases Nat.lt_or_ge k q with h3 | h3
  · exact h3
  · have := Nat.pow_le_pow_right (n := 2) (by omega) h3; omega
theorem mod2 {x n : Nat} (h : x < 2 * n) : x % n = if x < n then x else x - n := by
  split
  · rename_i h1; exact Nat.mod_eq_of_lt h1
  · rw [show x = (x - n) + n by omega, Nat.add_mod_right, Nat.mod_eq_of_lt (by omega)]; omega
theorem M_pow : M = 2 ^ 160 := by unfold M; decide +kernel

/-! walks -/
abbrev tb0 : Tb := ⟨(0, 0), (0, 0), [], []⟩
def doneB (t : Tb) (id : Nat) : Bool := halfB t.s.2 id (firstP t.s t.S).2
def nextT (t : Tb) (id : Nat) : Pe × Bool := nrR (nrG (fun a b => openB a b id) [] (t.s, false) (knL t.s t.p t.S t.F))
def findT (T : List Tb) (a : Int) : Option Tb := T.find? fun t => decide (t.s.1 = a)
/-- a route, and the code -/
abbrev Rou : Type := (List Int × Pe) × Int
def badR (e : Int) : Rou := (([], (0, 0)), e)
/-- the walk goes on at a table: n hops more at most -/
def wkG (T : List Tb) (id : Nat) : Nat → Tb → List Int → Rou
  | 0, t, H => if doneB t id = true then ((H, firstP t.s t.S), 0) else if (nextT t id).2 = true then badR 2 else badR 7
  | n + 1, t, H => if doneB t id = true then ((H, firstP t.s t.S), 0) else if (nextT t id).2 = true then
      (match findT T (nextT t id).1.1 with
      | none => badR 5
      | some t' => wkG T id n t' (H ++ [(nextT t id).1.1])) else badR 7
theorem wk_done {T : List Tb} {id : Nat} {t : Tb} (h : doneB t id = true) (n : Nat) (H : List Int) : wkG T id n t H = ((H, firstP t.s t.S), 0) := by
  cases n <;> rw [wkG, if_pos h]
theorem wk_none {T : List Tb} {id : Nat} {t : Tb} (h : doneB t id = false) (h2 : (nextT t id).2 = false) (n : Nat) (H : List Int) : wkG T id n t H = badR 7 := by
  cases n <;> rw [wkG, if_neg (by rw [h]; simp), if_neg (by rw [h2]; simp)]
theorem wk_lim {T : List Tb} {id : Nat} {t : Tb} (h : doneB t id = false) (h2 : (nextT t id).2 = true) (H : List Int) : wkG T id 0 t H = badR 2 := by
  rw [wkG, if_neg (by rw [h]; simp), if_pos h2]
theorem wk_off {T : List Tb} {id : Nat} {t : Tb} (h : doneB t id = false) (h2 : (nextT t id).2 = true) (h3 : findT T (nextT t id).1.1 = none) (n : Nat) (H : List Int) : wkG T id (n + 1) t H = badR 5 := by
  rw [wkG, if_neg (by rw [h]; simp), if_pos h2, h3]
theorem wk_go {T : List Tb} {id : Nat} {t t' : Tb} (h : doneB t id = false) (h2 : (nextT t id).2 = true) (h3 : findT T (nextT t id).1.1 = some t') (n : Nat) (H : List Int) : wkG T id (n + 1) t H = wkG T id n t' (H ++ [(nextT t id).1.1]) := by
  rw [wkG, if_neg (by rw [h]; simp), if_pos h2, h3]
def tbB (t : Tb) : Bool := isT t.s t.p t.S t.F
def hasT (T : List Tb) (a : Int) : Bool := (findT T a).isSome
/-- the first i tables are right, and no two of them of one address -/
def okT (T : List Tb) : Nat → Bool
  | 0 => true
  | i + 1 => okT T i && (!hasT (T.take i) (T.getD i tb0).s.1 && tbB (T.getD i tb0))
def rgtT (T : List Tb) : Bool := decide (T.length ≤ 16) && okT T T.length
def mayB (T : List Tb) (fr most : Int) : Bool := rgtT T && (hasT T fr && (decide (0 ≤ most) && decide (most ≤ 64)))
/-- what a walk answers -/
def walkR (T : List Tb) (fr : Int) (id : Nat) (most : Int) : Rou := if mayB T fr most = true then wkG T id most.toNat ((findT T fr).getD tb0) [fr] else badR 1
theorem ok_leT (T : List Tb) {i j : Nat} (h : i ≤ j) (hf : okT T i = false) : okT T j = false := by
  induction j with
  | zero => obtain rfl : i = 0 := by omega
            exact hf
  | succ j ih =>
    rcases Nat.lt_or_ge j i with h1 | h1
    · obtain rfl : i = j + 1 := by omega
      exact hf
    · rw [okT, ih h1]; rfl
theorem find_some {T : List Tb} {a : Int} {t : Tb} (h : findT T a = some t) : t.s.1 = a ∧ t ∈ T := by
  unfold findT at h
  exact ⟨by simpa using List.find?_some h, List.mem_of_find?_eq_some h⟩

/-! settled tables -/
/-- the table of the peer at i, as it is when all is settled -/
def setT (L : List Pe) (r i : Nat) : Tb where
  s := L.getD i (0, 0)
  p := if L.length = 1 then (-1, 0) else L.getD ((i + L.length - 1) % L.length) (0, 0)
  S := (List.range (min r (L.length - 1))).map fun k => L.getD ((i + 1 + k) % L.length) (0, 0)
  F := (List.range 160).map fun k => if ownN L ((pn L i + 2 ^ k) % M) = i then (-1, 0) else L.getD (ownN L ((pn L i + 2 ^ k) % M)) (0, 0)
def setL (L : List Pe) (r : Nat) : List Tb := (List.range L.length).map (setT L r)
theorem setL_length (L : List Pe) (r : Nat) : (setL L r).length = L.length := by unfold setL; simp
theorem setL_get (L : List Pe) (r : Nat) {i : Nat} (h : i < L.length) : (setL L r)[i]? = some (setT L r i) := by
  unfold setL
  rw [List.getElem?_map, List.getElem?_range h]; rfl
theorem ad_inj {L : List Pe} (hC : Circ L) {i j : Nat} (hi : i < L.length) (hj : j < L.length) (h : ad L i = ad L j) : i = j := by
  rcases Nat.lt_trichotomy i j with h1 | h1 | h1
  · exact absurd h (hC.ne h1 hj)
  · exact h1
  · exact absurd h.symm (hC.ne h1 hi)
theorem find_set {L : List Pe} (hC : Circ L) (r : Nat) {j : Nat} (hj : j < L.length) : findT (setL L r) (ad L j) = some (setT L r j) := by
  unfold findT setL
  rw [List.find?_map]
  have : (List.range L.length).find? ((fun t : Tb => decide (t.s.1 = ad L j)) ∘ setT L r) = some j := by
    rw [List.find?_range_eq_some]
    refine ⟨decide_eq_true rfl, List.mem_range.2 hj, fun i hi => ?_⟩
    rw [Bool.not_eq_true', Function.comp_apply, decide_eq_false_iff_not]
    intro e
    have := ad_inj hC (by omega) hj e
    omega
  rw [this]; rfl
theorem set_mem {L : List Pe} {r i : Nat} (hi : i < L.length) {y : Pe} (hy : y ∈ (setT L r i).p :: ((setT L r i).S ++ (setT L r i).F)) : y = (-1, 0) ∨ ∃ j, j < L.length ∧ j ≠ i ∧ y = L.getD j (0, 0) := by
  rcases List.mem_cons.1 hy with h | h
  · unfold setT at h
    dsimp only at h
    split at h
    · exact .inl h
    · refine .inr ⟨_, Nat.mod_lt _ (by omega), ?_, h⟩
      rw [mod2 (by omega)]; split <;> omega
  · rcases List.mem_append.1 h with h | h
    · unfold setT at h
      dsimp only at h
      obtain ⟨k, hk, rfl⟩ := List.mem_map.1 h
      have hk := List.mem_range.1 hk
      refine .inr ⟨_, Nat.mod_lt _ (by omega), ?_, rfl⟩
      rw [mod2 (by omega)]; split <;> omega
    · unfold setT at h
      dsimp only at h
      obtain ⟨k, hk, rfl⟩ := List.mem_map.1 h
      split
      · exact .inl rfl
      · rename_i h; exact .inr ⟨_, own_lt (by omega) _, h, rfl⟩
/-- the last place ahead of what is sought -/
def goalN (L : List Pe) (id : Nat) : Nat := (ownN L id + L.length - 1) % L.length
theorem goal_lt {L : List Pe} (h : 0 < L.length) (id : Nat) : goalN L id < L.length := Nat.mod_lt _ h
theorem goal_iff {L : List Pe} {id i : Nat} (hi : i < L.length) : (i + 1) % L.length = ownN L id ↔ i = goalN L id := by
  have ho := own_lt (L := L) (by omega) id
  unfold goalN
  rw [mod2 (x := i + 1) (by omega), mod2 (x := ownN L id + L.length - 1) (by omega)]
  split <;> split <;> omega
theorem goal_near {L : List Pe} (hC : Circ L) (hw : Wf L) {id j : Nat} (hid : id < M) (hj : j < L.length) : dstS M (pn L (goalN L id)) id ≤ dstS M (pn L j) id := by
  have hr := hC.rise
  have f1 := first_le L id
  have f2 : ∀ j, j < firstN L id → pn L j < id := fun j hj => first_lt hj
  have f3 : firstN L id < L.length → ¬ pn L (firstN L id) < id := fun h => first_at h
  have a := hw.pn j
  have b := hw.pn (goalN L id)
  have eg : goalN L id = if firstN L id = 0 then L.length - 1 else firstN L id - 1 := by
    unfold goalN
    rw [own_if]
    split
    · rw [mod2 (by omega)]; split <;> split <;> omega
    · rw [mod2 (by omega)]; split <;> split <;> omega
  by_cases h0 : firstN L id = 0
  · rw [if_pos h0] at eg
    rw [eg] at b ⊢
    have h1 := f3 (by omega)
    rw [h0] at h1
    have h2 : pn L 0 ≤ pn L j := hr.mono (by omega) hj
    have h3 : pn L j ≤ pn L (L.length - 1) := hr.mono (by omega) (by omega)
    unfold dstS dst
    generalize M = m at *
    repeat' split
    all_goals omega
  · rw [if_neg h0] at eg
    rw [eg] at b ⊢
    have h1 := f2 (firstN L id - 1) (by omega)
    have h4 : pn L j < id ∧ pn L j ≤ pn L (firstN L id - 1) ∨ id ≤ pn L j := by
      rcases Nat.lt_or_ge j (firstN L id) with h | h
      · exact .inl ⟨f2 j h, hr.mono (by omega) (by omega)⟩
      · right
        have h5 := f3 (by omega)
        have h6 : pn L (firstN L id) ≤ pn L j := hr.mono h hj
        omega
    unfold dstS dst
    generalize M = m at *
    repeat' split
    all_goals omega
theorem set_first {L : List Pe} {r i : Nat} (hi : i < L.length) (hr : 1 ≤ r) : firstP (setT L r i).s (setT L r i).S = L.getD ((i + 1) % L.length) (0, 0) := by
  unfold firstP setT
  dsimp only
  by_cases h1 : L.length = 1
  · rw [h1, Nat.sub_self, Nat.min_zero, List.range_zero, List.map_nil, List.headD_nil, Nat.mod_one]
    congr 1
    omega
  · obtain ⟨m, hm⟩ : ∃ m, min r (L.length - 1) = m + 1 := ⟨min r (L.length - 1) - 1, by omega⟩
    rw [hm, List.range_succ_eq_map, List.map_cons, List.headD_cons, Nat.add_zero]
theorem set_done {L : List Pe} (hC : Circ L) (hw : Wf L) {r i id : Nat} (hid : id < M) (hi : i < L.length) (hr : 1 ≤ r) : doneB (setT L r i) id = decide (i = goalN L id) := by
  unfold doneB
  rw [set_first hi hr]
  have h := arc_own hC hw hid (Nat.mod_lt (i + 1) (show 0 < L.length by omega))
  have e : ((i + 1) % L.length + L.length - 1) % L.length = i := by
    rw [mod2 (x := i + 1) (by omega)]
    split
    · rw [mod2 (by omega)]; split <;> omega
    · rw [mod2 (by omega)]; split <;> omega
  rw [e] at h
  exact h.trans (decide_eq_decide.2 (goal_iff hi))
/-- how far the place ahead of what is sought is -/
def farN (L : List Pe) (id i : Nat) : Nat := dst M (pn L i) (pn L (goalN L id))
theorem pn_ne {L : List Pe} (hC : Circ L) {i j : Nat} (hi : i < L.length) (hj : j < L.length) (h : i ≠ j) : pn L i ≠ pn L j := by
  have := hC.rise
  rcases Nat.lt_or_gt_of_ne h with h1 | h1
  · have := hC.rise i j h1 hj; omega
  · have := hC.rise j i h1 hi; omega
theorem kn_all {L : List Pe} {r i : Nat} (hi : i < L.length) {y : Pe} (hy : y ∈ knL (setT L r i).s (setT L r i).p (setT L r i).S (setT L r i).F) : ∃ j, j < L.length ∧ j ≠ i ∧ y = L.getD j (0, 0) := by
  unfold knL at hy
  have h := List.mem_of_find?_eq_some (((firsts_kn _).mem y).1 hy)
  unfold fil at h
  obtain ⟨h1, h2⟩ := List.mem_filter.1 h
  rcases set_mem hi h1 with rfl | h3
  · unfold filB at h2
    simp at h2
  · exact h3
theorem kn_one {L : List Pe} (hC : Circ L) {r i j : Nat} (hi : i < L.length) (hj : j < L.length) (hji : j ≠ i) (hm : L.getD j (0, 0) ∈ (setT L r i).F) :
    L.getD j (0, 0) ∈ knL (setT L r i).s (setT L r i).p (setT L r i).S (setT L r i).F := by
  unfold knL
  rw [(firsts_kn _).mem]
  have h1 : L.getD j (0, 0) ∈ fil (setT L r i).s ((setT L r i).p :: ((setT L r i).S ++ (setT L r i).F)) := by
    unfold fil
    refine List.mem_filter.2 ⟨List.mem_cons_of_mem _ (List.mem_append_right _ hm), ?_⟩
    unfold filB
    have h2 := (hC.2 j hj).1
    have h3 : ¬ (L.getD j (0, 0)).1 = (setT L r i).s.1 := fun e => hji (ad_inj hC hj hi e)
    rw [decide_eq_true (p := 0 ≤ (L.getD j (0, 0)).1) h2, decide_eq_false h3]; rfl
  cases hf : (fil (setT L r i).s ((setT L r i).p :: ((setT L r i).S ++ (setT L r i).F))).find? (fun y => decide (y.1 = (L.getD j (0, 0)).1)) with
  | none =>
    have := List.find?_eq_none.1 hf _ h1
    simp at this
  | some z =>
    have hz1 : z.1 = (L.getD j (0, 0)).1 := by simpa using List.find?_some hf
    have hz2 := List.mem_of_find?_eq_some hf
    unfold fil at hz2
    obtain ⟨hz3, hz4⟩ := List.mem_filter.1 hz2
    rcases set_mem hi hz3 with rfl | ⟨q, hq, _, rfl⟩
    · unfold filB at hz4
      simp at hz4
    · rw [ad_inj hC hq hj hz1]
/-- a hop at least halves the way -/
theorem set_next {L : List Pe} (hC : Circ L) (hw : Wf L) {r i id : Nat} (hid : id < M) (hi : i < L.length) (hne : i ≠ goalN L id) :
    ∃ j, j < L.length ∧ nextT (setT L r i) id = (L.getD j (0, 0), true) ∧ farN L id j * 2 < farN L id i := by
  have hn : 0 < L.length := by omega
  have hg := goal_lt hn id
  have hm : ∀ j, pn L j % M = pn L j := fun j => Nat.mod_eq_of_lt (hw.pn j)
  have hmid : id % M = id := Nat.mod_eq_of_lt hid
  have hop : ∀ j k, openB (pn L j) (pn L k) id = true ↔ pn L k ≠ pn L j ∧ (pn L j = id ∨ dst M (pn L j) (pn L k) < dst M (pn L j) id) := fun j k => by rw [open_iff, hm, hm, hmid]
  have hga := goal_near hC hw hid hi
  have hfar : 1 ≤ farN L id i := by
    have h1 := pn_ne hC hi hg hne
    have h2 := hw.pn i
    have h3 := hw.pn (goalN L id)
    unfold farN dst
    generalize M = m at *
    split <;> omega
  obtain ⟨k, hk1, hk2⟩ := pow_in hfar
  have hk : k < 160 := pow_below hk1 (by rw [← M_pow]; exact dst_lt (hw.pn _) (hw.pn _))
  -- the finger
  have ho := own_lt hn ((pn L i + 2 ^ k) % M)
  have hon := own_near hC hw (id := (pn L i + 2 ^ k) % M) (j := goalN L id) (Nat.mod_lt _ M_pos) hg
  have hO : 2 ^ k ≤ dst M (pn L i) (pn L (ownN L ((pn L i + 2 ^ k) % M))) ∧ dst M (pn L i) (pn L (ownN L ((pn L i + 2 ^ k) % M))) ≤ farN L id i ∧ pn L (ownN L ((pn L i + 2 ^ k) % M)) ≠ pn L i := by
    refine dst_on (hw.pn _) (hw.pn _) (hw.pn _) (Nat.pos_of_ne_zero (by simp)) hk1 ?_
    unfold lessB at hon
    rw [decide_eq_false_iff_not, sub_dst, sub_dst, hm, hm, Nat.mod_mod] at hon
    exact hon
  have hF : L.getD (ownN L ((pn L i + 2 ^ k) % M)) (0, 0) ∈ (setT L r i).F := by
    unfold setT
    dsimp only
    refine List.mem_map.2 ⟨k, List.mem_range.2 hk, ?_⟩
    rw [if_neg (fun e => hO.2.2 (by rw [e]))]
  generalize ownN L ((pn L i + 2 ^ k) % M) = o at *
  have hoi : o ≠ i := fun e => hO.2.2 (by rw [e])
  have hkn := kn_one hC hi ho hoi hF
  -- what is open
  have hoo : openB (pn L i) (pn L o) id = true := by
    rw [hop]
    refine ⟨hO.2.2, ?_⟩
    rcases dst_open (hw.pn i) (hw.pn _) hga with h | h
    · exact .inl h
    · exact .inr (Nat.lt_of_le_of_lt hO.2.1 h)
  have hN := near_of (setT L r i).s id [] (knL (setT L r i).s (setT L r i).p (setT L r i).S (setT L r i).F)
  unfold nextT
  generalize hres : nrG (fun a b => openB a b id) [] ((setT L r i).s, false) (knL (setT L r i).s (setT L r i).p (setT L r i).S (setT L r i).F) = res at *
  obtain ⟨y, b⟩ := res
  have hmm : ∀ a : Int, memB [] a = false := fun a => rfl
  cases b with
  | false =>
    have h := (hN.no rfl).2 _ hkn (hmm _)
    have h2 : openB (pn L i) (pn L o) id = false := h
    rw [hoo] at h2
    cases h2
  | true =>
    obtain ⟨h1, _, h3, h4⟩ := hN.yes rfl
    obtain ⟨j, hj, hji, rfl⟩ := kn_all hi h1
    have h3' : openB (pn L i) (pn L j) id = true := h3
    have h4' : openB (pn L j) (pn L o) id = false := h4 _ hkn (hmm _) hoo
    rw [hop] at h3'
    have hle : dst M (pn L i) (pn L j) ≤ farN L id i := dst_last (hw.pn i) (hw.pn j) (hw.pn _) hid (goal_near hC hw hid hj) h3'.2
    have hge : dst M (pn L i) (pn L o) ≤ dst M (pn L i) (pn L j) := by
      rcases Nat.lt_or_ge (dst M (pn L i) (pn L j)) (dst M (pn L i) (pn L o)) with h | h
      · rw [hop] at hoo
        have := (hop j o).2 (dst_farther (hw.pn i) (hw.pn j) (hw.pn o) hid hoo.2 h)
        rw [h4'] at this
        cases this
      · exact h
    refine ⟨j, hj, by unfold nrR; rw [if_pos rfl], ?_⟩
    have hs : farN L id j = farN L id i - dst M (pn L i) (pn L j) := dst_sum (hw.pn i) (hw.pn j) (hw.pn _) hle
    rw [hs]
    rw [Nat.pow_succ] at hk2
    omega
theorem cnt_lt {p q : Nat → Bool} : ∀ {l : List Nat} {j : Nat}, (∀ x ∈ l, p x = true → q x = true) → j ∈ l → p j = false → q j = true → l.countP p < l.countP q
  | [], j, _, hj, _, _ => by cases hj
  | x :: l, j, h, hj, hp, hq => by
    have hle : l.countP p ≤ l.countP q := List.countP_mono_left fun x hx => h x (List.mem_cons_of_mem _ hx)
    rcases List.mem_cons.1 hj with rfl | hj
    · rw [List.countP_cons_of_neg (by rw [hp]; simp), List.countP_cons_of_pos hq]
      omega
    · have ih := cnt_lt (fun x hx => h x (List.mem_cons_of_mem _ hx)) hj hp hq
      rw [List.countP_cons, List.countP_cons]
      have := h x (List.mem_cons_self ..)
      split <;> split
      · omega
      · rename_i h1 h2; exact absurd (this h1) h2
      · omega
      · omega
/-- how many are nearer to the goal -/
def cntF (L : List Pe) (id i : Nat) : Nat := (List.range L.length).countP fun j => decide (farN L id j < farN L id i)
theorem cntF_lt {L : List Pe} {id i j : Nat} (hj : j < L.length) (h : farN L id j < farN L id i) : cntF L id j < cntF L id i :=
  cnt_lt (j := j) (fun _ _ hx => decide_eq_true (Nat.lt_trans (of_decide_eq_true hx) h)) (List.mem_range.2 hj) (decide_eq_false (Nat.lt_irrefl _)) (decide_eq_true h)
theorem cntF_le {L : List Pe} {id i : Nat} (hi : i < L.length) : cntF L id i ≤ L.length - 1 := by
  have := cnt_lt (p := fun j => decide (farN L id j < farN L id i)) (q := fun _ => true) (l := List.range L.length) (j := i) (fun _ _ _ => rfl) (List.mem_range.2 hi) (decide_eq_false (Nat.lt_irrefl _)) rfl
  rw [List.countP_true, List.length_range] at this
  unfold cntF
  omega
/-- the places of a walk -/
structure Road (L : List Pe) (id n i : Nat) (J : List Nat) : Prop where
  lt : ∀ x ∈ J, x < L.length
  head : J.head? = some i
  last : J.getLast? = some (goalN L id)
  half : ∀ k a b, J[k]? = some a → J[k + 1]? = some b → farN L id b * 2 < farN L id a
  len : J.length ≤ n + 1
theorem wk_set {L : List Pe} (hC : Circ L) (hw : Wf L) {r id : Nat} (hid : id < M) (hr : 1 ≤ r) : ∀ (n i : Nat), i < L.length → cntF L id i ≤ n →
    ∃ J, Road L id n i J ∧ ∀ H, wkG (setL L r) id n (setT L r i) (H ++ [ad L i]) = ((H ++ J.map (ad L), L.getD (ownN L id) (0, 0)), 0) := by
  intro n
  induction n with
  | zero =>
    intro i hi hc
    by_cases hg : i = goalN L id
    · refine ⟨[i], ⟨fun x hx => by rw [List.mem_singleton.1 hx]; exact hi, rfl, by rw [← hg]; rfl, fun k a b _ hb => by simp at hb, by simp⟩, fun H => ?_⟩
      rw [wk_done (by rw [set_done hC hw hid hi hr, decide_eq_true hg]), set_first hi hr, (goal_iff hi).2 hg]; rfl
    · obtain ⟨j, hj, _, h2⟩ := set_next (r := r) hC hw hid hi hg
      have := cntF_lt hj (show farN L id j < farN L id i by omega)
      omega
  | succ n ih =>
    intro i hi hc
    by_cases hg : i = goalN L id
    · refine ⟨[i], ⟨fun x hx => by rw [List.mem_singleton.1 hx]; exact hi, rfl, by rw [← hg]; rfl, fun k a b _ hb => by simp at hb, by simp⟩, fun H => ?_⟩
      rw [wk_done (by rw [set_done hC hw hid hi hr, decide_eq_true hg]), set_first hi hr, (goal_iff hi).2 hg]; rfl
    · obtain ⟨j, hj, h1, h2⟩ := set_next (r := r) hC hw hid hi hg
      have := cntF_lt hj (show farN L id j < farN L id i by omega)
      obtain ⟨J, hJ, hwk⟩ := ih j hj (by omega)
      refine ⟨i :: J, ⟨fun x hx => ?_, rfl, ?_, fun k a b ha hb => ?_, by have := hJ.len; rw [List.length_cons]; omega⟩, fun H => ?_⟩
      · rcases List.mem_cons.1 hx with rfl | hx
        · exact hi
        · exact hJ.lt x hx
      · cases J with
        | nil => have := hJ.head; cases this
        | cons z J => rw [List.getLast?_cons_cons]; exact hJ.last
      · cases k with
        | zero =>
          rw [List.getElem?_cons_zero, Option.some.injEq] at ha
          rw [List.getElem?_cons_succ, ← List.head?_eq_getElem?, hJ.head, Option.some.injEq] at hb
          subst ha hb
          exact h2
        | succ k =>
          rw [List.getElem?_cons_succ] at ha hb
          exact hJ.half k a b ha hb
      · rw [wk_go (t' := setT L r j) (by rw [set_done hC hw hid hi hr, decide_eq_false hg]) (by rw [h1]) (by rw [h1]; exact find_set hC r hj), h1]
        have := hwk (H ++ [ad L i])
        rw [show ((L.getD j (0, 0), true) : Pe × Bool).1.1 = ad L j from rfl, this, List.map_cons, List.append_assoc]; rfl
/-! settled tables are right -/
theorem set_right {L : List Pe} (hC : Circ L) (hw : Wf L) {r i : Nat} (hi : i < L.length) (h8 : r ≤ 8) : tbB (setT L r i) = true := by
  unfold tbB
  rw [isT_iff]
  have hoth : ∀ j, j < L.length → j ≠ i → otherB (setT L r i).s (L.getD j (0, 0)) = true := fun j hj hji => by
    have h1 := hC.2 j hj
    have h2 : ¬ (L.getD j (0, 0)).1 = (setT L r i).s.1 := fun e => hji (ad_inj hC hj hi e)
    have h3 : eqB (L.getD j (0, 0)).2 (setT L r i).s.2 = false := by
      rw [show (L.getD j (0, 0)).2 = pn L j from rfl, show (setT L r i).s.2 = pn L i from rfl, eqB_lt (hw.pn j) (hw.pn i)]
      exact decide_eq_false (pn_ne hC hj hi hji)
    unfold otherB
    rw [show addrB (L.getD j (0, 0)).1 = true from addr_iff.2 ⟨h1.1, h1.2.1⟩, decide_eq_false h2, h3]; rfl
  have hS : ∀ x ∈ (setT L r i).S, otherB (setT L r i).s x = true := fun x hx => by
    unfold setT at hx
    dsimp only at hx
    obtain ⟨k, hk, rfl⟩ := List.mem_map.1 hx
    have hk := List.mem_range.1 hk
    refine hoth _ (Nat.mod_lt _ (by omega)) ?_
    rw [mod2 (by omega)]; split <;> omega
  refine ⟨addr_iff.2 ⟨(hC.2 i hi).1, (hC.2 i hi).2.1⟩, ?_, ?_, hS, ?_, fun x hx => ?_⟩
  · unfold setT
    dsimp only
    rw [List.length_map, List.length_range]; omega
  · unfold setT
    dsimp only
    rw [List.length_map, List.length_range]
  · unfold setT
    dsimp only
    rw [List.pairwise_map]
    refine List.Pairwise.imp_of_mem ?_ (List.nodup_range (n := min r (L.length - 1)))
    intro a b ha hb hab e
    have ha := List.mem_range.1 ha
    have hb := List.mem_range.1 hb
    have h := ad_inj hC (Nat.mod_lt _ (by omega)) (Nat.mod_lt _ (by omega)) e
    rw [mod2 (by omega), mod2 (by omega)] at h
    split at h <;> split at h <;> omega
  · have : x ∈ (setT L r i).p :: ((setT L r i).S ++ (setT L r i).F) := by
      rcases List.mem_cons.1 hx with h | h
      · rw [h]; exact List.mem_cons_self ..
      · exact List.mem_cons_of_mem _ (List.mem_append_right _ h)
    rcases set_mem hi this with rfl | ⟨j, hj, hji, rfl⟩
    · exact .inl none_self
    · exact .inr (hoth j hj hji)
theorem set_ok {L : List Pe} (hC : Circ L) (hw : Wf L) {r : Nat} (h8 : r ≤ 8) : ∀ n, n ≤ L.length → okT (setL L r) n = true := by
  intro n
  induction n with
  | zero => intro _; rfl
  | succ n ih =>
    intro hn
    have e : (setL L r).getD n tb0 = setT L r n := by rw [List.getD_eq_getElem?_getD, setL_get L r (by omega)]; rfl
    rw [okT, ih (by omega), e, set_right hC hw (by omega) h8, Bool.true_and, Bool.and_true, Bool.not_eq_true']
    unfold hasT
    rw [Option.isSome_eq_false_iff, Option.isNone_iff_eq_none]
    unfold findT
    rw [List.find?_eq_none]
    intro t ht
    obtain ⟨q, hq⟩ := List.getElem?_of_mem ht
    rw [List.getElem?_take] at hq
    split at hq
    · rename_i hqn
      rw [setL_get L r (by omega), Option.some.injEq] at hq
      subst hq
      rw [decide_eq_true_eq]
      exact hC.ne hqn (by omega)
    · cases hq
theorem set_rgt {L : List Pe} (hC : Circ L) (hw : Wf L) {r : Nat} (h8 : r ≤ 8) : rgtT (setL L r) = true := by
  unfold rgtT
  rw [setL_length, set_ok hC hw h8 _ (Nat.le_refl _), decide_eq_true hC.1.2]; rfl
/-- a walk in settled tables -/
theorem walk_set {L : List Pe} (hC : Circ L) (hw : Wf L) {r id i n : Nat} (hid : id < M) (hr : 1 ≤ r) (h8 : r ≤ 8) (hi : i < L.length) (hn : L.length - 1 ≤ n) (hn64 : n ≤ 64) :
    ∃ J, Road L id n i J ∧ walkR (setL L r) (ad L i) id (n : Int) = ((J.map (ad L), L.getD (ownN L id) (0, 0)), 0) := by
  obtain ⟨J, hJ, h⟩ := wk_set (r := r) hC hw hid hr n i hi (Nat.le_trans (cntF_le hi) hn)
  refine ⟨J, hJ, ?_⟩
  have := h []
  unfold walkR
  have hf := find_set hC r hi
  have e : mayB (setL L r) (ad L i) (n : Int) = true := by
    unfold mayB hasT
    rw [set_rgt hC hw h8, hf, decide_eq_true (p := (0 : Int) ≤ (n : Int)) (by omega), decide_eq_true (p := (n : Int) ≤ 64) (by omega)]; rfl
  rw [if_pos e, hf, Int.toNat_natCast]
  exact this
end Go.Proofs.Ytfajfmcabpmchaa
