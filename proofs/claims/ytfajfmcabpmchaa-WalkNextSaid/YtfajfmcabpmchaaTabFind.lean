/- An address is looked for among peers; peers of an address are taken out of a row, in place. -/
import Derived.Test.YtfajfmcabpmchaaTabRow
import Derived.Test.YtfajfmcabpmchaaTabSort
namespace Go.Proofs.Ytfajfmcabpmchaa
set_option maxRecDepth 100000
open Go Go.RowKit Go.Sort

def hasB (L : List Pe) (a : Int) : Bool := L.any fun x => decide (x.1 = a)
/-- the first one of an address -/
def fstA (a : Int) : List Pe → Nat
  | [] => 0
  | x :: L => if x.1 = a then 0 else fstA a L + 1
theorem fst_le (a : Int) (L : List Pe) : fstA a L ≤ L.length := by
  induction L with
  | nil => exact Nat.le_refl _
  | cons x L ih => unfold fstA; split <;> simp <;> omega
theorem ad_get {L : List Pe} {i : Nat} (h : i < L.length) : ad L i = (L[i]'h).1 := by unfold ad; rw [List.getD_eq_getElem?_getD, List.getElem?_eq_getElem h]; rfl
theorem fst_of {a : Int} {L : List Pe} {i : Nat} (hi : i < L.length) (h1 : ∀ j, j < i → ad L j ≠ a) (h2 : ad L i = a) : fstA a L = i := by
  induction L generalizing i with
  | nil => simp at hi
  | cons x L ih =>
    unfold fstA
    cases i with
    | zero => exact if_pos h2
    | succ i =>
      rw [if_neg (show ¬ x.1 = a from h1 0 (by omega)), ih (by simpa using hi) (fun j hj => h1 (j + 1) (by omega)) h2]
theorem fst_none {a : Int} {L : List Pe} (h : ∀ j, j < L.length → ad L j ≠ a) : fstA a L = L.length := by
  induction L with
  | nil => rfl
  | cons x L ih =>
    unfold fstA
    rw [if_neg (show ¬ x.1 = a from h 0 (by simp)), ih fun j hj => h (j + 1) (by simp; omega)]; rfl
theorem fst_has (a : Int) (L : List Pe) : decide (fstA a L < L.length) = hasB L a := by
  induction L with
  | nil => rfl
  | cons x L ih =>
    unfold fstA hasB
    rw [List.any_cons]
    by_cases h : x.1 = a
    · simp [h]
    · rw [if_neg h, decide_eq_false h, Bool.false_or, ← hasB, ← ih]
      simp
/-- what is told of the place -/
def idxI (a : Int) (L : List Pe) : Int := if fstA a L < L.length then (fstA a L : Nat) else -1
theorem cell_bel {w w' : World} {q j : Nat} {v : Value} (h : w.cell? ⟨q, j, none⟩ = some v) (hb : Below w.heap.size w w') : w'.cell? ⟨q, j, none⟩ = some v :=
  (World.cell?_of_block (a := ⟨q, j, none⟩) (hb.block q (World.block_lt_of_cell? w _ h))).trans h
theorem isH_any {w : World} {q : Nat} {a : Int} (x : Pe) (hq : w.cell? ⟨q, 0, none⟩ = some (.int .i64 a)) : Calls Try.prog 72 #[.agg (peA x), .pointer (some ⟨q, 0, none⟩)] w fun e w' => e = .returned (.bool (decide (x.1 = a))) ∧ Below w.heap.size w w' := by
  have B0 := (Below.refl w.heap.size w).alloc (Nat.le_refl _) (.cells (peA x) 28)
  have c0 := (PB.new w x).A
  have c1 := cell_bel hq B0
  have HB := Lib.hid B0
  rw [← beq_addr]
  clear B0 hq
  go_enter Try.func72, Try.ntmps72
  go_upto_region 1 with (fail)
  generalize w.alloc _ = W at *
  generalize peA x = X at *
  go_wp2
  go_ret
  exact ⟨rfl, HB.out⟩
set_option maxHeartbeats 1000000 in
theorem indexH_any {w : World} {v : Value} {L : List Pe} {q : Nat} {a : Int} (hL : Lies w v L) (hn : L.length ≤ 1000000) (hq : w.cell? ⟨q, 0, none⟩ = some (.int .i64 a)) :
    Calls Try.prog 88 #[v, .func (.func 72) #[] #[.pointer (some ⟨q, 0, none⟩)]] w fun e w' => e = .returned (.int .i64 (idxI a L)) ∧ Below w.heap.size w w' := by
  rcases hL with ⟨⟨a0, rfl⟩, rfl⟩ | ⟨b, o, c, rfl, hc, hr⟩
  · go_enter Try.func88, Try.ntmps88
    go_wp2
    refine wp_loop_rounds 1 ?_
    rw [rounds_succ]
    go_wp2
    go_ret
    exact ⟨rfl, Below.refl _ _⟩
  have HR : Hid (∀ w', Below w.heap.size w w' → ∀ i, i < L.length → w'.rangeAt b (o + i * 21) (peC (ad L i, pn L i))) := fun w' hb i hi => range_bel (row_peer hr (at_get hi)) hb (range_lt (row_peer hr (at_get hi)) (pe_ne _))
  have HQ : Hid (∀ w', Below w.heap.size w w' → w'.cell? ⟨q, 0, none⟩ = some (.int .i64 a)) := fun w' hb => cell_bel hq hb
  clear hr hq hc
  generalize hln : L.length = n at *
  have HN := Lib.hid hln
  clear hln
  go_enter Try.func88, Try.ntmps88
  go_upto_region 2 with (fail)
  go_loopw [5, 8] (fun _ i wr => ∃ k : Nat, i = .int .i64 (k : Int) ∧ k ≤ n ∧ (∀ j, j < k → ad L j ≠ a) ∧ Below w.heap.size w wr) (fun _ i _ => n - (intOf i).toNat)
  case atStart => exact ⟨0, rfl, Nat.zero_le _, fun j hj => by omega, Below.refl _ _⟩
  case round =>
    obtain ⟨k, rfl, hk, hall, hB⟩ := hrel
    have HA := Lib.hid hall
    have HB := Lib.hid hB
    clear hall hB
    by_cases hlt : k < n
    · have r1 := HR.out _ HB.out k hlt
      have HC := Lib.hid (isH_any (ad L k, pn L k) (HQ.out _ HB.out))
      have b1 : (k : Int) < (n : Int) := by omega
      have b2 : (0 : Int) ≤ (k : Int) := by omega
      by_cases hx : ad L k = a
      · have e1 : decide (ad L k = a) = true := decide_eq_true hx
        have e2 : idxI a L = (k : Int) := by
          have h := fst_of (by rw [HN.out]; exact hlt) HA.out hx
          unfold idxI; rw [h, if_pos (by rw [HN.out]; exact hlt)]
        have HE2 := Lib.hid e2
        dsimp only at HC
        rw [e1] at HC
        clear e1 e2 hx HA
        generalize (ad L k, pn L k) = x at *
        go_wp2_with (first
          | (refine p_midP rfl _ rfl b (o + k * 21) rfl x r1 ?_)
          | (go_at_call 72; (with_reducible refine HC.out.mono ?_); rintro e w1 ⟨rfl, k1⟩; have HB2 := Lib.hid (step HB.out k1); clear k1))
        go_ret
        exact ⟨by rw [HE2.out]; rfl, HB2.out⟩
      · have e1 : decide (ad L k = a) = false := decide_eq_false hx
        have hall : ∀ j, j < k + 1 → ad L j ≠ a := fun j hj => by
          rcases Nat.lt_or_ge j k with h | h
          · exact HA.out j h
          · obtain rfl : j = k := by omega
            exact hx
        have HA2 := Lib.hid hall
        dsimp only at HC
        rw [e1] at HC
        clear e1 hx HA hall
        generalize (ad L k, pn L k) = x at *
        have s2 : IntKind.i64.wrap ((k : Int) + 1) = (k : Int) + 1 := IntWalk.i64_in _ (by omega)
        go_wp2_with (first
          | (refine p_midP rfl _ rfl b (o + k * 21) rfl x r1 ?_)
          | (go_at_call 72; (with_reducible refine HC.out.mono ?_); rintro e w1 ⟨rfl, k1⟩; have HB2 := Lib.hid (step HB.out k1); clear k1))
        exact ⟨⟨k + 1, by go_num, by omega, HA2.out, HB2.out⟩, by simp [intOf]; omega⟩
    · obtain rfl : k = n := by omega
      have e2 : idxI a L = -1 := by
        have h := fst_none (a := a) (L := L) (by rw [HN.out]; exact HA.out)
        unfold idxI; rw [h, if_neg (Nat.lt_irrefl _)]
      have HE2 := Lib.hid e2
      clear e2
      go_wp2
      go_ret
      exact ⟨by rw [HE2.out]; rfl, HB.out⟩
/-- those of an address are left out -/
def delL (a : Int) (L : List Pe) : List Pe := L.filter fun x => !decide (x.1 = a)
theorem del_snoc (a : Int) (L : List Pe) (x : Pe) : delL a (L ++ [x]) = delL a L ++ if x.1 = a then [] else [x] := by
  unfold delL
  rw [List.filter_append]
  congr 1
  by_cases h : x.1 = a <;> simp [h]
theorem del_all {a : Int} {L : List Pe} (h : ∀ j, j < L.length → ad L j ≠ a) : delL a L = L := by
  unfold delL
  rw [List.filter_eq_self]
  intro x hx
  obtain ⟨i, hi, rfl⟩ := List.getElem_of_mem hx
  have := h i hi
  rw [ad_get hi] at this
  simpa using this
theorem ad_fst {a : Int} {L : List Pe} {j : Nat} (h : j < fstA a L) : ad L j ≠ a := by
  induction L generalizing j with
  | nil => simp [fstA] at h
  | cons x L ih =>
    unfold fstA at h
    by_cases hx : x.1 = a
    · rw [if_pos hx] at h; omega
    · rw [if_neg hx] at h
      cases j with
      | zero => exact hx
      | succ j => exact ih (by omega)
theorem ad_at {a : Int} {L : List Pe} (h : fstA a L < L.length) : ad L (fstA a L) = a := by
  induction L with
  | nil => simp at h
  | cons x L ih =>
    unfold fstA at h ⊢
    by_cases hx : x.1 = a
    · rw [if_pos hx]; exact hx
    · rw [if_neg hx] at h ⊢
      exact ih (by simpa using h)
theorem seg_ad {f : Nat → Pe} {n j : Nat} (h : j < n) : ad (seg f 0 n) j = (f j).1 := by
  rw [ad_of (seg_get f 0 n j (by omega)), Nat.zero_add]
theorem idx_has (a : Int) (L : List Pe) : decide (0 ≤ idxI a L) = hasB L a := by
  rw [← fst_has]
  unfold idxI
  split
  · rename_i h; rw [decide_eq_true h]; exact decide_eq_true (by omega)
  · rename_i h; rw [decide_eq_false h]; rfl
theorem containsH_any {w : World} {v : Value} {L : List Pe} {q : Nat} {a : Int} (hL : Lies w v L) (hn : L.length ≤ 1000000) (hq : w.cell? ⟨q, 0, none⟩ = some (.int .i64 a)) :
    Calls Try.prog 71 #[v, .func (.func 72) #[] #[.pointer (some ⟨q, 0, none⟩)]] w fun e w' => e = .returned (.bool (hasB L a)) ∧ Below w.heap.size w w' := by
  have HC := Lib.hid (indexH_any hL hn hq)
  rw [← idx_has]
  clear hL hq
  generalize idxI a L = x at *
  go_enter Try.func71, Try.ntmps71
  go_wp2_with (go_at_call 88; (with_reducible refine HC.out.mono ?_); rintro e w1 ⟨rfl, k1⟩; have HB := Lib.hid k1; clear k1)
  go_ret
  exact ⟨by simp, HB.out⟩
theorem hasAddr_any {w : World} {v : Value} {L : List Pe} (a : Int) (hL : Lies w v L) (hn : L.length ≤ 1000000) :
    Calls Try.prog 42 #[v, .int .i64 a] w fun e w' => e = .returned (.bool (hasB L a)) ∧ Below w.heap.size w w' := by
  have B0 := (Below.refl w.heap.size w).alloc (Nat.le_refl _) (.cells #[.int .i64 a] 3)
  have c0 : (w.alloc (.cells #[.int .i64 a] 3)).cell? ⟨w.heap.size, 0, none⟩ = some (.int .i64 a) := (Blk.new w #[.int .i64 a] 3).cell 0
  have HC := Lib.hid (containsH_any (hL.bel B0) hn c0)
  have HB := Lib.hid B0
  have hmf : ∀ (fn : Fn) (first cap : Array Value) (w : World), (Instr.makeFunc fn first cap).run Try.prog w = .ok (.func fn first cap) w := fun _ _ _ _ => rfl
  clear B0 hL c0
  generalize hasB L a = r at *
  go_enter Try.func42, Try.ntmps42
  go_upto_region 1 with (fail)
  generalize w.alloc _ = W at *
  go_wp2_with (go_at_call 71; (with_reducible refine HC.out.mono ?_); rintro e w1 ⟨rfl, k1⟩; have HB2 := Lib.hid (step HB.out k1); clear k1)
  go_ret
  exact ⟨rfl, HB2.out⟩
end Go.Proofs.Ytfajfmcabpmchaa
