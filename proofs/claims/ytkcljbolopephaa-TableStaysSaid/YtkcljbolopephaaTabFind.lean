/- An address is looked for among peers; peers of an address are taken out of a row, in place. -/
import Derived.Test.YtkcljbolopephaaTabRow
import Derived.Test.YtkcljbolopephaaTabClear
namespace Go.Proofs.Ytkcljbolopephaa
set_option maxRecDepth 100000
open Go Go.RowKit Go.Sort

def hasB (L : List Pe) (a : Int) : Bool := L.any fun x => decide (x.1 = a)
/-- the first one of an address -/
def fstA (a : Int) : List Pe → Nat
  | [] => 0
  | x :: L => if x.1 = a then 0 else fstA a L + 1
theorem fst_le (a : Int) (L : List Pe) : fstA a L ≤ L.length := by
  induction L with
  | nil => exact Nat.le_refl _
  | cons x L ih => unfold fstA; split <;> simp <;> omega
theorem ad_get {L : List Pe} {i : Nat} (h : i < L.length) : ad L i = (L[i]'h).1 := by unfold ad; rw [List.getD_eq_getElem?_getD, List.getElem?_eq_getElem h]; rfl
theorem fst_of {a : Int} {L : List Pe} {i : Nat} (hi : i < L.length) (h1 : ∀ j, j < i → ad L j ≠ a) (h2 : ad L i = a) : fstA a L = i := by
  induction L generalizing i with
  | nil => simp at hi
  | cons x L ih =>
    unfold fstA
    cases i with
    | zero => exact if_pos h2
    | succ i =>
      rw [if_neg (show ¬ x.1 = a from h1 0 (by omega)), ih (by simpa using hi) (fun j hj => h1 (j + 1) (by omega)) h2]
theorem fst_none {a : Int} {L : List Pe} (h : ∀ j, j < L.length → ad L j ≠ a) : fstA a L = L.length := by
  induction L with
  | nil => rfl
  | cons x L ih =>
    unfold fstA
    rw [if_neg (show ¬ x.1 = a from h 0 (by simp)), ih fun j hj => h (j + 1) (by simp; omega)]; rfl
theorem fst_has (a : Int) (L : List Pe) : decide (fstA a L < L.length) = hasB L a := by
  induction L with
  | nil => rfl
  | cons x L ih =>
    unfold fstA hasB
    rw [List.any_cons]
    by_cases h : x.1 = a
    · simp [h]
    · rw [if_neg h, decide_eq_false h, Bool.false_or, ← hasB, ← ih]
      simp
/-- what is told of the place -/
def idxI (a : Int) (L : List Pe) : Int := if fstA a L < L.length then (fstA a L : Nat) else -1
theorem cell_bel {w w' : World} {q j : Nat} {v : Value} (h : w.cell? ⟨q, j, none⟩ = some v) (hb : Below w.heap.size w w') : w'.cell? ⟨q, j, none⟩ = some v :=
  (World.cell?_of_block (a := ⟨q, j, none⟩) (hb.block q (World.block_lt_of_cell? w _ h))).trans h
theorem isH_any {w : World} {q : Nat} {a : Int} (x : Pe) (hq : w.cell? ⟨q, 0, none⟩ = some (.int .i64 a)) : Calls Try.prog 74 #[.agg (peA x), .pointer (some ⟨q, 0, none⟩)] w fun e w' => e = .returned (.bool (decide (x.1 = a))) ∧ Below w.heap.size w w' := by
  have B0 := (Below.refl w.heap.size w).alloc (Nat.le_refl _) (.cells (peA x) 25)
  have c0 := (PB.new w x).A
  have c1 := cell_bel hq B0
  have HB := Lib.hid B0
  rw [← beq_addr]
  clear B0 hq
  go_enter Try.func74, Try.ntmps74
  go_upto_region 1 with (fail)
  generalize w.alloc _ = W at *
  generalize peA x = X at *
  go_wp2
  go_ret
  exact ⟨rfl, HB.out⟩
set_option maxHeartbeats 1000000 in
theorem indexH_any {w : World} {v : Value} {L : List Pe} {q : Nat} {a : Int} (hL : Lies w v L) (hn : L.length ≤ 1000000) (hq : w.cell? ⟨q, 0, none⟩ = some (.int .i64 a)) :
    Calls Try.prog 80 #[v, .func (.func 74) #[] #[.pointer (some ⟨q, 0, none⟩)]] w fun e w' => e = .returned (.int .i64 (idxI a L)) ∧ Below w.heap.size w w' := by
  rcases hL with ⟨rfl, rfl⟩ | ⟨b, o, c, rfl, hc, hr⟩
  · go_enter Try.func80, Try.ntmps80
    go_wp2
    refine wp_loop_rounds 1 ?_
    rw [rounds_succ]
    go_wp2
    go_ret
    exact ⟨rfl, Below.refl _ _⟩
  have HR : Hid (∀ w', Below w.heap.size w w' → ∀ i, i < L.length → w'.rangeAt b (o + i * 21) (peC (ad L i, pn L i))) := fun w' hb i hi => range_bel (row_peer hr (at_get hi)) hb (range_lt (row_peer hr (at_get hi)) (pe_ne _))
  have HQ : Hid (∀ w', Below w.heap.size w w' → w'.cell? ⟨q, 0, none⟩ = some (.int .i64 a)) := fun w' hb => cell_bel hq hb
  clear hr hq hc
  generalize hln : L.length = n at *
  have HN := Lib.hid hln
  clear hln
  go_enter Try.func80, Try.ntmps80
  go_upto_region 2 with (fail)
  go_loopw [5, 8] (fun _ i wr => ∃ k : Nat, i = .int .i64 (k : Int) ∧ k ≤ n ∧ (∀ j, j < k → ad L j ≠ a) ∧ Below w.heap.size w wr) (fun _ i _ => n - (intOf i).toNat)
  case atStart => exact ⟨0, rfl, Nat.zero_le _, fun j hj => by omega, Below.refl _ _⟩
  case round =>
    obtain ⟨k, rfl, hk, hall, hB⟩ := hrel
    have HA := Lib.hid hall
    have HB := Lib.hid hB
    clear hall hB
    by_cases hlt : k < n
    · have r1 := HR.out _ HB.out k hlt
      have HC := Lib.hid (isH_any (ad L k, pn L k) (HQ.out _ HB.out))
      have b1 : (k : Int) < (n : Int) := by omega
      have b2 : (0 : Int) ≤ (k : Int) := by omega
      by_cases hx : ad L k = a
      · have e1 : decide (ad L k = a) = true := decide_eq_true hx
        have e2 : idxI a L = (k : Int) := by
          have h := fst_of (by rw [HN.out]; exact hlt) HA.out hx
          unfold idxI; rw [h, if_pos (by rw [HN.out]; exact hlt)]
        have HE2 := Lib.hid e2
        dsimp only at HC
        rw [e1] at HC
        clear e1 e2 hx HA
        generalize (ad L k, pn L k) = x at *
        go_wp2_with (first
          | (refine p_midP rfl _ rfl b (o + k * 21) rfl x r1 ?_)
          | (go_at_call 74; (with_reducible refine HC.out.mono ?_); rintro e w1 ⟨rfl, k1⟩; have HB2 := Lib.hid (step HB.out k1); clear k1))
        go_ret
        exact ⟨by rw [HE2.out]; rfl, HB2.out⟩
      · have e1 : decide (ad L k = a) = false := decide_eq_false hx
        have hall : ∀ j, j < k + 1 → ad L j ≠ a := fun j hj => by
          rcases Nat.lt_or_ge j k with h | h
          · exact HA.out j h
          · obtain rfl : j = k := by omega
            exact hx
        have HA2 := Lib.hid hall
        dsimp only at HC
        rw [e1] at HC
        clear e1 hx HA hall
        generalize (ad L k, pn L k) = x at *
        have s2 : IntKind.i64.wrap ((k : Int) + 1) = (k : Int) + 1 := IntWalk.i64_in _ (by omega)
        go_wp2_with (first
          | (refine p_midP rfl _ rfl b (o + k * 21) rfl x r1 ?_)
          | (go_at_call 74; (with_reducible refine HC.out.mono ?_); rintro e w1 ⟨rfl, k1⟩; have HB2 := Lib.hid (step HB.out k1); clear k1))
        exact ⟨⟨k + 1, by go_num, by omega, HA2.out, HB2.out⟩, by simp [intOf]; omega⟩
    · obtain rfl : k = n := by omega
      have e2 : idxI a L = -1 := by
        have h := fst_none (a := a) (L := L) (by rw [HN.out]; exact HA.out)
        unfold idxI; rw [h, if_neg (Nat.lt_irrefl _)]
      have HE2 := Lib.hid e2
      clear e2
      go_wp2
      go_ret
      exact ⟨by rw [HE2.out]; rfl, HB.out⟩
theorem isF_any {w : World} {q : Nat} {a : Int} (x : Pe) (hq : w.cell? ⟨q, 0, none⟩ = some (.int .i64 a)) : Calls Try.prog 68 #[.agg (peA x), .pointer (some ⟨q, 0, none⟩)] w fun e w' => e = .returned (.bool (decide (x.1 = a))) ∧ Below w.heap.size w w' := by
  have B0 := (Below.refl w.heap.size w).alloc (Nat.le_refl _) (.cells (peA x) 25)
  have c0 := (PB.new w x).A
  have c1 := cell_bel hq B0
  have HB := Lib.hid B0
  rw [← beq_addr]
  clear B0 hq
  go_enter Try.func68, Try.ntmps68
  go_upto_region 1 with (fail)
  generalize w.alloc _ = W at *
  generalize peA x = X at *
  go_wp2
  go_ret
  exact ⟨rfl, HB.out⟩
set_option maxHeartbeats 1000000 in
theorem indexF_any {w : World} {v : Value} {L : List Pe} {q : Nat} {a : Int} (hL : Lies w v L) (hn : L.length ≤ 1000000) (hq : w.cell? ⟨q, 0, none⟩ = some (.int .i64 a)) :
    Calls Try.prog 80 #[v, .func (.func 68) #[] #[.pointer (some ⟨q, 0, none⟩)]] w fun e w' => e = .returned (.int .i64 (idxI a L)) ∧ Below w.heap.size w w' := by
  rcases hL with ⟨rfl, rfl⟩ | ⟨b, o, c, rfl, hc, hr⟩
  · go_enter Try.func80, Try.ntmps80
    go_wp2
    refine wp_loop_rounds 1 ?_
    rw [rounds_succ]
    go_wp2
    go_ret
    exact ⟨rfl, Below.refl _ _⟩
  have HR : Hid (∀ w', Below w.heap.size w w' → ∀ i, i < L.length → w'.rangeAt b (o + i * 21) (peC (ad L i, pn L i))) := fun w' hb i hi => range_bel (row_peer hr (at_get hi)) hb (range_lt (row_peer hr (at_get hi)) (pe_ne _))
  have HQ : Hid (∀ w', Below w.heap.size w w' → w'.cell? ⟨q, 0, none⟩ = some (.int .i64 a)) := fun w' hb => cell_bel hq hb
  clear hr hq hc
  generalize hln : L.length = n at *
  have HN := Lib.hid hln
  clear hln
  go_enter Try.func80, Try.ntmps80
  go_upto_region 2 with (fail)
  go_loopw [5, 8] (fun _ i wr => ∃ k : Nat, i = .int .i64 (k : Int) ∧ k ≤ n ∧ (∀ j, j < k → ad L j ≠ a) ∧ Below w.heap.size w wr) (fun _ i _ => n - (intOf i).toNat)
  case atStart => exact ⟨0, rfl, Nat.zero_le _, fun j hj => by omega, Below.refl _ _⟩
  case round =>
    obtain ⟨k, rfl, hk, hall, hB⟩ := hrel
    have HA := Lib.hid hall
    have HB := Lib.hid hB
    clear hall hB
    by_cases hlt : k < n
    · have r1 := HR.out _ HB.out k hlt
      have HC := Lib.hid (isF_any (ad L k, pn L k) (HQ.out _ HB.out))
      have b1 : (k : Int) < (n : Int) := by omega
      have b2 : (0 : Int) ≤ (k : Int) := by omega
      by_cases hx : ad L k = a
      · have e1 : decide (ad L k = a) = true := decide_eq_true hx
        have e2 : idxI a L = (k : Int) := by
          have h := fst_of (by rw [HN.out]; exact hlt) HA.out hx
          unfold idxI; rw [h, if_pos (by rw [HN.out]; exact hlt)]
        have HE2 := Lib.hid e2
        dsimp only at HC
        rw [e1] at HC
        clear e1 e2 hx HA
        generalize (ad L k, pn L k) = x at *
        go_wp2_with (first
          | (refine p_midP rfl _ rfl b (o + k * 21) rfl x r1 ?_)
          | (go_at_call 68; (with_reducible refine HC.out.mono ?_); rintro e w1 ⟨rfl, k1⟩; have HB2 := Lib.hid (step HB.out k1); clear k1))
        go_ret
        exact ⟨by rw [HE2.out]; rfl, HB2.out⟩
      · have e1 : decide (ad L k = a) = false := decide_eq_false hx
        have hall : ∀ j, j < k + 1 → ad L j ≠ a := fun j hj => by
          rcases Nat.lt_or_ge j k with h | h
          · exact HA.out j h
          · obtain rfl : j = k := by omega
            exact hx
        have HA2 := Lib.hid hall
        dsimp only at HC
        rw [e1] at HC
        clear e1 hx HA hall
        generalize (ad L k, pn L k) = x at *
        have s2 : IntKind.i64.wrap ((k : Int) + 1) = (k : Int) + 1 := IntWalk.i64_in _ (by omega)
        go_wp2_with (first
          | (refine p_midP rfl _ rfl b (o + k * 21) rfl x r1 ?_)
          | (go_at_call 68; (with_reducible refine HC.out.mono ?_); rintro e w1 ⟨rfl, k1⟩; have HB2 := Lib.hid (step HB.out k1); clear k1))
        exact ⟨⟨k + 1, by go_num, by omega, HA2.out, HB2.out⟩, by simp [intOf]; omega⟩
    · obtain rfl : k = n := by omega
      have e2 : idxI a L = -1 := by
        have h := fst_none (a := a) (L := L) (by rw [HN.out]; exact HA.out)
        unfold idxI; rw [h, if_neg (Nat.lt_irrefl _)]
      have HE2 := Lib.hid e2
      clear e2
      go_wp2
      go_ret
      exact ⟨by rw [HE2.out]; rfl, HB.out⟩
/-- those of an address are left out -/
def delL (a : Int) (L : List Pe) : List Pe := L.filter fun x => !decide (x.1 = a)
theorem del_snoc (a : Int) (L : List Pe) (x : Pe) : delL a (L ++ [x]) = delL a L ++ if x.1 = a then [] else [x] := by
  unfold delL
  rw [List.filter_append]
  congr 1
  by_cases h : x.1 = a <;> simp [h]
theorem del_all {a : Int} {L : List Pe} (h : ∀ j, j < L.length → ad L j ≠ a) : delL a L = L := by
  unfold delL
  rw [List.filter_eq_self]
  intro x hx
  obtain ⟨i, hi, rfl⟩ := List.getElem_of_mem hx
  have := h i hi
  rw [ad_get hi] at this
  simpa using this
theorem ad_fst {a : Int} {L : List Pe} {j : Nat} (h : j < fstA a L) : ad L j ≠ a := by
  induction L generalizing j with
  | nil => simp [fstA] at h
  | cons x L ih =>
    unfold fstA at h
    by_cases hx : x.1 = a
    · rw [if_pos hx] at h; omega
    · rw [if_neg hx] at h
      cases j with
      | zero => exact hx
      | succ j => exact ih (by omega)
theorem ad_at {a : Int} {L : List Pe} (h : fstA a L < L.length) : ad L (fstA a L) = a := by
  induction L with
  | nil => simp at h
  | cons x L ih =>
    unfold fstA at h ⊢
    by_cases hx : x.1 = a
    · rw [if_pos hx]; exact hx
    · rw [if_neg hx] at h ⊢
      exact ih (by simpa using h)
theorem seg_ad {f : Nat → Pe} {n j : Nat} (h : j < n) : ad (seg f 0 n) j = (f j).1 := by
  rw [ad_of (seg_get f 0 n j (by omega)), Nat.zero_add]
set_option maxHeartbeats 4000000 in
theorem delete_any {w : World} {b o c n q : Nat} {a : Int} {f : Nat → Pe} (h : Dat w b o f n) (hn : n ≤ 1000) (hc : n ≤ c) (hq : w.cell? ⟨q, 0, none⟩ = some (.int .i64 a)) (hqb : q ≠ b) :
    Calls Try.prog 67 #[.slice (some ⟨b, o, none⟩) n c, .func (.func 68) #[] #[.pointer (some ⟨q, 0, none⟩)]] w fun r w' =>
      ∃ k g, r = .returned (.slice (some ⟨b, o, none⟩) k c) ∧ k ≤ n ∧ Dat w' b o g k ∧ w.grownBy w' (some b) ∧ seg g 0 k = delL a (seg f 0 n) := by
  have HC := Lib.hid (indexF_any (h.lies hc) (by rw [seg_length]; omega) hq)
  have H := Lib.hid h
  have HQ : Hid (∀ w', w.grownBy w' (some b) → w'.cell? ⟨q, 0, none⟩ = some (.int .i64 a)) := fun w' hg =>
    (World.cell?_of_block (a := ⟨q, 0, none⟩) (hg.block q (World.block_lt_of_cell? w _ hq) (by simpa using hqb))).trans hq
  clear h hq
  by_cases hk : fstA a (seg f 0 n) < n
  rotate_left
  · have e1 : idxI a (seg f 0 n) = -1 := by unfold idxI; rw [seg_length, if_neg (by omega)]
    have hle := fst_le a (seg f 0 n)
    rw [seg_length] at hle
    have e2 : delL a (seg f 0 n) = seg f 0 n := del_all fun j hj => ad_fst (by rw [seg_length] at hj; omega)
    have HE := Lib.hid e2
    rw [e1] at HC
    clear e1 e2 hle hk
    go_enter Try.func67, Try.ntmps67
    go_wp2_with (go_at_call 80; (with_reducible refine HC.out.mono ?_); rintro e w1 ⟨rfl, k1⟩; have HB := Lib.hid k1; clear k1)
    go_ret
    exact ⟨n, f, rfl, Nat.le_refl _, H.out.bel HB.out, bel_grown HB.out _, HE.out.symm⟩
  · obtain ⟨i0, hi0⟩ : ∃ i0, i0 = fstA a (seg f 0 n) := ⟨_, rfl⟩
    have e1 : idxI a (seg f 0 n) = (i0 : Int) := by unfold idxI; rw [seg_length, Nat.sub_zero, if_pos hk, hi0]
    have HA0 : Hid (delL a (seg f 0 (i0 + 1)) = seg f 0 i0) := by
      have h1 : (f i0).1 = a := by
        have := ad_at (a := a) (L := seg f 0 n) (by rw [seg_length]; exact hk)
        rwa [← hi0, seg_ad (by omega)] at this
      have h2 : delL a (seg f 0 i0) = seg f 0 i0 := del_all fun j hj => by
        rw [seg_length] at hj
        have := ad_fst (a := a) (L := seg f 0 n) (j := j) (by omega)
        rw [seg_ad (by omega)] at this
        rwa [seg_ad (by omega)]
      show delL a (seg f 0 (i0 + 1)) = _
      rw [seg_split f (show 0 ≤ i0 by omega) (show i0 ≤ i0 + 1 by omega), seg_one, del_snoc, if_pos h1, List.append_nil, h2]
    rw [e1] at HC
    rw [← hi0] at hk
    clear e1 hi0
    have s0 : IntKind.i64.wrap ((i0 : Int) + 1) = (i0 : Int) + 1 := IntWalk.i64_in _ (by omega)
    have hi1 : ((i0 : Int) == -1) = false := by rw [beq_addr]; exact decide_eq_false (by omega)
    go_enter Try.func67, Try.ntmps67
    go_upto_region 5 with (go_at_call 80; (with_reducible refine HC.out.mono ?_); rintro e w1 ⟨rfl, k1⟩; have HB := Lib.hid k1; clear k1)
    clear HC hi1 s0
    go_loopw [5, 6, 7] (fun x y _ wv => ∃ (i j : Nat) (g : Nat → Pe), x = .int .i64 (i : Int) ∧ y = .int .i64 (j : Int) ∧ i < j ∧ j ≤ n ∧ Dat wv b o g n ∧ w.grownBy wv (some b) ∧ delL a (seg f 0 j) = seg g 0 i ∧ ∀ q, i ≤ q → q < n → g q = f q) (fun _ y _ _ => n - (intOf y).toNat)
    case atStart => exact ⟨i0, i0 + 1, f, rfl, by go_num, by omega, by omega, H.out.bel HB.out, bel_grown HB.out _, HA0.out, fun _ _ _ => rfl⟩
    case round =>
      clear HA0 H HB
      obtain ⟨i, j, g, rfl, rfl, hij, hj, hD, hG, hS, hE⟩ := hrel
      have HD := Lib.hid hD
      have HG := Lib.hid hG
      have HS := Lib.hid hS
      have HE := Lib.hid hE
      clear hD hG hS hE
      by_cases hlt : j < n
      · have r1 := HD.out.at (i := j) hlt
        rw [HE.out j (by omega) hlt] at r1
        have b1 : (j : Int) < (n : Int) := by omega
        have b2 : (0 : Int) ≤ (j : Int) := by omega
        have s2 : IntKind.i64.wrap ((j : Int) + 1) = (j : Int) + 1 := IntWalk.i64_in _ (by omega)
        have s3 : IntKind.i64.wrap ((i : Int) + 1) = (i : Int) + 1 := IntWalk.i64_in _ (by omega)
        have B1 := (Below.refl wr.heap.size wr).alloc (Nat.le_refl _) (.cells (peA (f j)) 25)
        have X1 := (PB.new wr (f j)).range
        have G1 := Lib.hid (grownBy_trans HG.out (bel_grown B1 (some b)))
        have D1 := Lib.hid (HD.out.bel B1)
        have Q1 := HQ.out _ G1.out
        have HI := Lib.hid (isF_any (f j) Q1)
        clear B1 Q1
        by_cases hx : (f j).1 = a
        · have e1 : decide ((f j).1 = a) = true := decide_eq_true hx
          have c1 : delL a (seg f 0 (j + 1)) = seg g 0 i := by
            rw [seg_split f (show 0 ≤ j by omega) (show j ≤ j + 1 by omega), seg_one, del_snoc, if_pos hx, List.append_nil]; exact HS.out
          have HC1 := Lib.hid c1
          rw [e1] at HI
          clear e1 c1 hx HS
          generalize f j = x at *
          go_upto_region 8 with (first | (refine p_midP rfl _ rfl b (o + j * 21) rfl x r1 ?_) | (refine p_storeP rfl rfl _ _ rfl x rfl rfl ?_))
          clear r1
          generalize wr.alloc _ = W1 at *
          generalize wr.heap.size = g1 at *
          go_wp2_with (first
            | (refine p_midP rfl _ rfl g1 0 rfl x X1 ?_)
            | (go_at_call 68; (with_reducible refine HI.out.mono ?_); rintro e w2 ⟨rfl, k2⟩; have HB2 := Lib.hid k2; clear k2))
          exact ⟨⟨i, j + 1, g, rfl, by go_num, by omega, by omega, D1.out.bel HB2.out, grownBy_trans G1.out (bel_grown HB2.out _), HC1.out, HE.out⟩, by simp [intOf]; omega⟩
        · have e1 : decide ((f j).1 = a) = false := decide_eq_false hx
          have c1 : delL a (seg f 0 (j + 1)) = seg (fun q => if q = i then f j else g q) 0 (i + 1) := by
            rw [seg_more, seg_split f (show 0 ≤ j by omega) (show j ≤ j + 1 by omega), seg_one, del_snoc, if_neg hx, HS.out]
          have HC1 := Lib.hid c1
          rw [e1] at HI
          clear e1 c1 hx HS
          generalize f j = x at *
          go_upto_region 8 with (first | (refine p_midP rfl _ rfl b (o + j * 21) rfl x r1 ?_) | (refine p_storeP rfl rfl _ _ rfl x rfl rfl ?_))
          clear r1
          have l1 : wr.heap.size < (wr.alloc (.cells (peA x) 25)).heap.size := by simp
          generalize wr.alloc _ = W1 at *
          generalize wr.heap.size = g1 at *
          go_upto_region 9 with (first
            | (refine p_midP rfl _ rfl g1 0 rfl x X1 ?_)
            | (go_at_call 68; (with_reducible refine HI.out.mono ?_); rintro e w2 ⟨rfl, k2⟩; have HB2 := Lib.hid k2; clear k2))
          have D2 := D1.out.bel HB2.out
          have X2 := range_bel X1 HB2.out l1
          have t1 := D2.thereAt (i := i) (by omega)
          have HD4 := Lib.hid (D2.set (i := i) (by omega) x)
          have HG4 := Lib.hid (grownBy_trans (grownBy_trans G1.out (bel_grown HB2.out (some b))) (grown_set w2 b (o + i * 21) (peC x)))
          have b5 : (i : Int) < (n : Int) := by omega
          have b6 : (0 : Int) ≤ (i : Int) := by omega
          clear D2 D1 G1 HB2 X1 HI
          go_upto_region 10 with (first
            | (refine p_midP rfl _ rfl g1 0 rfl x X2 ?_)
            | (refine wpList_store_mid rfl 25 _ _ rfl b (o + i * 21) (peA x) rfl rfl (by rw [peA_size]; exact t1) (by rw [peA_size]; exact sizeP) (peA_one x) ?_))
          rw [peA_list]
          clear X2 t1
          generalize w2.setCells b (o + i * 21) (peC x) = W4 at *
          go_wp2
          exact ⟨⟨i + 1, j + 1, _, by go_num, by go_num, by omega, by omega, HD4.out, HG4.out, HC1.out, fun q h1 h2 => (if_neg (by omega)).trans (HE.out q (by omega) h2)⟩, by simp [intOf]; omega⟩
      · obtain rfl : j = n := by omega
        have ht := HD.out.restThere (k := i) (by omega)
        have HD2 := Lib.hid (HD.out.cleared hij)
        have HG2 := Lib.hid (grownBy_trans HG.out (grown_set wr b (o + i * 21) (zeroC (j - i))))
        clear HD HG HE
        go_upto_region 12 with (first
          | (refine p_fromS rfl _ _ rfl b o j c i rfl rfl hij hc ?_)
          | (refine p_clearP rfl _ rfl b (o + i * 21) (j - i) (c - i) rfl (by omega) ht ?_))
        clear ht
        generalize wr.setCells b (o + i * 21) (zeroC (j - i)) = W5 at *
        go_wp2_with (refine p_uptoS rfl _ _ rfl b o j c i rfl rfl (by omega) ?_)
        go_ret
        exact ⟨i, g, rfl, by omega, HD2.out, HG2.out, HS.out.symm⟩
theorem idx_has (a : Int) (L : List Pe) : decide (0 ≤ idxI a L) = hasB L a := by
  rw [← fst_has]
  unfold idxI
  split
  · rename_i h; rw [decide_eq_true h]; exact decide_eq_true (by omega)
  · rename_i h; rw [decide_eq_false h]; rfl
theorem containsH_any {w : World} {v : Value} {L : List Pe} {q : Nat} {a : Int} (hL : Lies w v L) (hn : L.length ≤ 1000000) (hq : w.cell? ⟨q, 0, none⟩ = some (.int .i64 a)) :
    Calls Try.prog 73 #[v, .func (.func 74) #[] #[.pointer (some ⟨q, 0, none⟩)]] w fun e w' => e = .returned (.bool (hasB L a)) ∧ Below w.heap.size w w' := by
  have HC := Lib.hid (indexH_any hL hn hq)
  rw [← idx_has]
  clear hL hq
  generalize idxI a L = x at *
  go_enter Try.func73, Try.ntmps73
  go_wp2_with (go_at_call 80; (with_reducible refine HC.out.mono ?_); rintro e w1 ⟨rfl, k1⟩; have HB := Lib.hid k1; clear k1)
  go_ret
  exact ⟨by simp, HB.out⟩
theorem hasAddr_any {w : World} {v : Value} {L : List Pe} (a : Int) (hL : Lies w v L) (hn : L.length ≤ 1000000) :
    Calls Try.prog 46 #[v, .int .i64 a] w fun e w' => e = .returned (.bool (hasB L a)) ∧ Below w.heap.size w w' := by
  have B0 := (Below.refl w.heap.size w).alloc (Nat.le_refl _) (.cells #[.int .i64 a] 3)
  have c0 : (w.alloc (.cells #[.int .i64 a] 3)).cell? ⟨w.heap.size, 0, none⟩ = some (.int .i64 a) := (Blk.new w #[.int .i64 a] 3).cell 0
  have HC := Lib.hid (containsH_any (hL.bel B0) hn c0)
  have HB := Lib.hid B0
  have hmf : ∀ (fn : Fn) (first cap : Array Value) (w : World), (Instr.makeFunc fn first cap).run Try.prog w = .ok (.func fn first cap) w := fun _ _ _ _ => rfl
  clear B0 hL c0
  generalize hasB L a = r at *
  go_enter Try.func46, Try.ntmps46
  go_upto_region 1 with (fail)
  generalize w.alloc _ = W at *
  go_wp2_with (go_at_call 73; (with_reducible refine HC.out.mono ?_); rintro e w1 ⟨rfl, k1⟩; have HB2 := Lib.hid (step HB.out k1); clear k1)
  go_ret
  exact ⟨rfl, HB2.out⟩
end Go.Proofs.Ytkcljbolopephaa
