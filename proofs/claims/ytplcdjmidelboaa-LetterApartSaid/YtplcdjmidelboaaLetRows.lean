/- Rows of numbers and rows of peers: the document's functions that tell whether two are the same, for any two. -/
import Derived.Test.YtplcdjmidelboaaLetIs
namespace Go.Proofs.Ytplcdjmidelboaa
set_option maxRecDepth 100000
open Go Go.RowKit Go.Sort

theorem rows_eq {α : Type} {A B : List α} {n : Nat} (ha : A.length = n) (hb : B.length = n) (h : ∀ i, i < n → A[i]? = B[i]?) : A = B := by
  apply List.ext_getElem?
  intro i
  by_cases hi : i < n
  · exact h i hi
  · rw [List.getElem?_eq_none (by omega), List.getElem?_eq_none (by omega)]
theorem getD_get {A : List Int} {i : Nat} (h : i < A.length) : A[i]? = some (A.getD i 0) := by
  rw [List.getD_eq_getElem?_getD, List.getElem?_eq_getElem h]; rfl

set_option maxHeartbeats 2000000 in
theorem ints_any {w : World} {u v : Value} {A B : List Int} (hA : Nums w u A) (hB : Nums w v B) (hl : A.length ≤ 1000000) (hl2 : B.length ≤ 1000000) :
    Calls Try.prog 47 #[u, v] w fun e w' => e = .returned (.bool (decide (A = B))) ∧ Below w.heap.size w w' := by
  by_cases hab : A.length = B.length
  · obtain ⟨n, hn⟩ : ∃ n, n = A.length := ⟨_, rfl⟩
    have hn2 : n = B.length := by omega
    have HN := Lib.hid hn
    have HN2 := Lib.hid hn2
    generalize hR : decide (A = B) = R
    have HR := Lib.hid hR
    clear hR
    by_cases h0 : 0 < A.length
    · obtain ⟨b1, o1, c1, rfl, r1, l1⟩ := hA.some h0
      obtain ⟨b2, o2, c2, rfl, r2, l2⟩ := hB.some (by omega)
      have HA := Lib.hid r1
      have HB := Lib.hid r2
      rw [← hn] at hl h0 ⊢
      rw [← hn2]
      clear hA hB hn hn2 hl2 hab r1 r2
      go_enter Try.func47, Try.ntmps47
      go_wp2
      go_loopw [5] (fun kv wr => ∃ p : Nat, p ≤ n ∧ kv = .int .i64 p ∧ Below w.heap.size w wr ∧ Hid (∀ j, j < p → A.getD j 0 = B.getD j 0)) (fun kv _ => n - (intOf kv).toNat)
      case atStart => exact ⟨0, by omega, rfl, Below.refl _ _, Lib.hid (fun j hj => absurd hj (by omega))⟩
      case round =>
        obtain ⟨p, hp, rfl, hBe, HJ⟩ := hrel
        have HBe := Lib.hid hBe
        clear hBe
        by_cases hlt : p < n
        · have d1 : wr.cell? ⟨b1, o1 + p, none⟩ = some (.int .i64 (A.getD p 0)) := nums_cell (range_bel HA.out HBe.out l1) (by have := HN.out; omega)
          have d2 : wr.cell? ⟨b2, o2 + p, none⟩ = some (.int .i64 (B.getD p 0)) := nums_cell (range_bel HB.out HBe.out l2) (by have := HN2.out; omega)
          have HB2 := Lib.hid (step HBe.out (drew_bel wr))
          by_cases hxy : A.getD p 0 = B.getD p 0
          · have HJ2 : Hid (∀ j, j < p + 1 → A.getD j 0 = B.getD j 0) := by
              apply Lib.hid
              intro j hj
              rcases Nat.lt_succ_iff_lt_or_eq.1 hj with h | rfl
              · exact HJ.out j h
              · exact hxy
            rw [← hxy] at d2
            clear hxy
            generalize A.getD p 0 = x at d1 d2
            go_wp2
            go_region
            go_wp2
            exact ⟨⟨p + 1, by omega, by go_num, HB2.out, HJ2⟩, by simp [intOf]; omega⟩
          · have e : R = false := by
              rw [← HR.out]
              exact decide_eq_false (by rintro rfl; exact hxy rfl)
            subst e
            have e1 : (A.getD p 0 == B.getD p 0) = false := by simpa using hxy
            have e2 : (A.getD p 0 != B.getD p 0) = true := by simpa using hxy
            generalize A.getD p 0 = x at *
            generalize B.getD p 0 = y at *
            clear hxy HR
            go_wp2
            go_region
            go_wp2
            go_ret
            exact ⟨rfl, HB2.out⟩
        · obtain rfl : n = p := by omega
          have e : R = true := by
            rw [← HR.out]
            refine decide_eq_true (rows_eq HN.out.symm HN2.out.symm (fun i hi => ?_))
            rw [getD_get (by have := HN.out; omega), getD_get (by have := HN2.out; omega), HJ.out i hi]
          subst e
          go_wp2
          go_ret
          exact ⟨rfl, HBe.out⟩
    · obtain ⟨ua, uc, rfl⟩ := hA.form
      obtain ⟨va, vc, rfl⟩ := hB.form
      have hz : A.length = 0 := by omega
      have hz2 : B.length = 0 := by omega
      have e : R = true := by
        rw [← HR.out, List.eq_nil_of_length_eq_zero hz, List.eq_nil_of_length_eq_zero hz2]; rfl
      subst e
      rw [hz, hz2]
      clear hA hB hl hl2 hab hn hn2 HN HN2 HR h0 hz hz2
      go_enter Try.func47, Try.ntmps47
      go_wp2
      refine wp_loop_rounds 1 ?_
      rw [rounds_succ]
      go_wp2
      go_ret
      exact ⟨rfl, Below.refl _ _⟩
  · obtain ⟨ua, uc, rfl⟩ := hA.form
    obtain ⟨va, vc, rfl⟩ := hB.form
    have e : decide (A = B) = false := decide_eq_false (by rintro rfl; exact hab rfl)
    rw [e]
    clear hA hB e
    have e1 : ((A.length : Int) == (B.length : Int)) = false := by simp; omega
    have e2 : ((A.length : Int) != (B.length : Int)) = true := by simp; omega
    generalize A.length = n at *
    generalize B.length = m at *
    clear hab
    go_enter Try.func47, Try.ntmps47
    go_wp2
    go_ret
    exact ⟨rfl, Below.refl _ _⟩

set_option maxHeartbeats 2000000 in
theorem rowps_any {w : World} {u v : Value} {L K : List Pe} (hA : Lies w u L) (hB : Lies w v K) (hl : L.length ≤ 1000000) (hl2 : K.length ≤ 1000000) (hwl : Wf L) (hwk : Wf K) :
    Calls Try.prog 48 #[u, v] w fun e w' => e = .returned (.bool (decide (L = K))) ∧ Below w.heap.size w w' := by
  obtain ⟨ua, uc, rfl⟩ := hA.form
  obtain ⟨va, vc, rfl⟩ := hB.form
  by_cases hab : L.length = K.length
  · obtain ⟨n, hn⟩ : ∃ n, n = L.length := ⟨_, rfl⟩
    have hn2 : n = K.length := by omega
    generalize hR : decide (L = K) = R
    have HR := Lib.hid hR
    clear hR
    have HWL := Lib.hid hwl
    have HWK := Lib.hid hwk
    have HA := Lib.hid hA
    have HB := Lib.hid hB
    rw [← hn] at HA hl ⊢
    rw [← hn2] at HB ⊢
    have HN := Lib.hid hn
    have HN2 := Lib.hid hn2
    clear hA hB hn hn2 hwl hwk hl2 hab
    go_enter Try.func48, Try.ntmps48
    go_wp2
    go_loopw [5] (fun i wr => ∃ p : Nat, p ≤ n ∧ i = .int .i64 p ∧ Below w.heap.size w wr ∧ Hid (∀ j, j < p → L[j]? = K[j]?)) (fun i _ => n - (intOf i).toNat)
    case atStart => exact ⟨0, by omega, rfl, Below.refl _ _, Lib.hid (fun j hj => absurd hj (by omega))⟩
    case round =>
      obtain ⟨p, hp, rfl, hBe, HJ⟩ := hrel
      have HBe := Lib.hid hBe
      clear hBe
      by_cases hlt : p < n
      · have hx := at_get (L := L) (i := p) (by have := HN.out; omega)
        have hy := at_get (L := K) (i := p) (by have := HN2.out; omega)
        obtain ⟨b1, o1, c1, e1, _, _, r1, _⟩ := (HA.out.bel HBe.out).at hx
        obtain ⟨b2, o2, c2, e2, _, _, r2, _⟩ := (HB.out.bel HBe.out).at hy
        rw [← HN.out] at e1
        rw [← HN2.out] at e2
        simp only [Value.slice.injEq, true_and] at e1 e2
        obtain ⟨rfl, rfl⟩ := e1
        obtain ⟨rfl, rfl⟩ := e2
        generalize (ad L p, pn L p) = x at *
        generalize (ad K p, pn K p) = y at *
        generalize hE : (!eqP x y) = E at *
        have HE : Hid (E = false ↔ x = y) := by
          apply Lib.hid
          have h1 : x.2 < M := HWL.out x (List.mem_of_getElem? hx)
          have h2 : y.2 < M := HWK.out y (List.mem_of_getElem? hy)
          rw [← hE, Bool.not_eq_false', eqP_iff h1 h2]
        have HX := Lib.hid hx
        have HY := Lib.hid hy
        clear hx hy
        go_upto_region 6 with (fail)
        refine wp_region_quiet_below (by kernel_rfl) (by kernel_rfl) ?_
        repeat (first
          | go_big_quiet_skip
          | (go_big_quiet_want
             first
             | (first | (refine q_midP _ rfl _ _ rfl x (by with_reducible exact r1) ?_) | (refine q_midP _ rfl _ _ rfl y (by with_reducible exact r2) ?_) | (refine q_neqP _ _ rfl x y rfl rfl hE ?_)
                simp only [Act.put, List.setIfInBounds_toArray, List.set_cons_succ, List.set_cons_zero]
                go_big_quiet_on)
             | (go_big_quiet_op
                first | go_big_quiet_on | go_big_quiet_call (first | fail))))
        refine wpQuiet_nil ?_
        intro w2 hw'
        have hb2 := quiet_end hw'
        clear hw'
        have HB2 := Lib.hid (step HBe.out hb2)
        clear hb2 r1 r2 hE
        cases E with
        | false =>
          have HJ2 : Hid (∀ j, j < p + 1 → L[j]? = K[j]?) := by
            apply Lib.hid
            intro j hj
            rcases Nat.lt_succ_iff_lt_or_eq.1 hj with h | rfl
            · exact HJ.out j h
            · rw [HX.out, HY.out, HE.out.1 rfl]
          go_wp2
          exact ⟨⟨p + 1, by omega, by go_num, HB2.out, HJ2⟩, by simp [intOf]; omega⟩
        | true =>
          have e : R = false := by
            rw [← HR.out]
            refine decide_eq_false (fun h => ?_)
            have hxy : x = y := by have h1 := HX.out; rw [h, HY.out] at h1; exact (Option.some.inj h1).symm
            exact absurd (HE.out.2 hxy) (by decide)
          subst e
          go_wp2
          go_ret
          exact ⟨rfl, HB2.out⟩
      · obtain rfl : n = p := by omega
        have e : R = true := by
          rw [← HR.out]
          exact decide_eq_true (rows_eq HN.out.symm HN2.out.symm (fun i hi => HJ.out i hi))
        subst e
        go_wp2
        go_ret
        exact ⟨rfl, HBe.out⟩
  · have e : decide (L = K) = false := decide_eq_false (by rintro rfl; exact hab rfl)
    rw [e]
    clear hA hB e hwl hwk
    have e1 : ((L.length : Int) == (K.length : Int)) = false := by simp; omega
    have e2 : ((L.length : Int) != (K.length : Int)) = true := by simp; omega
    generalize L.length = n at *
    generalize K.length = m at *
    clear hab
    go_enter Try.func48, Try.ntmps48
    go_wp2
    go_ret
    exact ⟨rfl, Below.refl _ _⟩
end Go.Proofs.Ytplcdjmidelboaa
