/- The document's map: Min, Max, Range. -/
import Derived.Test.YtbjlappppbaohaaSorRef3
namespace Go.Proofs.Ytbjlappppbaohaa
open Go Go.RowKit Go.Sort

set_option maxHeartbeats 1000000 in
theorem refmin_any {w : World} {g : Nat} {v : Value} {L : List It} (h : Rp w g v L) : Calls Try.prog 27 #[.pointer (some ⟨g, 0, none⟩)] w fun e w' => e = .returned (.tuple #[.agg (itC (minL L).1 (minL L).2), .bool (decide (0 < L.length))]) ∧ Below w.heap.size w w' := by
  have bel := (Below.refl w.heap.size w).alloc (Nat.le_refl _) (.cells (itC 0 ⟨#[]⟩) 46)
  have hb := Blk.new w (itC 0 ⟨#[]⟩) 46
  have HM := Lib.hid h
  have hg := Mp.lt h
  clear h
  cases L with
  | nil =>
    obtain ⟨a, c, hv, c0⟩ := Mp.form HM.out bel
    clear hv
    have c0 : (w.alloc (.cells (itC 0 ⟨#[]⟩) 46)).cell? ⟨g, 0, none⟩ = some (.slice a 0 c) := c0
    go_enter Try.func27, Try.ntmps27
    go_upto_region 1 with (fail)
    rw [it_zero]
    generalize w.alloc _ = W at *
    go_wp2_with (refine p_storeA rfl _ _ rfl w.heap.size rfl 0 ⟨#[]⟩ rfl (itC 0 ⟨#[]⟩) rfl hb ?_)
    exact bodyPost_ret (results_it Try.results27 _ _ w.heap.size 0 ⟨#[]⟩ false rfl rfl (hb.setRow _)) rfl ⟨rfl, bel_setRow bel (Nat.le_refl _) _⟩
  | cons x L =>
    obtain ⟨b, c, rfl, hb1, hn, c0, c1, c2, hr⟩ := Mp.at HM.out bel (i := 0) (x := x) rfl
    have hd : decide (0 < (x :: L).length) = true := by simp
    have hx : minL (x :: L) = x := rfl
    obtain ⟨n, hn0⟩ : ∃ n, n = (x :: L).length := ⟨_, rfl⟩
    have hpos : 0 < n := by rw [hn0]; simp
    rw [hd, hx]
    rw [← hn0] at c0
    rw [Nat.zero_mul] at hr
    go_enter Try.func27, Try.ntmps27
    go_upto_region 1 with (fail)
    rw [it_zero]
    generalize w.alloc _ = W at *
    clear hd hx hn0
    go_wp2_with (first
      | (refine p_midA rfl _ rfl b 0 rfl x.1 x.2 hr ?_)
      | (refine p_storeA rfl _ _ rfl w.heap.size rfl x.1 x.2 rfl (itC 0 ⟨#[]⟩) rfl hb ?_))
    exact bodyPost_ret (results_it Try.results27 _ _ w.heap.size x.1 x.2 true rfl rfl (hb.setRow _)) rfl ⟨rfl, bel_setRow bel (Nat.le_refl _) _⟩
set_option maxHeartbeats 1000000 in
theorem refmax_any {w : World} {g : Nat} {v : Value} {L : List It} (h : Rp w g v L) : Calls Try.prog 28 #[.pointer (some ⟨g, 0, none⟩)] w fun e w' => e = .returned (.tuple #[.agg (itC (maxL L).1 (maxL L).2), .bool (decide (0 < L.length))]) ∧ Below w.heap.size w w' := by
  have bel := (Below.refl w.heap.size w).alloc (Nat.le_refl _) (.cells (itC 0 ⟨#[]⟩) 46)
  have hb := Blk.new w (itC 0 ⟨#[]⟩) 46
  have HM := Lib.hid h
  have hg := Mp.lt h
  clear h
  rcases Nat.eq_zero_or_pos L.length with h0 | hpos
  · obtain rfl := List.eq_nil_of_length_eq_zero h0
    obtain ⟨a, c, hv, c0⟩ := Mp.form HM.out bel
    clear hv
    have c0 : (w.alloc (.cells (itC 0 ⟨#[]⟩) 46)).cell? ⟨g, 0, none⟩ = some (.slice a 0 c) := c0
    go_enter Try.func28, Try.ntmps28
    go_upto_region 1 with (fail)
    rw [it_zero]
    generalize w.alloc _ = W at *
    go_wp2_with (refine p_storeA rfl _ _ rfl w.heap.size rfl 0 ⟨#[]⟩ rfl (itC 0 ⟨#[]⟩) rfl hb ?_)
    exact bodyPost_ret (results_it Try.results28 _ _ w.heap.size 0 ⟨#[]⟩ false rfl rfl (hb.setRow _)) rfl ⟨rfl, bel_setRow bel (Nat.le_refl _) _⟩
  · have hx : L[L.length - 1]? = some (maxL L) := by
      unfold maxL
      rw [List.getLastD_eq_getLast?, ← List.getLast?_eq_getElem?]
      cases hq : L.getLast? with
      | none => rw [List.getLast?_eq_none_iff] at hq; subst hq; simp at hpos
      | some y => rfl
    obtain ⟨b, c, rfl, hb1, hn, c0, c1, c2, hr⟩ := Mp.at HM.out bel hx
    have hd : decide (0 < L.length) = true := by simpa using hpos
    have hlen := Mp.len HM.out
    rw [hd]
    obtain ⟨n, hn0⟩ : ∃ n, n + 1 = L.length := ⟨L.length - 1, by omega⟩
    rw [← hn0] at c0 hlen c1 c2
    rw [Nat.add_sub_cancel] at c1 c2
    generalize maxL L = x at *
    go_enter Try.func28, Try.ntmps28
    go_upto_region 1 with (fail)
    rw [it_zero]
    generalize w.alloc _ = W at *
    clear hd hx hn0 hpos hr
    have hn1 : ¬ ((n : Int) + 1 = 0) := by omega
    have hw : IntKind.i64.wrap ((n : Int) + 1 - 1) = (n : Int) := by rw [IntKind.wrap_i64]; omega
    go_upto_region 3 with (fail)
    have hwn : IntKind.i64.wrap (n : Int) = (n : Int) := IntWalk.i64_in _ (by omega)
    have hbn : (n : Int) < (n : Int) + 1 := by omega
    refine wp_region_tail0 12 (by kernel_rfl) (by kernel_rfl) (fun _ _ _ _ _ h => h) ?_
    simp only [List.take_succ_cons, List.take_zero, List.drop_succ_cons, List.drop_zero]
    repeat still_step
    refine wpStill_nil ?_
    go_wp2_with (refine p_storeA rfl _ _ rfl w.heap.size rfl x.1 x.2 rfl (itC 0 ⟨#[]⟩) rfl hb.drew ?_)
    exact bodyPost_ret (results_it Try.results28 _ _ w.heap.size x.1 x.2 true rfl rfl (hb.drew.setRow _)) rfl ⟨rfl, bel_setRow (w := W.drew) (bel.trans ⟨rfl, rfl, rfl, Nat.le_refl _, fun _ _ => rfl⟩) (Nat.le_refl _) _⟩
theorem refrange_back (g lo hi : Nat) (most : Int) (h : hi < lo) (w : World) : Calls Try.prog 26 #[.pointer (some ⟨g, 0, none⟩), .int .u64 (lo : Int), .int .u64 (hi : Int), .int .i64 most] w fun e w' => e = .returned (.tuple #[.slice none 0 0, .int .i64 5]) ∧ w = w' := by
  go_enter Try.func26, Try.ntmps26
  go_wp2
  go_ret2
  exact ⟨rfl, rfl⟩
theorem refrange_neg (g lo hi : Nat) (most : Int) (h : ¬ hi < lo) (hm : most < 0) (w : World) : Calls Try.prog 26 #[.pointer (some ⟨g, 0, none⟩), .int .u64 (lo : Int), .int .u64 (hi : Int), .int .i64 most] w fun e w' => e = .returned (.tuple #[.slice none 0 0, .int .i64 1]) ∧ w = w' := by
  go_enter Try.func26, Try.ntmps26
  go_wp2
  go_ret2
  exact ⟨rfl, rfl⟩
theorem range_take1 {L : List It} {p : Nat} {x : It} (lo hi : Nat) (hx : L[p]? = some x) : rangeL (L.take (p + 1)) lo hi = if lo ≤ x.1 ∧ x.1 ≤ hi then rangeL (L.take p) lo hi ++ [x] else rangeL (L.take p) lo hi := by
  obtain ⟨hp, rfl⟩ := List.getElem?_eq_some_iff.1 hx
  rw [List.take_succ_eq_append_getElem hp]
  unfold rangeL
  rw [List.filter_append]
  by_cases h : lo ≤ L[p].1 ∧ L[p].1 ≤ hi
  · rw [if_pos h, List.filter_cons_of_pos (by simpa using h)]; rfl
  · rw [if_neg h, List.filter_cons_of_neg (by simpa using h)]; simp
theorem range_stop {L : List It} {p lo hi most : Nat} (h : (rangeL (L.take p) lo hi).length ≤ most) (hs : p = L.length ∨ (rangeL (L.take p) lo hi).length = most) : rangeL (L.take p) lo hi = (rangeL L lo hi).take most := by
  rcases hs with rfl | hs
  · rw [List.take_length] at h ⊢
    rw [List.take_of_length_le h]
  · have e : rangeL L lo hi = rangeL (L.take p) lo hi ++ rangeL (L.drop p) lo hi := by
      unfold rangeL
      rw [← List.filter_append, List.take_append_drop]
    rw [e, ← hs, List.take_left]
set_option maxHeartbeats 4000000 in
theorem refrange_any {w : World} {g : Nat} {v : Value} {L : List It} (h : Rp w g v L) (lo hi most : Nat) (hlh : ¬ hi < lo) (hms : most ≤ 9223372036854775807) :
    Calls Try.prog 26 #[.pointer (some ⟨g, 0, none⟩), .int .u64 (lo : Int), .int .u64 (hi : Int), .int .i64 (most : Int)] w fun e w' => ∃ u, e = .returned (.tuple #[u, .int .i64 0]) ∧ w'.ownsRow w.heap.size 46 2 u ((rangeL L lo hi).take most).length (flat ((rangeL L lo hi).take most)) ∧ Below w.heap.size w w' := by
  have HM := Lib.hid h
  have hlen := Mp.len h
  obtain ⟨a, c, hv, _⟩ := Mp.form h (Below.refl _ _)
  obtain ⟨n, hn⟩ : ∃ n, n = L.length := ⟨_, rfl⟩
  rw [← hn] at hlen hv
  have HN := Lib.hid hn
  have HV := Lib.hid hv
  clear h hn hv
  have hneg : ¬ (most : Int) < 0 := by omega
  go_enter Try.func26, Try.ntmps26
  go_wp2
  go_loopw [10, 11] (fun u i wr => ∃ (p : Nat), p ≤ n ∧ i = .int .i64 p ∧ wr.ownsRow w.heap.size 46 2 u (rangeL (L.take p) lo hi).length (flat (rangeL (L.take p) lo hi)) ∧ Below w.heap.size w wr ∧ (rangeL (L.take p) lo hi).length ≤ most) (fun _ i _ => n - (intOf i).toNat)
  case atStart => exact ⟨0, by omega, rfl, World.ownsRow_nil _ _ _ _, Below.refl _ _, Nat.zero_le _⟩
  case round =>
    obtain ⟨p, hp, rfl, hO, hB, hle⟩ := hrel
    have HB := Lib.hid hB
    obtain ⟨oa, oc, rfl⟩ := own_form hO
    have HO := Lib.hid hO
    clear hO hB
    obtain ⟨a2, c2, hv2, c0⟩ := Mp.form HM.out HB.out
    obtain ⟨rfl, rfl⟩ : a = a2 ∧ c = c2 := by
      have := HV.out.symm.trans hv2
      simp only [Value.slice.injEq] at this
      exact ⟨this.1, this.2.2⟩
    rw [← HN.out] at c0
    clear hv2
    have hql : (rangeL (L.take p) lo hi).length ≤ p := Nat.le_trans (range_len _ _ _) (by rw [List.length_take]; omega)
    by_cases hlt : p < n
    · by_cases hfull : (rangeL (L.take p) lo hi).length < most
      · obtain ⟨x, hx⟩ : ∃ x, L[p]? = some x := ⟨_, List.getElem?_eq_getElem (by have := HN.out; omega)⟩
        obtain ⟨b, c', hv', d1, d2, d3, c1, c2, d4⟩ := Mp.at HM.out HB.out hx
        clear d1 d2 d3 d4
        obtain rfl : a = some ⟨b, 0, none⟩ := by
          have := HV.out.symm.trans hv'
          simp only [Value.slice.injEq] at this
          exact this.1
        have hdt := range_take1 lo hi hx
        clear hx hv'
        by_cases hk : lo ≤ x.1 ∧ x.1 ≤ hi
        · rw [if_pos hk] at hdt
          have HD := Lib.hid hdt
          obtain ⟨hk1, hk2⟩ := hk
          obtain ⟨m, hm⟩ : ∃ m, m = (rangeL (L.take p) lo hi).length := ⟨_, rfl⟩
          have HO2 := HO.out
          rw [← hm] at HO2 hql hfull hle ⊢
          have HO3 := Lib.hid HO2
          have HMm := Lib.hid hm
          have hs2 := HB.out.size
          clear HO2 hm hdt
          go_wp2_with (at_builtin; refine wpList_snocA rfl _ _ rfl w.heap.size _ (rangeL (L.take p) lo hi) m rfl HO3.out HMm.out x.1 x.2 rfl (by omega) HB.out hs2 ?_; intro v' w' h1 h2 h3; have H1 := Lib.hid h1; have H2 := Lib.hid h2; clear h1 h2 h3)
          refine ⟨⟨p + 1, by omega, by go_num, ?_, H2.out, ?_⟩, by simp [intOf]; omega⟩
          · rw [HD.out, List.length_append, ← HMm.out]
            exact H1.out
          · rw [HD.out, List.length_append, ← HMm.out]
            exact hfull
        · rw [if_neg hk] at hdt
          have HD := Lib.hid hdt
          obtain ⟨m, hm⟩ : ∃ m, m = (rangeL (L.take p) lo hi).length := ⟨_, rfl⟩
          rw [← hm] at hql hfull hle ⊢
          have HMm := Lib.hid hm
          clear hm hdt
          by_cases hk1 : lo ≤ x.1
          · have hk2 : ¬ x.1 ≤ hi := fun h => hk ⟨hk1, h⟩
            clear hk
            go_wp2
            exact ⟨⟨p + 1, by omega, by go_num, by rw [HD.out, ← HMm.out]; have := HO.out; rwa [← HMm.out] at this, HB.out, by rw [HD.out, ← HMm.out]; exact hle⟩, by simp [intOf]; omega⟩
          · clear hk
            go_wp2
            exact ⟨⟨p + 1, by omega, by go_num, by rw [HD.out, ← HMm.out]; have := HO.out; rwa [← HMm.out] at this, HB.out, by rw [HD.out, ← HMm.out]; exact hle⟩, by simp [intOf]; omega⟩
      · have HE := Lib.hid (range_stop (L := L) (p := p) (lo := lo) (hi := hi) (most := most) hle (.inr (by omega)))
        obtain ⟨m, hm⟩ : ∃ m, m = (rangeL (L.take p) lo hi).length := ⟨_, rfl⟩
        rw [← hm] at hql hfull hle ⊢
        have HO2 := HO.out
        rw [← hm] at HO2
        have HO3 := Lib.hid HO2
        have HMm := Lib.hid hm
        clear hm HO HO2
        go_wp2
        go_ret2
        exact ⟨_, rfl, by rw [← HE.out, ← HMm.out]; exact HO3.out, HB.out⟩
    · obtain rfl : n = p := by omega
      have HE := Lib.hid (range_stop (L := L) (p := n) (lo := lo) (hi := hi) (most := most) hle (.inl HN.out))
      obtain ⟨m, hm⟩ : ∃ m, m = (rangeL (L.take n) lo hi).length := ⟨_, rfl⟩
      rw [← hm] at hql hle ⊢
      have HO2 := HO.out
      rw [← hm] at HO2
      have HO3 := Lib.hid HO2
      have HMm := Lib.hid hm
      clear hm HO HO2
      go_wp2
      go_ret2
      exact ⟨_, rfl, by rw [← HE.out, ← HMm.out]; exact HO3.out, HB.out⟩
end Go.Proofs.Ytbjlappppbaohaa
