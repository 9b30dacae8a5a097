/- An item is put in the middle of a row: there is room, or there is none. -/
import Derived.Test.YtbjlappppbaohaaSorIns
namespace Go.Proofs.Ytbjlappppbaohaa
open Go Go.RowKit Go.Sort

theorem overlaps_no (w : World) (va vb : Nat) (o n c lb cb : Nat) (A B : Array Value) (hne : va ≠ vb) (ha : Blk w va A 61) (hb : Blk w vb B 61) (hB : B.size ≠ 0) :
    (callFunc 41 #[.slice (some ⟨va, 0, none⟩) n c, .slice (some ⟨vb, o, none⟩) lb cb]).run Try.prog w = .ok (.value (.bool false)) w := by
  have sa : w.shape? va = some (61, A.size) := by unfold World.shape?; rw [ha]
  have sb : w.shape? vb = some (61, B.size) := by unfold World.shape?; rw [hb]
  have hz : ∀ w, (Go.sizeOf 61).run Try.prog w = .ok 2 w := fun w => by
    obtain ⟨i, hi, hs⟩ := Option.map_eq_some_iff.1 sizeI
    simp [Go.sizeOf, typeInfo, hi, hs]
  rw [run_callFunc_extern Try.func41 (by kernel_rfl) (by kernel_rfl) (by kernel_rfl) (e := Extern.SlicesOverlaps.overlaps #[54, 54] #[4]) (by kernel_rfl),
    Lib.run_overlaps_apart w 54 4 61 Try.underlying54 2 hz ⟨va, 0, none⟩ ⟨vb, o, none⟩ n c lb cb hne _ _ _ _ sa sb hB (ha.free 0) (ha.free _)]
  rfl
set_option maxHeartbeats 2000000 in
theorem ins_mid (b c i : Nat) (L : List It) (k : Nat) (s : ByteArray) (vb : Nat) (w : World) (hO : w.ownsRow 0 61 2 (.slice (some ⟨b, 0, none⟩) L.length c) L.length (flat L)) (hi : i < L.length) (hn : L.length ≤ 1000000) (hc : L.length + 1 ≤ c) (hv : Blk w vb (itC k s) 61) (hne : vb ≠ b) :
    Calls Try.prog 38 #[.slice (some ⟨b, 0, none⟩) L.length c, .int .i64 i, .slice (some ⟨vb, 0, none⟩) 1 1] w fun e w' => ∃ v', e = .returned v' ∧ Put w w' (.slice (some ⟨b, 0, none⟩) L.length c) v' (L.take i ++ (k, s) :: L.drop i) := by
  rcases hO.2 with ⟨h, _⟩ | ⟨b', c', cur, h, _, hb, _, hcm, hcs, htake⟩
  · simp at h
  simp only [Value.slice.injEq, Option.some.injEq, Addr.mk.injEq, and_true, true_and] at h
  obtain ⟨rfl, rfl⟩ := h
  have hB : Blk w b cur 61 := hb
  have hm' : maxLen = 9223372036854775807 := rfl
  have hsr : w.rangeAt b 0 (flat L) := by
    rcases own_shape hO with ⟨h, _⟩ | ⟨b', c', h, _, _, hr, _⟩
    · simp at h
    · simp only [Value.slice.injEq, Option.some.injEq, Addr.mk.injEq, and_true, true_and] at h
      obtain ⟨rfl, rfl⟩ := h
      exact hr
  have hsr2 : w.rangeAt b (i * 2) (flat (L.drop i)) := fun j v hj => by
    rw [← flat_drop, List.getElem?_drop] at hj
    have := hsr _ v hj
    rwa [Nat.zero_add] at this
  obtain ⟨C1, hC1⟩ : ∃ C1, C1 = cur.toList.take ((i + 1) * 2) ++ flat (L.drop i) ++ cur.toList.drop ((i + 1) * 2 + (flat (L.drop i)).length) := ⟨_, rfl⟩
  obtain ⟨C2, hC2⟩ : ∃ C2, C2 = C1.take (i * 2) ++ flat [(k, s)] ++ C1.drop (i * 2 + 2) := ⟨_, rfl⟩
  obtain ⟨l1, l2, l3⟩ := ins_room (x := (k, s)) (Nat.le_of_lt hi) (by rw [Array.length_toList]; exact hcs) hc htake C1 C2 hC1 hC2
  have hB1 : Blk (w.drew.setRow b C1.toArray) b C1.toArray 61 := hB.drew.setRow _
  have hV1 : Blk (w.drew.setRow b C1.toArray) vb (itC k s) 61 := hv.drew.setRow_other _ _ hne
  have hvr : (w.drew.setRow b C1.toArray).rangeAt vb 0 (flat [(k, s)]) := fun j u hj => by
    rw [Nat.zero_add, hV1.cell]; simpa [flat, itC] using hj
  have fin : Put w ((w.drew.setRow b C1.toArray).setRow b C2.toArray) (.slice (some ⟨b, 0, none⟩) L.length c) (.slice (some ⟨b, 0, none⟩) (L.length + 1) c) (L.take i ++ (k, s) :: L.drop i) := by
    have hll : (L.take i ++ (k, s) :: L.drop i).length = L.length + 1 := by simp; omega
    refine ⟨?_, ⟨rfl, rfl, rfl, by simp [World.setRow], fun j hj hne => ?_⟩, .inl rfl⟩
    · rw [hll]
      refine ⟨by rw [flat_length, hll], .inr ⟨b, c, C2.toArray, rfl, Nat.zero_le _, hB1.setRow _, hc, hcm, by rw [List.size_toArray]; exact l2, by rw [List.toList_toArray]; exact l3⟩⟩
    · have hj' : j ≠ b := fun e => hne (by rw [e]; rfl)
      rw [Go.setRow_other _ _ _ _ hj', Go.setRow_other _ _ _ _ hj']
      rfl
  have hov : ∀ lb cb, (callFunc 41 #[.slice (some ⟨vb, 0, none⟩) 1 1, .slice (some ⟨b, (i + 1) * 2, none⟩) lb cb]).run Try.prog w = .ok (.value (.bool false)) w := fun lb cb => overlaps_no w vb b _ _ _ lb cb _ _ hne hv hB (by rw [hcs]; omega)
  have hF := flat_length (L.drop i)
  rw [List.length_drop] at hF
  have HF := Lib.hid fin
  have HB := Lib.hid hB
  have HB1 := Lib.hid hB1
  have HS := Lib.hid hsr2
  have HV := Lib.hid hvr
  have HC1 : Hid ((cur.toList.take ((i + 1) * 2) ++ flat (L.drop i) ++ cur.toList.drop ((i + 1) * 2 + (flat (L.drop i)).length)).toArray = C1.toArray) := by unfold Hid; rw [hC1]
  have HC2 : Hid ((C1.toArray.toList.take (i * 2) ++ flat [(k, s)] ++ C1.toArray.toList.drop (i * 2 + (flat [(k, s)]).length)).toArray = C2.toArray) := by unfold Hid; rw [hC2]; rfl
  have HCS := Lib.hid hcs
  have HL1 := Lib.hid l1
  have HFL := Lib.hid hF
  clear fin hB hB1 hsr hsr2 hvr hC1 hC2 l1 l2 l3 hV1 hb htake hO hcm hm' hcs hv hF
  obtain ⟨n, hnL⟩ : ∃ n, n = L.length := ⟨_, rfl⟩
  rw [← hnL] at hi hn hc HF HFL ⊢
  have HNL := Lib.hid hnL
  clear hnL
  have g1 : (i : Int) ≤ n := by omega
  have hb1 : (0 : Int) ≤ (i : Int) + 1 := by omega
  have htn : ((i : Int) + 1).toNat = i + 1 := by omega
  have hb2 : ¬ (c = i + 1) := by omega
  have hb4 : ¬ (c = i) := by omega
  have hb3 : ¬ ((i : Int) = (n : Int)) := by omega
  have hb5 : ¬ (c < n + 1) := by omega
  have hb6 : (i : Int) + 1 ≤ (n : Int) + 1 := by omega
  have hw1 : IntKind.i64.wrap ((i : Int) + 1) = (i : Int) + 1 := IntWalk.i64_in _ (by omega)
  have hw2 : IntKind.i64.wrap ((n : Int) + 1) = (n : Int) + 1 := IntWalk.i64_in _ (by omega)
  go_enter Try.func38, Try.ntmps38
  go_upto_region 15 with (simp only [hov])
  refine wp_region_tail0 8 (by kernel_rfl) (by kernel_rfl) (fun _ _ _ _ _ h => h) ?_
  simp only [List.take_succ_cons, List.take_zero, List.drop_succ_cons, List.drop_zero]
  still_step
  still_step
  still_step
  still_step
  refine wpStill_from rfl 55 _ _ rfl 61 2 Try.underlying55 sizeI b 0 (n + 1) c (i + 1) ((i : Int) + 1) rfl rfl rfl (by omega) ?_
  rw [if_neg hb2, Nat.zero_add]
  still_step
  still_step
  refine wpStill_from rfl 55 _ _ rfl 61 2 Try.underlying55 sizeI b 0 (n + 1) c i (i : Int) rfl rfl rfl (by omega) ?_
  rw [if_neg hb4, Nat.zero_add]
  refine wpStill_nil ?_
  go_upto_region 16 with (refine wpList_copy_any rfl _ _ 55 55 rfl 61 2 Try.underlying55 sizeI b ((i + 1) * 2) _ _ b (i * 2) _ _ (n - i) rfl rfl (by simp only [Nat.min_def]; split <;> omega) cur 61 HB.out.drew (flat (L.drop i)) HFL.out HS.out (by rw [HFL.out, HCS.out]; omega) (flat_one _) C1.toArray HC1.out ?_)
  simp only [Act.put]
  go_wp2_with (refine wpList_copy_any rfl _ _ 55 54 rfl 61 2 Try.underlying55 sizeI b (i * 2) _ _ vb 0 _ _ 1 rfl rfl (by simp only [Nat.min_def]; split <;> omega) C1.toArray 61 HB1.out (flat [(k, s)]) rfl HV.out (by rw [List.size_toArray, HL1.out, flat_length]; show i * 2 + 1 * 2 ≤ c * 2; omega) (flat_one _) C2.toArray HC2.out ?_)
  go_ret
  exact ⟨_, rfl, HF.out⟩
set_option maxHeartbeats 2000000 in
theorem ins_full (b c i : Nat) (L : List It) (k : Nat) (s : ByteArray) (vb : Nat) (w : World) (hO : w.ownsRow 0 61 2 (.slice (some ⟨b, 0, none⟩) L.length c) L.length (flat L)) (hi : i < L.length) (hn : L.length ≤ 1000000) (hc : c < L.length + 1) (hv : Blk w vb (itC k s) 61) :
    Calls Try.prog 38 #[.slice (some ⟨b, 0, none⟩) L.length c, .int .i64 i, .slice (some ⟨vb, 0, none⟩) 1 1] w fun e w' => ∃ v', e = .returned v' ∧ Put w w' (.slice (some ⟨b, 0, none⟩) L.length c) v' (L.take i ++ (k, s) :: L.drop i) := by
  have hbl : b < w.heap.size := (hO.lt b rfl).2
  have hsr : w.rangeAt b 0 (flat L) ∧ L.length ≤ c := by
    rcases own_shape hO with ⟨h, _⟩ | ⟨b', c', h, hc', _, hr, _⟩
    · simp at h
    · simp only [Value.slice.injEq, Option.some.injEq, Addr.mk.injEq, and_true, true_and] at h
      obtain ⟨rfl, rfl⟩ := h
      exact ⟨hr, hc'⟩
  obtain ⟨hsr, hc2⟩ := hsr
  obtain rfl : c = L.length := by omega
  have hsr2 : w.rangeAt b (i * 2) (flat (L.drop i)) := fun j v hj => by
    rw [← flat_drop, List.getElem?_drop] at hj
    have := hsr _ v hj
    rwa [Nat.zero_add] at this
  obtain ⟨i0, hi0, hq⟩ := Option.map_eq_some_iff.1 infoI
  simp only [Prod.mk.injEq] at hq
  obtain ⟨q1, q2, q3⟩ := hq
  have hti : (flat (L.take i)).length = i * 2 := by rw [flat_length, List.length_take]; omega
  have hold : (Builtin.firstCells i0.size i (.slice (some ⟨b, 0, none⟩) i L.length)).run Try.prog w.drew = .ok (flat (L.take i)).toArray w.drew :=
    run_firstCells_some (P := Try.prog) (w := w.drew) i0.size i ⟨b, 0, none⟩ i L.length (flat (L.take i)) (by rw [q2, hti]) (fun j v hj => by
      rw [Addr.add_mid, Nat.zero_add]
      rw [← flat_take, List.getElem?_take] at hj
      split at hj
      · have := hsr j v hj
        rw [Nat.zero_add] at this
        exact this
      · cases hj)
  have hfit := growslice_fits (need := i + (L.length + 1 - i)) (old := L.length) (bytes := i0.bytes) (by omega) (by rw [q3]; omega)
  have hr := Lib.run_append_grow_zeros (P := Try.prog) w 55 3 55 61 i0 _ .i64 .i64 Try.underlying55 Try.underlying3 hi0 q1 (some ⟨b, 0, none⟩) i L.length (flat (L.take i)) hold (L.length + 1 - i) (by omega) (by omega) (by omega) (by omega) (by rw [q3]; omega) hfit
  rw [show i + (L.length + 1 - i) = L.length + 1 by omega] at hr
  obtain ⟨G, hG⟩ : ∃ G, G = grownCap w (L.length + 1) L.length 61 := ⟨_, rfl⟩
  have hGe : L.length + 1 ≤ G := by rw [hG]; exact grownCap_ge ..
  have hGm : G ≤ maxLen := by rw [hG]; exact grownCap_le_maxLen w _ _ _ (by unfold maxLen; omega)
  have hm' : maxLen = 9223372036854775807 := rfl
  rw [← hG] at hr
  obtain ⟨Z, hZ⟩ : ∃ Z, Z = (flat (L.take i)).toArray ++ Builtin.zeroCells (Value.agg #[Value.int IntKind.u64 0, Value.string ⟨#[]⟩]).cells (L.length + 1 - i) ++ Builtin.zeroCells (Value.agg #[Value.int IntKind.u64 0, Value.string ⟨#[]⟩]).cells (G - (L.length + 1)) := ⟨_, rfl⟩
  rw [← hZ] at hr
  have hzc : ∀ q, (Builtin.zeroCells (Value.agg #[Value.int IntKind.u64 0, Value.string ⟨#[]⟩]).cells q).size = q * 2 := fun q => by rw [size_zeroCells]; rfl
  have hZl : Z.toList.length = G * 2 := by rw [Array.length_toList, hZ]; simp only [Array.size_append, List.size_toArray, hti, hzc]; omega
  have hZt : Z.toList.take (i * 2) = flat (L.take i) := by
    rw [hZ]
    simp only [Array.toList_append, List.append_assoc]
    rw [List.take_append_of_le_length (by omega), ← hti, List.take_length]
  obtain ⟨C1, hC1⟩ : ∃ C1, C1 = Z.toList.take (i * 2) ++ flat [(k, s)] ++ Z.toList.drop (i * 2 + 2) := ⟨_, rfl⟩
  obtain ⟨C2, hC2⟩ : ∃ C2, C2 = C1.take ((i + 1) * 2) ++ flat (L.drop i) ++ C1.drop ((i + 1) * 2 + (flat (L.drop i)).length) := ⟨_, rfl⟩
  obtain ⟨l1, l2, l3⟩ := ins_grow (x := (k, s)) (Nat.le_of_lt hi) hZl hGe hZt C1 C2 hC1 hC2
  obtain ⟨W, hW⟩ : ∃ W, W = w.drew.alloc (.cells Z 61) := ⟨_, rfl⟩
  rw [← hW] at hr
  have hB : Blk W w.heap.size Z 61 := by rw [hW]; exact Blk.new w.drew Z _
  have bel : Below w.heap.size w W := by 
    rw [hW]
    have h0 : Below w.heap.size w w.drew := ⟨rfl, rfl, rfl, Nat.le_refl _, fun _ _ => rfl⟩
    exact h0.alloc (Nat.le_refl _) _
  have hV : Blk W vb (itC k s) 61 := hv.below bel hv.lt
  have hB1 : Blk (W.setRow w.heap.size C1.toArray) w.heap.size C1.toArray 61 := hB.setRow _
  have hvr : W.rangeAt vb 0 (flat [(k, s)]) := fun j u hj => by
    rw [Nat.zero_add, hV.cell]; simpa [flat, itC] using hj
  have bel1 : Below w.heap.size w (W.setRow w.heap.size C1.toArray).drew := (bel_setRow bel (Nat.le_refl _) _).trans ⟨rfl, rfl, rfl, Nat.le_refl _, fun _ _ => rfl⟩
  have hsr3 := range_bel hsr2 bel1 hbl
  have bel2 : Below w.heap.size w ((W.setRow w.heap.size C1.toArray).drew.setRow w.heap.size C2.toArray) := bel_setRow bel1 (Nat.le_refl _) _
  have hB2 : Blk ((W.setRow w.heap.size C1.toArray).drew.setRow w.heap.size C2.toArray) w.heap.size C2.toArray 61 := hB1.drew.setRow _
  have fin : Put w ((W.setRow w.heap.size C1.toArray).drew.setRow w.heap.size C2.toArray) (.slice (some ⟨b, 0, none⟩) L.length L.length) (.slice (some ⟨w.heap.size, 0, none⟩) (L.length + 1) G) (L.take i ++ (k, s) :: L.drop i) := by
    have hll : (L.take i ++ (k, s) :: L.drop i).length = L.length + 1 := by simp; omega
    refine ⟨?_, ⟨bel2.os, bel2.tape, bel2.output, bel2.size, fun j hj _ => bel2.block j hj⟩, .inr ⟨_, rfl, Nat.le_refl _⟩⟩
    rw [hll]
    exact ⟨by rw [flat_length, hll], .inr ⟨w.heap.size, G, C2.toArray, rfl, Nat.zero_le _, hB2, hGe, hGm, by rw [List.size_toArray]; exact l2, by rw [List.toList_toArray]; exact l3⟩⟩
  have hF := flat_length (L.drop i)
  rw [List.length_drop] at hF
  have HF := Lib.hid fin
  have HB := Lib.hid hB
  have HB1 := Lib.hid hB1
  have HS := Lib.hid hsr3
  have HV := Lib.hid hvr
  have HC1 : Hid ((Z.toList.take (i * 2) ++ flat [(k, s)] ++ Z.toList.drop (i * 2 + (flat [(k, s)]).length)).toArray = C1.toArray) := by unfold Hid; rw [hC1]; rfl
  have HC2 : Hid ((C1.toArray.toList.take ((i + 1) * 2) ++ flat (L.drop i) ++ C1.toArray.toList.drop ((i + 1) * 2 + (flat (L.drop i)).length)).toArray = C2.toArray) := by unfold Hid; rw [hC2]
  have HZL : Hid (Z.size = G * 2) := by unfold Hid; rw [← Array.length_toList]; exact hZl
  have HL1 := Lib.hid l1
  have HFL := Lib.hid hF
  obtain ⟨n, hnL⟩ : ∃ n, n = L.length := ⟨_, rfl⟩
  rw [← hnL] at hr
  have HR := Lib.hid hr
  rw [← hnL] at hi hn hGe HF HFL ⊢
  have HNL := Lib.hid hnL
  clear fin hB hB1 hsr hsr2 hvr hC1 hC2 l1 l2 l3 hO hGm hm' hv hF hr hZ hzc hZl hZt hW bel hV bel1 hsr3 bel2 hB2 hold hfit hti q1 q2 q3 hi0 hc2 hc hG hnL hbl
  have g1 : (i : Int) ≤ n := by omega
  have hb1 : (0 : Int) ≤ (i : Int) + 1 := by omega
  have htn : ((i : Int) + 1).toNat = i + 1 := by omega
  have hb2 : ¬ (G = i + 1) := by omega
  have hb4 : ¬ (n = i) := by omega
  have hb7 : ¬ (G = i) := by omega
  have hb3 : ¬ ((i : Int) = (n : Int)) := by omega
  have hb6 : (i : Int) + 1 ≤ (n : Int) + 1 := by omega
  have hw1 : IntKind.i64.wrap ((i : Int) + 1) = (i : Int) + 1 := IntWalk.i64_in _ (by omega)
  have hw2 : IntKind.i64.wrap ((n : Int) + 1) = (n : Int) + 1 := IntWalk.i64_in _ (by omega)
  have hw3 : IntKind.i64.wrap ((n : Int) + 1 - (i : Int)) = (n : Int) + 1 - (i : Int) := IntWalk.i64_in _ (by omega)
  have hcast : (n : Int) + 1 - (i : Int) = ((n + 1 - i : Nat) : Int) := by omega
  have HCA := Lib.hid hcast
  clear hcast
  go_enter Try.func38, Try.ntmps38
  go_upto_region 11 with (first
    | (at_builtin; refine Lib.wpList_append_run _ rfl _ _ 55 3 rfl _ _ rfl (by rw [HCA.out]; rfl) _ _ HR.out ?_)
    | (refine wpList_copy_any rfl _ _ 55 54 rfl 61 2 Try.underlying55 sizeI w.heap.size (i * 2) _ _ vb 0 _ _ 1 rfl rfl (by simp only [Nat.min_def]; split <;> omega) Z 61 HB.out (flat [(k, s)]) rfl HV.out (by rw [HZL.out, flat_length]; show i * 2 + 1 * 2 ≤ G * 2; omega) (flat_one _) C1.toArray HC1.out ?_))
  refine wp_region_tail0 8 (by kernel_rfl) (by kernel_rfl) (fun _ _ _ _ _ h => h) ?_
  simp only [List.take_succ_cons, List.take_zero, List.drop_succ_cons, List.drop_zero]
  still_step
  still_step
  still_step
  still_step
  refine wpStill_from rfl 55 _ _ rfl 61 2 Try.underlying55 sizeI w.heap.size 0 (n + 1) G (i + 1) ((i : Int) + 1) rfl rfl rfl (by omega) ?_
  rw [if_neg hb2, Nat.zero_add]
  still_step
  still_step
  refine wpStill_from rfl 55 _ _ rfl 61 2 Try.underlying55 sizeI b 0 n n i (i : Int) rfl rfl rfl (by omega) ?_
  rw [if_neg hb4, Nat.zero_add]
  refine wpStill_nil ?_
  simp only [Act.put]
  go_wp2_with (refine wpList_copy_any rfl _ _ 55 55 rfl 61 2 Try.underlying55 sizeI w.heap.size ((i + 1) * 2) _ _ b (i * 2) _ _ (n - i) rfl rfl (by simp only [Nat.min_def]; split <;> omega) C1.toArray 61 HB1.out.drew (flat (L.drop i)) HFL.out HS.out (by rw [HFL.out, List.size_toArray, HL1.out]; omega) (flat_one _) C2.toArray HC2.out ?_)
  go_ret
  exact ⟨_, rfl, HF.out⟩
end Go.Proofs.Ytbjlappppbaohaa
