/- Range: the items from key to key, no more than so many. -/
import Derived.Test.YtbjlappppbaohaaSorLook
namespace Go.Proofs.Ytbjlappppbaohaa
open Go Go.RowKit Go.Sort

theorem wpList_min {P : Program} {w : World} {ops : Array Oper} {rest : List Oper} {o : Oper} {a : Act} {Q : Exit → Act → World → Prop} (hgd : o.guard = none) (x y : Operand) (t1 t2 : TypeId)
    (ho : o.op = .call { callee := .builtin .min, args := #[x, y], argTypes := #[t1, t2] }) (X Y : Int) (hx : a.eval x = .int .i64 X) (hy : a.eval y = .int .i64 Y) (k : Nat) (hk : (if Y < X then Y else X) = (k : Int))
    (h : wpList P ops Q rest (a.put o.dst (.int .i64 (k : Int))) w) : wpList P ops Q (o :: rest) a w := by
  refine wpList_plain hgd fun K hK => ?_
  have hr := run_min_int2 (P := P) w #[t1, t2] o.type .i64 .i64 X Y
  rw [hk] at hr
  unfold Oper.wp
  simp [execOp, ho, resolve, invoke, builtin, hx, hy, hr, Result.andThen]
  exact hK _ _ h
/-- the first items of a row that is being filled -/
def Filled (w : World) (b n i : Nat) (K : List It) : Prop := ∃ C : Array Value, Blk w b C 46 ∧ C.size = n * 2 ∧ C.toList.take (i * 2) = flat (K.take i)
theorem Filled.there {w : World} {b n i : Nat} {K : List It} (h : Filled w b n i K) (hi : i < n) : w.there b (i * 2) 2 := fun j hj => by
  obtain ⟨C, h1, h2, _⟩ := h
  exact ⟨by rw [h1.cell, Array.getElem?_eq_getElem (by omega)]; rfl, h1.free _⟩
theorem Filled.set {w : World} {b n i : Nat} {K : List It} {x : It} (h : Filled w b n i K) (hi : i < n) (hx : K[i]? = some x) : Filled (w.setCells b (i * 2) (itC x.1 x.2).toList) b n (i + 1) K := by
  obtain ⟨C, h1, h2, h3⟩ := h
  refine ⟨(C.setIfInBounds (i * 2) (.int .u64 (x.1 : Int))).setIfInBounds (i * 2 + 1) (.string x.2), (h1.put _ _).put _ _, by simpa using h2, ?_⟩
  have hlen : C.toList.length = n * 2 := by rw [Array.length_toList]; exact h2
  obtain ⟨hk, hxe⟩ := List.getElem?_eq_some_iff.1 hx
  rw [Array.toList_setIfInBounds, Array.toList_setIfInBounds, List.take_succ_eq_append_getElem hk, flat_append, ← h3, hxe]
  apply List.ext_getElem?
  intro j
  rw [List.getElem?_take]
  have hTl : (C.toList.take (i * 2)).length = i * 2 := by rw [List.length_take]; omega
  rcases Nat.lt_or_ge j (i * 2) with hj | hj
  · rw [if_pos (by omega), List.getElem?_set, if_neg (by omega), List.getElem?_set, if_neg (by omega), List.getElem?_append_left (by omega), List.getElem?_take, if_pos hj]
  · rw [List.getElem?_append_right (by omega), hTl]
    rcases Nat.lt_trichotomy j (i * 2 + 1) with hj2 | hj2 | hj2
    · obtain rfl : j = i * 2 := by omega
      rw [if_pos (by omega), List.getElem?_set, if_neg (by omega), List.getElem?_set, if_pos rfl, if_pos (by omega), Nat.sub_self]
      rfl
    · subst hj2
      rw [if_pos (by omega), List.getElem?_set, if_pos rfl, if_pos (by rw [List.length_set]; omega), show i * 2 + 1 - i * 2 = 1 by omega]
      rfl
    · rw [if_neg (by omega), List.getElem?_eq_none (by show (2 : Nat) ≤ _; omega)]
theorem Filled.bel {w w' : World} {b n i B : Nat} {K : List It} (h : Filled w b n i K) (hb : Below B w w') (hB : b < B) : Filled w' b n i K := by
  obtain ⟨C, h1, h2, h3⟩ := h
  exact ⟨C, h1.below hb hB, h2, h3⟩
theorem Filled.range {w : World} {b n : Nat} {K : List It} (h : Filled w b n n K) (hn : K.length = n) : w.rangeAt b 0 (flat K) := by
  obtain ⟨C, h1, h2, h3⟩ := h
  intro j v hj
  rw [Nat.zero_add, h1.cell]
  rw [← hn, List.take_length] at h3
  rw [← h3, List.getElem?_take] at hj
  split at hj
  · simpa using hj
  · cases hj
theorem range_nil (lo hi : Nat) (most : Int) (w : World) : Calls Try.prog 16 #[.pointer none, .int .u64 (lo : Int), .int .u64 (hi : Int), .int .i64 most] w fun e w' => e = .returned (.tuple #[.slice none 0 0, .int .i64 6]) ∧ w = w' := by
  go_enter Try.func16, Try.ntmps16
  go_wp2
  go_ret2
  exact ⟨rfl, rfl⟩
theorem range_back (g lo hi : Nat) (most : Int) (h : hi < lo) (w : World) : Calls Try.prog 16 #[.pointer (some ⟨g, 0, none⟩), .int .u64 (lo : Int), .int .u64 (hi : Int), .int .i64 most] w fun e w' => e = .returned (.tuple #[.slice none 0 0, .int .i64 5]) ∧ w = w' := by
  go_enter Try.func16, Try.ntmps16
  go_wp2
  go_ret2
  exact ⟨rfl, rfl⟩
theorem range_neg (g lo hi : Nat) (most : Int) (h : ¬ hi < lo) (hm : most < 0) (w : World) : Calls Try.prog 16 #[.pointer (some ⟨g, 0, none⟩), .int .u64 (lo : Int), .int .u64 (hi : Int), .int .i64 most] w fun e w' => e = .returned (.tuple #[.slice none 0 0, .int .i64 1]) ∧ w = w' := by
  go_enter Try.func16, Try.ntmps16
  go_wp2
  go_ret2
  exact ⟨rfl, rfl⟩
/-- the answer of a Range: a new row that holds just these -/
def Rows (w w' : World) (v : Value) (K : List It) : Prop := ∃ b, v = .slice (some ⟨b, 0, none⟩) K.length K.length ∧ w'.rangeAt b 0 (flat K) ∧ w.heap.size ≤ b ∧ b < w'.heap.size
set_option maxHeartbeats 2000000 in
theorem range_any {w : World} {g : Nat} {v : Value} {L : List It} (h : Mp w 57 61 g v L) (lo hi : Nat) (most : Nat) (hlh : ¬ hi < lo) :
    Calls Try.prog 16 #[.pointer (some ⟨g, 0, none⟩), .int .u64 (lo : Int), .int .u64 (hi : Int), .int .i64 (most : Int)] w fun e w' => ∃ u, e = .returned (.tuple #[u, .int .i64 0]) ∧ Rows w w' u ((rangeL L lo hi).take most) ∧ Below w.heap.size w w' := by
  obtain ⟨hrng, hle, hup⟩ := range_cut h.sorted lo hi (by omega)
  obtain ⟨K, hK⟩ : ∃ K, K = (rangeL L lo hi).take most := ⟨_, rfl⟩
  have hlen := h.len
  obtain ⟨n, hn⟩ : ∃ n, n = min (uptoL L hi - rankL L lo) most := ⟨_, rfl⟩
  have hKl : K.length = n := by
    rw [hK, ← hrng, List.length_take, List.length_take, List.length_drop, hn]; omega
  have hKg : ∀ j, j < n → K[j]? = L[rankL L lo + j]? := fun j hj => by
    rw [hK, ← hrng, List.getElem?_take, if_pos (by omega), List.getElem?_take, if_pos (by omega), List.getElem?_drop]
  have HF1 : Hid (∀ w1, Below w.heap.size w w1 → Calls Try.prog 30 #[.pointer (some ⟨g, 0, none⟩), .int .u64 (lo : Int)] w1 fun e w' => e = .returned (.tuple #[.int .i64 (rankL L lo), .bool (hasL L lo)]) ∧ Below w1.heap.size w1 w') := fun w1 hb => find_any (h.bel hb) lo
  have HF2 : Hid (∀ w1, Below w.heap.size w w1 → Calls Try.prog 30 #[.pointer (some ⟨g, 0, none⟩), .int .u64 (hi : Int)] w1 fun e w' => e = .returned (.tuple #[.int .i64 (rankL L hi), .bool (hasL L hi)]) ∧ Below w1.heap.size w1 w') := fun w1 hb => find_any (h.bel hb) hi
  have hu : uptoL L hi = rankL L hi + if hasL L hi then 1 else 0 := rfl
  rw [← hK]
  have HM := Lib.hid h
  have HKG := Lib.hid hKg
  have HKL := Lib.hid hKl
  clear h hKg hKl hK hrng
  generalize hasL L lo = q0 at *
  generalize hasL L hi = q1 at *
  generalize rankL L hi = r1 at *
  generalize rankL L lo = r0 at *
  generalize uptoL L hi = up at *
  have hr0 : r0 ≤ L.length := by omega
  have hmn : (if (most : Int) < (up : Int) - (r0 : Int) then (most : Int) else (up : Int) - (r0 : Int)) = (n : Int) := by
    rw [hn]; split <;> omega
  have hnl : r0 + n ≤ L.length := by omega
  have hn6 : n ≤ 1000000 := by omega
  have HMN := Lib.hid hmn
  clear hmn hn
  obtain ⟨Z, hZ⟩ : ∃ Z, madeCells (Value.agg #[.int .u64 0, .string ⟨#[]⟩]).cells (n * 2) = Z := ⟨_, rfl⟩
  have hZs : Z.size = n * 2 := by rw [← hZ]; exact size_madeCells _ _
  have HZ := Lib.hid hZ
  have HZS := Lib.hid hZs
  clear hZ hZs
  have hneg : ¬ (most : Int) < 0 := by omega
  have hwd : IntKind.i64.wrap ((up : Int) - (r0 : Int)) = (up : Int) - (r0 : Int) := IntWalk.i64_in _ (by omega)
  have hw1 : IntKind.i64.wrap ((r1 : Int) + 1) = (r1 : Int) + 1 := IntWalk.i64_in _ (by cases q1 <;> simp at hu <;> omega)
  go_enter Try.func16, Try.ntmps16
  go_upto_region 7 with (fail)
  go_upto_region 8 with (go_at_call 30; (with_reducible refine (HF1.out _ (Below.refl _ _)).mono ?_); rintro e w1 ⟨rfl, hb1⟩)
  go_upto_region 9 with (go_at_call 30; (with_reducible refine (HF2.out _ hb1).mono ?_); rintro e w2 ⟨rfl, hb2⟩)
  have hb3 := hb1.trans (hb2.mono hb1.size)
  have HB := Lib.hid hb3
  clear hb1 hb2 hb3
  cases q1
  · obtain rfl : up = r1 := by simpa using hu
    clear hu hw1
    have hs2 := HB.out.size
    go_upto_region 12 with (first
      | (refine wpList_min rfl _ _ _ _ rfl _ _ rfl rfl n (by exact HMN.out) ?_)
      | (refine wpList_make_blk rfl _ _ 27 rfl 46 (.agg #[.int .u64 0, .string ⟨#[]⟩]) 2 24 Try.underlying27 infoA (n : Int) n rfl rfl rfl (by omega) (by omega) Z HZ.out ?_))
    have hB0 : Below w.heap.size w (w2.alloc (.cells Z 46)) := HB.out.alloc hs2 _
    have hF0 : Filled (w2.alloc (.cells Z 46)) w2.heap.size n 0 K := ⟨Z, Blk.new w2 _ _, HZS.out, by simp [flat]⟩
    have HB0 := Lib.hid hB0
    have HF0 := Lib.hid hF0
    clear hB0 hF0
    generalize w2.alloc _ = W at *
    go_wp2
    go_loopw [49] (fun i wr => ∃ k : Nat, k ≤ n ∧ i = .int .i64 k ∧ Below w.heap.size w wr ∧ Filled wr w2.heap.size n k K ∧ w2.heap.size < wr.heap.size) (fun i _ => n - (intOf i).toNat)
    case atStart => exact ⟨0, by omega, rfl, HB0.out, HF0.out, by obtain ⟨C, h1, _⟩ := HF0.out; exact h1.lt⟩
    case round =>
      obtain ⟨k, hk, rfl, hB, hF, hsz⟩ := hrel
      have HBr := Lib.hid hB
      have HFr := Lib.hid hF
      clear hB hF
      by_cases hlt : k < n
      · obtain ⟨x, hx⟩ : ∃ x, K[k]? = some x := ⟨_, List.getElem?_eq_getElem (by rw [HKL.out]; exact hlt)⟩
        have hLx : L[r0 + k]? = some x := by rw [← HKG.out k hlt]; exact hx
        obtain ⟨b, c, hv, hbl, hne, c0, c1, c2, _⟩ := HM.out.item HBr.out hLx
        have hth := HFr.out.there hlt
        have HS : Hid (Below w.heap.size w (wr.setCells w2.heap.size (k * 2) (itC x.1 x.2).toList) ∧ Filled (wr.setCells w2.heap.size (k * 2) (itC x.1 x.2).toList) w2.heap.size n (k + 1) K ∧ w2.heap.size < (wr.setCells w2.heap.size (k * 2) (itC x.1 x.2).toList).heap.size) := ⟨(HBr.out.setCell (p := ⟨w2.heap.size, k * 2, none⟩) hs2 _).setCell (p := ⟨w2.heap.size, k * 2 + 1, none⟩) hs2 _, HFr.out.set hlt hx, by simpa [World.setCells, itC] using hsz⟩
        have HTH := Lib.hid hth
        have hws : IntKind.i64.wrap ((r0 : Int) + (k : Int)) = (r0 : Int) + (k : Int) := IntWalk.i64_in _ (by omega)
        have hti : ((r0 : Int) + (k : Int)).toNat = r0 + k := by omega
        have hb1 : (0 : Int) ≤ (r0 : Int) + (k : Int) := by omega
        have hb2 : (r0 : Int) + (k : Int) < (L.length : Int) := by omega
        clear hv hth hx hLx
        go_wp2_with (refine wpList_store_mid rfl 46 _ _ rfl w2.heap.size (k * 2) (itC x.1 x.2) rfl rfl HTH.out sizeA (itC_one _ _) ?_)
        exact ⟨⟨k + 1, by omega, by go_num, HS.out.1, HS.out.2.1, HS.out.2.2⟩, by simp [intOf]; omega⟩
      · obtain rfl : n = k := by omega
        go_wp2
        go_ret2
        exact ⟨_, rfl, ⟨w2.heap.size, by rw [HKL.out]; rfl, HFr.out.range HKL.out, hs2, hsz⟩, HBr.out⟩
  · have hu' : IntKind.i64.wrap ((r1 : Int) + 1) = (up : Int) := by rw [hw1, hu]; simp
    clear hu hw1
    have hs2 := HB.out.size
    go_upto_region 12 with (first
      | (refine wpList_min rfl _ _ _ _ rfl _ _ rfl rfl n (by exact HMN.out) ?_)
      | (refine wpList_make_blk rfl _ _ 27 rfl 46 (.agg #[.int .u64 0, .string ⟨#[]⟩]) 2 24 Try.underlying27 infoA (n : Int) n rfl rfl rfl (by omega) (by omega) Z HZ.out ?_))
    have hB0 : Below w.heap.size w (w2.alloc (.cells Z 46)) := HB.out.alloc hs2 _
    have hF0 : Filled (w2.alloc (.cells Z 46)) w2.heap.size n 0 K := ⟨Z, Blk.new w2 _ _, HZS.out, by simp [flat]⟩
    have HB0 := Lib.hid hB0
    have HF0 := Lib.hid hF0
    clear hB0 hF0
    generalize w2.alloc _ = W at *
    go_wp2
    go_loopw [49] (fun i wr => ∃ k : Nat, k ≤ n ∧ i = .int .i64 k ∧ Below w.heap.size w wr ∧ Filled wr w2.heap.size n k K ∧ w2.heap.size < wr.heap.size) (fun i _ => n - (intOf i).toNat)
    case atStart => exact ⟨0, by omega, rfl, HB0.out, HF0.out, by obtain ⟨C, h1, _⟩ := HF0.out; exact h1.lt⟩
    case round =>
      obtain ⟨k, hk, rfl, hB, hF, hsz⟩ := hrel
      have HBr := Lib.hid hB
      have HFr := Lib.hid hF
      clear hB hF
      by_cases hlt : k < n
      · obtain ⟨x, hx⟩ : ∃ x, K[k]? = some x := ⟨_, List.getElem?_eq_getElem (by rw [HKL.out]; exact hlt)⟩
        have hLx : L[r0 + k]? = some x := by rw [← HKG.out k hlt]; exact hx
        obtain ⟨b, c, hv, hbl, hne, c0, c1, c2, _⟩ := HM.out.item HBr.out hLx
        have hth := HFr.out.there hlt
        have HS : Hid (Below w.heap.size w (wr.setCells w2.heap.size (k * 2) (itC x.1 x.2).toList) ∧ Filled (wr.setCells w2.heap.size (k * 2) (itC x.1 x.2).toList) w2.heap.size n (k + 1) K ∧ w2.heap.size < (wr.setCells w2.heap.size (k * 2) (itC x.1 x.2).toList).heap.size) := ⟨(HBr.out.setCell (p := ⟨w2.heap.size, k * 2, none⟩) hs2 _).setCell (p := ⟨w2.heap.size, k * 2 + 1, none⟩) hs2 _, HFr.out.set hlt hx, by simpa [World.setCells, itC] using hsz⟩
        have HTH := Lib.hid hth
        have hws : IntKind.i64.wrap ((r0 : Int) + (k : Int)) = (r0 : Int) + (k : Int) := IntWalk.i64_in _ (by omega)
        have hti : ((r0 : Int) + (k : Int)).toNat = r0 + k := by omega
        have hb1 : (0 : Int) ≤ (r0 : Int) + (k : Int) := by omega
        have hb2 : (r0 : Int) + (k : Int) < (L.length : Int) := by omega
        clear hv hth hx hLx
        go_wp2_with (refine wpList_store_mid rfl 46 _ _ rfl w2.heap.size (k * 2) (itC x.1 x.2) rfl rfl HTH.out sizeA (itC_one _ _) ?_)
        exact ⟨⟨k + 1, by omega, by go_num, HS.out.1, HS.out.2.1, HS.out.2.2⟩, by simp [intOf]; omega⟩
      · obtain rfl : n = k := by omega
        go_wp2
        go_ret2
        exact ⟨_, rfl, ⟨w2.heap.size, by rw [HKL.out]; rfl, HFr.out.range HKL.out, hs2, hsz⟩, HBr.out⟩
end Go.Proofs.Ytbjlappppbaohaa
