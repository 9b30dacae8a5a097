/- An item is taken out of a row. -/
import Derived.Test.YtbjlappppbaohaaSorRow
namespace Go.Proofs.Ytbjlappppbaohaa
open Go Go.RowKit Go.Sort

/-- append(row[:i], row[j:]...) in place -/
theorem run_append_in {P : Program} (w : World) (t ty e : TypeId) (i0 : TypeInfo) (ht : P.underlying t = some (.slice e)) (hi : P.info? e = some i0) (b c i : Nat) (cur : Array Value) (hb : Blk w b cur e) (o m c2 : Nat) (news : List Value) (hl : news.length = m * i0.size)
    (hs : w.rangeAt b o news) (h1 : ∀ u ∈ news, u.oneCell' = true) (hroom : i + m ≤ c) (hfit : i * i0.size + news.length ≤ cur.size) :
    (Builtin.append_ #[t, t] ty #[.slice (some ⟨b, 0, none⟩) i c, .slice (some ⟨b, o, none⟩) m c2]).run P w = .ok (.slice (some ⟨b, 0, none⟩) (i + m) c) (w.setRow b (cur.toList.take (i * i0.size) ++ news ++ cur.toList.drop (i * i0.size + news.length)).toArray) :=
  run_append_room (P := P) w t ty e i0 ht hi b i c cur hb ⟨b, o, none⟩ m c2 news hl (fun j u hj => by rw [Addr.add_mid]; exact hs j u hj) h1 hroom hfit
/-- one element is cleared -/
theorem run_clear_one {P : Program} (w : World) (t e ty : TypeId) (x y : Value) (ht : P.underlying t = some (.slice e)) (hv : ∀ w, (zeroValue e).run P w = .ok (.agg #[x, y]) w) (b o c : Nat) (cur : Array Value) (T : TypeId) (hb : Blk w b cur T) (hfit : o + 2 ≤ cur.size) (hx : x.oneCell' = true) (hy : y.oneCell' = true) :
    (Builtin.clear_ #[t] ty #[.slice (some ⟨b, o, none⟩) 1 c]).run P w = .ok (.tuple #[]) (w.setRow b (cur.toList.take o ++ [x, y] ++ cur.toList.drop (o + 2)).toArray) := by
  have hzc : (Builtin.zeroCells (Value.agg #[x, y]).cells 1).toList = [x, y] := by
    simp [Builtin.zeroCells, Value.cells, List.range_succ]
  have hst := run_storeCells_at P b o T [x, y] 0 cur w hb (by simpa using hfit) (by intro v hv'; simp at hv'; rcases hv' with rfl | rfl; exact hx; exact hy)
  simp only [Nat.add_zero, List.length_cons, List.length_nil, Nat.zero_add] at hst
  simp [Builtin.clear_, run_underlying ht, hv, hzc, hst]
theorem wpList_clear_one {P : Program} {w : World} {ops : Array Oper} {rest : List Oper} {o : Oper} {a : Act} {Q : Exit → Act → World → Prop} (hgd : o.guard = none) (s : Operand) (t : TypeId)
    (ho : o.op = .call { callee := .builtin .clear, args := #[s], argTypes := #[t] }) (e : TypeId) (x y : Value) (ht : P.underlying t = some (.slice e)) (hv : ∀ w, (zeroValue e).run P w = .ok (.agg #[x, y]) w)
    (b off c : Nat) (hs : a.eval s = .slice (some ⟨b, off, none⟩) 1 c) (cur : Array Value) (T : TypeId) (hb : Blk w b cur T) (hfit : off + 2 ≤ cur.size) (hx : x.oneCell' = true) (hy : y.oneCell' = true) (new : Array Value) (hw : (cur.toList.take off ++ [x, y] ++ cur.toList.drop (off + 2)).toArray = new)
    (h : wpList P ops Q rest (a.put o.dst (.tuple #[])) (w.setRow b new)) : wpList P ops Q (o :: rest) a w := by
  refine wpList_plain hgd fun K hK => ?_
  have hrun := run_clear_one (P := P) w t e o.type x y ht hv b off c cur T hb hfit hx hy
  rw [hw] at hrun
  unfold Oper.wp execOp
  simp only [ho, resolve, invoke, builtin, Sem.run_bind, Sem.run_pure, Result.andThen_ok, List.map_toArray, List.map_cons, List.map_nil, hs, hrun]
  exact hK _ _ h
theorem zeroI (w : World) : (zeroValue 61).run Try.prog w = .ok (.agg #[.int .u64 0, .string ⟨#[]⟩]) w := by
  obtain ⟨i, hi, hq⟩ := Option.map_eq_some_iff.1 infoI
  simp only [Prod.mk.injEq] at hq
  simp [zeroValue, typeInfo, hi, hq.1]
set_option maxHeartbeats 2000000 in
theorem del_any (b c i : Nat) (L : List It) (w : World) (hO : w.ownsRow 0 61 2 (.slice (some ⟨b, 0, none⟩) L.length c) L.length (flat L)) (hi : i < L.length) (hn : L.length ≤ 1000000) :
    Calls Try.prog 39 #[.slice (some ⟨b, 0, none⟩) L.length c, .int .i64 i, .int .i64 ((i : Int) + 1)] w fun e w' =>
      e = .returned (.slice (some ⟨b, 0, none⟩) (L.length - 1) c) ∧ w'.ownsRow 0 61 2 (.slice (some ⟨b, 0, none⟩) (L.length - 1) c) (L.length - 1) (flat (L.take i ++ L.drop (i + 1))) ∧ w.grownBy w' (some b) := by
  rcases hO.2 with ⟨h, _⟩ | ⟨b', c', cur, h, _, hb, hnc, hcm, hcs, htake⟩
  · simp at h
  simp only [Value.slice.injEq, Option.some.injEq, Addr.mk.injEq, and_true, true_and] at h
  obtain ⟨rfl, rfl⟩ := h
  have hB : Blk w b cur 61 := hb
  have hm' : maxLen = 9223372036854775807 := rfl
  have hsr : w.rangeAt b 0 (flat L) := by
    rcases own_shape hO with ⟨h, _⟩ | ⟨b', c', h, _, _, hr, _⟩
    · simp at h
    · simp only [Value.slice.injEq, Option.some.injEq, Addr.mk.injEq, and_true, true_and] at h
      obtain ⟨rfl, rfl⟩ := h
      exact hr
  obtain ⟨o, ho⟩ : ∃ o, o = if c = i + 1 then 0 else (i + 1) * 2 := ⟨_, rfl⟩
  have hov : (if c = i + 1 then some ⟨b, 0, none⟩ else some ⟨b, 0 + (i + 1) * 2, none⟩ : Option Addr) = some ⟨b, o, none⟩ := by
    rw [ho, Nat.zero_add]; split <;> rfl
  have hsr2 : w.rangeAt b o (flat (L.drop (i + 1))) := fun j v hj => by
    by_cases hc : c = i + 1
    · rw [List.drop_eq_nil_of_le (by omega)] at hj
      simp [flat] at hj
    · rw [ho, if_neg hc]
      rw [← flat_drop, List.getElem?_drop] at hj
      have := hsr _ v hj
      rwa [Nat.zero_add] at this
  obtain ⟨C1, hC1⟩ : ∃ C1, C1 = cur.toList.take (i * 2) ++ flat (L.drop (i + 1)) ++ cur.toList.drop (i * 2 + (flat (L.drop (i + 1))).length) := ⟨_, rfl⟩
  obtain ⟨C2, hC2⟩ : ∃ C2, C2 = C1.take ((L.length - 1) * 2) ++ [Value.int IntKind.u64 0, Value.string ⟨#[]⟩] ++ C1.drop (L.length * 2) := ⟨_, rfl⟩
  obtain ⟨l1, l2, l3⟩ := del_row hi (by rw [Array.length_toList]; exact hcs) hnc htake C1 C2 hC1 _ rfl hC2
  have hB1 : Blk (w.drew.setRow b C1.toArray) b C1.toArray 61 := hB.drew.setRow _
  have hF := flat_length (L.drop (i + 1))
  rw [List.length_drop] at hF
  have hll : (L.take i ++ L.drop (i + 1)).length = L.length - 1 := by simp; omega
  have fin : ((w.drew.setRow b C1.toArray).setRow b C2.toArray).ownsRow 0 61 2 (.slice (some ⟨b, 0, none⟩) (L.length - 1) c) (L.length - 1) (flat (L.take i ++ L.drop (i + 1))) ∧ w.grownBy ((w.drew.setRow b C1.toArray).setRow b C2.toArray) (some b) := by
    refine ⟨⟨by rw [flat_length, hll], .inr ⟨b, c, C2.toArray, rfl, Nat.zero_le _, hB1.setRow _, by omega, hcm, by rw [List.size_toArray]; exact l2, by rw [List.toList_toArray]; exact l3⟩⟩, ⟨rfl, rfl, rfl, by simp [World.setRow], fun j hj hne => ?_⟩⟩
    have hj' : j ≠ b := fun e => hne (by rw [e])
    rw [Go.setRow_other _ _ _ _ hj', Go.setRow_other _ _ _ _ hj']
    rfl
  obtain ⟨i0, hi0, hq⟩ := Option.map_eq_some_iff.1 infoI
  simp only [Prod.mk.injEq] at hq
  obtain ⟨q1, q2, q3⟩ := hq
  have hap : ∀ ty c2, (Builtin.append_ #[55, 55] ty #[.slice (some ⟨b, 0, none⟩) i c, .slice (some ⟨b, o, none⟩) (L.length - (i + 1)) c2]).run Try.prog w.drew = .ok (.slice (some ⟨b, 0, none⟩) (i + (L.length - (i + 1))) c) (w.drew.setRow b C1.toArray) := fun ty c2 => by
    have := run_append_in (P := Try.prog) w.drew 55 ty 61 i0 Try.underlying55 hi0 b c i cur hB.drew o (L.length - (i + 1)) c2 (flat (L.drop (i + 1))) (by rw [q2]; exact hF) (fun j v hj => hsr2 j v hj) (flat_one _) (by omega) (by rw [q2, hF, hcs]; omega)
    rw [q2, ← hC1] at this
    exact this
  have HF := Lib.hid fin
  have HB1 := Lib.hid hB1
  have HAP := Lib.hid hap
  have HC2 : Hid ((C1.toArray.toList.take ((L.length - 1) * 2) ++ [Value.int IntKind.u64 0, Value.string ⟨#[]⟩] ++ C1.toArray.toList.drop ((L.length - 1) * 2 + 2)).toArray = C2.toArray) := by
    unfold Hid; rw [hC2, List.toList_toArray, show (L.length - 1) * 2 + 2 = L.length * 2 by omega]
  have HL1 := Lib.hid l1
  clear fin hB hB1 hsr hsr2 hC1 hC2 l1 l2 l3 hb htake hO hcm hm' hcs hF hll hap hi0 q1 q2 q3 ho
  obtain ⟨n, hnL⟩ : ∃ n, n + 1 = L.length := ⟨L.length - 1, by omega⟩
  rw [← hnL] at hi hn hnc HF HAP HC2 ⊢
  rw [Nat.add_sub_cancel] at HF HC2 ⊢
  rw [show i + (n + 1 - (i + 1)) = n by omega] at HAP
  have HOV := Lib.hid hov
  clear hnL hov
  have g1 : (i : Int) ≤ (n : Int) + 1 := by omega
  have hb1 : (0 : Int) ≤ (i : Int) + 1 := by omega
  have htn : ((i : Int) + 1).toNat = i + 1 := by omega
  have hb6 : (i : Int) + 1 ≤ (n : Int) + 1 := by omega
  have hb7 : ¬ c = n := by omega
  have hb8 : n + 1 ≤ c := by omega
  have hne : ¬ ((i : Int) = (i : Int) + 1) := by omega
  have hle : (i : Int) ≤ (i : Int) + 1 := by omega
  go_enter Try.func39, Try.ntmps39
  go_upto_region 5 with (fail)
  refine wp_region_tail0 6 (by kernel_rfl) (by kernel_rfl) (fun _ _ _ _ _ h => h) ?_
  simp only [List.take_succ_cons, List.take_zero, List.drop_succ_cons, List.drop_zero]
  still_step
  still_step
  refine wpStill_to rfl 55 _ _ rfl 61 2 Try.underlying55 sizeI b 0 (n + 1) c i (i : Int) rfl rfl rfl (by omega) ?_
  still_step
  still_step
  refine wpStill_from rfl 55 _ _ rfl 61 2 Try.underlying55 sizeI b 0 (n + 1) c (i + 1) ((i : Int) + 1) rfl rfl rfl (by omega) ?_
  rw [HOV.out]
  refine wpStill_nil ?_
  simp only [Act.put]
  go_wp2_with (first
    | (at_builtin; refine Lib.wpList_append_run _ rfl _ _ 55 55 rfl _ _ rfl rfl _ _ (HAP.out _ _) ?_)
    | (refine wpList_clear_one rfl _ 55 rfl 61 _ _ Try.underlying55 zeroI b (n * 2) _ (by rfl) C1.toArray 61 HB1.out (by rw [List.size_toArray, HL1.out]; omega) rfl rfl C2.toArray HC2.out ?_))
  go_ret
  exact ⟨rfl, HF.out⟩
end Go.Proofs.Ytbjlappppbaohaa
