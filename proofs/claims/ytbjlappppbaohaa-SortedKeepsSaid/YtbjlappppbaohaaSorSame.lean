/- Items are compared, and rows of items. -/
import Derived.Test.YtbjlappppbaohaaSorRef2
namespace Go.Proofs.Ytbjlappppbaohaa
open Go Go.RowKit Go.Sort

/-- whether two items are the same -/
def eqI (x y : It) : Bool := decide (x.1 = y.1) && (x.2.toList == y.2.toList)
theorem toList_inj {s t : ByteArray} (h : s.toList = t.toList) : s = t := by
  rw [ByteArray.toList_eq, ByteArray.toList_eq] at h
  apply ByteArray.ext
  exact Array.toList_inj.1 h
theorem eqI_iff {x y : It} : eqI x y = true ↔ x = y := by
  unfold eqI
  rw [Bool.and_eq_true, decide_eq_true_eq, beq_iff_eq]
  constructor
  · rintro ⟨h1, h2⟩; exact Prod.ext h1 (toList_inj h2)
  · rintro rfl; exact ⟨rfl, rfl⟩
theorem fieldsI : Try.prog.underlying 46 = some (.struct (Try.prog.fieldsOf 46)) := by kernel_rfl
theorem heldI : Try.prog.stoodInHeld 46 = false := by kernel_rfl
theorem guardI : Try.prog.eqGuardType Try.prog.depth 46 = false := by kernel_rfl
theorem fieldsOfI : (Try.prog.fieldsOf 46).toList.map (fun f => (f.name, f.type, f.offset)) = [("Key", 31, 0), ("Val", 9, 1)] := by kernel_rfl
theorem run_partK (k : Nat) (s : ByteArray) (w : World) : (Go.part 31 (itC k s) 0).run Try.prog w = .ok (.int .u64 (k : Int)) w := by
  have ha : (isAgg 31).run Try.prog w = .ok false w := by
    unfold isAgg
    rw [Sem.run_bind, run_underlying Try.underlying31 w]
    rfl
  simp [Go.part, ha, itC]
theorem run_partV (k : Nat) (s : ByteArray) (w : World) : (Go.part 9 (itC k s) 1).run Try.prog w = .ok (.string s) w := by
  have ha : (isAgg 9).run Try.prog w = .ok false w := by
    unfold isAgg
    rw [Sem.run_bind, run_underlying Try.underlying9 w]
    rfl
  simp [Go.part, ha, itC]
theorem run_equalIn_it (d : Nat) (x y : It) (w : World) : (Op.equalIn (d + 2) 46 (.agg (itC x.1 x.2)) (.agg (itC y.1 y.2))).run Try.prog w = .ok (eqI x y) w := by
  rw [run_equalIn_agg w (d + 1) 46 _ _ fieldsI heldI]
  have h := fieldsOfI
  obtain ⟨f, g, hfg⟩ : ∃ f g, (Try.prog.fieldsOf 46).toList = [f, g] := by
    have hl := congrArg List.length h
    rw [List.length_map] at hl
    match hq : (Try.prog.fieldsOf 46).toList, hl with
    | [f, g], _ => exact ⟨f, g, rfl⟩
  rw [hfg] at h ⊢
  simp only [List.map_cons, List.map_nil, List.cons.injEq, Prod.mk.injEq, and_true] at h
  obtain ⟨⟨f1, f2, f3⟩, g1, g2, g3⟩ := h
  have e : eqI x y = (((x.1 : Int) == (y.1 : Int)) && (x.2.toList == y.2.toList)) := by
    unfold eqI
    congr 1
    rw [Bool.eq_iff_iff]; simp; omega
  rw [e]
  simp only [Op.eqFields, f1, f2, f3, g1, g2, g3]
  simp only [ne_eq, String.reduceEq, not_false_eq_true, if_true, Sem.run_bind, run_partK, Result.andThen_ok, run_equalIn_int w d 31 .u64 .u64 _ _ Try.underlying31]
  generalize hB : (x.2.toList == y.2.toList) = r
  cases (x.1 : Int) == (y.1 : Int)
  · simp
  · simp only [Bool.not_true, Bool.false_eq_true, if_false, Sem.run_bind, run_partV, Result.andThen_ok, run_equalIn_string w d 9 _ _ Try.underlying9, hB]
    cases r <;> simp
theorem run_eql_it (x y : It) (w : World) : (binOp .eql 46 (.agg (itC x.1 x.2)) (.agg (itC y.1 y.2))).run Try.prog w = .ok (.bool (eqI x y)) w := by
  rw [run_eql_struct, run_equalIn_it 9998]
  rfl
theorem run_neq_it (x y : It) (w : World) : (binOp .neq 46 (.agg (itC x.1 x.2)) (.agg (itC y.1 y.2))).run Try.prog w = .ok (.bool (!eqI x y)) w := by
  rw [run_neq_struct, run_equalIn_it 9998]
  rfl
theorem o_eqlI {o : Oper} {a : Act} {w : World} {K : Act → World → Prop} {Q : Exit → Act → World → Prop} (u v : Operand) (ho : o.op = .binOp .eql 46 u v 46)
    (x y : It) (hx : a.eval u = .agg (itC x.1 x.2)) (hy : a.eval v = .agg (itC y.1 y.2)) {r : Bool} (hr : eqI x y = r) (h : K (a.put o.dst (.bool r)) w) : o.wp Try.prog a w K Q := by
  unfold Oper.wp execOp
  simp only [ho, hx, hy, Sem.run_bind, run_eqGuard_agg w .eql 46 u v _ _ guardI, run_eql_it, hr, Sem.run_pure, Result.andThen_ok]
  exact h
theorem p_eqlI {ops : Array Oper} {rest : List Oper} {o : Oper} {a : Act} {w : World} {Q : Exit → Act → World → Prop} (hgd : o.guard = none) (u v : Operand) (ho : o.op = .binOp .eql 46 u v 46)
    (x y : It) (hx : a.eval u = .agg (itC x.1 x.2)) (hy : a.eval v = .agg (itC y.1 y.2)) {r : Bool} (hr : eqI x y = r) (h : wpList Try.prog ops Q rest (a.put o.dst (.bool r)) w) : wpList Try.prog ops Q (o :: rest) a w :=
  wpList_plain hgd fun _ hK => o_eqlI u v ho x y hx hy hr (hK _ _ h)
theorem p_neqI {ops : Array Oper} {rest : List Oper} {o : Oper} {a : Act} {w : World} {Q : Exit → Act → World → Prop} (hgd : o.guard = none) (u v : Operand) (ho : o.op = .binOp .neq 46 u v 46)
    (x y : It) (hx : a.eval u = .agg (itC x.1 x.2)) (hy : a.eval v = .agg (itC y.1 y.2)) {r : Bool} (hr : (!eqI x y) = r) (h : wpList Try.prog ops Q rest (a.put o.dst (.bool r)) w) : wpList Try.prog ops Q (o :: rest) a w := by
  refine wpList_plain hgd fun K hK => ?_
  unfold Oper.wp execOp
  simp only [ho, hx, hy, Sem.run_bind, run_eqGuard_agg w .neq 46 u v _ _ guardI, run_neq_it, hr, Sem.run_pure, Result.andThen_ok]
  exact hK _ _ h
theorem Src.form {w : World} {v : Value} {k size : Nat} {xs : List Value} (h : Src w v k size xs) : ∃ a c, v = .slice a k c := by
  rcases h.2 with ⟨rfl, rfl⟩ | ⟨b, o, c, rfl, _⟩
  · exact ⟨_, _, rfl⟩
  · exact ⟨_, _, rfl⟩
theorem Src.bel {w w' : World} {v : Value} {k size : Nat} {xs : List Value} (h : Src w v k size xs) (hb : Below w.heap.size w w') : Src w' v k size xs := by
  refine ⟨h.1, h.2.imp id ?_⟩
  rintro ⟨g, o, c, hv, hr⟩
  refine ⟨g, o, c, hv, ?_⟩
  cases xs with
  | nil => intro j u hu; simp at hu
  | cons x xs => exact range_bel hr hb (range_lt hr (by simp))
/-- an item of a row -/
theorem Src.at {w : World} {v : Value} {L : List It} {n : Nat} (h : Src w v n 2 (flat L)) {i : Nat} {x : It} (hx : L[i]? = some x) : ∃ b o c, v = .slice (some ⟨b, o, none⟩) n c ∧ w.cell? ⟨b, o + i * 2, none⟩ = some (.int .u64 (x.1 : Int)) ∧ w.cell? ⟨b, o + i * 2 + 1, none⟩ = some (.string x.2) ∧ b < w.heap.size ∧ w.rangeAt b (o + i * 2) (itC x.1 x.2).toList := by
  have hi := (List.getElem?_eq_some_iff.1 hx).1
  have hln := h.1
  rw [flat_length] at hln
  rcases h.2 with ⟨_, h0⟩ | ⟨b, o, c, rfl, hr⟩
  · omega
  · obtain ⟨h1, h2⟩ := flat_get hx
    have c1 := hr _ _ h1
    have c2 := hr _ _ h2
    rw [← Nat.add_assoc] at c2
    exact ⟨b, o, c, rfl, c1, c2, World.block_lt_of_cell? w _ c1, row_item hr hx⟩
theorem own_src {w : World} {B e size n : Nat} {v : Value} {xs : List Value} (h : w.ownsRow B e size v n xs) : Src w v n size xs := by
  rcases own_shape h with ⟨h1, h2⟩ | ⟨b, c, h1, _, _, hr, _⟩
  · exact ⟨h.1, .inl ⟨h1, h2⟩⟩
  · exact ⟨h.1, .inr ⟨b, 0, c, h1, hr⟩⟩
theorem take_same {L K : List It} {p : Nat} (h : L.take p = K.take p) {x y : It} (hx : L[p]? = some x) (hy : K[p]? = some y) (he : x = y) : L.take (p + 1) = K.take (p + 1) := by
  obtain ⟨h1, rfl⟩ := List.getElem?_eq_some_iff.1 hx
  obtain ⟨h2, rfl⟩ := List.getElem?_eq_some_iff.1 hy
  rw [List.take_succ_eq_append_getElem h1, List.take_succ_eq_append_getElem h2, h, he]
set_option maxHeartbeats 2000000 in
theorem same_any {w : World} {va vb : Value} {L K : List It} (hA : Src w va L.length 2 (flat L)) (hB : Src w vb K.length 2 (flat K)) (hl : L.length ≤ 1000000) :
    Calls Try.prog 19 #[va, vb] w fun e w' => e = .returned (.bool (decide (L = K))) ∧ Below w.heap.size w w' := by
  obtain ⟨aa, ac, rfl⟩ := hA.form
  obtain ⟨ba, bc, rfl⟩ := hB.form
  by_cases hlen : L.length = K.length
  · obtain ⟨n, hn⟩ : ∃ n, n = L.length := ⟨_, rfl⟩
    have HA := Lib.hid hA
    have HB := Lib.hid hB
    have hnk : n = K.length := by omega
    rw [← hlen, ← hn] 
    rw [← hn] at hl
    have HN := Lib.hid hn
    have HNK := Lib.hid hnk
    clear hA hB hlen hn hnk
    go_enter Try.func19, Try.ntmps19
    go_wp2
    go_loopw [5] (fun i wr => ∃ p : Nat, p ≤ n ∧ i = .int .i64 p ∧ Below w.heap.size w wr ∧ L.take p = K.take p) (fun i _ => n - (intOf i).toNat)
    case atStart => exact ⟨0, by omega, rfl, Below.refl _ _, rfl⟩
    case round =>
      obtain ⟨p, hp, rfl, hBe, hT⟩ := hrel
      have HBe := Lib.hid hBe
      have HT := Lib.hid hT
      clear hBe hT
      by_cases hlt : p < n
      · obtain ⟨x, hx⟩ : ∃ x, L[p]? = some x := ⟨_, List.getElem?_eq_getElem (by have := HN.out; omega)⟩
        obtain ⟨y, hy⟩ : ∃ y, K[p]? = some y := ⟨_, List.getElem?_eq_getElem (by have := HNK.out; omega)⟩
        obtain ⟨b1, o1, c1, e1, x1, x2, _, _⟩ := (HA.out.bel HBe.out).at hx
        obtain ⟨b2, o2, c2, e2, y1, y2, _, _⟩ := (HB.out.bel HBe.out).at hy
        simp only [Value.slice.injEq, true_and] at e1 e2
        obtain ⟨rfl, rfl⟩ := e1
        obtain ⟨rfl, rfl⟩ := e2
        have HX := Lib.hid hx
        have HY := Lib.hid hy
        have hbd : Below w.heap.size w wr.drew := HBe.out.trans ⟨rfl, rfl, rfl, Nat.le_refl _, fun _ _ => rfl⟩
        have HBD := Lib.hid hbd
        clear hx hy hbd
        go_upto_region 6 with (fail)
        refine wp_region_tail0 8 (by kernel_rfl) (by kernel_rfl) (fun _ _ _ _ _ h => h) ?_
        simp only [List.take_succ_cons, List.take_zero, List.drop_succ_cons, List.drop_zero]
        repeat still_step
        refine wpStill_nil ?_
        by_cases he : x = y
        · have hr : (!eqI x y) = false := by rw [eqI_iff.2 he]; rfl
          go_wp2_with (refine p_neqI rfl _ _ rfl x y rfl rfl hr ?_)
          exact ⟨⟨p + 1, by omega, by go_num, HBD.out, take_same HT.out HX.out HY.out he⟩, by simp [intOf]; omega⟩
        · have hr : (!eqI x y) = true := by
            cases h : eqI x y with
            | false => rfl
            | true => exact absurd (eqI_iff.1 h) he
          have hLK : decide (L = K) = false := by
            simp
            intro h
            have h1 := HX.out
            rw [h, HY.out] at h1
            exact he (Option.some.inj h1).symm
          have HLK := Lib.hid hLK
          clear hLK
          go_wp2_with (refine p_neqI rfl _ _ rfl x y rfl rfl hr ?_)
          go_ret
          exact ⟨by rw [HLK.out]; rfl, HBD.out⟩
      · obtain rfl : n = p := by omega
        have hLK : decide (L = K) = true := by
          have := HT.out
          rw [HN.out, List.take_length, ← HN.out, HNK.out, List.take_length] at this
          simpa using this
        have HLK := Lib.hid hLK
        clear hLK
        go_wp2
        go_ret
        exact ⟨by rw [HLK.out]; rfl, HBe.out⟩
  · have hd : decide (L = K) = false := by simp; intro h; exact hlen (by rw [h])
    rw [hd]
    have hne : ((L.length : Int) == (K.length : Int)) = false := by rw [Bool.eq_false_iff]; intro h; simp at h; omega
    have hne2 : ((L.length : Int) != (K.length : Int)) = true := by simp; omega
    clear hA hB hd
    generalize L.length = n at *
    generalize K.length = m at *
    clear hlen
    go_enter Try.func19, Try.ntmps19
    go_wp2
    go_ret
    exact ⟨rfl, Below.refl _ _⟩
end Go.Proofs.Ytbjlappppbaohaa
