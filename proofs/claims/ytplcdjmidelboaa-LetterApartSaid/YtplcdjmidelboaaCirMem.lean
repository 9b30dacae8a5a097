/- Peers in memory. -/
import Derived.Test.YtplcdjmidelboaaCirNum
import Derived.Test.YtplcdjmidelboaaQRow
import Derived.Test.YtplcdjmidelboaaTail
import Derived.Test.YtplcdjmidelboaaOwn
import Derived.Deep.MidRow
import Derived.Maps.AppendAt
import Derived.Laws.OwnMore
import Derived.Laws.CopyRow
import Derived.Deep.Cut
import Derived.Deep.RegionHeld3
import Derived.Deep.RegionWith
import Derived.Laws.StructEq
import Derived.Lib.Hide
import Derived.BigQuiet
namespace Go.Proofs.Ytplcdjmidelboaa
set_option maxRecDepth 100000
open Go Go.RowKit Go.Sort

/-- a peer's cells, as a block has them -/
def peA (x : Pe) : Array Value := (peC x).toArray
theorem peA_size (x : Pe) : (peA x).size = 21 := by unfold peA; rw [List.size_toArray, peC_length]
theorem peA_list (x : Pe) : (peA x).toList = peC x := rfl
theorem peA_one (x : Pe) : (peA x).all (·.oneCell') = true := by
  rw [Array.all_eq_true_iff_forall_mem]
  intro v hv
  exact peC_one x v (by simpa [peA] using hv)
theorem infoP : (Try.prog.info? 25).map (fun i => (i.zero, i.size, i.bytes)) = some (some (.agg (peA (0, 0))), 21, 32) := by kernel_rfl
theorem sizeP : (Try.prog.info? 25).map (·.size) = some 21 := by kernel_rfl
theorem sizeId20 : (Try.prog.info? 23).map (·.size) = some 20 := by kernel_rfl
theorem builtP (a : Int) (n : Nat) : Try.prog.built 25 [(0, .int .i64 a), (1, .agg (row (dig 20 n)))] = some (peA (a, n)) := by kernel_rfl
theorem builtNone : Try.prog.built 25 [(0, .int .i64 (-1))] = some (peA (-1, 0)) := by kernel_rfl
theorem builtAddr : Try.prog.built 23 [] = some (row (dig 20 0)) := by kernel_rfl
theorem pe_zero : (#[Value.int IntKind.i64 0] ++ row (List.replicate 20 0) : Array Value) = peA (0, 0) := by kernel_rfl

theorem range_lt {w : World} {g o : Nat} {cs : List Value} (h : w.rangeAt g o cs) (hn : cs ≠ []) : g < w.heap.size := by
  cases cs with
  | nil => exact absurd rfl hn
  | cons v r => exact World.block_lt_of_cell? w _ (h 0 v rfl)
theorem range_bel {w w' : World} {g o B : Nat} {cs : List Value} (h : w.rangeAt g o cs) (hb : Below B w w') (hg : g < B) : w'.rangeAt g o cs := fun j v hv => by
  have hc := h j v hv
  exact (World.cell?_of_block (a := ⟨g, o + j, none⟩) (hb.block g hg)).trans hc
theorem pe_ne (x : Pe) : peC x ≠ [] := by intro h; have := peC_length x; rw [h] at this; simp at this
theorem pe_ad {w : World} {g o : Nat} {x : Pe} (h : w.rangeAt g o (peC x)) : w.cell? ⟨g, o, none⟩ = some (.int .i64 x.1) := h 0 _ rfl
theorem pe_id {w : World} {g o : Nat} {x : Pe} (h : w.rangeAt g o (peC x)) : w.rangeAt g (o + 1) (row (dig 20 x.2)).toList := fun j v hv => by
  have := h (j + 1) v (by unfold peC; rw [List.getElem?_cons_succ]; exact hv)
  rwa [show o + (j + 1) = o + 1 + j by omega] at this
theorem blk_range {w : World} {g : Nat} {cs : Array Value} {t : TypeId} (h : Blk w g cs t) : w.rangeAt g 0 cs.toList := fun j v hv => by
  rw [Nat.zero_add, h.cell]; simpa using hv

/-! loads and stores -/
theorem p_midI {ops : Array Oper} {rest : List Oper} {o : Oper} {a : Act} {w : World} {Q : Exit → Act → World → Prop} (hgd : o.guard = none) (x : Operand) (ho : o.op = .load 23 x)
    (g i : Nat) (hx : a.eval x = .pointer (some ⟨g, i, none⟩)) (n : Nat) (hg : w.rangeAt g i (row (dig 20 n)).toList)
    (h : wpList Try.prog ops Q rest (a.put o.dst (idv n)) w) : wpList Try.prog ops Q (o :: rest) a w :=
  wpList_load_mid hgd 23 x ho g i hx (row (dig 20 n)).toList _ hg Try.underlying23 rfl (by rw [Array.length_toList, row_size, dig_length]; exact sizeId20) (by rw [Array.toArray_toList]; exact h)
theorem p_midP {ops : Array Oper} {rest : List Oper} {o : Oper} {a : Act} {w : World} {Q : Exit → Act → World → Prop} (hgd : o.guard = none) (x : Operand) (ho : o.op = .load 25 x)
    (g i : Nat) (hx : a.eval x = .pointer (some ⟨g, i, none⟩)) (p : Pe) (hg : w.rangeAt g i (peC p))
    (h : wpList Try.prog ops Q rest (a.put o.dst (.agg (peA p))) w) : wpList Try.prog ops Q (o :: rest) a w :=
  wpList_load_mid hgd 25 x ho g i hx (peC p) _ hg Try.underlying25 rfl (by rw [peC_length]; exact sizeP) h
theorem q_midI {W : World} {o : Oper} {a : Act} {K : Act → Prop} (x : Operand) (ho : o.op = .load 23 x) (g i : Nat) (hx : a.eval x = .pointer (some ⟨g, i, none⟩)) (n : Nat)
    (hg : W.rangeAt g i (row (dig 20 n)).toList) (hk : K (a.put o.dst (idv n))) : o.quiet Try.prog a (fun w' => ∃ p : Regrown, w' = grow (redrawn W p.d) p.os) K := by
  refine ⟨idv n, ?_, hk⟩
  rintro w' ⟨p, rfl⟩
  have hne : (row (dig 20 n)).toList ≠ [] := by intro h; have := congrArg List.length h; rw [Array.length_toList, row_size, dig_length] at this; simp at this
  have hg' : (grow (redrawn W p.d) p.os).rangeAt g i (row (dig 20 n)).toList := range_bel hg (below_regrown W p.d p.os) (range_lt hg hne)
  unfold Oper.quietAt execOp
  simp only [ho, hx, Instr.loadAt, Instr.sureAddr, Sem.run_bind, run_loadVar_mid _ g i 23 (row (dig 20 n)).toList _ hg' Try.underlying23 rfl (by rw [Array.length_toList, row_size, dig_length]; exact sizeId20), Sem.run_pure, Result.andThen_ok, Array.toArray_toList]
  exact ⟨rfl, rfl⟩
theorem q_midP {W : World} {o : Oper} {a : Act} {K : Act → Prop} (x : Operand) (ho : o.op = .load 25 x) (g i : Nat) (hx : a.eval x = .pointer (some ⟨g, i, none⟩)) (p : Pe)
    (hg : W.rangeAt g i (peC p)) (hk : K (a.put o.dst (.agg (peA p)))) : o.quiet Try.prog a (fun w' => ∃ p : Regrown, w' = grow (redrawn W p.d) p.os) K := by
  refine ⟨.agg (peA p), ?_, hk⟩
  rintro w' ⟨r, rfl⟩
  have hg' : (grow (redrawn W r.d) r.os).rangeAt g i (peC p) := range_bel hg (below_regrown W r.d r.os) (range_lt hg (pe_ne p))
  unfold Oper.quietAt execOp
  simp only [ho, hx, Instr.loadAt, Instr.sureAddr, Sem.run_bind, run_loadVar_mid _ g i 25 (peC p) _ hg' Try.underlying25 rfl (by rw [peC_length]; exact sizeP), Sem.run_pure, Result.andThen_ok]
  exact ⟨rfl, rfl⟩
theorem o_midI {o : Oper} {a : Act} {w : World} {K : Act → World → Prop} {Q : Exit → Act → World → Prop} (x : Operand) (ho : o.op = .load 23 x)
    (g i : Nat) (hx : a.eval x = .pointer (some ⟨g, i, none⟩)) (n : Nat) (hg : w.rangeAt g i (row (dig 20 n)).toList) (h : K (a.put o.dst (idv n)) w) : o.wp Try.prog a w K Q :=
  wp_load_mid 23 x ho g i hx (row (dig 20 n)).toList _ hg Try.underlying23 rfl (by rw [Array.length_toList, row_size, dig_length]; exact sizeId20) (by rw [Array.toArray_toList]; exact h)
theorem o_midP {o : Oper} {a : Act} {w : World} {K : Act → World → Prop} {Q : Exit → Act → World → Prop} (x : Operand) (ho : o.op = .load 25 x)
    (g i : Nat) (hx : a.eval x = .pointer (some ⟨g, i, none⟩)) (p : Pe) (hg : w.rangeAt g i (peC p)) (h : K (a.put o.dst (.agg (peA p))) w) : o.wp Try.prog a w K Q :=
  wp_load_mid 25 x ho g i hx (peC p) _ hg Try.underlying25 rfl (by rw [peC_length]; exact sizeP) h
/-- a peer is stored into the block that was made last -/
theorem p_storeP {ops : Array Oper} {rest : List Oper} {o : Oper} {a : Act} {w : World} {Q : Exit → Act → World → Prop} {Z : Array Value} (hz : Z.size = 21) (hgd : o.guard = none) (x y : Operand) (ho : o.op = .store 25 x y)
    (p : Pe) (hx : a.eval x = .pointer (some ⟨w.heap.size, 0, none⟩)) (hy : a.eval y = .agg (peA p))
    (h : wpList Try.prog ops Q rest (a.put o.dst undef) (w.alloc (.cells (peA p) 25))) : wpList Try.prog ops Q (o :: rest) a (w.alloc (.cells Z 25)) :=
  wpList_store_newrow hgd 25 x y ho (peA p) hx hy (by rw [peA_size]; exact sizeP) (peA_one p) (by rw [hz, peA_size]) h

/-! peers are compared -/
def eqP (x y : Pe) : Bool := decide (x.1 = y.1) && eqB x.2 y.2
theorem fieldsP : Try.prog.underlying 25 = some (.struct (Try.prog.fieldsOf 25)) := by kernel_rfl
theorem heldP : Try.prog.stoodInHeld 25 = false := by kernel_rfl
theorem guardP : Try.prog.eqGuardType Try.prog.depth 25 = false := by kernel_rfl
theorem fieldsOfP : (Try.prog.fieldsOf 25).toList.map (fun f => (f.name, f.type, f.offset)) = [("Addr", 3, 0), ("ID", 23, 1)] := by kernel_rfl
theorem run_partA (x : Pe) (w : World) : (Go.part 3 (peA x) 0).run Try.prog w = .ok (.int .i64 x.1) w := by
  have ha : (isAgg 3).run Try.prog w = .ok false w := by
    unfold isAgg
    rw [Sem.run_bind, run_underlying Try.underlying3 w]
    rfl
  simp [Go.part, ha, peA, peC]
theorem run_partI (x : Pe) (w : World) : (Go.part 23 (peA x) 1).run Try.prog w = .ok (idv x.2) w := by
  have ha : (isAgg 23).run Try.prog w = .ok true w := by
    unfold isAgg
    rw [Sem.run_bind, run_underlying Try.underlying23 w]
    rfl
  have hs : (sizeOf 23).run Try.prog w = .ok 20 w := by
    obtain ⟨i, hi, he⟩ := Option.map_eq_some_iff.1 sizeId20
    simp [sizeOf, typeInfo, hi, he]
  have he : (peA x).extract 1 (1 + 20) = row (dig 20 x.2) := by kernel_rfl
  unfold Go.part
  simp only [Sem.run_bind, ha, Result.andThen_ok, if_true, hs, Sem.run_pure, he]
  rfl
theorem run_equalIn_pe (d : Nat) (x y : Pe) (w : World) : (Op.equalIn (d + 3) 25 (.agg (peA x)) (.agg (peA y))).run Try.prog w = .ok (eqP x y) w := by
  rw [run_equalIn_agg w (d + 2) 25 _ _ fieldsP heldP]
  have h := fieldsOfP
  obtain ⟨f, g, hfg⟩ : ∃ f g, (Try.prog.fieldsOf 25).toList = [f, g] := by
    have hl := congrArg List.length h
    rw [List.length_map] at hl
    match hq : (Try.prog.fieldsOf 25).toList, hl with
    | [f, g], _ => exact ⟨f, g, rfl⟩
  rw [hfg] at h ⊢
  simp only [List.map_cons, List.map_nil, List.cons.injEq, Prod.mk.injEq, and_true] at h
  obtain ⟨⟨f1, f2, f3⟩, g1, g2, g3⟩ := h
  have e : eqP x y = ((x.1 == y.1) && (dig 20 x.2 == dig 20 y.2)) := by
    unfold eqP eqB
    congr 1
    · rw [← dig_mod 20 x.2, ← dig_mod 20 y.2]
      exact (beq_dig (Nat.mod_lt _ M_pos) (Nat.mod_lt _ M_pos)).symm
  rw [e]
  simp only [Op.eqFields, f1, f2, f3, g1, g2, g3]
  simp only [ne_eq, String.reduceEq, not_false_eq_true, if_true, Sem.run_bind, run_partA, Result.andThen_ok, run_equalIn_int w (d + 1) 3 .i64 .i64 _ _ Try.underlying3]
  generalize hB : (dig 20 x.2 == dig 20 y.2) = r
  cases x.1 == y.1
  · simp
  · simp only [Bool.not_true, Bool.false_eq_true, if_false, Sem.run_bind, run_partI, Result.andThen_ok]
    unfold idv
    simp only [run_equalIn_row d _ _ (dig_length _ _) (dig_length _ _) w, hB, Result.andThen_ok]
    cases r <;> simp
theorem run_eql_pe (x y : Pe) (w : World) : (binOp .eql 25 (.agg (peA x)) (.agg (peA y))).run Try.prog w = .ok (.bool (eqP x y)) w := by
  rw [run_eql_struct, run_equalIn_pe 9997]
  rfl
theorem run_neq_pe (x y : Pe) (w : World) : (binOp .neq 25 (.agg (peA x)) (.agg (peA y))).run Try.prog w = .ok (.bool (!eqP x y)) w := by
  rw [run_neq_struct, run_equalIn_pe 9997]
  rfl
theorem o_eqlP {o : Oper} {a : Act} {w : World} {K : Act → World → Prop} {Q : Exit → Act → World → Prop} (u v : Operand) (ho : o.op = .binOp .eql 25 u v 25)
    (x y : Pe) (hx : a.eval u = .agg (peA x)) (hy : a.eval v = .agg (peA y)) {r : Bool} (hr : eqP x y = r) (h : K (a.put o.dst (.bool r)) w) : o.wp Try.prog a w K Q := by
  unfold Oper.wp execOp
  simp only [ho, hx, hy, Sem.run_bind, run_eqGuard_agg w .eql 25 u v _ _ guardP, run_eql_pe, hr, Sem.run_pure, Result.andThen_ok]
  exact h
theorem o_neqP {o : Oper} {a : Act} {w : World} {K : Act → World → Prop} {Q : Exit → Act → World → Prop} (u v : Operand) (ho : o.op = .binOp .neq 25 u v 25)
    (x y : Pe) (hx : a.eval u = .agg (peA x)) (hy : a.eval v = .agg (peA y)) {r : Bool} (hr : (!eqP x y) = r) (h : K (a.put o.dst (.bool r)) w) : o.wp Try.prog a w K Q := by
  unfold Oper.wp execOp
  simp only [ho, hx, hy, Sem.run_bind, run_eqGuard_agg w .neq 25 u v _ _ guardP, run_neq_pe, hr, Sem.run_pure, Result.andThen_ok]
  exact h
theorem q_eqlP {C : World → Prop} {o : Oper} {a : Act} {K : Act → Prop} (u v : Operand) (ho : o.op = .binOp .eql 25 u v 25) (x y : Pe) (hx : a.eval u = .agg (peA x)) (hy : a.eval v = .agg (peA y)) {r : Bool} (hr : eqP x y = r)
    (hk : K (a.put o.dst (.bool r))) : o.quiet Try.prog a C K := by
  refine ⟨.bool r, ?_, hk⟩
  intro w' _
  unfold Oper.quietAt execOp
  simp only [ho, hx, hy, Sem.run_bind, run_eqGuard_agg w' .eql 25 u v _ _ guardP, run_eql_pe, hr, Sem.run_pure, Result.andThen_ok]
  exact ⟨rfl, rfl⟩
theorem q_neqP {C : World → Prop} {o : Oper} {a : Act} {K : Act → Prop} (u v : Operand) (ho : o.op = .binOp .neq 25 u v 25) (x y : Pe) (hx : a.eval u = .agg (peA x)) (hy : a.eval v = .agg (peA y)) {r : Bool} (hr : (!eqP x y) = r)
    (hk : K (a.put o.dst (.bool r))) : o.quiet Try.prog a C K := by
  refine ⟨.bool r, ?_, hk⟩
  intro w' _
  unfold Oper.quietAt execOp
  simp only [ho, hx, hy, Sem.run_bind, run_eqGuard_agg w' .neq 25 u v _ _ guardP, run_neq_pe, hr, Sem.run_pure, Result.andThen_ok]
  exact ⟨rfl, rfl⟩
theorem p_neqP {ops : Array Oper} {rest : List Oper} {o : Oper} {a : Act} {w : World} {Q : Exit → Act → World → Prop} (hgd : o.guard = none) (u v : Operand) (ho : o.op = .binOp .neq 25 u v 25)
    (x y : Pe) (hx : a.eval u = .agg (peA x)) (hy : a.eval v = .agg (peA y)) {r : Bool} (hr : (!eqP x y) = r) (h : wpList Try.prog ops Q rest (a.put o.dst (.bool r)) w) : wpList Try.prog ops Q (o :: rest) a w :=
  wpList_plain hgd fun _ hK => o_neqP u v ho x y hx hy hr (hK _ _ h)
theorem eqP_iff {x y : Pe} (hx : x.2 < M) (hy : y.2 < M) : eqP x y = true ↔ x = y := by
  unfold eqP
  rw [eqB_lt hx hy, Bool.and_eq_true, decide_eq_true_eq, decide_eq_true_eq]
  exact ⟨fun h => Prod.ext h.1 h.2, by rintro rfl; exact ⟨rfl, rfl⟩⟩

/-! rows of peers -/
/-- v reads as the peers L -/
def Lies (w : World) (v : Value) (L : List Pe) : Prop := ((∃ a, v = .slice a 0 0) ∧ L = []) ∨ ∃ b o c, v = .slice (some ⟨b, o, none⟩) L.length c ∧ L.length ≤ c ∧ w.rangeAt b o (flat L)
theorem flat_ne {L : List Pe} (h : L ≠ []) : flat L ≠ [] := by
  cases L with
  | nil => exact absurd rfl h
  | cons x L =>
    intro e
    rw [flat, List.append_eq_nil_iff] at e
    exact pe_ne x e.1
theorem Lies.form {w : World} {v : Value} {L : List Pe} (h : Lies w v L) : ∃ a c, v = .slice a L.length c := by
  rcases h with ⟨⟨_, rfl⟩, rfl⟩ | ⟨b, o, c, rfl, _⟩
  · exact ⟨_, _, rfl⟩
  · exact ⟨_, _, rfl⟩
theorem Lies.bel {w w' : World} {v : Value} {L : List Pe} (h : Lies w v L) (hb : Below w.heap.size w w') : Lies w' v L := by
  rcases h with h | ⟨b, o, c, h1, h2, h3⟩
  · exact .inl h
  · refine .inr ⟨b, o, c, h1, h2, ?_⟩
    by_cases he : L = []
    · subst he; intro j u hu; simp [flat] at hu
    · exact range_bel h3 hb (range_lt h3 (flat_ne he))
theorem row_peer {w : World} {b o : Nat} {L : List Pe} (h : w.rangeAt b o (flat L)) {j : Nat} {x : Pe} (hj : L[j]? = some x) : w.rangeAt b (o + j * 21) (peC x) := fun i v hv => by
  have hi : i < 21 := by have := (List.getElem?_eq_some_iff.1 hv).1; rwa [peC_length] at this
  have := h _ v ((flat_get hj i hi).trans hv)
  rwa [show o + (j * 21 + i) = o + j * 21 + i by omega] at this
/-- a peer of a row, and the row's form -/
theorem Lies.at {w : World} {v : Value} {L : List Pe} (h : Lies w v L) {i : Nat} {x : Pe} (hx : L[i]? = some x) : ∃ b o c, v = .slice (some ⟨b, o, none⟩) L.length c ∧ L.length ≤ c ∧ w.rangeAt b o (flat L) ∧ w.rangeAt b (o + i * 21) (peC x) ∧ b < w.heap.size := by
  rcases h with ⟨_, rfl⟩ | ⟨b, o, c, h1, h2, h3⟩
  · simp at hx
  · exact ⟨b, o, c, h1, h2, h3, row_peer h3 hx, range_lt (row_peer h3 hx) (pe_ne x)⟩
theorem Lies.some {w : World} {v : Value} {L : List Pe} (h : Lies w v L) (hn : 0 < L.length) : ∃ b o c, v = .slice (some ⟨b, o, none⟩) L.length c ∧ L.length ≤ c ∧ w.rangeAt b o (flat L) ∧ b < w.heap.size := by
  obtain ⟨b, o, c, h1, h2, h3, _, h5⟩ := h.at (at_get hn)
  exact ⟨b, o, c, h1, h2, h3, h5⟩
theorem own_shape {w : World} {B e size n : Nat} {v : Value} {xs : List Value} (h : w.ownsRow B e size v n xs) : (v = .slice none 0 0 ∧ n = 0) ∨ ∃ b c, v = .slice (some ⟨b, 0, none⟩) n c ∧ n ≤ c ∧ c ≤ maxLen ∧ w.rangeAt b 0 xs ∧ b < w.heap.size ∧ B ≤ b := by
  rcases h.2 with ⟨h1, h0⟩ | ⟨g, cap, cur, hv, hb, hg, hc, hm, _, ht⟩
  · exact .inl ⟨h1, h0⟩
  · refine .inr ⟨g, cap, hv, hc, hm, fun j v hj => ?_, (Array.getElem?_eq_some_iff.1 hg).1, hb⟩
    rw [Nat.zero_add, cell_of_row w g j cur e _ hg]
    rw [← ht, List.getElem?_take] at hj
    split at hj
    · simpa using hj
    · cases hj
theorem own_keep {w w' : World} {B e size n : Nat} {v : Value} {xs : List Value} (h : w.ownsRow B e size v n xs) (hk : ∀ k, v.ownBlock = some k → w'.heap[k]? = w.heap[k]?) : w'.ownsRow B e size v n xs := by
  refine ⟨h.1, h.2.imp id ?_⟩
  rintro ⟨g, cap, cur, rfl, h1, h2, h3⟩
  exact ⟨g, cap, cur, rfl, h1, (hk g rfl).trans h2, h3⟩
theorem own_bel {w w' : World} {B e size n : Nat} {v : Value} {xs : List Value} (h : w.ownsRow B e size v n xs) (hb : Below w.heap.size w w') : w'.ownsRow B e size v n xs :=
  own_keep h fun k hk => hb.block k (h.lt k hk).2
theorem own_lies {w : World} {B e : Nat} {v : Value} {L : List Pe} (h : w.ownsRow B e 21 v L.length (flat L)) : Lies w v L := by
  rcases own_shape h with ⟨h1, h2⟩ | ⟨b, c, h1, h2, _, h4, _⟩
  · exact .inl ⟨⟨_, h1⟩, List.eq_nil_of_length_eq_zero h2⟩
  · exact .inr ⟨b, 0, c, h1, h2, h4⟩
theorem bel_refl (w : World) : Below w.heap.size w w := Below.refl _ _
theorem step {w a b : World} (h : Below w.heap.size w a) (k : Below a.heap.size a b) : Below w.heap.size w b := h.trans (k.mono h.size)
/-- a region that draws, and only makes memory -/
theorem quiet_end {W w' : World} (h : ∃ p : Regrown, w' = grow (redrawn W p.d) p.os) : Below W.heap.size W w' := by
  obtain ⟨⟨d, os⟩, rfl⟩ := h
  exact below_regrown W d os
theorem drew_bel (w : World) : Below w.heap.size w w.drew := ⟨rfl, rfl, rfl, Nat.le_refl _, fun _ _ => rfl⟩
end Go.Proofs.Ytplcdjmidelboaa
