/- Rows of items: copied into, grown, cut. -/
import Derived.Test.YtbjlappppbaohaaSorMem
import Derived.Lib.AppendZerosOnto
import Derived.Lib.Overlaps
namespace Go.Proofs.Ytbjlappppbaohaa
open Go Go.RowKit Go.Sort

/-- elements of any size are copied from slice to slice -/
theorem run_copy_any {P : Program} (w : World) (dT sT ty elem : TypeId) (sz : Nat) (g o dLen dCap : Nat) (a : Addr) (sLen sCap m : Nat) (cur : Array Value) (t : TypeId) (cs : List Value)
    (hu : P.underlying dT = some (.slice elem)) (hs : (P.info? elem).map (·.size) = some sz) (hg : Blk w g cur t) (hm : m = Nat.min sLen dLen) (hn : cs.length = m * sz)
    (hsrc : ∀ j v, cs[j]? = some v → w.cell? (a.add j) = some v) (hfit : o + cs.length ≤ cur.size) (h1 : ∀ v ∈ cs, v.oneCell' = true) :
    (Builtin.copy_ #[dT, sT] ty #[.slice (some ⟨g, o, none⟩) dLen dCap, .slice (some a) sLen sCap]).run P w = .ok (goInt m) (w.setRow g (cur.toList.take o ++ cs ++ cur.toList.drop (o + cs.length)).toArray) := by
  have hst := run_storeCells_at P g o t cs 0 cur w hg (by simpa using hfit) h1
  have hl := run_loadCells_list (P := P) w a cs hsrc
  cases hq : P.info? elem with
  | none => simp [hq] at hs
  | some i =>
    have hi : i.size = sz := by simpa [hq] using hs
    simp [Builtin.copy_, run_underlying hu, Builtin.lenOf, Builtin.firstCells, sizeOf, typeInfo, hq, hi, ← hm, ← hn, hl, hst]
theorem wpList_copy_any {P : Program} {w : World} {ops : Array Oper} {rest : List Oper} {o : Oper} {a : Act} {Q : Exit → Act → World → Prop} (hgd : o.guard = none) (d s : Operand) (dT sT : TypeId)
    (ho : o.op = .call { callee := .builtin .copy, args := #[d, s], argTypes := #[dT, sT] }) (elem : TypeId) (sz : Nat) (hu : P.underlying dT = some (.slice elem)) (hsz : (P.info? elem).map (·.size) = some sz)
    (b off n cap sb so k sCap m : Nat) (hd : a.eval d = .slice (some ⟨b, off, none⟩) n cap) (hs : a.eval s = .slice (some ⟨sb, so, none⟩) k sCap) (hm : m = Nat.min k n) (cur : Array Value) (t : TypeId) (hg : Blk w b cur t)
    (cs : List Value) (hn : cs.length = m * sz) (hsrc : w.rangeAt sb so cs) (hfit : off + cs.length ≤ cur.size) (h1 : ∀ v ∈ cs, v.oneCell' = true) (new : Array Value) (hw : (cur.toList.take off ++ cs ++ cur.toList.drop (off + cs.length)).toArray = new)
    (h : wpList P ops Q rest (a.put o.dst (goInt m)) (w.setRow b new)) : wpList P ops Q (o :: rest) a w := by
  refine wpList_plain hgd fun K hK => ?_
  have hrun := run_copy_any (P := P) w dT sT o.type elem sz b off n cap ⟨sb, so, none⟩ k sCap m cur t cs hu hsz hg hm hn (fun j v hj => by rw [Addr.add_mid]; exact hsrc j v hj) hfit h1
  rw [hw] at hrun
  unfold Oper.wp
  simp [execOp, ho, resolve, invoke, builtin, hd, hs, hrun, Result.andThen]
  exact hK _ _ h

/-- what is appended may have a slice type of another name -/
theorem run_append_named {P : Program} (w : World) (t tx ty e e' : TypeId) (i : TypeInfo) (ht : P.underlying t = some (.slice e)) (hx : P.underlying tx = some (.slice e')) (hi : P.info? e = some i) (base : Option Addr) (n c : Nat) (u : Value) :
    (Builtin.append_ #[t, tx] ty #[.slice base n c, u]).run P w = (Builtin.append_ #[t, t] ty #[.slice base n c, u]).run P w := by
  simp [Builtin.append_, run_underlying ht, run_underlying hx, sizeOf, typeInfo, hi]
/-- one item is appended to a row of the call's own -/
theorem wpList_addI {w : World} {ops : Array Oper} {rest : List Oper} {o : Oper} {a : Act} {Q : Exit → Act → World → Prop} (hgd : o.guard = none) (s x : Operand)
    (ho : o.op = .call { callee := .builtin .append, args := #[s, x], argTypes := #[55, 54] })
    (v : Value) (n : Nat) (xs : List Value) (hs : a.eval s = v) (hown : w.ownsRow 0 61 2 v n xs) (vb k : Nat) (str : ByteArray) (hx : a.eval x = .slice (some ⟨vb, 0, none⟩) 1 1) (hv : Blk w vb (itC k str) 61) (hn : n ≤ 1000000)
    (h : ∀ v' w', w'.ownsRow 0 61 2 v' (n + 1) (xs ++ (itC k str).toList) → w.grownBy w' v.ownBlock → (v'.ownBlock = v.ownBlock ∨ v'.ownBlock = some w.heap.size) → wpList Try.prog ops Q rest (a.put o.dst v') w') : wpList Try.prog ops Q (o :: rest) a w := by
  obtain ⟨i0, hi, hq⟩ := Option.map_eq_some_iff.1 infoI
  simp only [Prod.mk.injEq] at hq
  obtain ⟨q1, q2, q3⟩ := hq
  obtain ⟨v', w', hr, h2, h3, _, h5⟩ := run_append_own_at (P := Try.prog) w 0 55 o.type 61 i0 _ 2 24 Try.underlying55 hi q1 q2 q3 rfl (by omega) v n xs hown ⟨vb, 0, none⟩ 1 1 (itC k str).toList rfl
    (fun j u hj => by rw [Addr.add_mid, Nat.zero_add, hv.cell]; simpa using hj) (fun u hu => by simp [itC] at hu; rcases hu with rfl | rfl <;> rfl) (by unfold maxLen; omega) (by omega) (Nat.zero_le _)
  obtain ⟨ba, ca, rfl⟩ : ∃ ba ca, v = .slice ba n ca := by
    rcases own_shape hown with ⟨rfl, rfl⟩ | ⟨b, c, rfl, _⟩
    · exact ⟨_, _, rfl⟩
    · exact ⟨_, _, rfl⟩
  have hr2 := (run_append_named w _ 54 o.type _ _ i0 Try.underlying55 Try.underlying54 hi ba n ca (.slice (some ⟨vb, 0, none⟩) 1 1)).trans hr
  refine wpList_plain hgd fun K hK => ?_
  unfold Oper.wp execOp
  simp only [ho, resolve, invoke, builtin, Sem.run_bind, Sem.run_pure, Result.andThen_ok, List.map_toArray, List.map_cons, List.map_nil, hs, hx, hr2]
  exact hK _ _ (h v' w' h2 h3 h5)

/-- row[r:], in a region that draws its order -/
theorem wpStill_from {P : Program} {ops : Array Oper} {w : World} {rest : List Oper} {o : Oper} {a : Act} {Q : Act → Prop} (hgd : o.guard = none) (T : TypeId) (s lo : Operand)
    (ho : o.op = .slice T s (some lo) none none) (e : TypeId) (size : Nat) (hT : P.underlying T = some (.slice e)) (hi : (P.info? e).map (·.size) = some size)
    (b off n c r : Nat) (z : Int) (hs : a.eval s = .slice (some ⟨b, off, none⟩) n c) (hlo : a.eval lo = .int .i64 z) (hz : z = (r : Int)) (hr : r ≤ n)
    (h : wpStill P ops w Q rest (a.put o.dst (.slice (if c = r then some ⟨b, off, none⟩ else some ⟨b, off + r * size, none⟩) (n - r) (c - r)))) : wpStill P ops w Q (o :: rest) a := by
  subst hz
  have hel : P.elem T = e := by simp [Program.elem, hT]
  have hT' : P.underlying T = some (.slice (P.elem T)) := by rw [hel]; exact hT
  obtain ⟨i, hi', hq⟩ := Option.map_eq_some_iff.1 hi
  have hr' : (Instr.sliceAt T (.slice (some ⟨b, off, none⟩) n c) (some (.int .i64 (r : Int))) none none).run P w = .ok (sliced (some ⟨b, off, none⟩) r n c size) w := by
    rw [run_sliceAt_slice w T _ _ _ _ hT', run_slice_l w T _ n c hT' .i64 (r : Int) (by omega) (by omega), hel]
    simp [sizeOf, typeInfo, hi', Result.andThen, hq]
  have hw : Region.wanted o (yielded ops a.tmps) = true := by simp [Region.wanted, hgd]
  have hv : sliced (some ⟨b, off, none⟩) r n c size = .slice (if c = r then some ⟨b, off, none⟩ else some ⟨b, off + r * size, none⟩) (n - r) (c - r) := by
    unfold sliced; split <;> simp [Addr.add_mid]
  refine wpStill_step fun K hK => ?_
  rw [if_pos hw]
  unfold Oper.still execOp
  simp only [ho, Option.map, hs, hlo, Sem.run_bind, Result.andThen_ok, hr', hv]
  exact ⟨rfl, hK _ h⟩
/-- row[:r], in a region that draws its order -/
theorem wpStill_to {P : Program} {ops : Array Oper} {w : World} {rest : List Oper} {o : Oper} {a : Act} {Q : Act → Prop} (hgd : o.guard = none) (T : TypeId) (s hi_ : Operand)
    (ho : o.op = .slice T s none (some hi_) none) (e : TypeId) (size : Nat) (hT : P.underlying T = some (.slice e)) (hi : (P.info? e).map (·.size) = some size)
    (b off n c r : Nat) (z : Int) (hs : a.eval s = .slice (some ⟨b, off, none⟩) n c) (hlo : a.eval hi_ = .int .i64 z) (hz : z = (r : Int)) (hr : r ≤ c)
    (h : wpStill P ops w Q rest (a.put o.dst (.slice (some ⟨b, off, none⟩) r c))) : wpStill P ops w Q (o :: rest) a := by
  subst hz
  have hel : P.elem T = e := by simp [Program.elem, hT]
  have hT' : P.underlying T = some (.slice (P.elem T)) := by rw [hel]; exact hT
  obtain ⟨i, hi', hq⟩ := Option.map_eq_some_iff.1 hi
  have hr' : (Instr.sliceAt T (.slice (some ⟨b, off, none⟩) n c) none (some (.int .i64 (r : Int))) none).run P w = .ok (sliced (some ⟨b, off, none⟩) 0 r c size) w := by
    rw [run_sliceAt_slice w T _ _ _ _ hT', run_slice_h w T _ n c hT' .i64 (r : Int) (by omega) (by omega), hel]
    simp [sizeOf, typeInfo, hi', Result.andThen, hq]
  have hw : Region.wanted o (yielded ops a.tmps) = true := by simp [Region.wanted, hgd]
  have hv : sliced (some ⟨b, off, none⟩) 0 r c size = .slice (some ⟨b, off, none⟩) r c := by
    unfold sliced; split <;> simp [Addr.add_mid]
  refine wpStill_step fun K hK => ?_
  rw [if_pos hw]
  unfold Oper.still execOp
  simp only [ho, Option.map, hs, hlo, Sem.run_bind, Result.andThen_ok, hr', hv]
  exact ⟨rfl, hK _ h⟩

/-! the lists -/
theorem ins_room {cur : List Value} {L : List It} {i c : Nat} {x : It} (hi : i ≤ L.length) (hc : cur.length = c * 2) (hr : L.length + 1 ≤ c) (ht : cur.take (L.length * 2) = flat L) (C1 C2 : List Value)
    (h1 : C1 = cur.take ((i + 1) * 2) ++ flat (L.drop i) ++ cur.drop ((i + 1) * 2 + (flat (L.drop i)).length)) (h2 : C2 = C1.take (i * 2) ++ flat [x] ++ C1.drop (i * 2 + 2)) :
    C1.length = c * 2 ∧ C2.length = c * 2 ∧ C2.take ((L.length + 1) * 2) = flat (L.take i ++ x :: L.drop i) := by
  have hF : (flat (L.drop i)).length = (L.length - i) * 2 := by rw [flat_length, List.length_drop]
  have hA : (cur.take ((i + 1) * 2)).length = (i + 1) * 2 := by rw [List.length_take, hc]; omega
  have hl1 : C1.length = c * 2 := by
    rw [h1]; simp only [List.length_append, List.length_drop, hA, hF, hc]; omega
  have t1 : C1.take (i * 2) = flat (L.take i) := by
    rw [h1, List.append_assoc, List.take_append_of_le_length (by omega), List.take_take, Nat.min_eq_left (by omega), ← flat_take, ← ht, List.take_take, Nat.min_eq_left (by omega)]
  have d1 : C1.drop (i * 2 + 2) = flat (L.drop i) ++ cur.drop ((i + 1) * 2 + (flat (L.drop i)).length) := by
    rw [h1, List.append_assoc, List.drop_append, List.drop_eq_nil_of_le (by omega), List.nil_append, hA, show i * 2 + 2 - (i + 1) * 2 = 0 by omega, List.drop_zero]
  have hl2 : C2.length = c * 2 := by
    rw [h2]; simp only [List.length_append, List.length_take, List.length_drop, hl1, flat, List.length_cons, List.length_nil]; omega
  refine ⟨hl1, hl2, ?_⟩
  rw [h2, t1, d1, flat_append, show x :: L.drop i = [x] ++ L.drop i from rfl, flat_append, ← List.append_assoc, ← List.append_assoc]
  have hl : (flat (L.take i) ++ flat [x] ++ flat (L.drop i)).length = (L.length + 1) * 2 := by
    simp only [List.length_append, flat_length, List.length_take, List.length_drop, List.length_cons, List.length_nil]; omega
  rw [List.take_append_of_le_length (by omega), ← hl, List.take_length]
theorem ins_grow {Z : List Value} {L : List It} {i c : Nat} {x : It} (hi : i ≤ L.length) (hc : Z.length = c * 2) (hr : L.length + 1 ≤ c) (ht : Z.take (i * 2) = flat (L.take i)) (C1 C2 : List Value)
    (h1 : C1 = Z.take (i * 2) ++ flat [x] ++ Z.drop (i * 2 + 2)) (h2 : C2 = C1.take ((i + 1) * 2) ++ flat (L.drop i) ++ C1.drop ((i + 1) * 2 + (flat (L.drop i)).length)) :
    C1.length = c * 2 ∧ C2.length = c * 2 ∧ C2.take ((L.length + 1) * 2) = flat (L.take i ++ x :: L.drop i) := by
  have hF : (flat (L.drop i)).length = (L.length - i) * 2 := by rw [flat_length, List.length_drop]
  have hT : (flat (L.take i)).length = i * 2 := by rw [flat_length, List.length_take]; omega
  have hX : (flat [x]).length = 2 := rfl
  have hl1 : C1.length = c * 2 := by
    rw [h1]; simp only [List.length_append, List.length_take, List.length_drop, hX, hc]; omega
  have t1 : C1.take ((i + 1) * 2) = flat (L.take i) ++ flat [x] := by
    rw [h1, ht, List.take_append_of_le_length (by rw [List.length_append]; omega), List.take_of_length_le (by rw [List.length_append]; omega)]
  have hl2 : C2.length = c * 2 := by
    rw [h2]; simp only [List.length_append, List.length_take, List.length_drop, hl1, hF]; omega
  refine ⟨hl1, hl2, ?_⟩
  have hl : (flat (L.take i) ++ flat [x] ++ flat (L.drop i)).length = (L.length + 1) * 2 := by
    simp only [List.length_append, hT, hX, hF]; omega
  rw [h2, t1, flat_append, show x :: L.drop i = [x] ++ L.drop i from rfl, flat_append, ← List.append_assoc, List.take_append_of_le_length (by omega), ← hl, List.take_length]
theorem del_row {cur : List Value} {L : List It} {i c : Nat} (hi : i < L.length) (hc : cur.length = c * 2) (hr : L.length ≤ c) (ht : cur.take (L.length * 2) = flat L) (C1 C2 : List Value)
    (h1 : C1 = cur.take (i * 2) ++ flat (L.drop (i + 1)) ++ cur.drop (i * 2 + (flat (L.drop (i + 1))).length)) (z : List Value) (hz : z.length = 2) (h2 : C2 = C1.take ((L.length - 1) * 2) ++ z ++ C1.drop (L.length * 2)) :
    C1.length = c * 2 ∧ C2.length = c * 2 ∧ C2.take ((L.length - 1) * 2) = flat (L.take i ++ L.drop (i + 1)) := by
  have hF : (flat (L.drop (i + 1))).length = (L.length - (i + 1)) * 2 := by rw [flat_length, List.length_drop]
  have hT : (flat (L.take i)).length = i * 2 := by rw [flat_length, List.length_take]; omega
  have t0 : cur.take (i * 2) = flat (L.take i) := by rw [← flat_take, ← ht, List.take_take, Nat.min_eq_left (by omega)]
  have hl1 : C1.length = c * 2 := by
    rw [h1]; simp only [List.length_append, List.length_take, List.length_drop, hF, hc]; omega
  have hl2 : C2.length = c * 2 := by
    rw [h2]; simp only [List.length_append, List.length_take, List.length_drop, hl1, hz]; omega
  refine ⟨hl1, hl2, ?_⟩
  have hl : (flat (L.take i) ++ flat (L.drop (i + 1))).length = (L.length - 1) * 2 := by
    simp only [List.length_append, hT, hF]; omega
  rw [h2, List.append_assoc, List.take_append_of_le_length (by rw [List.length_take]; omega), List.take_take, Nat.min_eq_left (by omega), h1, t0, flat_append, List.take_append_of_le_length (by omega), ← hl, List.take_length]
end Go.Proofs.Ytbjlappppbaohaa
