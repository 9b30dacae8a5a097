/- A peer is put into a row. -/
import Derived.Test.YtmlejcfnnjnggaaDoorCirFin
import Derived.Lib.AppendZerosOnto
import Derived.Lib.Overlaps
namespace Go.Proofs.YtmlejcfnnjnggaaDoor
set_option maxRecDepth 100000
open Go Go.RowKit Go.Sort

/-- elements of any size are copied from slice to slice -/
theorem run_copy_any {P : Program} (w : World) (dT sT ty elem : TypeId) (sz : Nat) (g o dLen dCap : Nat) (a : Addr) (sLen sCap m : Nat) (cur : Array Value) (t : TypeId) (cs : List Value)
    (hu : P.underlying dT = some (.slice elem)) (hs : (P.info? elem).map (·.size) = some sz) (hg : Blk w g cur t) (hm : m = Nat.min sLen dLen) (hn : cs.length = m * sz)
    (hsrc : ∀ j v, cs[j]? = some v → w.cell? (a.add j) = some v) (hfit : o + cs.length ≤ cur.size) (h1 : ∀ v ∈ cs, v.oneCell' = true) :
    (Builtin.copy_ #[dT, sT] ty #[.slice (some ⟨g, o, none⟩) dLen dCap, .slice (some a) sLen sCap]).run P w = .ok (goInt m) (w.setRow g (cur.toList.take o ++ cs ++ cur.toList.drop (o + cs.length)).toArray) := by
  have hst := run_storeCells_at P g o t cs 0 cur w hg (by simpa using hfit) h1
  have hl := run_loadCells_list (P := P) w a cs hsrc
  cases hq : P.info? elem with
  | none => simp [hq] at hs
  | some i =>
    have hi : i.size = sz := by simpa [hq] using hs
    simp [Builtin.copy_, run_underlying hu, Builtin.lenOf, Builtin.firstCells, sizeOf, typeInfo, hq, hi, ← hm, ← hn, hl, hst]
theorem wpList_copy_any {P : Program} {w : World} {ops : Array Oper} {rest : List Oper} {o : Oper} {a : Act} {Q : Exit → Act → World → Prop} (hgd : o.guard = none) (d s : Operand) (dT sT : TypeId)
    (ho : o.op = .call { callee := .builtin .copy, args := #[d, s], argTypes := #[dT, sT] }) (elem : TypeId) (sz : Nat) (hu : P.underlying dT = some (.slice elem)) (hsz : (P.info? elem).map (·.size) = some sz)
    (b off n cap sb so k sCap m : Nat) (hd : a.eval d = .slice (some ⟨b, off, none⟩) n cap) (hs : a.eval s = .slice (some ⟨sb, so, none⟩) k sCap) (hm : m = Nat.min k n) (cur : Array Value) (t : TypeId) (hg : Blk w b cur t)
    (cs : List Value) (hn : cs.length = m * sz) (hsrc : w.rangeAt sb so cs) (hfit : off + cs.length ≤ cur.size) (h1 : ∀ v ∈ cs, v.oneCell' = true) (new : Array Value) (hw : (cur.toList.take off ++ cs ++ cur.toList.drop (off + cs.length)).toArray = new)
    (h : wpList P ops Q rest (a.put o.dst (goInt m)) (w.setRow b new)) : wpList P ops Q (o :: rest) a w := by
  refine wpList_plain hgd fun K hK => ?_
  have hrun := run_copy_any (P := P) w dT sT o.type elem sz b off n cap ⟨sb, so, none⟩ k sCap m cur t cs hu hsz hg hm hn (fun j v hj => by rw [Addr.add_mid]; exact hsrc j v hj) hfit h1
  rw [hw] at hrun
  unfold Oper.wp
  simp [execOp, ho, resolve, invoke, builtin, hd, hs, hrun, Result.andThen]
  exact hK _ _ h

/-- one peer is appended to a row of the call's own -/
theorem wpList_addI {w : World} {ops : Array Oper} {rest : List Oper} {o : Oper} {a : Act} {Q : Exit → Act → World → Prop} (hgd : o.guard = none) (s u : Operand)
    (ho : o.op = .call { callee := .builtin .append, args := #[s, u], argTypes := #[23, 23] })
    (v : Value) (n : Nat) (xs : List Value) (hs : a.eval s = v) (hown : w.ownsRow 0 43 21 v n xs) (vb : Nat) (x : Pe) (hx : a.eval u = .slice (some ⟨vb, 0, none⟩) 1 1) (hv : Blk w vb (peA x) 43) (hn : n ≤ 1000000)
    (h : ∀ v' w', w'.ownsRow 0 43 21 v' (n + 1) (xs ++ (peA x).toList) → w.grownBy w' v.ownBlock → (v'.ownBlock = v.ownBlock ∨ v'.ownBlock = some w.heap.size) → wpList Tryd.prog ops Q rest (a.put o.dst v') w') : wpList Tryd.prog ops Q (o :: rest) a w := by
  obtain ⟨i0, hi, hq⟩ := Option.map_eq_some_iff.1 infoP
  simp only [Prod.mk.injEq] at hq
  obtain ⟨q1, q2, q3⟩ := hq
  obtain ⟨v', w', hr, h2, h3, _, h5⟩ := run_append_own_at (P := Tryd.prog) w 0 23 o.type 43 i0 _ 21 32 Tryd.underlying23 hi q1 q2 q3 (peA_size _) (by omega) v n xs hown ⟨vb, 0, none⟩ 1 1 (peA x).toList (by rw [Array.length_toList, peA_size])
    (fun j u hj => by rw [Addr.add_mid, Nat.zero_add, hv.cell]; simpa using hj) (fun u hu => peC_one x u hu) (by unfold maxLen; omega) (by omega) (Nat.zero_le _)
  refine wpList_plain hgd fun K hK => ?_
  unfold Oper.wp execOp
  simp only [ho, resolve, invoke, builtin, Sem.run_bind, Sem.run_pure, Result.andThen_ok, List.map_toArray, List.map_cons, List.map_nil, hs, hx, hr]
  exact hK _ _ (h v' w' h2 h3 h5)

/-- row[r:], in a region that draws its order -/
theorem wpStill_from {P : Program} {ops : Array Oper} {w : World} {rest : List Oper} {o : Oper} {a : Act} {Q : Act → Prop} (hgd : o.guard = none) (T : TypeId) (s lo : Operand)
    (ho : o.op = .slice T s (some lo) none none) (e : TypeId) (size : Nat) (hT : P.underlying T = some (.slice e)) (hi : (P.info? e).map (·.size) = some size)
    (b off n c r : Nat) (z : Int) (hs : a.eval s = .slice (some ⟨b, off, none⟩) n c) (hlo : a.eval lo = .int .i64 z) (hz : z = (r : Int)) (hr : r ≤ n)
    (h : wpStill P ops w Q rest (a.put o.dst (.slice (if c = r then some ⟨b, off, none⟩ else some ⟨b, off + r * size, none⟩) (n - r) (c - r)))) : wpStill P ops w Q (o :: rest) a := by
  subst hz
  have hel : P.elem T = e := by simp [Program.elem, hT]
  have hT' : P.underlying T = some (.slice (P.elem T)) := by rw [hel]; exact hT
  obtain ⟨i, hi', hq⟩ := Option.map_eq_some_iff.1 hi
  have hr' : (Instr.sliceAt T (.slice (some ⟨b, off, none⟩) n c) (some (.int .i64 (r : Int))) none none).run P w = .ok (sliced (some ⟨b, off, none⟩) r n c size) w := by
    rw [run_sliceAt_slice w T _ _ _ _ hT', run_slice_l w T _ n c hT' .i64 (r : Int) (by omega) (by omega), hel]
    simp [sizeOf, typeInfo, hi', Result.andThen, hq]
  have hw : Region.wanted o (yielded ops a.tmps) = true := by simp [Region.wanted, hgd]
  have hv : sliced (some ⟨b, off, none⟩) r n c size = .slice (if c = r then some ⟨b, off, none⟩ else some ⟨b, off + r * size, none⟩) (n - r) (c - r) := by
    unfold sliced; split <;> simp [Addr.add_mid]
  refine wpStill_step fun K hK => ?_
  rw [if_pos hw]
  unfold Oper.still execOp
  simp only [ho, Option.map, hs, hlo, Sem.run_bind, Result.andThen_ok, hr', hv]
  exact ⟨rfl, hK _ h⟩

/-! the lists -/
theorem ins_room {cur : List Value} {L : List Pe} {i c : Nat} {x : Pe} (hi : i ≤ L.length) (hc : cur.length = c * 21) (hr : L.length + 1 ≤ c) (ht : cur.take (L.length * 21) = flat L) (C1 C2 : List Value)
    (h1 : C1 = cur.take ((i + 1) * 21) ++ flat (L.drop i) ++ cur.drop ((i + 1) * 21 + (flat (L.drop i)).length)) (h2 : C2 = C1.take (i * 21) ++ flat [x] ++ C1.drop (i * 21 + 21)) :
    C1.length = c * 21 ∧ C2.length = c * 21 ∧ C2.take ((L.length + 1) * 21) = flat (L.take i ++ x :: L.drop i) := by
  have hF : (flat (L.drop i)).length = (L.length - i) * 21 := by rw [flat_length, List.length_drop]
  have hA : (cur.take ((i + 1) * 21)).length = (i + 1) * 21 := by rw [List.length_take, hc]; omega
  have hl1 : C1.length = c * 21 := by
    rw [h1]; simp only [List.length_append, List.length_drop, hA, hF, hc]; omega
  have t1 : C1.take (i * 21) = flat (L.take i) := by
    rw [h1, List.append_assoc, List.take_append_of_le_length (by omega), List.take_take, Nat.min_eq_left (by omega), ← flat_take, ← ht, List.take_take, Nat.min_eq_left (by omega)]
  have d1 : C1.drop (i * 21 + 21) = flat (L.drop i) ++ cur.drop ((i + 1) * 21 + (flat (L.drop i)).length) := by
    rw [h1, List.append_assoc, List.drop_append, List.drop_eq_nil_of_le (by omega), List.nil_append, hA, show i * 21 + 21 - (i + 1) * 21 = 0 by omega, List.drop_zero]
  have hl2 : C2.length = c * 21 := by
    rw [h2]; simp only [List.length_append, List.length_take, List.length_drop, hl1, flat_single, peC_length]; omega
  refine ⟨hl1, hl2, ?_⟩
  rw [h2, t1, d1, flat_append, show x :: L.drop i = [x] ++ L.drop i from rfl, flat_append, ← List.append_assoc, ← List.append_assoc]
  have hl : (flat (L.take i) ++ flat [x] ++ flat (L.drop i)).length = (L.length + 1) * 21 := by
    simp only [List.length_append, flat_length, List.length_take, List.length_drop, List.length_cons, List.length_nil]; omega
  rw [List.take_append_of_le_length (by omega), ← hl, List.take_length]
theorem ins_grow {Z : List Value} {L : List Pe} {i c : Nat} {x : Pe} (hi : i ≤ L.length) (hc : Z.length = c * 21) (hr : L.length + 1 ≤ c) (ht : Z.take (i * 21) = flat (L.take i)) (C1 C2 : List Value)
    (h1 : C1 = Z.take (i * 21) ++ flat [x] ++ Z.drop (i * 21 + 21)) (h2 : C2 = C1.take ((i + 1) * 21) ++ flat (L.drop i) ++ C1.drop ((i + 1) * 21 + (flat (L.drop i)).length)) :
    C1.length = c * 21 ∧ C2.length = c * 21 ∧ C2.take ((L.length + 1) * 21) = flat (L.take i ++ x :: L.drop i) := by
  have hF : (flat (L.drop i)).length = (L.length - i) * 21 := by rw [flat_length, List.length_drop]
  have hT : (flat (L.take i)).length = i * 21 := by rw [flat_length, List.length_take]; omega
  have hX : (flat [x]).length = 21 := by rw [flat_single, peC_length]
  have hl1 : C1.length = c * 21 := by
    rw [h1]; simp only [List.length_append, List.length_take, List.length_drop, hX, hc]; omega
  have t1 : C1.take ((i + 1) * 21) = flat (L.take i) ++ flat [x] := by
    rw [h1, ht, List.take_append_of_le_length (by rw [List.length_append]; omega), List.take_of_length_le (by rw [List.length_append]; omega)]
  have hl2 : C2.length = c * 21 := by
    rw [h2]; simp only [List.length_append, List.length_take, List.length_drop, hl1, hF]; omega
  refine ⟨hl1, hl2, ?_⟩
  have hl : (flat (L.take i) ++ flat [x] ++ flat (L.drop i)).length = (L.length + 1) * 21 := by
    simp only [List.length_append, hT, hX, hF]; omega
  rw [h2, t1, flat_append, show x :: L.drop i = [x] ++ L.drop i from rfl, flat_append, ← List.append_assoc, List.take_append_of_le_length (by omega), ← hl, List.take_length]
/-- behind an Insert: a row of items, of its own, or the one that was -/
def Put (w w' : World) (v v' : Value) (L : List Pe) : Prop := w'.ownsRow 0 43 21 v' L.length (flat L) ∧ w.grownBy w' v.ownBlock ∧ (v'.ownBlock = v.ownBlock ∨ ∃ f, v'.ownBlock = some f ∧ w.heap.size ≤ f)
set_option maxHeartbeats 1000000 in
theorem ins_end (v : Value) (L : List Pe) (x : Pe) (vb : Nat) (w : World) (hO : w.ownsRow 0 43 21 v L.length (flat L)) (hn : L.length ≤ 1000000) (hv : Blk w vb (peA x) 43) :
    Calls Tryd.prog 32 #[v, .int .i64 L.length, .slice (some ⟨vb, 0, none⟩) 1 1] w fun e w' => ∃ v', e = .returned v' ∧ Put w w' v v' (L ++ [x]) := by
  have HV := Lib.hid hv
  have HO := Lib.hid hO
  have fin : ∀ v' w', w'.ownsRow 0 43 21 v' (L.length + 1) (flat L ++ (peA x).toList) → w.grownBy w' v.ownBlock → (v'.ownBlock = v.ownBlock ∨ v'.ownBlock = some w.heap.size) → Put w w' v v' (L ++ [x]) := fun v' w' h1 h2 h3 => by
    refine ⟨?_, h2, h3.imp id fun h => ⟨_, h, Nat.le_refl _⟩⟩
    rw [flat_append, List.length_append, flat_single]
    exact h1
  have HF := Lib.hid fin
  clear fin
  obtain ⟨n, hnL⟩ : ∃ n, n = L.length := ⟨_, rfl⟩
  rw [← hnL] at HO HF hn ⊢
  rcases own_shape HO.out with ⟨rfl, h0⟩ | ⟨b, c, rfl, hc, hm, _, _⟩
  · obtain rfl : n = 0 := h0
    clear hO hv hnL
    go_enter Tryd.func32, Tryd.ntmps32
    go_wp2_with (at_builtin; refine wpList_addI rfl _ _ rfl _ 0 (flat L) rfl HO.out vb x rfl HV.out (by omega) ?_; intro v' w' h1 h2 h3; have HP := Lib.hid (HF.out v' w' h1 h2 h3); clear h1 h2 h3)
    go_ret
    exact ⟨_, rfl, HP.out⟩
  · clear hO hv hnL hm
    go_enter Tryd.func32, Tryd.ntmps32
    go_wp2_with (at_builtin; refine wpList_addI rfl _ _ rfl _ n (flat L) rfl HO.out vb x rfl HV.out hn ?_; intro v' w' h1 h2 h3; have HP := Lib.hid (HF.out v' w' h1 h2 h3); clear h1 h2 h3)
    all_goals (go_ret; exact ⟨_, rfl, HP.out⟩)
theorem overlaps_no (w : World) (va vb : Nat) (o n c lb cb : Nat) (A B : Array Value) (hne : va ≠ vb) (ha : Blk w va A 43) (hb : Blk w vb B 43) (hB : B.size ≠ 0) :
    (callFunc 49 #[.slice (some ⟨va, 0, none⟩) n c, .slice (some ⟨vb, o, none⟩) lb cb]).run Tryd.prog w = .ok (.value (.bool false)) w := by
  have sa : w.shape? va = some (43, A.size) := by unfold World.shape?; rw [ha]
  have sb : w.shape? vb = some (43, B.size) := by unfold World.shape?; rw [hb]
  have hz : ∀ w, (Go.sizeOf 43).run Tryd.prog w = .ok 21 w := fun w => by
    obtain ⟨i, hi, hs⟩ := Option.map_eq_some_iff.1 sizeP
    simp [Go.sizeOf, typeInfo, hi, hs]
  rw [run_callFunc_extern Tryd.func49 (by kernel_rfl) (by kernel_rfl) (by kernel_rfl) (e := Extern.SlicesOverlaps.overlaps #[23, 23] #[4]) (by kernel_rfl),
    Lib.run_overlaps_apart w 23 4 43 Tryd.underlying23 21 hz ⟨va, 0, none⟩ ⟨vb, o, none⟩ n c lb cb hne _ _ _ _ sa sb hB (ha.free 0) (ha.free _)]
  rfl
set_option maxHeartbeats 2000000 in
theorem ins_mid (b c i : Nat) (L : List Pe) (x : Pe) (vb : Nat) (w : World) (hO : w.ownsRow 0 43 21 (.slice (some ⟨b, 0, none⟩) L.length c) L.length (flat L)) (hi : i < L.length) (hn : L.length ≤ 1000000) (hc : L.length + 1 ≤ c) (hv : Blk w vb (peA x) 43) (hne : vb ≠ b) :
    Calls Tryd.prog 32 #[.slice (some ⟨b, 0, none⟩) L.length c, .int .i64 i, .slice (some ⟨vb, 0, none⟩) 1 1] w fun e w' => ∃ v', e = .returned v' ∧ Put w w' (.slice (some ⟨b, 0, none⟩) L.length c) v' (L.take i ++ x :: L.drop i) := by
  rcases hO.2 with ⟨h, _⟩ | ⟨b', c', cur, h, _, hb, _, hcm, hcs, htake⟩
  · simp at h
  simp only [Value.slice.injEq, Option.some.injEq, Addr.mk.injEq, and_true, true_and] at h
  obtain ⟨rfl, rfl⟩ := h
  have hB : Blk w b cur 43 := hb
  have hm' : maxLen = 9223372036854775807 := rfl
  have hsr : w.rangeAt b 0 (flat L) := by
    rcases own_shape hO with ⟨h, _⟩ | ⟨b', c', h, _, _, hr, _⟩
    · simp at h
    · simp only [Value.slice.injEq, Option.some.injEq, Addr.mk.injEq, and_true, true_and] at h
      obtain ⟨rfl, rfl⟩ := h
      exact hr
  have hsr2 : w.rangeAt b (i * 21) (flat (L.drop i)) := fun j v hj => by
    rw [← flat_drop, List.getElem?_drop] at hj
    have := hsr _ v hj
    rwa [Nat.zero_add] at this
  obtain ⟨C1, hC1⟩ : ∃ C1, C1 = cur.toList.take ((i + 1) * 21) ++ flat (L.drop i) ++ cur.toList.drop ((i + 1) * 21 + (flat (L.drop i)).length) := ⟨_, rfl⟩
  obtain ⟨C2, hC2⟩ : ∃ C2, C2 = C1.take (i * 21) ++ flat [x] ++ C1.drop (i * 21 + 21) := ⟨_, rfl⟩
  obtain ⟨l1, l2, l3⟩ := ins_room (x := x) (Nat.le_of_lt hi) (by rw [Array.length_toList]; exact hcs) hc htake C1 C2 hC1 hC2
  have hB1 : Blk (w.drew.setRow b C1.toArray) b C1.toArray 43 := hB.drew.setRow _
  have hV1 : Blk (w.drew.setRow b C1.toArray) vb (peA x) 43 := hv.drew.setRow_other _ _ hne
  have hvr : (w.drew.setRow b C1.toArray).rangeAt vb 0 (flat [x]) := fun j u hj => by
    rw [Nat.zero_add, hV1.cell]; rw [flat_single] at hj; simpa [peA] using hj
  have fin : Put w ((w.drew.setRow b C1.toArray).setRow b C2.toArray) (.slice (some ⟨b, 0, none⟩) L.length c) (.slice (some ⟨b, 0, none⟩) (L.length + 1) c) (L.take i ++ x :: L.drop i) := by
    have hll : (L.take i ++ x :: L.drop i).length = L.length + 1 := by simp; omega
    refine ⟨?_, ⟨rfl, rfl, rfl, by simp [World.setRow], fun j hj hne => ?_⟩, .inl rfl⟩
    · rw [hll]
      refine ⟨by rw [flat_length, hll], .inr ⟨b, c, C2.toArray, rfl, Nat.zero_le _, hB1.setRow _, hc, hcm, by rw [List.size_toArray]; exact l2, by rw [List.toList_toArray]; exact l3⟩⟩
    · have hj' : j ≠ b := fun e => hne (by rw [e]; rfl)
      rw [Go.setRow_other _ _ _ _ hj', Go.setRow_other _ _ _ _ hj']
      rfl
  have hov : ∀ lb cb, (callFunc 49 #[.slice (some ⟨vb, 0, none⟩) 1 1, .slice (some ⟨b, (i + 1) * 21, none⟩) lb cb]).run Tryd.prog w = .ok (.value (.bool false)) w := fun lb cb => overlaps_no w vb b _ _ _ lb cb _ _ hne hv hB (by rw [hcs]; omega)
  have hF := flat_length (L.drop i)
  rw [List.length_drop] at hF
  have HF := Lib.hid fin
  have HB := Lib.hid hB
  have HB1 := Lib.hid hB1
  have HS := Lib.hid hsr2
  have HV := Lib.hid hvr
  have HC1 : Hid ((cur.toList.take ((i + 1) * 21) ++ flat (L.drop i) ++ cur.toList.drop ((i + 1) * 21 + (flat (L.drop i)).length)).toArray = C1.toArray) := by unfold Hid; rw [hC1]
  have HC2 : Hid ((C1.toArray.toList.take (i * 21) ++ flat [x] ++ C1.toArray.toList.drop (i * 21 + (flat [x]).length)).toArray = C2.toArray) := by unfold Hid; rw [hC2]; rfl
  have HCS := Lib.hid hcs
  have HL1 := Lib.hid l1
  have HFL := Lib.hid hF
  clear fin hB hB1 hsr hsr2 hvr hC1 hC2 l1 l2 l3 hV1 hb htake hO hcm hm' hcs hv hF
  obtain ⟨n, hnL⟩ : ∃ n, n = L.length := ⟨_, rfl⟩
  rw [← hnL] at hi hn hc HF HFL ⊢
  have HNL := Lib.hid hnL
  clear hnL
  have g1 : (i : Int) ≤ n := by omega
  have hb1 : (0 : Int) ≤ (i : Int) + 1 := by omega
  have htn : ((i : Int) + 1).toNat = i + 1 := by omega
  have hb2 : ¬ (c = i + 1) := by omega
  have hb4 : ¬ (c = i) := by omega
  have hb3 : ¬ ((i : Int) = (n : Int)) := by omega
  have hb5 : ¬ (c < n + 1) := by omega
  have hb6 : (i : Int) + 1 ≤ (n : Int) + 1 := by omega
  have hw1 : IntKind.i64.wrap ((i : Int) + 1) = (i : Int) + 1 := IntWalk.i64_in _ (by omega)
  have hw2 : IntKind.i64.wrap ((n : Int) + 1) = (n : Int) + 1 := IntWalk.i64_in _ (by omega)
  go_enter Tryd.func32, Tryd.ntmps32
  go_upto_region 15 with (simp only [hov])
  refine wp_region_tail0 8 (by kernel_rfl) (by kernel_rfl) (fun _ _ _ _ _ h => h) ?_
  simp only [List.take_succ_cons, List.take_zero, List.drop_succ_cons, List.drop_zero]
  still_step
  still_step
  still_step
  still_step
  refine wpStill_from rfl 23 _ _ rfl 43 21 Tryd.underlying23 sizeP b 0 (n + 1) c (i + 1) ((i : Int) + 1) rfl rfl rfl (by omega) ?_
  rw [if_neg hb2, Nat.zero_add]
  still_step
  still_step
  refine wpStill_from rfl 23 _ _ rfl 43 21 Tryd.underlying23 sizeP b 0 (n + 1) c i (i : Int) rfl rfl rfl (by omega) ?_
  rw [if_neg hb4, Nat.zero_add]
  refine wpStill_nil ?_
  go_upto_region 16 with (refine wpList_copy_any rfl _ _ 23 23 rfl 43 21 Tryd.underlying23 sizeP b ((i + 1) * 21) _ _ b (i * 21) _ _ (n - i) rfl rfl (by simp only [Nat.min_def]; split <;> omega) cur 43 HB.out.drew (flat (L.drop i)) HFL.out HS.out (by rw [HFL.out, HCS.out]; omega) (flat_one _) C1.toArray HC1.out ?_)
  simp only [Act.put]
  go_wp2_with (refine wpList_copy_any rfl _ _ 23 23 rfl 43 21 Tryd.underlying23 sizeP b (i * 21) _ _ vb 0 _ _ 1 rfl rfl (by simp only [Nat.min_def]; split <;> omega) C1.toArray 43 HB1.out (flat [x]) rfl HV.out (by rw [List.size_toArray, HL1.out, flat_length]; show i * 21 + 1 * 21 ≤ c * 21; omega) (flat_one _) C2.toArray HC2.out ?_)
  go_ret
  exact ⟨_, rfl, HF.out⟩
set_option maxHeartbeats 2000000 in
theorem ins_full (b c i : Nat) (L : List Pe) (x : Pe) (vb : Nat) (w : World) (hO : w.ownsRow 0 43 21 (.slice (some ⟨b, 0, none⟩) L.length c) L.length (flat L)) (hi : i < L.length) (hn : L.length ≤ 1000000) (hc : c < L.length + 1) (hv : Blk w vb (peA x) 43) :
    Calls Tryd.prog 32 #[.slice (some ⟨b, 0, none⟩) L.length c, .int .i64 i, .slice (some ⟨vb, 0, none⟩) 1 1] w fun e w' => ∃ v', e = .returned v' ∧ Put w w' (.slice (some ⟨b, 0, none⟩) L.length c) v' (L.take i ++ x :: L.drop i) := by
  have hbl : b < w.heap.size := (hO.lt b rfl).2
  have hsr : w.rangeAt b 0 (flat L) ∧ L.length ≤ c := by
    rcases own_shape hO with ⟨h, _⟩ | ⟨b', c', h, hc', _, hr, _⟩
    · simp at h
    · simp only [Value.slice.injEq, Option.some.injEq, Addr.mk.injEq, and_true, true_and] at h
      obtain ⟨rfl, rfl⟩ := h
      exact ⟨hr, hc'⟩
  obtain ⟨hsr, hc2⟩ := hsr
  obtain rfl : c = L.length := by omega
  have hsr2 : w.rangeAt b (i * 21) (flat (L.drop i)) := fun j v hj => by
    rw [← flat_drop, List.getElem?_drop] at hj
    have := hsr _ v hj
    rwa [Nat.zero_add] at this
  obtain ⟨i0, hi0, hq⟩ := Option.map_eq_some_iff.1 infoP
  simp only [Prod.mk.injEq] at hq
  obtain ⟨q1, q2, q3⟩ := hq
  have hti : (flat (L.take i)).length = i * 21 := by rw [flat_length, List.length_take]; omega
  have hold : (Builtin.firstCells i0.size i (.slice (some ⟨b, 0, none⟩) i L.length)).run Tryd.prog w.drew = .ok (flat (L.take i)).toArray w.drew :=
    run_firstCells_some (P := Tryd.prog) (w := w.drew) i0.size i ⟨b, 0, none⟩ i L.length (flat (L.take i)) (by rw [q2, hti]) (fun j v hj => by
      rw [Addr.add_mid, Nat.zero_add]
      rw [← flat_take, List.getElem?_take] at hj
      split at hj
      · have := hsr j v hj
        rw [Nat.zero_add] at this
        exact this
      · cases hj)
  have hfit := growslice_fits (need := i + (L.length + 1 - i)) (old := L.length) (bytes := i0.bytes) (by omega) (by rw [q3]; omega)
  have hr := Lib.run_append_grow_zeros (P := Tryd.prog) w 23 3 23 43 i0 _ .i64 .i64 Tryd.underlying23 Tryd.underlying3 hi0 q1 (some ⟨b, 0, none⟩) i L.length (flat (L.take i)) hold (L.length + 1 - i) (by omega) (by omega) (by omega) (by omega) (by rw [q3]; omega) hfit
  rw [show i + (L.length + 1 - i) = L.length + 1 by omega] at hr
  obtain ⟨G, hG⟩ : ∃ G, G = grownCap w (L.length + 1) L.length 43 := ⟨_, rfl⟩
  have hGe : L.length + 1 ≤ G := by rw [hG]; exact grownCap_ge ..
  have hGm : G ≤ maxLen := by rw [hG]; exact grownCap_le_maxLen w _ _ _ (by unfold maxLen; omega)
  have hm' : maxLen = 9223372036854775807 := rfl
  rw [← hG] at hr
  obtain ⟨Z, hZ⟩ : ∃ Z, Z = (flat (L.take i)).toArray ++ Builtin.zeroCells (Value.agg (peA (0, 0))).cells (L.length + 1 - i) ++ Builtin.zeroCells (Value.agg (peA (0, 0))).cells (G - (L.length + 1)) := ⟨_, rfl⟩
  rw [← hZ] at hr
  have hzc : ∀ q, (Builtin.zeroCells (Value.agg (peA (0, 0))).cells q).size = q * 21 := fun q => by rw [size_zeroCells]; rfl
  have hZl : Z.toList.length = G * 21 := by rw [Array.length_toList, hZ]; simp only [Array.size_append, List.size_toArray, hti, hzc]; omega
  have hZt : Z.toList.take (i * 21) = flat (L.take i) := by
    rw [hZ]
    simp only [Array.toList_append, List.append_assoc]
    rw [List.take_append_of_le_length (by omega), ← hti, List.take_length]
  obtain ⟨C1, hC1⟩ : ∃ C1, C1 = Z.toList.take (i * 21) ++ flat [x] ++ Z.toList.drop (i * 21 + 21) := ⟨_, rfl⟩
  obtain ⟨C2, hC2⟩ : ∃ C2, C2 = C1.take ((i + 1) * 21) ++ flat (L.drop i) ++ C1.drop ((i + 1) * 21 + (flat (L.drop i)).length) := ⟨_, rfl⟩
  obtain ⟨l1, l2, l3⟩ := ins_grow (x := x) (Nat.le_of_lt hi) hZl hGe hZt C1 C2 hC1 hC2
  obtain ⟨W, hW⟩ : ∃ W, W = w.drew.alloc (.cells Z 43) := ⟨_, rfl⟩
  rw [← hW] at hr
  have hB : Blk W w.heap.size Z 43 := by rw [hW]; exact Blk.new w.drew Z _
  have bel : Below w.heap.size w W := by 
    rw [hW]
    have h0 : Below w.heap.size w w.drew := ⟨rfl, rfl, rfl, Nat.le_refl _, fun _ _ => rfl⟩
    exact h0.alloc (Nat.le_refl _) _
  have hV : Blk W vb (peA x) 43 := hv.below bel hv.lt
  have hB1 : Blk (W.setRow w.heap.size C1.toArray) w.heap.size C1.toArray 43 := hB.setRow _
  have hvr : W.rangeAt vb 0 (flat [x]) := fun j u hj => by
    rw [Nat.zero_add, hV.cell]; rw [flat_single] at hj; simpa [peA] using hj
  have bel1 : Below w.heap.size w (W.setRow w.heap.size C1.toArray).drew := (bel_setRow bel (Nat.le_refl _) _).trans ⟨rfl, rfl, rfl, Nat.le_refl _, fun _ _ => rfl⟩
  have hsr3 := range_bel hsr2 bel1 hbl
  have bel2 : Below w.heap.size w ((W.setRow w.heap.size C1.toArray).drew.setRow w.heap.size C2.toArray) := bel_setRow bel1 (Nat.le_refl _) _
  have hB2 : Blk ((W.setRow w.heap.size C1.toArray).drew.setRow w.heap.size C2.toArray) w.heap.size C2.toArray 43 := hB1.drew.setRow _
  have fin : Put w ((W.setRow w.heap.size C1.toArray).drew.setRow w.heap.size C2.toArray) (.slice (some ⟨b, 0, none⟩) L.length L.length) (.slice (some ⟨w.heap.size, 0, none⟩) (L.length + 1) G) (L.take i ++ x :: L.drop i) := by
    have hll : (L.take i ++ x :: L.drop i).length = L.length + 1 := by simp; omega
    refine ⟨?_, ⟨bel2.os, bel2.tape, bel2.output, bel2.size, fun j hj _ => bel2.block j hj⟩, .inr ⟨_, rfl, Nat.le_refl _⟩⟩
    rw [hll]
    exact ⟨by rw [flat_length, hll], .inr ⟨w.heap.size, G, C2.toArray, rfl, Nat.zero_le _, hB2, hGe, hGm, by rw [List.size_toArray]; exact l2, by rw [List.toList_toArray]; exact l3⟩⟩
  have hF := flat_length (L.drop i)
  rw [List.length_drop] at hF
  have HF := Lib.hid fin
  have HB := Lib.hid hB
  have HB1 := Lib.hid hB1
  have HS := Lib.hid hsr3
  have HV := Lib.hid hvr
  have HC1 : Hid ((Z.toList.take (i * 21) ++ flat [x] ++ Z.toList.drop (i * 21 + (flat [x]).length)).toArray = C1.toArray) := by unfold Hid; rw [hC1]; rfl
  have HC2 : Hid ((C1.toArray.toList.take ((i + 1) * 21) ++ flat (L.drop i) ++ C1.toArray.toList.drop ((i + 1) * 21 + (flat (L.drop i)).length)).toArray = C2.toArray) := by unfold Hid; rw [hC2]
  have HZL : Hid (Z.size = G * 21) := by unfold Hid; rw [← Array.length_toList]; exact hZl
  have HL1 := Lib.hid l1
  have HFL := Lib.hid hF
  obtain ⟨n, hnL⟩ : ∃ n, n = L.length := ⟨_, rfl⟩
  rw [← hnL] at hr
  have HR := Lib.hid hr
  rw [← hnL] at hi hn hGe HF HFL ⊢
  have HNL := Lib.hid hnL
  clear fin hB hB1 hsr hsr2 hvr hC1 hC2 l1 l2 l3 hO hGm hm' hv hF hr hZ hzc hZl hZt hW bel hV bel1 hsr3 bel2 hB2 hold hfit hti q1 q2 q3 hi0 hc2 hc hG hnL hbl
  have g1 : (i : Int) ≤ n := by omega
  have hb1 : (0 : Int) ≤ (i : Int) + 1 := by omega
  have htn : ((i : Int) + 1).toNat = i + 1 := by omega
  have hb2 : ¬ (G = i + 1) := by omega
  have hb4 : ¬ (n = i) := by omega
  have hb7 : ¬ (G = i) := by omega
  have hb3 : ¬ ((i : Int) = (n : Int)) := by omega
  have hb6 : (i : Int) + 1 ≤ (n : Int) + 1 := by omega
  have hw1 : IntKind.i64.wrap ((i : Int) + 1) = (i : Int) + 1 := IntWalk.i64_in _ (by omega)
  have hw2 : IntKind.i64.wrap ((n : Int) + 1) = (n : Int) + 1 := IntWalk.i64_in _ (by omega)
  have hw3 : IntKind.i64.wrap ((n : Int) + 1 - (i : Int)) = (n : Int) + 1 - (i : Int) := IntWalk.i64_in _ (by omega)
  have hcast : (n : Int) + 1 - (i : Int) = ((n + 1 - i : Nat) : Int) := by omega
  have HCA := Lib.hid hcast
  clear hcast
  go_enter Tryd.func32, Tryd.ntmps32
  go_upto_region 11 with (first
    | (at_builtin; refine Lib.wpList_append_run _ rfl _ _ 23 3 rfl _ _ rfl (by rw [HCA.out]; rfl) _ _ HR.out ?_)
    | (refine wpList_copy_any rfl _ _ 23 23 rfl 43 21 Tryd.underlying23 sizeP w.heap.size (i * 21) _ _ vb 0 _ _ 1 rfl rfl (by simp only [Nat.min_def]; split <;> omega) Z 43 HB.out (flat [x]) rfl HV.out (by rw [HZL.out, flat_length]; show i * 21 + 1 * 21 ≤ G * 21; omega) (flat_one _) C1.toArray HC1.out ?_))
  refine wp_region_tail0 8 (by kernel_rfl) (by kernel_rfl) (fun _ _ _ _ _ h => h) ?_
  simp only [List.take_succ_cons, List.take_zero, List.drop_succ_cons, List.drop_zero]
  still_step
  still_step
  still_step
  still_step
  refine wpStill_from rfl 23 _ _ rfl 43 21 Tryd.underlying23 sizeP w.heap.size 0 (n + 1) G (i + 1) ((i : Int) + 1) rfl rfl rfl (by omega) ?_
  rw [if_neg hb2, Nat.zero_add]
  still_step
  still_step
  refine wpStill_from rfl 23 _ _ rfl 43 21 Tryd.underlying23 sizeP b 0 n n i (i : Int) rfl rfl rfl (by omega) ?_
  rw [if_neg hb4, Nat.zero_add]
  refine wpStill_nil ?_
  simp only [Act.put]
  go_wp2_with (refine wpList_copy_any rfl _ _ 23 23 rfl 43 21 Tryd.underlying23 sizeP w.heap.size ((i + 1) * 21) _ _ b (i * 21) _ _ (n - i) rfl rfl (by simp only [Nat.min_def]; split <;> omega) C1.toArray 43 HB1.out.drew (flat (L.drop i)) HFL.out HS.out (by rw [HFL.out, List.size_toArray, HL1.out]; omega) (flat_one _) C2.toArray HC2.out ?_)
  go_ret
  exact ⟨_, rfl, HF.out⟩
end Go.Proofs.YtmlejcfnnjnggaaDoor
