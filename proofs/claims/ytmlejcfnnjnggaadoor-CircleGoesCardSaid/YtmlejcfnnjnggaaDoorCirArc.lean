/- The ends of an arc; no peer. -/
import Derived.Test.YtmlejcfnnjnggaaDoorCirCop
import Derived.StillTactics
import Derived.Deep.RegionHeld3
namespace Go.Proofs.YtmlejcfnnjnggaaDoor
set_option maxRecDepth 100000
open Go Go.RowKit Go.Sort

/-- a place is loaded from the midst of a row, in a region that draws its order -/
theorem st_midI {ops : Array Oper} {w : World} {rest : List Oper} {o : Oper} {a : Act} {Q : Act → Prop} (hgd : o.guard = none) (x : Operand) (ho : o.op = .load 32 x)
    (g i : Nat) (hx : a.eval x = .pointer (some ⟨g, i, none⟩)) (n : Nat) (hg : w.rangeAt g i (row (dig 20 n)).toList) (h : wpStill Tryd.prog ops w Q rest (a.put o.dst (idv n))) : wpStill Tryd.prog ops w Q (o :: rest) a := by
  have hw : Region.wanted o (yielded ops a.tmps) = true := by simp [Region.wanted, hgd]
  refine wpStill_step fun K hK => ?_
  rw [if_pos hw]
  unfold Oper.still execOp
  simp only [ho, hx, Instr.loadAt, Instr.sureAddr, Sem.run_bind, run_loadVar_mid _ g i 32 (row (dig 20 n)).toList _ hg Tryd.underlying32 rfl (by rw [Array.length_toList, row_size, dig_length]; exact sizeId20), Sem.run_pure, Result.andThen_ok, Array.toArray_toList]
  exact ⟨rfl, hK _ h⟩
theorem run_loadAt_I (w : World) (b o n : Nat) (h : w.rangeAt b o (row (dig 20 n)).toList) : (Instr.loadAt 32 (.pointer (some ⟨b, o, none⟩))).run Tryd.prog w = .ok (idv n) w := by
  simp only [Instr.loadAt, Instr.sureAddr, Sem.run_bind, run_loadVar_mid _ b o 32 (row (dig 20 n)).toList _ h Tryd.underlying32 rfl (by rw [Array.length_toList, row_size, dig_length]; exact sizeId20), Sem.run_pure, Result.andThen_ok, Array.toArray_toList]
  rfl
theorem y_midI {ops : Array Oper} {S : World → Prop} {op : Oper} {a : Act} (hw : Region.wanted op (yielded ops a.tmps) = true) (x : Operand) (ho : op.op = .load 32 x)
    (b o : Nat) (hx : a.eval x = .pointer (some ⟨b, o, none⟩)) (n : Nat) (hS : ∀ w, S w → w.rangeAt b o (row (dig 20 n)).toList) : YieldsIf Tryd.prog ops S op (idv n) a := by
  have := yieldsIf_load_mid (P := Tryd.prog) hw 32 x ho b o hx (row (dig 20 n)).toList _ hS Tryd.underlying32 rfl (by rw [Array.length_toList, row_size, dig_length]; exact sizeId20)
  rwa [Array.toArray_toList] at this
theorem results_idd {fn : Func} {p q t : Tmp} (h : fn.results = #[.cell p 32, .cell q 32, .tmp t]) (tmps : Array Value) (w : World) (g1 g2 n1 n2 : Nat) (v : Value)
    (hp : tmps.getD p undef = .pointer (some ⟨g1, 0, none⟩)) (hq : tmps.getD q undef = .pointer (some ⟨g2, 0, none⟩)) (hv : tmps.getD t undef = v) (h1 : Blk w g1 (row (dig 20 n1)) 32) (h2 : Blk w g2 (row (dig 20 n2)) 32) :
    (results fn tmps).run Tryd.prog w = .ok (.tuple #[idv n1, idv n2, v]) w := by
  have hp' : tmps[p]?.getD undef = .pointer (some ⟨g1, 0, none⟩) := by simpa using hp
  have hq' : tmps[q]?.getD undef = .pointer (some ⟨g2, 0, none⟩) := by simpa using hq
  have hv' : tmps[t]?.getD undef = v := by simpa using hv
  have l1 := run_loadVar_row (P := Tryd.prog) w g1 32 32 _ (0, 0) _ h1 Tryd.underlying32 rfl (by rw [row_size, dig_length]; exact Tryd.info23)
  have l2 := run_loadVar_row (P := Tryd.prog) w g2 32 32 _ (0, 0) _ h2 Tryd.underlying32 rfl (by rw [row_size, dig_length]; exact Tryd.info23)
  simp [results, h, hp', hq', hv', asAddr, l1, l2, idv]
theorem row_zero : (#[Value.int IntKind.u8 0, Value.int IntKind.u8 0, Value.int IntKind.u8 0, Value.int IntKind.u8 0,
      Value.int IntKind.u8 0, Value.int IntKind.u8 0, Value.int IntKind.u8 0, Value.int IntKind.u8 0,
      Value.int IntKind.u8 0, Value.int IntKind.u8 0, Value.int IntKind.u8 0, Value.int IntKind.u8 0,
      Value.int IntKind.u8 0, Value.int IntKind.u8 0, Value.int IntKind.u8 0, Value.int IntKind.u8 0,
      Value.int IntKind.u8 0, Value.int IntKind.u8 0, Value.int IntKind.u8 0, Value.int IntKind.u8 0] : Array Value) = row (dig 20 0) := rfl
/-- the two blocks of an answer -/
structure Two (w W : World) (a b : Nat) : Prop where
  bel : Below w.heap.size w W
  one : Blk W w.heap.size (row (dig 20 a)) 32
  two : Blk W (w.heap.size + 1) (row (dig 20 b)) 32
theorem Two.made (w : World) : Two w ((w.alloc (.cells (row (dig 20 0)) 32)).alloc (.cells (row (dig 20 0)) 32)) 0 0 := by
  refine ⟨((Below.refl w.heap.size w).alloc (Nat.le_refl _) _).alloc (by simp) _, (Blk.new w _ _).alloc _, ?_⟩
  have := Blk.new (w.alloc (.cells (row (dig 20 0)) 32)) (row (dig 20 0)) 32
  rwa [World.size_alloc] at this
theorem Two.later {w W W2 : World} {a b : Nat} (h : Two w W a b) (k : Below W.heap.size W W2) : Two w W2 a b := ⟨h.bel.trans (k.mono h.bel.size), h.one.below k h.one.lt, h.two.below k h.two.lt⟩
theorem Two.put1 {w W : World} {a b : Nat} (h : Two w W a b) (n : Nat) : Two w (W.setRow w.heap.size (row (dig 20 n))) n b := ⟨bel_setRow h.bel (Nat.le_refl _) _, h.one.setRow _, h.two.setRow_other _ _ (by omega)⟩
theorem Two.put2 {w W : World} {a b : Nat} (h : Two w W a b) (n : Nat) : Two w (W.setRow (w.heap.size + 1) (row (dig 20 n))) a n := ⟨bel_setRow h.bel (by omega) _, h.one.setRow_other _ _ (by omega), h.two.setRow _⟩
theorem plB_yes {L : List Pe} {i : Int} (h : plB L i = true) : ∃ k : Nat, i = (k : Int) ∧ k < L.length ∧ Circ L := by
  unfold plB isB at h
  simp only [Bool.and_eq_true, decide_eq_true_eq] at h
  exact ⟨i.toNat, by omega, by omega, h.1⟩
set_option maxHeartbeats 2000000 in
theorem Arc_no {w : World} {v : Value} {L : List Pe} (i : Int) (hL : Lies w v L) (hw : Wf L) (hn : L.length ≤ 1000000) (hp : plB L i = false) :
    Calls Tryd.prog 20 #[v, .int .i64 i] w fun e w' => e = .returned (.tuple #[idv 0, idv 0, .int .i64 1]) ∧ Below w.heap.size w w' := by
  obtain ⟨a, c, rfl⟩ := hL.form
  have T0 := Two.made w
  have hI := isPlace_any i (hL.bel T0.bel) hw hn
  rw [hp] at hI
  have HI := Lib.hid hI
  clear hL hw hn hI hp
  generalize L.length = n at *
  go_enter Tryd.func20, Tryd.ntmps20
  go_upto_region 1 with (fail)
  rw [row_zero]
  generalize (w.alloc _).alloc _ = W at *
  go_upto_region 2 with (go_at_call 41; (with_reducible refine HI.out.mono ?_); rintro e w1 ⟨rfl, hb⟩; have T1 := T0.later hb)
  go_wp2_with (first
    | (refine wpList_store_id rfl _ _ rfl w.heap.size (dig 20 0) rfl rfl _ T1.one (dig_length _ _) (dig_length _ _) ?_; have T2 := T1.put1 0)
    | (refine wpList_store_id rfl _ _ rfl (w.heap.size + 1) (dig 20 0) rfl rfl _ T2.two (dig_length _ _) (dig_length _ _) ?_; have T3 := T2.put2 0))
  exact bodyPost_ret (results_idd Tryd.results20 _ _ _ _ 0 0 _ rfl rfl rfl T3.one T3.two) rfl ⟨rfl, T3.bel⟩
set_option maxHeartbeats 2000000 in
theorem Arc_yes {w : World} {v : Value} {L : List Pe} (i : Nat) (hL : Lies w v L) (hw : Wf L) (hC : Circ L) (hi : i < L.length) :
    Calls Tryd.prog 20 #[v, .int .i64 (i : Int)] w fun e w' => e = .returned (.tuple #[idv (pn L ((i + L.length - 1) % L.length)), idv (pn L i), .int .i64 0]) ∧ Below w.heap.size w w' := by
  obtain ⟨b, o, c, rfl, hc, hr, hb0⟩ := hL.some hC.pos.1
  have T0 := Two.made w
  have hI := isPlace_any (i : Int) (hL.bel T0.bel) hw hC.pos.2
  have e1 : plB L (i : Int) = true := by
    unfold plB
    rw [isB_yes hC]
    simp; omega
  rw [e1] at hI
  have HI := Lib.hid hI
  have hn0 := hC.pos
  have hj : (i + L.length - 1) % L.length < L.length := Nat.mod_lt _ hn0.1
  have HG : Hid (∀ w1, Calls Tryd.prog 40 #[.slice (some ⟨b, o, none⟩) L.length c, .int .i64 ((i : Int) + (L.length : Int) - 1)] w1 fun e w' => e = .returned (.int .i64 (((i + L.length - 1) % L.length : Nat) : Int)) ∧ w' = w1) := fun w1 => by
    rw [show (i : Int) + (L.length : Int) - 1 = ((i + L.length - 1 : Nat) : Int) by omega]
    exact (round_any (some ⟨b, o, none⟩) L.length c (i + L.length - 1) hn0.1 (by omega) w1).mono fun _ _ ⟨a, b⟩ => ⟨a, b.symm⟩
  have HR : Hid (∀ w1, Below w.heap.size w w1 → w1.rangeAt b (o + i * 21 + 1) (row (dig 20 (pn L i))).toList ∧ w1.rangeAt b (o + ((i + L.length - 1) % L.length) * 21 + 1) (row (dig 20 (pn L ((i + L.length - 1) % L.length)))).toList) := fun w1 hb =>
    ⟨range_bel (pe_id (row_peer hr (at_get hi))) hb hb0, range_bel (pe_id (row_peer hr (at_get hj))) hb hb0⟩
  clear hL hw hI hC hr e1 hc
  generalize (i + L.length - 1) % L.length = j at *
  generalize pn L i = x at *
  generalize pn L j = y at *
  generalize L.length = n at *
  obtain ⟨hn1, hn2⟩ := hn0
  have hw1 : IntKind.i64.wrap ((i : Int) + (n : Int)) = (i : Int) + (n : Int) := IntWalk.i64_in _ (by omega)
  have hw2 : IntKind.i64.wrap ((i : Int) + (n : Int) - 1) = (i : Int) + (n : Int) - 1 := IntWalk.i64_in _ (by omega)
  go_enter Tryd.func20, Tryd.ntmps20
  go_upto_region 1 with (fail)
  rw [row_zero]
  generalize (w.alloc _).alloc _ = W at *
  go_upto_region 3 with (go_at_call 41; (with_reducible refine HI.out.mono ?_); rintro e w1 ⟨rfl, hb⟩; have T1 := (T0.later hb).later (drew_bel _))
  obtain ⟨r1, r2⟩ := HR.out _ T1.bel
  have HT1 := Lib.hid T1
  clear T1 T0 hb
  refine wp_region_held_drew (S := (fun w9 => w9.rangeAt b (o + i * 21 + 1) (row (dig 20 x)).toList ∧ w9.rangeAt b (o + j * 21 + 1) (row (dig 20 y)).toList)) (by kernel_rfl) ?_ (fun hHeld => ?_)
  · exact ⟨r1, r2⟩
  generalize World.drew _ = W1 at *
  refine wpAnyH_take (i := 0) (v := ?_) rfl (by kernel_rfl) (by kernel_rfl) (by kernel_rfl) (fun _ _ _ h => h) (Or.inl ⟨by rfl, ?_⟩) (by assumption) ?_
  rotate_left
  · intro w9 hSw
    (try dsimp only at hSw)
    go_simp
    (try with_reducible rfl)
  (try simp only [Act.put]); (try simp only [List.setIfInBounds_toArray]); (try simp only [List.set_cons_succ]); (try simp only [List.set_cons_zero])
  refine wpAnyH_take (i := 1) (v := ?_) rfl (by kernel_rfl) (by kernel_rfl) (by kernel_rfl) (fun _ _ _ h => h) (Or.inl ⟨by rfl, ?_⟩) (by assumption) ?_
  rotate_left
  · intro w9 hSw
    (try dsimp only at hSw)
    go_simp
    (try with_reducible rfl)
  (try simp only [Act.put]); (try simp only [List.setIfInBounds_toArray]); (try simp only [List.set_cons_succ]); (try simp only [List.set_cons_zero])
  refine wpAnyH_take (i := 2) (v := ?_) rfl (by kernel_rfl) (by kernel_rfl) (by kernel_rfl) (fun _ _ _ h => h) (Or.inl ⟨by rfl, ?_⟩) (by assumption) ?_
  rotate_left
  · intro w9 hSw
    (try dsimp only at hSw)
    go_simp
    (try with_reducible rfl)
  (try simp only [Act.put]); (try simp only [List.setIfInBounds_toArray]); (try simp only [List.set_cons_succ]); (try simp only [List.set_cons_zero])
  refine wpAnyH_take (i := 3) (v := ?_) rfl (by kernel_rfl) (by kernel_rfl) (by kernel_rfl) (fun _ _ _ h => h) (Or.inl ⟨by rfl, ?_⟩) (by assumption) ?_
  rotate_left
  · intro w9 hSw
    (try dsimp only at hSw)
    go_simp
    (try with_reducible rfl)
  (try simp only [Act.put]); (try simp only [List.setIfInBounds_toArray]); (try simp only [List.set_cons_succ]); (try simp only [List.set_cons_zero])
  refine wpAnyH_take (i := 4) (v := ?_) rfl (by kernel_rfl) (by kernel_rfl) (by kernel_rfl) (fun _ _ _ h => h) (Or.inl ⟨by rfl, ?_⟩) (by assumption) ?_
  rotate_left
  · intro w9 hSw
    (try dsimp only at hSw)
    go_simp
    (try with_reducible rfl)
  (try simp only [Act.put]); (try simp only [List.setIfInBounds_toArray]); (try simp only [List.set_cons_succ]); (try simp only [List.set_cons_zero])
  refine wpAnyH_take (i := 5) (v := ?_) rfl (by kernel_rfl) (by kernel_rfl) (by kernel_rfl) (fun _ _ _ h => h) (Or.inl ⟨by rfl, ?_⟩) (by assumption) ?_
  rotate_left
  · intro w9 hSw
    (try dsimp only at hSw)
    go_simp
    (try with_reducible rfl)
  (try simp only [Act.put]); (try simp only [List.setIfInBounds_toArray]); (try simp only [List.set_cons_succ]); (try simp only [List.set_cons_zero])
  refine wpAnyH_take (i := 6) (v := ?_) rfl (by kernel_rfl) (by kernel_rfl) (by kernel_rfl) (fun _ _ _ h => h) (Or.inl ⟨by rfl, ?_⟩) (by assumption) ?_
  rotate_left
  · intro w9 hSw
    (try dsimp only at hSw)
    go_simp
    (try with_reducible rfl)
  (try simp only [Act.put]); (try simp only [List.setIfInBounds_toArray]); (try simp only [List.set_cons_succ]); (try simp only [List.set_cons_zero])
  refine wpAnyH_take (i := 11) (v := ?_) rfl (by kernel_rfl) (by kernel_rfl) (by kernel_rfl) (fun _ _ _ h => h) (Or.inl ⟨by rfl, ?_⟩) (by assumption) ?_
  rotate_left
  · intro w9 hSw
    (try dsimp only at hSw)
    go_simp
    (try with_reducible rfl)
  (try simp only [Act.put]); (try simp only [List.setIfInBounds_toArray]); (try simp only [List.set_cons_succ]); (try simp only [List.set_cons_zero])
  refine wpAnyH_take (i := 12) (v := ?_) rfl (by kernel_rfl) (by kernel_rfl) (by kernel_rfl) (fun _ _ _ h => h) (Or.inl ⟨by rfl, ?_⟩) (by assumption) ?_
  rotate_left
  · intro w9 hSw
    (try dsimp only at hSw)
    go_simp
    (try with_reducible rfl)
  (try simp only [Act.put]); (try simp only [List.setIfInBounds_toArray]); (try simp only [List.set_cons_succ]); (try simp only [List.set_cons_zero])
  refine wpAnyH_take (i := 13) (v := ?_) rfl (by kernel_rfl) (by kernel_rfl) (by kernel_rfl) (fun _ _ _ h => h) (Or.inl ⟨by rfl, ?_⟩) (by assumption) ?_
  rotate_left
  · intro w9 hSw
    (try dsimp only at hSw)
    go_simp
    (try with_reducible rfl)
  (try simp only [Act.put]); (try simp only [List.setIfInBounds_toArray]); (try simp only [List.set_cons_succ]); (try simp only [List.set_cons_zero])
  refine wpAnyH_take (i := 14) (v := ?_) rfl (by kernel_rfl) (by kernel_rfl) (by kernel_rfl) (fun _ _ _ h => h) (Or.inl ⟨by rfl, ?_⟩) (by assumption) ?_
  rotate_left
  · intro w9 hSw
    (try dsimp only at hSw)
    go_simp
    (try with_reducible rfl)
  (try simp only [Act.put]); (try simp only [List.setIfInBounds_toArray]); (try simp only [List.set_cons_succ]); (try simp only [List.set_cons_zero])
  iterate 16
    (try dsimp only [List.getElem_toArray, List.getElem_cons_succ, List.getElem_cons_zero])
    (try simp only [Act.put]); (try simp only [List.setIfInBounds_toArray]); (try simp only [List.set_cons_succ]); (try simp only [List.set_cons_zero])
  refine wpAnyH_take (i := 15) (oi := { dst := some 28, op := .load 32 (.tmp 27), type := 32, pos := "circle.go:124", after := #[{ on := 14, ground := .data }, { on := 16, ground := .gcOnly .lateStores }], guard := none }) (v := idv x) rfl (by kernel_rfl) (by kernel_rfl) (by kernel_rfl) (fun _ _ _ h => h) (y_midI (by rfl) (.tmp 27) rfl b (o + i * 21 + 1) rfl x (fun _ h => h.1)) (by assumption) ?_
  (try simp only [Act.put]); (try simp only [List.setIfInBounds_toArray]); (try simp only [List.set_cons_succ]); (try simp only [List.set_cons_zero])
  refine wpAnyH_ready (rs := [7]) (by kernel_rfl) (by simp) ?_
  refine AllReadyH.cons rfl (fun K hK => ?_) ?_
  rotate_left
  · exact AllReadyH.nil
  go_simp
  go_wp2_with (go_at_call 40; (with_reducible refine (HG.out _).mono ?_); rintro e w4 ⟨rfl, rfl⟩)
  refine hK.out _ _ ?_ (fun hHeld => ?_)
  · exact hHeld
  clear hK K
  (try simp only [Act.put]); (try simp only [List.setIfInBounds_toArray]); (try simp only [List.set_cons_succ]); (try simp only [List.set_cons_zero])
  refine wpAnyH_take (i := 8) (v := ?_) rfl (by kernel_rfl) (by kernel_rfl) (by kernel_rfl) (fun _ _ _ h => h) (Or.inl ⟨by rfl, ?_⟩) (by assumption) ?_
  rotate_left
  · intro w9 hSw
    (try dsimp only at hSw)
    go_simp
    (try with_reducible rfl)
  (try simp only [Act.put]); (try simp only [List.setIfInBounds_toArray]); (try simp only [List.set_cons_succ]); (try simp only [List.set_cons_zero])
  refine wpAnyH_take (i := 9) (v := ?_) rfl (by kernel_rfl) (by kernel_rfl) (by kernel_rfl) (fun _ _ _ h => h) (Or.inl ⟨by rfl, ?_⟩) (by assumption) ?_
  rotate_left
  · intro w9 hSw
    (try dsimp only at hSw)
    go_simp
    (try with_reducible rfl)
  (try simp only [Act.put]); (try simp only [List.setIfInBounds_toArray]); (try simp only [List.set_cons_succ]); (try simp only [List.set_cons_zero])
  iterate 4
    (try dsimp only [List.getElem_toArray, List.getElem_cons_succ, List.getElem_cons_zero])
    (try simp only [Act.put]); (try simp only [List.setIfInBounds_toArray]); (try simp only [List.set_cons_succ]); (try simp only [List.set_cons_zero])
  refine wpAnyH_take (i := 10) (oi := { dst := some 23, op := .load 32 (.tmp 22), type := 32, pos := "circle.go:124", after := #[{ on := 9, ground := .data }], guard := none }) (v := idv y) rfl (by kernel_rfl) (by kernel_rfl) (by kernel_rfl) (fun _ _ _ h => h) (y_midI (by rfl) (.tmp 22) rfl b (o + j * 21 + 1) rfl y (fun _ h => h.2)) (by assumption) ?_
  (try simp only [Act.put]); (try simp only [List.setIfInBounds_toArray]); (try simp only [List.set_cons_succ]); (try simp only [List.set_cons_zero])
  have T1 := HT1.out
  iterate 2
    (try dsimp only [List.getElem_toArray, List.getElem_cons_succ, List.getElem_cons_zero])
    (try simp only [Act.put]); (try simp only [List.setIfInBounds_toArray]); (try simp only [List.set_cons_succ]); (try simp only [List.set_cons_zero])
  refine wpAnyH_ready (rs := [16]) (by kernel_rfl) (by simp) ?_
  refine AllReadyH.cons rfl (fun K hK => ?_) ?_
  rotate_left
  · exact AllReadyH.nil
  rw [if_pos (by rfl)]
  refine wp_store_row 32 _ _ rfl w.heap.size (row (dig 20 y)) rfl rfl 32 (row (dig 20 0)) T1.one (by rw [row_size, dig_length]; exact Tryd.info23) (by rw [row_size, row_size, dig_length, dig_length]) (row_one _) ?_
  refine hK.out _ _ ?_ (fun hHeld => ?_)
  · exact HR.out _ (T1.put1 y).bel
  clear hK K
  (try simp only [Act.put]); (try simp only [List.setIfInBounds_toArray]); (try simp only [List.set_cons_succ]); (try simp only [List.set_cons_zero])
  have T2 := T1.put1 y
  refine wpAnyH_ready (rs := [17]) (by kernel_rfl) (by simp) ?_
  refine AllReadyH.cons rfl (fun K hK => ?_) ?_
  rotate_left
  · exact AllReadyH.nil
  rw [if_pos (by rfl)]
  refine wp_store_row 32 _ _ rfl (w.heap.size + 1) (row (dig 20 x)) rfl rfl 32 (row (dig 20 0)) T2.two (by rw [row_size, dig_length]; exact Tryd.info23) (by rw [row_size, row_size, dig_length, dig_length]) (row_one _) ?_
  refine hK.out _ _ ?_ (fun hHeld => ?_)
  · exact HR.out _ (T2.put2 x).bel
  clear hK K
  (try simp only [Act.put]); (try simp only [List.setIfInBounds_toArray]); (try simp only [List.set_cons_succ]); (try simp only [List.set_cons_zero])
  have T3 := T2.put2 x
  refine wpAnyH_take (i := 18) (v := ?_) rfl (by kernel_rfl) (by kernel_rfl) (by kernel_rfl) (fun _ _ _ h => h) (Or.inl ⟨by rfl, ?_⟩) (by assumption) ?_
  rotate_left
  · intro w9 hSw
    (try dsimp only at hSw)
    go_simp
    (try with_reducible rfl)
  (try simp only [Act.put]); (try simp only [List.setIfInBounds_toArray]); (try simp only [List.set_cons_succ]); (try simp only [List.set_cons_zero])
  iterate 2
    (try dsimp only [List.getElem_toArray, List.getElem_cons_succ, List.getElem_cons_zero])
    (try simp only [Act.put]); (try simp only [List.setIfInBounds_toArray]); (try simp only [List.set_cons_succ]); (try simp only [List.set_cons_zero])
  refine wpAnyH_done (by kernel_rfl) ?_ _
  clear hHeld hw1 hw2 T1 T2 HG HR HI r1 r2 HT1
  go_wp2
  exact bodyPost_ret (results_idd Tryd.results20 _ _ _ _ y x _ rfl rfl rfl T3.one T3.two) rfl ⟨rfl, T3.bel⟩
theorem p_buildP {ops : Array Oper} {rest : List Oper} {o : Oper} {a : Act} {w : World} {Q : Exit → Act → World → Prop} (hgd : o.guard = none) (x y : Operand) (ho : o.op = .build 43 #[(0, x), (1, y)])
    (m : Int) (n : Nat) (hx : a.eval x = .int .i64 m) (hy : a.eval y = idv n) (h : wpList Tryd.prog ops Q rest (a.put o.dst (.agg (peA (m, n)))) w) : wpList Tryd.prog ops Q (o :: rest) a w := by
  refine wpList_plain hgd fun K hK => ?_
  have e := run_build (P := Tryd.prog) w 43 #[(0, .int .i64 m), (1, .agg (row (dig 20 n)))] _ (builtP m n)
  unfold Oper.wp execOp
  simp only [ho, List.map_toArray, List.map_cons, List.map_nil, hx, hy, Sem.run_bind, idv, e, Sem.run_pure, Result.andThen_ok]
  exact hK _ _ h
theorem p_buildNone {ops : Array Oper} {rest : List Oper} {o : Oper} {a : Act} {w : World} {Q : Exit → Act → World → Prop} (hgd : o.guard = none) (ho : o.op = .build 43 #[(0, .const (.int .i64 (-1)))])
    (h : wpList Tryd.prog ops Q rest (a.put o.dst (.agg (peA (-1, 0)))) w) : wpList Tryd.prog ops Q (o :: rest) a w := by
  refine wpList_plain hgd fun K hK => ?_
  have e := run_build (P := Tryd.prog) w 43 #[(0, .int .i64 (-1))] _ builtNone
  unfold Oper.wp execOp
  simp only [ho, List.map_toArray, List.map_cons, List.map_nil, Act.eval, Sem.run_bind, e, Sem.run_pure, Result.andThen_ok]
  exact hK _ _ h
theorem none_any (w : World) : Calls Tryd.prog 37 #[] w fun e w' => e = .returned (.agg (peA (-1, 0))) ∧ Below w.heap.size w w' := by
  have B0 := (Below.refl w.heap.size w).alloc (Nat.le_refl _) (.cells (peA (-1, 0)) 43)
  have X0 := Blk.new w (peA (-1, 0)) 43
  go_enter Tryd.func37, Tryd.ntmps37
  go_wp2_with (first | (refine p_buildNone rfl rfl ?_) | (refine p_storeP rfl rfl _ _ rfl (-1, 0) rfl rfl ?_))
  exact bodyPost_ret (results_cell_row Tryd.results37 _ _ w.heap.size 43 (peA (-1, 0)) (0, 0) _ rfl X0 Tryd.underlying43 rfl (by rw [peA_size]; exact sizeP)) rfl ⟨rfl, B0⟩
end Go.Proofs.YtmlejcfnnjnggaaDoor
