/- Whether a table is right. -/
import Derived.Test.YtfajfmcabpmchaaTabPost
import Derived.Deep.CutBlock
namespace Go.Proofs.Ytfajfmcabpmchaa
set_option maxRecDepth 100000
open Go Go.RowKit Go.Shelf Go.Sort
attribute [local go_sem] Oper.semAt_some

/-- row[:r], in a region that draws its order -/
theorem q_to {P : Program} {C : World → Prop} {o : Oper} {a : Act} {K : Act → Prop} (T : TypeId) (s hi_ : Operand)
    (ho : o.op = .slice T s none (some hi_) none) (e : TypeId) (size : Nat) (hT : P.underlying T = some (.slice e)) (hi : (P.info? e).map (·.size) = some size)
    (b off n c r : Nat) (z : Int) (hs : a.eval s = .slice (some ⟨b, off, none⟩) n c) (hlo : a.eval hi_ = .int .i64 z) (hz : z = (r : Int)) (hr : r ≤ c)
    (hk : K (a.put o.dst (.slice (some ⟨b, off, none⟩) r c))) : o.quiet P a C K := by
  subst hz
  refine ⟨_, fun w' _ => ?_, hk⟩
  have hel : P.elem T = e := by simp [Program.elem, hT]
  have hT' : P.underlying T = some (.slice (P.elem T)) := by rw [hel]; exact hT
  obtain ⟨i, hi', hq⟩ := Option.map_eq_some_iff.1 hi
  have hr' : (Instr.sliceAt T (.slice (some ⟨b, off, none⟩) n c) none (some (.int .i64 (r : Int))) none).run P w' = .ok (sliced (some ⟨b, off, none⟩) 0 r c size) w' := by
    rw [run_sliceAt_slice w' T _ _ _ _ hT', run_slice_h w' T _ n c hT' .i64 (r : Int) (by omega) (by omega), hel]
    simp [sizeOf, typeInfo, hi', Result.andThen, hq]
  have hv : sliced (some ⟨b, off, none⟩) 0 r c size = .slice (some ⟨b, off, none⟩) r c := by
    unfold sliced; split <;> simp [Addr.add_mid]
  unfold Oper.quietAt execOp
  simp only [ho, Option.map, hs, hlo, Sem.run_bind, Result.andThen_ok, hr', hv]
  exact ⟨rfl, rfl⟩
theorem lies_take {w : World} {b o c : Nat} {L : List Pe} (hr : w.rangeAt b o (flat L)) (hc : L.length ≤ c) {i : Nat} (hi : i ≤ L.length) : Lies w (.slice (some ⟨b, o, none⟩) i c) (L.take i) := by
  have e : (L.take i).length = i := by rw [List.length_take, Nat.min_eq_left hi]
  refine .inr ⟨b, o, c, by rw [e], by rw [e]; omega, fun j v hj => hr j v ?_⟩
  rw [← flat_take, List.getElem?_take] at hj
  split at hj
  · exact hj
  · cases hj
/-- the first i are others, no two with the same address -/
def okG (oth : Pe → Bool) (S : List Pe) : Nat → Bool
  | 0 => true
  | i + 1 => okG oth S i && (oth (S.getD i (0, 0)) && !hasB (S.take i) (S.getD i (0, 0)).1)
def isG (oth non : Pe → Bool) (ad : Bool) (p : Pe) (S F : List Pe) : Bool :=
  ad && (decide (S.length ≤ 8) && (decide (F.length = 160) && (okG oth S S.length && (p :: F).all fun x => non x || oth x)))
theorem ok_le (oth : Pe → Bool) (S : List Pe) {i j : Nat} (h : i ≤ j) (hf : okG oth S i = false) : okG oth S j = false := by
  induction j with
  | zero => obtain rfl : i = 0 := by omega
            exact hf
  | succ j ih =>
    rcases Nat.lt_or_ge j i with h1 | h1
    · obtain rfl : i = j + 1 := by omega
      exact hf
    · rw [okG, ih h1]; rfl
theorem bel_setCell {B k : Nat} {w0 w : World} (hb : Below B w0 w) (hk : B ≤ k) (i : Nat) (v : Value) : Below B w0 (w.setCell ⟨k, i, none⟩ v) :=
  ⟨hb.os, hb.tape, hb.output, by simpa [World.setCell] using hb.size, fun j hj => by
    have h := hb.block j hj
    rw [← h]
    simp only [World.setCell, Array.getElem?_modify]
    rw [if_neg (by omega)]⟩
theorem belTo {g : Nat} {w W X : World} (hg : w.heap.size = g) (h : Below g w W) (k : Below W.heap.size W X) : Below g w X := h.trans (k.mono (hg ▸ h.size))
theorem rset {W : World} {k : Nat} {a b : Bool} (h : Blk W k #[.bool a] 4) : (W.setCell ⟨k, 0, none⟩ (.bool b)).cell? ⟨k, 0, none⟩ = some (.bool b) := (h.put 0 (.bool b)).cell 0
theorem run_slices2 (a b : Option Addr) (n c m d : Nat) (w : World) : (Instr.buildSlice 91 2 #[(0, .slice a n c), (1, .slice b m d)]).run Try.prog w = .ok (.slice (some ⟨w.heap.size, 0, none⟩) 2 2) (w.alloc (.cells #[.slice a n c, .slice b m d] 37)) := by kernel_rfl
theorem run_slices3 (a b x : Option Addr) (n c m d y z : Nat) (w : World) : (Instr.buildSlice 91 3 #[(0, .slice a n c), (1, .slice b m d), (2, .slice x y z)]).run Try.prog w = .ok (.slice (some ⟨w.heap.size, 0, none⟩) 3 3) (w.alloc (.cells #[.slice a n c, .slice b m d, .slice x y z] 37)) := by kernel_rfl
theorem p_slices2 {ops : Array Oper} {rest : List Oper} {op : Oper} {act : Act} {w : World} {Q : Exit → Act → World → Prop} (hgd : op.guard = none) (x y : Operand) (ho : op.op = .buildSlice 91 2 #[(0, x), (1, y)])
    (a b : Option Addr) (n c m d : Nat) (hx : act.eval x = .slice a n c) (hy : act.eval y = .slice b m d) (h : wpList Try.prog ops Q rest (act.put op.dst (.slice (some ⟨w.heap.size, 0, none⟩) 2 2)) (w.alloc (.cells #[.slice a n c, .slice b m d] 37))) : wpList Try.prog ops Q (op :: rest) act w := by
  refine wpList_plain hgd fun K hK => ?_
  unfold Oper.wp execOp
  simp only [ho, List.map_toArray, List.map_cons, List.map_nil, hx, hy, Sem.run_bind, run_slices2 a b n c m d w, Sem.run_pure, Result.andThen_ok]
  exact hK _ _ h
theorem p_slices3 {ops : Array Oper} {rest : List Oper} {op : Oper} {act : Act} {w : World} {Q : Exit → Act → World → Prop} (hgd : op.guard = none) (x y z : Operand) (ho : op.op = .buildSlice 91 3 #[(0, x), (1, y), (2, z)])
    (a b e : Option Addr) (n c m d r t : Nat) (hx : act.eval x = .slice a n c) (hy : act.eval y = .slice b m d) (hz : act.eval z = .slice e r t) (h : wpList Try.prog ops Q rest (act.put op.dst (.slice (some ⟨w.heap.size, 0, none⟩) 3 3)) (w.alloc (.cells #[.slice a n c, .slice b m d, .slice e r t] 37))) : wpList Try.prog ops Q (op :: rest) act w := by
  refine wpList_plain hgd fun K hK => ?_
  unfold Oper.wp execOp
  simp only [ho, List.map_toArray, List.map_cons, List.map_nil, hx, hy, hz, Sem.run_bind, run_slices3 a b e n c m d r t w, Sem.run_pure, Result.andThen_ok]
  exact hK _ _ h
/-- the world in which two rows are gone through -/
structure Ready2 (w W : World) (p : Pe) (v : Value) (L : List Pe) : Prop where
  bel : Below w.heap.size w W
  size : W.heap.size = w.heap.size + 3
  rd : EachR (w.heap.size + 2) (w.heap.size + 1) 2 (fun i => if i = 0 then .slice (some ⟨w.heap.size, 0, none⟩) 1 1 else v) (fun i => if i = 0 then [p] else L) W
theorem each_ready {w : World} (p : Pe) {v : Value} {L : List Pe} (h : Lies w v L) :
    Ready2 w (((w.alloc (.cells (peA p) 28)).alloc (.cells #[.slice (some ⟨w.heap.size, 0, none⟩) 1 1, v] 37)).alloc (.cells #[.slice (some ⟨w.heap.size + 1, 0, none⟩) 2 2] 91)) p v L := by
  have B1 := (Below.refl w.heap.size w).alloc (Nat.le_refl _) (.cells (peA p) 28)
  have B2 := B1.alloc (by simp) (.cells #[.slice (some ⟨w.heap.size, 0, none⟩) 1 1, v] 37)
  have B3 := B2.alloc (by simp; omega) (.cells #[.slice (some ⟨w.heap.size + 1, 0, none⟩) 2 2] 91)
  refine ⟨B3, by simp, ?_, fun i hi => ?_, fun i hi => ?_⟩
  · have := (Blk.new ((w.alloc (.cells (peA p) 28)).alloc (.cells #[.slice (some ⟨w.heap.size, 0, none⟩) 1 1, v] 37)) #[.slice (some ⟨w.heap.size + 1, 0, none⟩) 2 2] 91).cell 0
    rwa [World.size_alloc, World.size_alloc] at this
  · have := ((Blk.new (w.alloc (.cells (peA p) 28)) #[.slice (some ⟨w.heap.size, 0, none⟩) 1 1, v] 37).alloc (.cells #[.slice (some ⟨w.heap.size + 1, 0, none⟩) 2 2] 91)).cell i
    rw [World.size_alloc] at this
    rw [this]
    rcases i with _ | _ | i
    · rfl
    · rfl
    · omega
  · rcases i with _ | _ | i
    · refine .inr ⟨w.heap.size, 0, 1, rfl, Nat.le_refl _, ?_⟩
      have := blk_range (((Blk.new w (peA p) 28).alloc (.cells #[.slice (some ⟨w.heap.size, 0, none⟩) 1 1, v] 37)).alloc (.cells #[.slice (some ⟨w.heap.size + 1, 0, none⟩) 2 2] 91))
      rw [show flat (if 0 = 0 then [p] else L) = peC p from flat_single p]
      exact this
    · exact h.bel B3
    · omega
theorem wp_allocP {o : Oper} {a : Act} {w : World} {K : Act → World → Prop} {Q : Exit → Act → World → Prop} (ho : o.op = .alloc 28) (h : K (a.put o.dst (.pointer (some ⟨w.heap.size, 0, none⟩))) (w.alloc (.cells (peA (0, 0)) 28))) : o.wp Try.prog a w K Q := by
  unfold Oper.wp execOp
  simp only [ho]
  exact h
theorem bel_put {w0 w : World} {B D : Nat} {o : Obj} (h : Below B w0 w) (hD : B ≤ D) : Below B w0 (w.putObj D o) :=
  h.trans ⟨rfl, rfl, rfl, by simp, fun k hk => World.putObj_heap_other (by omega)⟩
theorem put_cell {w : World} {D k i : Nat} {o : Obj} (h : k ≠ D) : (w.putObj D o).cell? ⟨k, i, none⟩ = w.cell? ⟨k, i, none⟩ := World.cell?_of_block (a := ⟨k, i, none⟩) (World.putObj_heap_other h)
theorem set_other {w : World} {D k i : Nat} {v : Value} (h : D ≠ k) : (w.setCell ⟨k, i, none⟩ v).heap[D]? = w.heap[D]? := by
  simp only [World.setCell, Array.getElem?_modify]
  rw [if_neg (fun e => h e.symm)]
theorem keeps_bel {w w' : World} (h : Below w.heap.size w w') : KeepsOthers w w' := ⟨h.size, fun k _ hk _ => (h.block k (Array.getElem?_eq_some_iff.1 hk).1).trans hk⟩
theorem rset2 {B k : Nat} {W0 W : World} (h : Below B W0 W) (hr : Blk W0 k #[.bool false] 4) (hk : k < B) : Below B W0 (W.setCell ⟨k, 0, none⟩ (.bool false)) :=
  ⟨h.os, h.tape, h.output, by simpa [World.setCell] using h.size, fun j hj => by
    by_cases e : j = k
    · subst e
      exact (Blk.put (hr.below h hk) 0 (.bool false)).trans hr.symm
    · rw [set_other e]; exact h.block j hj⟩
theorem in_storeP {l n : Nat} {ops : Array Oper} {rest : List Oper} {o : Oper} {a : Act} {w : World} {Q : Exit → Act → World → Prop} {Z : Array Value} (hgd : o.guard = none) (x y : Operand) (ho : o.op = .store 28 x y)
    (p : Pe) (hx : a.eval x = .pointer (some ⟨w.heap.size, 0, none⟩)) (hy : a.eval y = .agg (peA p)) (hz : Z.size = 21 := by rfl)
    (h : wpListIn (Fence.wide.inRound l) n Try.prog ops Q rest (a.put o.dst undef) (w.alloc (.cells (peA p) 28))) : wpListIn (Fence.wide.inRound l) n Try.prog ops Q (o :: rest) a (w.alloc (.cells Z 28)) := by
  refine in_round hgd (fun c e => by rw [ho] at e; cases e) ?_
  refine wp_store_row 28 x y ho w.heap.size (peA p) hx hy 28 Z (heap_alloc_new _ _) (by rw [peA_size]; exact sizeP) (by rw [hz, peA_size]) (peA_one p) ?_
  rw [World.setRow_alloc_new]
  exact h
theorem bel_other {B : Nat} {W0 W W' : World} {row : Option Nat} (hB : B ≤ W0.heap.size) (h : Below B W0 W) (hg : W.grownBy W' row) (hr : ∀ r, row = some r → B ≤ r ∧ ∃ o : Obj, W.heap[r]? = some o ∧ o.isCells = false) : Below B W0 W' :=
  ⟨hg.os.trans h.os, hg.tape.trans h.tape, hg.output.trans h.output, Nat.le_trans h.size hg.size, fun i hi => by
    have hlt : i < W.heap.size := Nat.lt_of_lt_of_le hi (Nat.le_trans hB h.size)
    exact (hg.block i hlt (fun e => by have := (hr i e.symm).1; omega)).trans (h.block i hi)⟩
theorem wpIn_bel {P : Program} {F : Fence} {n : Nat} {c : Code} {Q : Exit → Act → World → Prop} {a : Act} {w : World} (A : Act) (h : c.wpIn F n P (fun e a' w' => e = .normal ∧ a' = A ∧ Below w.heap.size w w') a w) (hq : ∀ w', Below w.heap.size w w' → Q .normal A w') : c.wpIn F n P Q a w :=
  wpIn_mono h fun e a' w' ⟨h1, h2, h3⟩ => by subst h1 h2; exact hq _ h3
/-- the table, and where the answer goes -/
structure BoxR (w W : World) (s p : Pe) (u v : Value) : Prop where
  bel : Below w.heap.size w W
  tb : TB W w.heap.size s p u v
  r : Blk W (w.heap.size + 1) #[.bool false] 4
theorem BoxR.made (w : World) (s p : Pe) (u v : Value) : BoxR w ((w.alloc (.cells (tabA s p u v) 43)).alloc (.cells #[.bool false] 4)) s p u v := by
  refine ⟨((Below.refl w.heap.size w).alloc (Nat.le_refl _) _).alloc (by simp) _, Blk.alloc (Blk.new ..) _, ?_⟩
  have := Blk.new (w.alloc (.cells (tabA s p u v) 43)) #[.bool false] 4
  rwa [World.size_alloc] at this
set_option maxHeartbeats 8000000 in
theorem is_core {w : World} {s p : Pe} {u v : Value} {S L : List Pe} (oth non : Pe → Bool) (ad : Bool) (hS : Lies w u S) (hF : Lies w v L) (hn : S.length ≤ 1000000) (hf : L.length ≤ 1000000)
    (hA : ∀ w, Calls Try.prog 40 #[.int .i64 s.1] w fun e w' => e = .returned (.bool ad) ∧ w = w') (hO : ∀ x, Gives Try.prog 41 #[.agg (tabA s p u v), .agg (peA x)] (.bool (oth x)))
    (hN : ∀ x, eqP x (-1, 0) = non x) : Calls Try.prog 17 #[.agg (tabA s p u v)] w fun e w' => e = .returned (.bool (isG oth non ad p S L)) ∧ Below w.heap.size w w' := by
  have HX := Lib.hid (BoxR.made w s p u v)
  have HO := Lib.hid hO
  have HN := Lib.hid hN
  have HA := Lib.hid hA
  obtain ⟨au, cu, rfl⟩ := hS.form
  obtain ⟨av, cv, rfl⟩ := hF.form
  have HS := Lib.hid (hS.bel HX.out.bel)
  have HL := Lib.hid (hF.bel HX.out.bel)
  obtain ⟨z, hz⟩ : ∃ z, z = S.length := ⟨_, rfl⟩
  obtain ⟨y, hy⟩ : ∃ y, y = L.length := ⟨_, rfl⟩
  rw [← hz] at hn HX HO HS HL ⊢
  rw [← hy] at hf HX HO HS HL ⊢
  have HZ := Lib.hid hz
  have HY := Lib.hid hy
  clear hz hy hA hO hN hS hF
  refine enterM Try.func17 rfl ?_
  simp only [Try.ntmps17, List.size_toArray, List.length_cons, List.length_nil, Nat.reduceAdd, Nat.reduceSub, Array.replicate_succ, Array.replicate_zero, List.push_toArray, List.append_toArray, List.nil_append, List.cons_append]
  go_upto_region 1 with (fail)
  generalize (w.alloc _).alloc _ = W at *
  generalize hg : w.heap.size = g at *
  have T1 := HX.out.tb
  rw [hg] at T1
  have c0 := T1.sA
  have c1 := T1.cu
  have c2 := T1.cv
  have R0 := HX.out.r
  rw [hg] at R0
  have r0 := R0.cell 0
  have r1 := R0.free 0
  have BX := HX.out.bel
  rw [hg] at BX
  cases ad
  · have e1 : isG oth non false p S L = false := rfl
    have HE := Lib.hid e1
    go_wp2_with (go_at_call 40; (with_reducible refine (HA.out _).mono ?_); rintro e w1 ⟨rfl, rfl⟩)
    exact postM0 (results_B1 Try.results17 _ _ (g + 1) rfl (rset R0)) ⟨by rw [HE.out], by rw [hg]; exact bel_setCell BX (Nat.le_succ g) _ _⟩
  by_cases h8 : z ≤ 8
  rotate_left
  · have e1 : isG oth non true p S L = false := by
      unfold isG; rw [decide_eq_false (by have := HZ.out; omega)]; rfl
    have HE := Lib.hid e1
    have b1 : (8 : Int) < (z : Int) := by omega
    clear e1
    go_wp2_with (go_at_call 40; (with_reducible refine (HA.out _).mono ?_); rintro e w1 ⟨rfl, rfl⟩)
    exact postM0 (results_B1 Try.results17 _ _ (g + 1) rfl (rset R0)) ⟨by rw [HE.out], by rw [hg]; exact bel_setCell BX (Nat.le_succ g) _ _⟩
  have b1 : ¬ (8 : Int) < (z : Int) := by omega
  by_cases hy160 : y = 160
  rotate_left
  · have e1 : isG oth non true p S L = false := by
      unfold isG; rw [decide_eq_false (p := L.length = 160) (by have := HY.out; omega)]; simp
    have HE := Lib.hid e1
    have b2 : ¬ (y : Int) = 160 := by omega
    have b3 : ((y : Int) != 160) = true := by simpa using b2
    clear e1
    go_wp2_with (go_at_call 40; (with_reducible refine (HA.out _).mono ?_); rintro e w1 ⟨rfl, rfl⟩)
    exact postM0 (results_B1 Try.results17 _ _ (g + 1) rfl (rset R0)) ⟨by rw [HE.out], by rw [hg]; exact bel_setCell BX (Nat.le_succ g) _ _⟩
  subst hy160
  have hisG : isG oth non true p S L = (okG oth S z && (p :: L).all fun x => non x || oth x) := by
    have h1 := HZ.out
    have h2 := HY.out
    unfold isG
    rw [← h1, decide_eq_true h8, decide_eq_true h2.symm]; rfl
  have HG := Lib.hid hisG
  clear hisG
  go_upto_region 4 with (go_at_call 40; (with_reducible refine (HA.out _).mono ?_); rintro e w1 ⟨rfl, rfl⟩)
  have BXH := Lib.hid BX
  have TH := Lib.hid T1
  have RH := Lib.hid R0
  clear c0 c1 c2 r0 r1 T1 R0 BX HA b1 HX
  go_loopw [3, 4, 26] (fun _ _ i wr => ∃ k : Nat, i = .int .i64 (k : Int) ∧ k ≤ z ∧ okG oth S k = true ∧ Below W.heap.size W wr) (fun _ _ i _ => z - (intOf i).toNat)
  case atStart => exact ⟨0, rfl, Nat.zero_le _, rfl, Below.refl _ _⟩
  case round =>
    obtain ⟨k, rfl, hk, hok, hB⟩ := hrel
    have HOK := Lib.hid hok
    have HB := Lib.hid hB
    clear hok hB
    by_cases hlt : k < z
    · have hx : S[k]? = some (S.getD k (0, 0)) := by
        have : k < S.length := by have := HZ.out; omega
        rw [List.getD_eq_getElem?_getD, List.getElem?_eq_getElem this]; rfl
      have hbad : (oth (S.getD k (0, 0)) && !hasB (S.take k) (S.getD k (0, 0)).1) = false → isG oth non true p S L = false := fun h => by
        rw [HG.out, ok_le oth S (show k + 1 ≤ z by omega) (by rw [okG, h, Bool.and_false])]; rfl
      have hgood : (oth (S.getD k (0, 0)) && !hasB (S.take k) (S.getD k (0, 0)).1) = true → okG oth S (k + 1) = true := fun h => by rw [okG, h, HOK.out]; rfl
      obtain ⟨b, o, c, e1, hc, hr, r1, hlb⟩ := (HS.out.bel HB.out).at hx
      simp only [Value.slice.injEq] at e1
      obtain ⟨rfl, ezl, rfl⟩ := e1
      have hkc : k ≤ cu := by omega
      have hT := lies_take hr hc (i := k) (by omega)
      have hO := HO.out (S.getD k (0, 0))
      clear ezl hc hr hx
      generalize S.getD k (0, 0) = x at *
      have B1 := (Below.refl wr.heap.size wr).alloc (Nat.le_refl _) (.cells (peA x) 28)
      have X1 := PB.new wr x
      have T1 := (TH.out.bel HB.out).bel B1
      have hT1 := hT.bel B1
      have R1 := Blk.below (RH.out.below HB.out RH.out.lt) B1 (RH.out.below HB.out RH.out.lt).lt
      have BB := Lib.hid (step HB.out B1)
      have hq : (S.take k).length ≤ 1000000 := by rw [List.length_take]; omega
      generalize S.take k = Sk at *
      go_upto_region 6 with (first
        | (refine p_midP rfl _ rfl b (o + k * 21) rfl x r1 ?_)
        | (refine p_storeP rfl rfl _ _ rfl x rfl rfl ?_))
      (try simp only [Act.put])
      clear r1 hlb hT
      generalize wr.alloc _ = W1 at *
      generalize wr.heap.size = g1 at *
      have P1 := X1.range
      have c42 := fun d os => cell_regrown T1.cu d os
      have ca := fun d os => cell_regrown X1.A d os
      have hH : GivesW W1 42 #[.slice (some ⟨b, o, none⟩) k cu, .int .i64 x.1] (.bool (hasB Sk x.1)) := fun w' hb => hasAddr_any x.1 (hT1.bel hb) hq
      clear hT1 hq B1
      generalize hasB Sk x.1 = hh at *
      generalize oth x = ob at *
      have RH1 := Lib.hid R1
      clear R1 X1
      cases ob
      · have HBad := Lib.hid (hbad rfl)
        clear hbad hgood hH
        refine wp_region_quiet_below (by kernel_rfl) (by kernel_rfl) ?_
        repeat (first
          | go_big_quiet_skip
          | (go_big_quiet_want
             first
             | (first | (refine q_midT _ rfl g rfl T1 ?_) | (refine q_midP _ rfl g1 0 rfl x (by with_reducible exact P1) ?_) | (refine q_to 37 _ _ rfl 28 21 Try.underlying37 sizeP b o _ cu k _ rfl rfl rfl hkc ?_)
                simp only [Act.put, List.setIfInBounds_toArray, List.set_cons_succ, List.set_cons_zero]
                go_big_quiet_on)
             | (go_big_quiet_op
                first | go_big_quiet_on | go_big_quiet_call (first | with_reducible exact hO.grown _ _ | with_reducible exact hH.grown _ _))))
        refine wpQuiet_nil ?_
        intro w2 hw'
        have hb2 := quiet_end hw'
        clear hw'
        have R2 := RH1.out.below hb2 RH1.out.lt
        have B2 := step BB.out hb2
        have r0 := R2.cell 0
        have r1 := R2.free 0
        clear hb2
        go_wp2
        exact postM0 (results_B1 Try.results17 _ _ (g + 1) rfl (rset R2)) ⟨by rw [HBad.out], by rw [hg]; exact bel_setCell (belTo hg BXH.out B2) (Nat.le_succ g) _ _⟩
      · cases hh
        · have HGood := Lib.hid (hgood rfl)
          clear hbad hgood
          refine wp_region_quiet_below (by kernel_rfl) (by kernel_rfl) ?_
          repeat (first
            | go_big_quiet_skip
            | (go_big_quiet_want
               first
               | (first | (refine q_midT _ rfl g rfl T1 ?_) | (refine q_midP _ rfl g1 0 rfl x (by with_reducible exact P1) ?_) | (refine q_to 37 _ _ rfl 28 21 Try.underlying37 sizeP b o _ cu k _ rfl rfl rfl hkc ?_)
                  simp only [Act.put, List.setIfInBounds_toArray, List.set_cons_succ, List.set_cons_zero]
                  go_big_quiet_on)
               | (go_big_quiet_op
                  first | go_big_quiet_on | go_big_quiet_call (first | with_reducible exact hO.grown _ _ | with_reducible exact hH.grown _ _))))
          refine wpQuiet_nil ?_
          intro w2 hw'
          have hb2 := quiet_end hw'
          clear hw'
          have B2 := Lib.hid (step BB.out hb2)
          clear hb2
          have s1 : IntKind.i64.wrap ((k : Int) + 1) = (k : Int) + 1 := IntWalk.i64_in _ (by omega)
          go_wp2
          exact ⟨⟨k + 1, by go_num, by omega, HGood.out, B2.out⟩, by simp [intOf]; omega⟩
        · have HBad := Lib.hid (hbad rfl)
          clear hbad hgood
          refine wp_region_quiet_below (by kernel_rfl) (by kernel_rfl) ?_
          repeat (first
            | go_big_quiet_skip
            | (go_big_quiet_want
               first
               | (first | (refine q_midT _ rfl g rfl T1 ?_) | (refine q_midP _ rfl g1 0 rfl x (by with_reducible exact P1) ?_) | (refine q_to 37 _ _ rfl 28 21 Try.underlying37 sizeP b o _ cu k _ rfl rfl rfl hkc ?_)
                  simp only [Act.put, List.setIfInBounds_toArray, List.set_cons_succ, List.set_cons_zero]
                  go_big_quiet_on)
               | (go_big_quiet_op
                  first | go_big_quiet_on | go_big_quiet_call (first | with_reducible exact hO.grown _ _ | with_reducible exact hH.grown _ _))))
          refine wpQuiet_nil ?_
          intro w2 hw'
          have hb2 := quiet_end hw'
          clear hw'
          have R2 := RH1.out.below hb2 RH1.out.lt
          have B2 := step BB.out hb2
          have r0 := R2.cell 0
          have r1 := R2.free 0
          clear hb2
          go_wp2
          exact postM0 (results_B1 Try.results17 _ _ (g + 1) rfl (rset R2)) ⟨by rw [HBad.out], by rw [hg]; exact bel_setCell (belTo hg BXH.out B2) (Nat.le_succ g) _ _⟩
    · obtain rfl : k = z := by omega
      have HB0 := HB
      have HL0 := HL
      have T1 := TH.out.bel HB.out
      have R1 := RH.out.below HB.out RH.out.lt
      have c1 := T1.cv
      have P1 := T1.pred
      have BB := belTo hg BXH.out HB.out
      clear HB
      clear HL HS TH RH BXH
      have LV : Lies wr (.slice av 160 cv) L := (HL0.out.bel HB0.out)
      have c1 := cell_bel c1 ((Below.refl wr.heap.size wr).alloc (Nat.le_refl _) (.cells (peA p) 28))
      have E0 := Lib.hid (each_ready p LV)
      go_upto_block 0 with (first
        | (refine p_midP rfl _ rfl g 21 rfl p P1 ?_)
        | (refine p_sliceP rfl _ rfl p rfl ?_)
        | (refine p_slices2 rfl _ _ rfl _ _ _ _ _ _ rfl rfl ?_)
        | (go_at_call 43; (with_reducible refine (each_any _ _ _ _).mono ?_); rintro e w2 ⟨rfl, rfl⟩))
      clear LV
      obtain ⟨eb, es, er⟩ := E0.out
      have BW := belTo hg BB eb
      have hrz := (Blk.below R1 eb R1.lt)
      have hT3 := T1.bel eb
      have hgz : g + 2 ≤ wr.heap.size := R1.lt
      clear E0 T1 P1 c1 BB R1 eb
      generalize ((wr.alloc _).alloc _).alloc _ = W3 at *
      generalize wr.heap.size = q at *
      have hG1 : isG oth non true p S L = (p :: L).all fun x => non x || oth x := by rw [HG.out, HOK.out, Bool.true_and]
      have HG1 := Lib.hid hG1
      have HR3 := Lib.hid hrz
      have HT3 := Lib.hid hT3
      have HE3 := Lib.hid er
      have HBW := Lib.hid BW
      have hLs : (if 0 = 0 then [p] else L) = [p] := rfl
      clear hG1 hrz hT3 er BW HG HOK HZ hk hlt hn h8
      refine (wpIn_wide (n := 5)).1 ?_
      refine range_in rfl (by omega) (lb := #[.pointer (some ⟨q + 2, 0, none⟩)]) rfl trivial (catN (fun i => if i = 0 then [p] else L) 2) _ (goes_each (n := 4) (by omega) (q + 2) (q + 1) 2 _ _ (by omega) (fun i _ => by
        rcases i with _ | i
        · exact Nat.le_trans (Nat.le_refl 1) (by omega)
        · exact Nat.le_trans (Nat.le_of_eq HY.out.symm) (by omega)))
        (fun k W => Below W3.heap.size W3 W ∧ ((p :: L).take k).all (fun x => non x || oth x) = true)
        (fun W => Below W3.heap.size W3 W ∧ (p :: L).all (fun x => non x || oth x) = false)
        (fun k W W' row hI hgr hr => ⟨bel_other (Nat.le_refl _) hI.1 hgr hr, hI.2⟩) (fun _ W W' row hI hgr hr => ⟨bel_other (Nat.le_refl _) hI.1 hgr hr, hI.2⟩)
        (fun k W hI => HE3.out.keep hI.1) ⟨Below.refl _ _, rfl⟩ ?a1 ?assign ?body ?done ?stop
      case assign =>
        intro l q1 x W K hq1 hK
        simp only [List.setIfInBounds_toArray, List.set_cons_succ, List.set_cons_zero]
        subst hq1
        refine wpIn_region_lit ?_
        refine in_round rfl (fun c e => by cases e) (wp_allocP rfl ?_)
        simp only [Act.put, List.setIfInBounds_toArray, List.set_cons_succ, List.set_cons_zero]
        refine in_storeP rfl _ _ rfl x rfl rfl (peA_size _) ?_
        refine wpListIn_nil ?_
        generalize hq1 : W.heap.size = q1 at *
        exact hK
      case body =>
        rintro l k1 q1 x W hx hP hq1 ⟨hI1, hI2⟩
        have hx : (p :: L)[k1]? = some x := hx
        have hT := HT3.out.bel hI1
        have hO := HO.out x
        have hN := HN.out x
        have hP1 := hP.range
        have hnone : Gives Try.prog 44 #[] (.agg (peA (-1, 0))) := none_any
        have more : (non x || oth x) = true → ((p :: L).take (k1 + 1)).all (fun x => non x || oth x) = true := fun h => by
          rw [List.take_add_one, hx, List.all_append, hI2]; simp [h]
        have stop : (non x || oth x) = false → (p :: L).all (fun x => non x || oth x) = false := fun h => by
          rw [List.all_eq_false]
          exact ⟨x, List.mem_of_getElem? hx, by rw [h]; simp⟩
        have HI := Lib.hid hI1
        have HM := Lib.hid more
        have HS := Lib.hid stop
        clear hI1 hI2 hx more stop hP HO HN HE3 HT3 HG1 HY
        generalize non x = nx at *
        generalize oth x = ob at *
        generalize hNN : eqP x (-1, 0) = nn at *
        subst hN
        cases nn
        · have hq : (!eqP x (-1, 0)) = true := by rw [hNN]; rfl
          clear hNN
          cases ob
          · have hS := HS.out rfl
            have HS2 := Lib.hid hS
            clear HM HS hS
            gi_wp2
            apply wpIn_bel
            case h =>
              refine round_quiet (by kernel_rfl) (by kernel_rfl) (by kernel_rfl) (fun _ _ h => by cases h.1) ?_
              repeat (first
                | go_big_quiet_skip
                | (go_big_quiet_want
                   first
                   | (first | (refine q_midT _ rfl g rfl hT ?_) | (refine q_midP _ rfl q1 0 rfl x (by with_reducible exact hP1) ?_) | (refine q_neqP _ _ rfl x (-1, 0) rfl rfl hq ?_)
                      simp only [Act.put, List.setIfInBounds_toArray, List.set_cons_succ, List.set_cons_zero]
                      go_big_quiet_on)
                   | (go_big_quiet_op
                      first | go_big_quiet_on | go_big_quiet_call (first | with_reducible exact hO.grown _ _ | with_reducible exact hnone.grown _ _))))
              refine wpQuiet_nil ?_
              intro w2 hw'
              exact ⟨rfl, rfl, quiet_end hw'⟩
            case hq =>
              intro w2 hb2
              have HB2 := Lib.hid (HI.out.trans (hb2.mono HI.out.size))
              have hr2 := HR3.out.below HB2.out HR3.out.lt
              have r0 := hr2.cell 0
              have r1 := hr2.free 0
              have KF := Lib.hid ((keeps_bel hb2).from W3.heap.size)
              clear hb2 hT hO hP1 hnone hr2
              gi_wp2
              refine ⟨KF.out.trans ((KeepsOthers.setCell _ _ _).from _), ⟨rset2 HB2.out HR3.out HR3.out.lt, HS2.out⟩⟩
          · have hM := HM.out rfl
            have HM2 := Lib.hid hM
            clear HM HS hM
            gi_wp2
            apply wpIn_bel
            case h =>
              refine round_quiet (by kernel_rfl) (by kernel_rfl) (by kernel_rfl) (fun _ _ h => by cases h.1) ?_
              repeat (first
                | go_big_quiet_skip
                | (go_big_quiet_want
                   first
                   | (first | (refine q_midT _ rfl g rfl hT ?_) | (refine q_midP _ rfl q1 0 rfl x (by with_reducible exact hP1) ?_) | (refine q_neqP _ _ rfl x (-1, 0) rfl rfl hq ?_)
                      simp only [Act.put, List.setIfInBounds_toArray, List.set_cons_succ, List.set_cons_zero]
                      go_big_quiet_on)
                   | (go_big_quiet_op
                      first | go_big_quiet_on | go_big_quiet_call (first | with_reducible exact hO.grown _ _ | with_reducible exact hnone.grown _ _))))
              refine wpQuiet_nil ?_
              intro w2 hw'
              exact ⟨rfl, rfl, quiet_end hw'⟩
            case hq =>
              intro w2 hb2
              have HB2 := Lib.hid (HI.out.trans (hb2.mono HI.out.size))
              have KF := Lib.hid ((keeps_bel hb2).from W3.heap.size)
              clear hb2 hT hO hP1 hnone
              gi_wp2
              exact ⟨KF.out, HB2.out, HM2.out⟩
        · have hq : (!eqP x (-1, 0)) = false := by rw [hNN]; rfl
          clear hNN
          have hM := HM.out rfl
          have HM2 := Lib.hid hM
          clear HM HS hM
          gi_wp2
          apply wpIn_bel
          case h =>
            refine round_quiet (by kernel_rfl) (by kernel_rfl) (by kernel_rfl) (fun _ _ h => by cases h.1) ?_
            repeat (first
              | go_big_quiet_skip
              | (go_big_quiet_want
                 first
                 | (first | (refine q_midT _ rfl g rfl hT ?_) | (refine q_midP _ rfl q1 0 rfl x (by with_reducible exact hP1) ?_) | (refine q_neqP _ _ rfl x (-1, 0) rfl rfl hq ?_)
                    simp only [Act.put, List.setIfInBounds_toArray, List.set_cons_succ, List.set_cons_zero]
                    go_big_quiet_on)
                 | (go_big_quiet_op
                    first | go_big_quiet_on | go_big_quiet_call (first | with_reducible exact hO.grown _ _ | with_reducible exact hnone.grown _ _))))
            refine wpQuiet_nil ?_
            intro w2 hw'
            exact ⟨rfl, rfl, quiet_end hw'⟩
          case hq =>
            intro w2 hb2
            have HB2 := Lib.hid (HI.out.trans (hb2.mono HI.out.size))
            have KF := Lib.hid ((keeps_bel hb2).from W3.heap.size)
            clear hb2 hT hO hP1 hnone
            gi_wp2
            exact ⟨KF.out, HB2.out, HM2.out⟩
      case done =>
        rintro D W hD ⟨hI1, hI2⟩ hK
        have hI3 : (p :: L).all (fun x => non x || oth x) = true := by
          rw [show (catN (fun i => if i = 0 then [p] else L) 2).length = (p :: L).length from rfl, List.take_length] at hI2
          exact hI2
        have HE2 := Lib.hid (HG1.out.trans hI3)
        have hr2 := HR3.out.below hI1 HR3.out.lt
        have r0 := hr2.cell 0
        have r1 := hr2.free 0
        have HI := Lib.hid hI1
        have HK := Lib.hid hK
        clear hI1 hI2 hI3 hK
        have l1 : g + 1 < D := by have := HR3.out.lt; omega
        go_wp2
        have hbl : Blk (W.setCell ⟨g + 1, 0, none⟩ (.bool true)) (g + 1) #[.bool true] 4 := (HR3.out.below HI.out HR3.out.lt).put 0 _
        exact postM1 D (by rw [set_other (by omega)]; exact HK.out) (results_B1 Try.results17 _ _ (g + 1) rfl (by rw [put_cell (by omega)]; exact hbl.cell 0)) ⟨by rw [HE2.out], by
          exact bel_put (bel_setCell (HBW.out.trans (HI.out.mono (by have := HR3.out.lt; omega))) (by omega) _ _) (by omega)⟩
      case stop =>
        rintro D W hD ⟨hI1, hI2⟩ hK
        have HE2 := Lib.hid (HG1.out.trans hI2)
        have HI := Lib.hid hI1
        have HK := Lib.hid hK
        clear hI1 hI2 hK
        have l1 : g + 1 < D := by have := HR3.out.lt; omega
        refine wpIn_wide.2 ?_
        go_wp2
        exact postM1 D HK.out (results_B1 Try.results17 _ _ (g + 1) rfl (by rw [put_cell (by omega)]; exact (HR3.out.below HI.out HR3.out.lt).cell 0)) ⟨by rw [HE2.out], by
          exact bel_put (HBW.out.trans (HI.out.mono (by have := HR3.out.lt; omega))) (by omega)⟩
def isT (s p : Pe) (S F : List Pe) : Bool := isG (otherB s) (fun x => eqP x (-1, 0)) (addrB s.1) p S F
theorem is_any {w : World} {s p : Pe} {u v : Value} {S L : List Pe} (hS : Lies w u S) (hF : Lies w v L) (hn : S.length ≤ 1000000) (hf : L.length ≤ 1000000) :
    Calls Try.prog 17 #[.agg (tabA s p u v)] w fun e w' => e = .returned (.bool (isT s p S L)) ∧ Below w.heap.size w w' :=
  is_core _ _ _ hS hF hn hf (fun w => isAddr_any s.1 w) (fun x => isOther_gives s p u v x) fun _ => rfl
theorem is_givesW {W : World} {s p : Pe} {u v : Value} {S L : List Pe} (hS : Lies W u S) (hF : Lies W v L) (hn : S.length ≤ 1000000) (hf : L.length ≤ 1000000) :
    GivesW W 17 #[.agg (tabA s p u v)] (.bool (isT s p S L)) := fun _ hb => is_any (hS.bel hb) (hF.bel hb) hn hf
end Go.Proofs.Ytfajfmcabpmchaa
