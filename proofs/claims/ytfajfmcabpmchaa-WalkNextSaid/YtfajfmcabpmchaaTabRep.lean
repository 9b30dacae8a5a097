/- One row, a hundred and sixty times. -/
import Derived.Test.YtfajfmcabpmchaaTabSort
import Derived.Test.YtfajfmcabpmchaaTabCloser
import Derived.BigGuard
namespace Go.Proofs.Ytfajfmcabpmchaa
set_option maxRecDepth 100000
open Go Go.RowKit Go.Sort

theorem results_tt {fn : Func} {a b : Tmp} (h : fn.results = #[.tmp a, .tmp b]) (tmps : Array Value) (w : World) : (results fn tmps).run Try.prog w = .ok (.tuple #[tmps.getD a undef, tmps.getD b undef]) w := by
  simp [results, h]
set_option maxHeartbeats 1000000 in
theorem mul64_one (w : World) : Calls Try.prog 97 #[.int .u64 1, .int .u64 160] w fun e w' => e = .returned (.tuple #[.int .u64 0, .int .u64 160]) ∧ w' = w := by
  go_enter Try.func97, Try.ntmps97
  go_wp2
  exact bodyPost_ret (results_tt rfl _ _) rfl ⟨rfl, rfl⟩
theorem mul_one (w : World) : Calls Try.prog 93 #[.int .u64 1, .int .u64 160] w fun e w' => e = .returned (.tuple #[.int .u64 0, .int .u64 160]) ∧ w' = w := by
  go_enter Try.func93, Try.ntmps93
  go_wp2_with (go_at_call 97; (with_reducible refine (mul64_one _).mono ?_); rintro e w1 ⟨rfl, rfl⟩)
  exact bodyPost_ret (results_tt rfl _ _) rfl ⟨rfl, rfl⟩
/-- peers are copied -/
theorem run_copyP (w : World) (ty : TypeId) (b o dLen dCap sb so sLen sCap k : Nat) (cs : List Value) (hn : k = Nat.min sLen dLen) (hl : cs.length = k * 21) (hsrc : w.rangeAt sb so cs) (ht : w.there b o (k * 21)) (h1 : ∀ v ∈ cs, v.oneCell' = true) :
    (Builtin.copy_ #[37, 37] ty #[.slice (some ⟨b, o, none⟩) dLen dCap, .slice (some ⟨sb, so, none⟩) sLen sCap]).run Try.prog w = .ok (goInt k) (w.setCells b o cs) := by
  have hld := run_loadCells_list (P := Try.prog) w ⟨sb, so, none⟩ cs (fun j v hj => by have := hsrc j v hj; unfold Addr.add; split <;> simp_all)
  have hst := run_storeCells_cells (P := Try.prog) b o cs 0 w (fun j hj => by rw [hl] at hj; exact (ht j hj).1) (fun j hj => by rw [hl] at hj; exact (ht j hj).2) h1
  obtain ⟨i, hi', hq⟩ := Option.map_eq_some_iff.1 sizeP
  rw [hl] at hld
  simp [Builtin.copy_, run_underlying sliceP, elemP, Builtin.lenOf, Builtin.firstCells, sizeOf, typeInfo, hi', hq, ← hn, hld, hst]
theorem y_uptoS {ops : Array Oper} {S : World → Prop} {op : Oper} {a : Act} (hw : Region.wanted op (yielded ops a.tmps) = true) (s hi_ : Operand)
    (ho : op.op = .slice 37 s none (some hi_) none) (b o n c r : Nat) (hs : a.eval s = .slice (some ⟨b, o, none⟩) n c) (hlo : a.eval hi_ = .int .i64 (r : Int)) (hr : r ≤ c) : YieldsIf Try.prog ops S op (.slice (some ⟨b, o, none⟩) r c) a := by
  refine .inl ⟨hw, fun w _ => ?_⟩
  obtain ⟨i, hi', hq⟩ := Option.map_eq_some_iff.1 sizeP
  have run : (Instr.sliceAt 37 (.slice (some ⟨b, o, none⟩) n c) none (some (.int .i64 (r : Int))) none).run Try.prog w = .ok (sliced (some ⟨b, o, none⟩) 0 r c 21) w := by
    rw [run_sliceAt_slice w 37 _ _ _ _ sliceP, run_slice_h w 37 _ n c sliceP .i64 (r : Int) (by omega) (by omega), elemP]
    simp [sizeOf, typeInfo, hi', Result.andThen, hq]
  have hv : sliced (some ⟨b, o, none⟩) 0 r c 21 = .slice (some ⟨b, o, none⟩) r c := by
    unfold sliced; split <;> simp [Addr.add_mid]
  unfold execOp
  simp only [ho, Option.map, hs, hlo, Sem.run_bind, Result.andThen_ok, run, hv, Sem.run_pure]
theorem y_fromS {ops : Array Oper} {S : World → Prop} {op : Oper} {a : Act} (hw : Region.wanted op (yielded ops a.tmps) = true) (s lo : Operand)
    (ho : op.op = .slice 37 s (some lo) none none) (b o n c r : Nat) (hs : a.eval s = .slice (some ⟨b, o, none⟩) n c) (hlo : a.eval lo = .int .i64 (r : Int)) (hr : r < n) (hc : n ≤ c) : YieldsIf Try.prog ops S op (.slice (some ⟨b, o + r * 21, none⟩) (n - r) (c - r)) a := by
  refine .inl ⟨hw, fun w _ => ?_⟩
  obtain ⟨i, hi', hq⟩ := Option.map_eq_some_iff.1 sizeP
  have run : (Instr.sliceAt 37 (.slice (some ⟨b, o, none⟩) n c) (some (.int .i64 (r : Int))) none none).run Try.prog w = .ok (sliced (some ⟨b, o, none⟩) r n c 21) w := by
    rw [run_sliceAt_slice w 37 _ _ _ _ sliceP, run_slice_l w 37 _ n c sliceP .i64 (r : Int) (by omega) (by omega), elemP]
    simp [sizeOf, typeInfo, hi', Result.andThen, hq]
  have hv : sliced (some ⟨b, o, none⟩) r n c 21 = .slice (some ⟨b, o + r * 21, none⟩) (n - r) (c - r) := by
    unfold sliced; rw [if_neg (by omega)]; simp [Addr.add_mid]
  unfold execOp
  simp only [ho, Option.map, hs, hlo, Sem.run_bind, Result.andThen_ok, run, hv, Sem.run_pure]
theorem o_copyP {w : World} {op : Oper} {a : Act} {K : Act → World → Prop} {Q : Exit → Act → World → Prop} (d s : Operand)
    (ho : op.op = .call { callee := .builtin .copy, args := #[d, s], argTypes := #[37, 37] }) (b o dLen dCap sb so sLen sCap k : Nat) (hd : a.eval d = .slice (some ⟨b, o, none⟩) dLen dCap) (hs : a.eval s = .slice (some ⟨sb, so, none⟩) sLen sCap)
    (cs : List Value) (hn : k = Nat.min sLen dLen) (hl : cs.length = k * 21) (hsrc : w.rangeAt sb so cs) (ht : w.there b o (k * 21)) (h1 : ∀ v ∈ cs, v.oneCell' = true) (h : K (a.put op.dst (.int .i64 (k : Int))) (w.setCells b o cs)) : op.wp Try.prog a w K Q := by
  have hr := run_copyP w op.type b o dLen dCap sb so sLen sCap k cs hn hl hsrc ht h1
  unfold Oper.wp execOp
  simp only [ho, resolve, invoke, builtin, Sem.run_bind, Sem.run_pure, Result.andThen_ok, List.map_toArray, List.map_cons, List.map_nil, hd, hs, hr]
  exact h
theorem p_copyP {ops : Array Oper} {rest : List Oper} {w : World} {op : Oper} {a : Act} {Q : Exit → Act → World → Prop} (hgd : op.guard = none) (d s : Operand)
    (ho : op.op = .call { callee := .builtin .copy, args := #[d, s], argTypes := #[37, 37] }) (b o dLen dCap sb so sLen sCap k : Nat) (hd : a.eval d = .slice (some ⟨b, o, none⟩) dLen dCap) (hs : a.eval s = .slice (some ⟨sb, so, none⟩) sLen sCap)
    (cs : List Value) (hn : k = Nat.min sLen dLen) (hl : cs.length = k * 21) (hsrc : w.rangeAt sb so cs) (ht : w.there b o (k * 21)) (h1 : ∀ v ∈ cs, v.oneCell' = true) (h : wpList Try.prog ops Q rest (a.put op.dst (.int .i64 (k : Int))) (w.setCells b o cs)) : wpList Try.prog ops Q (op :: rest) a w :=
  wpList_plain hgd fun _ hK => o_copyP d s ho b o dLen dCap sb so sLen sCap k hd hs cs hn hl hsrc ht h1 (hK _ _ h)
/-- a row of one peer, n times -/
def rep (n : Nat) (x : Pe) : List Pe := List.replicate n x
structure RepW (b : Nat) (w wr : World) (x : Pe) (n : Nat) : Prop where
  bel : Below w.heap.size w wr
  cells : wr.rangeAt b 0 (flat (rep n x))
  there : wr.there b 0 (160 * 21)
  lt : b < wr.heap.size
  lo : w.heap.size ≤ b
theorem rep_len (n : Nat) (x : Pe) : (flat (rep n x)).length = n * 21 := by rw [flat_length]; unfold rep; rw [List.length_replicate]
theorem rep_add (n k : Nat) (x : Pe) : flat (rep (n + k) x) = flat (rep n x) ++ flat (rep k x) := by
  unfold rep; rw [← List.replicate_append_replicate, flat_append]
theorem RepW.src {b n : Nat} {w wr : World} {x : Pe} (h : RepW b w wr x n) {k : Nat} (hk : k ≤ n) : wr.rangeAt b 0 (flat (rep k x)) := fun j v hj => by
  refine h.cells j v ?_
  have e : n = k + (n - k) := by omega
  rw [e, rep_add, List.getElem?_append_left (by have := (List.getElem?_eq_some_iff.1 hj).1; exact this)]
  exact hj
theorem RepW.thereAt {b n : Nat} {w wr : World} {x : Pe} (h : RepW b w wr x n) {i k : Nat} (hk : i + k ≤ 160) : wr.there b (0 + i * 21) (k * 21) := fun j hj => by
  have := h.there (i * 21 + j) (by omega)
  rwa [show 0 + (i * 21 + j) = 0 + i * 21 + j by omega] at this
theorem RepW.put {b n : Nat} {w wr : World} {x : Pe} (h : RepW b w wr x n) {k : Nat} (hk : n + k ≤ 160) : RepW b w (wr.setCells b (0 + n * 21) (flat (rep k x))) x (n + k) := by
  have hgr := grown_set wr b (0 + n * 21) (flat (rep k x))
  have hlo := h.lo
  have hkk : ∀ i, i ≠ b → i < wr.heap.size → (wr.setCells b (0 + n * 21) (flat (rep k x))).heap[i]? = wr.heap[i]? := fun i hi hl => hgr.block i hl (by simpa using hi)
  have hsz := h.bel.size
  refine ⟨⟨hgr.os.trans h.bel.os, hgr.tape.trans h.bel.tape, hgr.output.trans h.bel.output, Nat.le_trans h.bel.size hgr.size, fun i hi => (hkk i (by omega) (by omega)).trans (h.bel.block i hi)⟩, ?_, World.there_setCells h.there _ _ _, by rw [(tape_setCells _ _ _ _).2]; exact h.lt, h.lo⟩
  intro j v hj
  rw [rep_add] at hj
  by_cases hjn : j < n * 21
  · rw [List.getElem?_append_left (by rw [rep_len]; exact hjn)] at hj
    exact World.rangeAt_setCells_apart h.cells _ _ _ (.inr (by rw [rep_len, rep_len]; omega)) j v hj
  · rw [List.getElem?_append_right (by rw [rep_len]; omega), rep_len] at hj
    have := World.rangeAt_setCells_same wr b (0 + n * 21) (flat (rep k x)) (by rw [rep_len]; exact h.thereAt hk) (j - n * 21) v hj
    rwa [show 0 + n * 21 + (j - n * 21) = 0 + j by omega] at this
theorem RepW.new {w wr : World} {x : Pe} (hb : Below w.heap.size w wr) (t : TypeId) {Z : Array Value} (hZ : Z.size = 160 * 21) : RepW wr.heap.size w (wr.alloc (.cells Z t)) x 0 := by
  have hg : (wr.alloc (.cells Z t)).heap[wr.heap.size]? = some (.cells Z t (0, 0)) := heap_alloc_new _ _
  refine ⟨hb.alloc hb.size _, fun j v hj => by simp [rep, flat] at hj, fun j hj => ?_, by simp, hb.size⟩
  have hjs : 0 + j < Z.size := by omega
  exact ⟨by rw [cell_of_row _ _ (0 + j) Z _ _ hg, Array.getElem?_eq_getElem hjs]; rfl, frozen_of_row _ _ (0 + j) Z _ hg⟩
theorem RepW.lies {b n : Nat} {w wr : World} {x : Pe} (h : RepW b w wr x n) : Lies wr (.slice (some ⟨b, 0, none⟩) n n) (rep n x) :=
  .inr ⟨b, 0, n, by unfold rep; rw [List.length_replicate], by unfold rep; rw [List.length_replicate]; exact Nat.le_refl _, h.cells⟩
theorem RepW.bel2 {b n : Nat} {w wr w' : World} {x : Pe} (h : RepW b w wr x n) (hb : Below wr.heap.size wr w') : RepW b w w' x n :=
  ⟨step h.bel hb, fun j v hv => (World.cell?_of_block (a := ⟨b, 0 + j, none⟩) (hb.block b h.lt)).trans (h.cells j v hv), there_kept h.there (hb.block b h.lt), Nat.lt_of_lt_of_le h.lt hb.size, h.lo⟩
theorem RepW.dat {b : Nat} {w wr : World} {x : Pe} (h : RepW b w wr x 160) : Dat wr b 0 (fun' (rep 160 x)) 160 :=
  Dat.of (fun i hi => row_peer h.cells (by
    unfold fun'
    rw [List.getD_eq_getElem?_getD, List.getElem?_eq_getElem (by unfold rep; rw [List.length_replicate]; exact hi)]; rfl)) h.there h.lt
theorem infoM : (Try.prog.info? 28).map (fun i => (i.zero, i.size, i.bytes)) = some (some (.agg (peA (0, 0))), 21, 32) := by kernel_rfl
set_option maxHeartbeats 4000000 in
theorem repeat_any {w : World} {b0 c0 : Nat} (x : Pe) (hx : w.rangeAt b0 0 (peC x)) :
    Calls Try.prog 85 #[.slice (some ⟨b0, 0, none⟩) 1 c0, .int .i64 160] w fun e w' => ∃ b, e = .returned (.slice (some ⟨b, 0, none⟩) 160 160) ∧ (Lies w' (.slice (some ⟨b, 0, none⟩) 160 160) (rep 160 x) ∧ Dat w' b 0 (fun' (rep 160 x)) 160) ∧ w.heap.size ≤ b ∧ Below w.heap.size w w' := by
  have HX := Lib.hid hx
  clear hx
  have m1 : IntKind.u64.wrap 1 = 1 := rfl
  have m2 : IntKind.u64.wrap 160 = 160 := rfl
  have m3 : IntKind.i64.wrap 160 = 160 := rfl
  have d1 : decide ((9223372036854775807 : Int) < 160) = false := rfl
  go_enter Try.func85, Try.ntmps85
  go_upto_region 7 with (first
    | (go_at_call 93; (with_reducible refine (mul_one _).mono ?_); rintro e w1 ⟨rfl, rfl⟩)
    | (refine wpList_make_blk rfl _ _ 37 rfl 28 (.agg (peA (0, 0))) 21 32 Try.underlying37 infoM 160 160 rfl rfl rfl (by omega) (by omega) (madeCells (peA (0, 0)) (160 * 21)) rfl ?_))
  have B1 : Hid (RepW w1.heap.size w1 (w1.alloc (.cells (madeCells (peA (0, 0)) (160 * 21)) 28)) x 0) := RepW.new (Below.refl _ _) _ (size_madeCells _ _)
  generalize hb : w1.heap.size = b at *
  generalize w1.alloc _ = W2 at *
  have c1 := B1.out
  have hxx : W2.rangeAt b0 0 (flat (rep 1 x)) := by
    have h0 : w1.rangeAt b0 0 (peC x) := HX.out
    have e : flat (rep 1 x) = peC x := by unfold rep; rw [List.replicate_one, flat_single]
    rw [e]
    exact range_bel h0 c1.bel (range_lt h0 (pe_ne _))
  have ht1 := c1.thereAt (i := 0) (k := 1) (by omega)
  have hcp := run_copyP W2 3 b (0 + 0 * 21) 160 160 b0 0 1 c0 1 (flat (rep 1 x)) rfl (rep_len 1 x) hxx ht1 (flat_one _)
  have HR := Lib.hid (c1.put (k := 1) (by omega))
  generalize W2.setCells b _ _ = W3 at *
  go_upto_region 8 with (fail)
  clear hcp
  clear hxx ht1 c1 B1 HX
  go_loopw [8] (fun i wr => ∃ k : Nat, i = .int .i64 (k : Int) ∧ 1 ≤ k ∧ k ≤ 160 ∧ RepW b w1 wr x k) (fun i _ => 160 - (intOf i).toNat)
  case atStart => exact ⟨1, rfl, Nat.le_refl _, by omega, HR.out⟩
  case round =>
    clear HR
    obtain ⟨k, rfl, hk1, hk, hR⟩ := hrel
    have HR := Lib.hid hR
    clear hR
    by_cases hlt : k < 160
    · obtain ⟨kk, hkk⟩ : ∃ kk, kk = Nat.min k (160 - k) := ⟨_, rfl⟩
      have hm := Nat.min_def (n := k) (m := 160 - k)
      have hk2 : kk ≤ k ∧ k + kk ≤ 160 ∧ 1 ≤ kk := by rw [hkk]; show min k (160 - k) ≤ k ∧ k + min k (160 - k) ≤ 160 ∧ 1 ≤ min k (160 - k); omega
      have s1 : IntKind.i64.wrap ((k : Int) + (kk : Int)) = (k : Int) + (kk : Int) := IntWalk.i64_in _ (by omega)
      have b3 : (k : Int) < 160 := by omega
      clear hm
      have HKK := Lib.hid hkk
      clear hkk
      go_upto_region 9 with (fail)
      refine wp_region_held_drew (S := (fun _ => True)) (by kernel_rfl) ?_ (fun hHeld => ?_)
      · trivial
      have hR2 := HR.out.bel2 (drew_bel wr)
      generalize World.drew wr = W4 at *
      refine wpAnyH_take (i := 0) (v := ?_) rfl (by kernel_rfl) (by kernel_rfl) (by kernel_rfl) (fun _ _ _ h => h) (Or.inl ⟨by rfl, ?_⟩) (by assumption) ?_
      rotate_left
      · intro w9 hSw
        (try dsimp only at hSw)
        go_simp
        (try with_reducible rfl)
      (try simp only [Act.put]); (try simp only [List.setIfInBounds_toArray]); (try simp only [List.set_cons_succ]); (try simp only [List.set_cons_zero])
      refine wpAnyH_take (i := 1) (v := ?_) rfl (by kernel_rfl) (by kernel_rfl) (by kernel_rfl) (fun _ _ _ h => h) (Or.inl ⟨by rfl, ?_⟩) (by assumption) ?_
      rotate_left
      · intro w9 hSw
        (try dsimp only at hSw)
        go_simp
        (try with_reducible rfl)
      (try simp only [Act.put]); (try simp only [List.setIfInBounds_toArray]); (try simp only [List.set_cons_succ]); (try simp only [List.set_cons_zero])
      refine wpAnyH_take (i := 2) (v := ?_) rfl (by kernel_rfl) (by kernel_rfl) (by kernel_rfl) (fun _ _ _ h => h) (Or.inl ⟨by rfl, ?_⟩) (by assumption) ?_
      rotate_left
      · intro w9 hSw
        (try dsimp only at hSw)
        go_simp
        (try with_reducible rfl)
      (try simp only [Act.put]); (try simp only [List.setIfInBounds_toArray]); (try simp only [List.set_cons_succ]); (try simp only [List.set_cons_zero])
      refine wpAnyH_take (i := 4) (v := ?_) rfl (by kernel_rfl) (by kernel_rfl) (by kernel_rfl) (fun _ _ _ h => h) (Or.inl ⟨by rfl, ?_⟩) (by assumption) ?_
      rotate_left
      · intro w9 hSw
        (try dsimp only at hSw)
        go_simp
        (try with_reducible rfl)
      (try simp only [Act.put]); (try simp only [List.setIfInBounds_toArray]); (try simp only [List.set_cons_succ]); (try simp only [List.set_cons_zero])
      refine wpAnyH_take (i := 5) (v := ?_) rfl (by kernel_rfl) (by kernel_rfl) (by kernel_rfl) (fun _ _ _ h => h) (Or.inl ⟨by rfl, ?_⟩) (by assumption) ?_
      rotate_left
      · intro w9 hSw
        (try dsimp only at hSw)
        go_simp
        (try with_reducible rfl)
      (try simp only [Act.put]); (try simp only [List.setIfInBounds_toArray]); (try simp only [List.set_cons_succ]); (try simp only [List.set_cons_zero])
      iterate 5
        (try dsimp only [List.getElem_toArray, List.getElem_cons_succ, List.getElem_cons_zero])
        (try simp only [Act.put]); (try simp only [List.setIfInBounds_toArray]); (try simp only [List.set_cons_succ]); (try simp only [List.set_cons_zero])
      refine wpAnyH_take (i := 3) (oi := { dst := some 41, op := .slice 37 (.tmp 39) (some (.tmp 40)) none none, type := 37, pos := "slices.go:528", after := #[{ on := 1, ground := .data }, { on := 2, ground := .data }], guard := none }) (v := .slice (some ⟨b, 0 + k * 21, none⟩) (160 - k) (160 - k)) rfl (by kernel_rfl) (by kernel_rfl) (by kernel_rfl) (fun _ _ _ h => h) (y_fromS (by rfl) (.tmp 39) (.tmp 40) rfl b 0 160 160 k rfl rfl hlt (Nat.le_refl _)) (by assumption) ?_
      (try simp only [Act.put]); (try simp only [List.setIfInBounds_toArray]); (try simp only [List.set_cons_succ]); (try simp only [List.set_cons_zero])
      refine wpAnyH_take (i := 6) (oi := { dst := some 44, op := .slice 37 (.tmp 42) none (some (.tmp 43)) none, type := 37, pos := "slices.go:528", after := #[{ on := 4, ground := .data }, { on := 5, ground := .data }], guard := none }) (v := .slice (some ⟨b, 0, none⟩) k 160) rfl (by kernel_rfl) (by kernel_rfl) (by kernel_rfl) (fun _ _ _ h => h) (y_uptoS (by rfl) (.tmp 42) (.tmp 43) rfl b 0 160 160 k rfl rfl (by omega)) (by assumption) ?_
      (try simp only [Act.put]); (try simp only [List.setIfInBounds_toArray]); (try simp only [List.set_cons_succ]); (try simp only [List.set_cons_zero])
      refine wpAnyH_ready (rs := [7]) (by kernel_rfl) (by simp) ?_
      refine AllReadyH.cons rfl (fun K hK => ?_) ?_
      rotate_left
      · exact AllReadyH.nil
      rw [if_pos (by rfl)]
      refine o_copyP _ _ rfl b (0 + k * 21) (160 - k) (160 - k) b 0 k 160 kk rfl rfl (flat (rep kk x)) HKK.out (rep_len kk x) (hR2.src hk2.1) (hR2.thereAt hk2.2.1) (flat_one _) ?_
      refine hK.out _ _ ?_ (fun hHeld => ?_)
      · trivial
      clear hK K
      (try simp only [Act.put]); (try simp only [List.setIfInBounds_toArray]); (try simp only [List.set_cons_succ]); (try simp only [List.set_cons_zero])
      refine wpAnyH_take (i := 8) (v := ?_) rfl (by kernel_rfl) (by kernel_rfl) (by kernel_rfl) (fun _ _ _ h => h) (Or.inl ⟨by rfl, ?_⟩) (by assumption) ?_
      rotate_left
      · intro w9 hSw
        (try dsimp only at hSw)
        go_simp
        (try with_reducible rfl)
      (try simp only [Act.put]); (try simp only [List.setIfInBounds_toArray]); (try simp only [List.set_cons_succ]); (try simp only [List.set_cons_zero])
      refine wpAnyH_take (i := 9) (v := ?_) rfl (by kernel_rfl) (by kernel_rfl) (by kernel_rfl) (fun _ _ _ h => h) (Or.inl ⟨by rfl, ?_⟩) (by assumption) ?_
      rotate_left
      · intro w9 hSw
        (try dsimp only at hSw)
        go_simp
        (try with_reducible rfl)
      (try simp only [Act.put]); (try simp only [List.setIfInBounds_toArray]); (try simp only [List.set_cons_succ]); (try simp only [List.set_cons_zero])
      iterate 3
        (try dsimp only [List.getElem_toArray, List.getElem_cons_succ, List.getElem_cons_zero])
        (try simp only [Act.put]); (try simp only [List.setIfInBounds_toArray]); (try simp only [List.set_cons_succ]); (try simp only [List.set_cons_zero])
      refine wpAnyH_done (by kernel_rfl) ?_ _
      have HR3 := Lib.hid (hR2.put (k := kk) hk2.2.1)
      clear hHeld hR2 HR
      generalize W4.setCells b _ _ = W5 at *
      go_wp2
      exact ⟨⟨k + kk, by go_num, by omega, by omega, HR3.out⟩, by simp [intOf]; omega⟩
    · obtain rfl : k = 160 := by omega
      go_wp2
      go_ret
      exact ⟨b, rfl, ⟨HR.out.lies, HR.out.dat⟩, HR.out.lo, HR.out.bel⟩
end Go.Proofs.Ytfajfmcabpmchaa
