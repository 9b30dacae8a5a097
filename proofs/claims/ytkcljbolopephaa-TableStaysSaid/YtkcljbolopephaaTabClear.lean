/- A row of peers: its parts, cleared, and the row without those that follow one of their own address. -/
import Derived.Test.YtkcljbolopephaaTabStable
namespace Go.Proofs.Ytkcljbolopephaa
set_option maxRecDepth 100000
open Go Go.RowKit Go.Sort

theorem elemP : Try.prog.elem 26 = 25 := by kernel_rfl
theorem sliceP : Try.prog.underlying 26 = some (.slice (Try.prog.elem 26)) := by rw [elemP]; exact Try.underlying26
theorem p_uptoS {w : World} {ops : Array Oper} {rest : List Oper} {op : Oper} {a : Act} {Q : Exit → Act → World → Prop} (hgd : op.guard = none) (s hi_ : Operand)
    (ho : op.op = .slice 26 s none (some hi_) none) (b o n c r : Nat) (hs : a.eval s = .slice (some ⟨b, o, none⟩) n c) (hlo : a.eval hi_ = .int .i64 (r : Int)) (hr : r ≤ c)
    (h : wpList Try.prog ops Q rest (a.put op.dst (.slice (some ⟨b, o, none⟩) r c)) w) : wpList Try.prog ops Q (op :: rest) a w := by
  obtain ⟨i, hi', hq⟩ := Option.map_eq_some_iff.1 sizeP
  have run : (Instr.sliceAt 26 (.slice (some ⟨b, o, none⟩) n c) none (some (.int .i64 (r : Int))) none).run Try.prog w = .ok (sliced (some ⟨b, o, none⟩) 0 r c 21) w := by
    rw [run_sliceAt_slice w 26 _ _ _ _ sliceP, run_slice_h w 26 _ n c sliceP .i64 (r : Int) (by omega) (by omega), elemP]
    simp [sizeOf, typeInfo, hi', Result.andThen, hq]
  have hv : sliced (some ⟨b, o, none⟩) 0 r c 21 = .slice (some ⟨b, o, none⟩) r c := by
    unfold sliced; split <;> simp [Addr.add_mid]
  refine wpList_plain hgd fun K hK => ?_
  unfold Oper.wp execOp
  simp only [ho, Option.map, hs, hlo, Sem.run_bind, Result.andThen_ok, run, hv]
  exact hK _ _ h
theorem p_fromS {w : World} {ops : Array Oper} {rest : List Oper} {op : Oper} {a : Act} {Q : Exit → Act → World → Prop} (hgd : op.guard = none) (s lo : Operand)
    (ho : op.op = .slice 26 s (some lo) none none) (b o n c r : Nat) (hs : a.eval s = .slice (some ⟨b, o, none⟩) n c) (hlo : a.eval lo = .int .i64 (r : Int)) (hr : r < n) (hc : n ≤ c)
    (h : wpList Try.prog ops Q rest (a.put op.dst (.slice (some ⟨b, o + r * 21, none⟩) (n - r) (c - r))) w) : wpList Try.prog ops Q (op :: rest) a w := by
  obtain ⟨i, hi', hq⟩ := Option.map_eq_some_iff.1 sizeP
  have run : (Instr.sliceAt 26 (.slice (some ⟨b, o, none⟩) n c) (some (.int .i64 (r : Int))) none none).run Try.prog w = .ok (sliced (some ⟨b, o, none⟩) r n c 21) w := by
    rw [run_sliceAt_slice w 26 _ _ _ _ sliceP, run_slice_l w 26 _ n c sliceP .i64 (r : Int) (by omega) (by omega), elemP]
    simp [sizeOf, typeInfo, hi', Result.andThen, hq]
  have hv : sliced (some ⟨b, o, none⟩) r n c 21 = .slice (some ⟨b, o + r * 21, none⟩) (n - r) (c - r) := by
    unfold sliced; rw [if_neg (by omega)]; simp [Addr.add_mid]
  refine wpList_plain hgd fun K hK => ?_
  unfold Oper.wp execOp
  simp only [ho, Option.map, hs, hlo, Sem.run_bind, Result.andThen_ok, run, hv]
  exact hK _ _ h
theorem zeroPe (w : World) : (zeroValue 25).run Try.prog w = .ok (.agg (peA (0, 0))) w := by kernel_rfl
/-- the cells of n zero peers -/
def zeroC (n : Nat) : List Value := (Builtin.zeroCells (peA (0, 0)) n).toList
theorem zeroC_length (n : Nat) : (zeroC n).length = n * 21 := by
  unfold zeroC Builtin.zeroCells
  rw [Array.length_toList, Array.size_map, Array.size_range, peA_size]
theorem zeroC_one (n : Nat) : ∀ v ∈ zeroC n, v.oneCell' = true := by
  intro v hv
  unfold zeroC Builtin.zeroCells at hv
  rw [Array.toList_map, List.mem_map] at hv
  obtain ⟨i, _, rfl⟩ := hv
  have hs := peA_size (0, 0)
  rw [getElem!_pos (peA (0, 0)) (i % (peA (0, 0)).size) (Nat.mod_lt _ (by omega))]
  exact (Array.all_eq_true_iff_forall_mem.1 (peA_one (0, 0))) _ (Array.getElem_mem _)
theorem run_clearP (w : World) (ty : TypeId) (b o n c : Nat) (hn : 0 < n) (ht : w.there b o (n * 21)) :
    (Builtin.clear_ #[26] ty #[.slice (some ⟨b, o, none⟩) n c]).run Try.prog w = .ok (.tuple #[]) (w.setCells b o (zeroC n)) := by
  have hst := run_storeCells_cells (P := Try.prog) b o (zeroC n) 0 w (fun j hj => by rw [zeroC_length] at hj; exact (ht j hj).1) (fun j hj => by rw [zeroC_length] at hj; exact (ht j hj).2) (zeroC_one n)
  rw [Nat.add_zero] at hst
  obtain ⟨m, rfl⟩ : ∃ m, n = m + 1 := ⟨n - 1, by omega⟩
  simp [Builtin.clear_, run_underlying Try.underlying26]
  change ((storeCells ⟨b, o, none⟩ (zeroC (m + 1))).run Try.prog w).andThen _ = _
  rw [hst]
  rfl
theorem p_clearP {w : World} {ops : Array Oper} {rest : List Oper} {op : Oper} {a : Act} {Q : Exit → Act → World → Prop} (hgd : op.guard = none) (s : Operand)
    (ho : op.op = .call { callee := .builtin .clear, args := #[s], argTypes := #[26] }) (b o n c : Nat) (hs : a.eval s = .slice (some ⟨b, o, none⟩) n c) (hn : 0 < n) (ht : w.there b o (n * 21))
    (h : wpList Try.prog ops Q rest (a.put op.dst (.tuple #[])) (w.setCells b o (zeroC n))) : wpList Try.prog ops Q (op :: rest) a w := by
  refine wpList_plain hgd fun K hK => ?_
  have hrun := run_clearP w op.type b o n c hn ht
  unfold Oper.wp execOp
  simp only [ho, resolve, invoke, builtin, Sem.run_bind, Sem.run_pure, Result.andThen_ok, List.map_toArray, List.map_cons, List.map_nil, hs, hrun]
  exact hK _ _ h
/-- the first k stay as they are -/
theorem Dat.take {w : World} {b o n : Nat} {f : Nat → Pe} (h : Dat w b o f n) {k : Nat} (hk : k ≤ n) : Dat w b o f k :=
  .of (fun i hi => h.at (by omega)) (fun j hj => h.there j (by omega)) h.lt
theorem Dat.cleared {w : World} {b o n : Nat} {f : Nat → Pe} (h : Dat w b o f n) {k : Nat} (hk : k < n) : Dat (w.setCells b (o + k * 21) (zeroC (n - k))) b o f k := by
  refine .of (fun i hi => ?_) (World.there_setCells (fun j hj => h.there j (by omega)) _ _ _) (by rw [(tape_setCells _ _ _ _).2]; exact h.lt)
  refine World.rangeAt_setCells_apart (h.at (by omega)) _ _ _ (.inr ?_)
  rw [peC_length, zeroC_length]; omega
theorem Dat.restThere {w : World} {b o n : Nat} {f : Nat → Pe} (h : Dat w b o f n) {k : Nat} (hk : k ≤ n) : w.there b (o + k * 21) ((n - k) * 21) := fun j hj => by
  have := h.there (k * 21 + j) (by omega)
  rwa [show o + (k * 21 + j) = o + k * 21 + j by omega] at this
theorem Dat.lies {w : World} {b o n c : Nat} {f : Nat → Pe} (h : Dat w b o f n) (hc : n ≤ c) : Lies w (.slice (some ⟨b, o, none⟩) n c) (seg f 0 n) :=
  .inr ⟨b, o, c, by rw [seg_length]; rfl, by rw [seg_length]; omega, h.cells⟩

/-- the row without those that follow one of their own address -/
def cptF (f : Nat → Pe) : Nat → List Pe
  | 0 => []
  | i + 1 => cptF f i ++ if i = 0 ∨ (f (i - 1)).1 ≠ (f i).1 then [f i] else []
theorem cpt_yes (f : Nat → Pe) {i : Nat} (h : i = 0 ∨ (f (i - 1)).1 ≠ (f i).1) : cptF f (i + 1) = cptF f i ++ [f i] := by rw [cptF, if_pos h]
theorem cpt_no (f : Nat → Pe) {i : Nat} (h0 : 0 < i) (h : (f (i - 1)).1 = (f i).1) : cptF f (i + 1) = cptF f i := by
  rw [cptF, if_neg, List.append_nil]
  rintro (h1 | h1)
  · omega
  · exact h1 h
theorem cpt_seg (f : Nat → Pe) : ∀ {k : Nat}, (∀ i, 1 ≤ i → i < k → (f (i - 1)).1 ≠ (f i).1) → cptF f k = seg f 0 k
  | 0, _ => rfl
  | k + 1, h => by
    rw [cpt_yes f (by
      rcases Nat.eq_zero_or_pos k with h0 | h0
      · exact .inl h0
      · exact .inr (h k h0 (by omega))), cpt_seg f fun i h1 h2 => h i h1 (by omega), seg_split f (show 0 ≤ k by omega) (show k ≤ k + 1 by omega), seg_one]
theorem seg_more {g : Nat → Pe} {k : Nat} {x : Pe} : seg (fun j => if j = k then x else g j) 0 (k + 1) = seg g 0 k ++ [x] := by
  rw [seg_split _ (show 0 ≤ k by omega) (show k ≤ k + 1 by omega), seg_one]
  congr 1
  · exact seg_congr fun i _ hi => if_neg (by omega)
  · simp
theorem beq_addr {x y : Int} : (x == y) = decide (x = y) := by
  by_cases h : x = y
  · subst h; simp
  · rw [decide_eq_false h]; simpa using h
abbrev eqF : Value := .func (.func 66) #[] #[]
end Go.Proofs.Ytkcljbolopephaa
