/- Rows of peers that are cut, put behind one another, and copied; rows of numbers that are read. -/
import Derived.Test.YtfajfmcabpmchaaTabMem
import Derived.Deep.MidRow
import Derived.Maps.AppendAt
import Derived.Laws.OwnMore
import Derived.Lib.SliceRun
namespace Go.Proofs.Ytfajfmcabpmchaa
set_option maxRecDepth 100000
open Go Go.RowKit Go.Sort

/-- a row's cells, wherever they lie; of none the nil slice too -/
def Src (w : World) (v : Value) (k size : Nat) (xs : List Value) : Prop := xs.length = k * size ∧ (((∃ a, v = .slice a 0 0) ∧ k = 0) ∨ ∃ g o c, v = .slice (some ⟨g, o, none⟩) k c ∧ w.rangeAt g o xs)
theorem range_drop {w : World} {g o : Nat} {xs : List Value} (h : w.rangeAt g o xs) (k : Nat) : w.rangeAt g (o + k) (xs.drop k) := fun j v hv => by
  rw [List.getElem?_drop] at hv
  rw [Nat.add_assoc]
  exact h (k + j) v hv
/-- row[r:] -/
theorem wpList_from {P : Program} {w : World} {ops : Array Oper} {rest : List Oper} {o : Oper} {a : Act} {Q : Exit → Act → World → Prop} (hgd : o.guard = none) (T : TypeId) (s lo : Operand)
    (ho : o.op = .slice T s (some lo) none none) (e : TypeId) (size : Nat) (hT : P.underlying T = some (.slice e)) (hi : (P.info? e).map (·.size) = some size)
    (v : Value) (n r : Nat) (xs : List Value) (B : Nat) (hs : a.eval s = v) (hlo : a.eval lo = .int .i64 r) (hr : r ≤ n) (hown : w.ownsRow B e size v n xs)
    (h : ∀ v', Src w v' (n - r) size (xs.drop (r * size)) → wpList P ops Q rest (a.put o.dst v') w) : wpList P ops Q (o :: rest) a w := by
  have hlen := hown.1
  have hel : P.elem T = e := by simp [Program.elem, hT]
  have hT' : P.underlying T = some (.slice (P.elem T)) := by rw [hel]; exact hT
  obtain ⟨i, hi', hq⟩ := Option.map_eq_some_iff.1 hi
  have run : ∀ al c, (Instr.sliceAt T (.slice al n c) (some (.int .i64 (r : Int))) none none).run P w = .ok (sliced al r n c size) w := fun al c => by
    rw [run_sliceAt_slice w T _ _ _ _ hT', run_slice_l w T al n c hT' .i64 (r : Int) (by omega) (by omega), hel]
    simp [sizeOf, typeInfo, hi', Result.andThen, hq]
  refine wpList_plain hgd fun K hK => ?_
  unfold Oper.wp execOp
  rcases own_shape hown with ⟨rfl, rfl⟩ | ⟨b, c, rfl, hc, _, hrg, _, _⟩
  · simp only [ho, Option.map, hs, hlo, Sem.run_bind, Result.andThen_ok, run]
    obtain rfl : r = 0 := by omega
    exact hK _ _ (h _ ⟨by rw [List.length_drop, hlen, Nat.sub_mul], .inl ⟨⟨none, by simp [sliced]⟩, rfl⟩⟩)
  · simp only [ho, Option.map, hs, hlo, Sem.run_bind, Result.andThen_ok, run]
    refine hK _ _ (h _ ⟨by rw [List.length_drop, hlen, Nat.sub_mul], .inr ?_⟩)
    unfold sliced
    by_cases hcr : c = r
    · rw [if_pos hcr]
      have h4 : xs.drop (r * size) = [] := List.drop_eq_nil_of_le (by rw [hlen]; exact Nat.mul_le_mul_right _ (by omega))
      rw [h4]
      exact ⟨b, 0, _, rfl, fun j u hu => by simp at hu⟩
    · rw [if_neg hcr]
      exact ⟨b, 0 + r * size, c - r, by simp [Addr.add_mid], range_drop hrg _⟩
/-- append(out, row...) -/
theorem wpList_joinP {w w0 : World} {ops : Array Oper} {rest : List Oper} {o : Oper} {a : Act} {Q : Exit → Act → World → Prop} (hgd : o.guard = none) (s x : Operand)
    (ho : o.op = .call { callee := .builtin .append, args := #[s, x], argTypes := #[37, 37] }) (B : Nat) (v : Value) (L K : List Pe) (n m : Nat) (hs : a.eval s = v) (hown : w.ownsRow B 28 21 v n (flat L))
    (u : Value) (hx : a.eval x = u) (hS : Src w u m 21 (flat K)) (hl : n + m ≤ 2000000) (hb : Below B w0 w) (hbs : B ≤ w.heap.size)
    (h : ∀ v' w', w'.ownsRow B 28 21 v' (n + m) (flat (L ++ K)) → Below B w0 w' → w.heap.size ≤ w'.heap.size → wpList Try.prog ops Q rest (a.put o.dst v') w') : wpList Try.prog ops Q (o :: rest) a w := by
  obtain ⟨i, hi', hq⟩ := Option.map_eq_some_iff.1 infoP
  simp only [Prod.mk.injEq] at hq
  obtain ⟨q1, q2, q3⟩ := hq
  rcases hS.2 with ⟨⟨_ | g, rfl⟩, rfl⟩ | ⟨g, of, c, rfl, hr⟩
  · have hK : K = [] := by
      have := hS.1
      rw [flat_length] at this
      exact List.eq_nil_of_length_eq_zero (by omega)
    subst hK
    have hr := run_append_owned_none (P := Try.prog) w B 37 o.type 28 i 21 Try.underlying37 hi' v n (flat L) hown
    refine wpList_plain hgd fun K hK => ?_
    unfold Oper.wp execOp
    simp only [ho, resolve, invoke, builtin, Sem.run_bind, Sem.run_pure, Result.andThen_ok, List.map_toArray, List.map_cons, List.map_nil, hs, hx, hr]
    exact hK _ _ (h v w (by rw [List.append_nil]; exact hown) hb (Nat.le_refl _))
  · have hK : K = [] := by
      have := hS.1
      rw [flat_length] at this
      exact List.eq_nil_of_length_eq_zero (by omega)
    subst hK
    refine wpList_append_own_at (w := w) hgd s x 37 ho B 28 i _ 21 32 Try.underlying37 hi' q1 q2 q3 (peA_size _) (by omega) v n (flat L) hs hown g 0 0 (flat []) hx hS.1 (fun j y hj => by simp [flat] at hj) (flat_one _) (by unfold maxLen; omega) (by omega) hbs ?_
    intro v' w' h1 h2 _ _
    rw [← flat_append] at h1
    exact h v' w' h1 (hb.grown h2 hbs fun k hk => (hown.lt k hk).1) h2.size
  · refine wpList_append_own_at (w := w) hgd s x 37 ho B 28 i _ 21 32 Try.underlying37 hi' q1 q2 q3 (peA_size _) (by omega) v n (flat L) hs hown ⟨g, of, none⟩ m c (flat K) hx hS.1 (fun j y hj => by rw [Addr.add_mid]; exact hr j y hj) (flat_one _) (by unfold maxLen; omega) (by omega) hbs ?_
    intro v' w' h1 h2 _ _
    rw [← flat_append] at h1
    exact h v' w' h1 (hb.grown h2 hbs fun k hk => (hown.lt k hk).1) h2.size
theorem range_take {w : World} {b o : Nat} {xs : List Value} (h : w.rangeAt b o xs) (n : Nat) : w.rangeAt b o (xs.take n) := fun j v hj => by
  rw [List.getElem?_take] at hj
  split at hj
  · exact h j v hj
  · cases hj
/-- row[:r] -/
theorem wpList_upto {P : Program} {w : World} {ops : Array Oper} {rest : List Oper} {o : Oper} {a : Act} {Q : Exit → Act → World → Prop} (hgd : o.guard = none) (T : TypeId) (s hi_ : Operand)
    (ho : o.op = .slice T s none (some hi_) none) (e : TypeId) (size : Nat) (hT : P.underlying T = some (.slice e)) (hi : (P.info? e).map (·.size) = some size)
    (v : Value) (n r : Nat) (xs : List Value) (B : Nat) (hs : a.eval s = v) (hlo : a.eval hi_ = .int .i64 r) (hr : r ≤ n) (hown : w.ownsRow B e size v n xs)
    (h : ∀ v', Src w v' r size (xs.take (r * size)) → wpList P ops Q rest (a.put o.dst v') w) : wpList P ops Q (o :: rest) a w := by
  have hlen := hown.1
  have hel : P.elem T = e := by simp [Program.elem, hT]
  have hT' : P.underlying T = some (.slice (P.elem T)) := by rw [hel]; exact hT
  obtain ⟨i, hi', hq⟩ := Option.map_eq_some_iff.1 hi
  have hlt : (xs.take (r * size)).length = r * size := by rw [List.length_take, hlen]; exact Nat.min_eq_left (Nat.mul_le_mul_right _ hr)
  rcases own_shape hown with ⟨rfl, rfl⟩ | ⟨b, c, rfl, hc, _, hrg, _, _⟩
  · obtain rfl : r = 0 := by omega
    have run : (Instr.sliceAt T (.slice none 0 0) none (some (.int .i64 ((0 : Nat) : Int))) none).run P w = .ok (sliced none 0 0 0 size) w := by
      rw [run_sliceAt_slice w T _ _ _ _ hT', run_slice_h w T none 0 0 hT' .i64 ((0 : Nat) : Int) (by omega) (by omega), hel]
      simp [sizeOf, typeInfo, hi', Result.andThen, hq]
    refine wpList_plain hgd fun K hK => ?_
    unfold Oper.wp execOp
    simp only [ho, Option.map, hs, hlo, Sem.run_bind, Result.andThen_ok, run]
    exact hK _ _ (h _ ⟨hlt, .inl ⟨⟨none, by simp [sliced]⟩, rfl⟩⟩)
  · have run : (Instr.sliceAt T (.slice (some ⟨b, 0, none⟩) n c) none (some (.int .i64 (r : Int))) none).run P w = .ok (sliced (some ⟨b, 0, none⟩) 0 r c size) w := by
      rw [run_sliceAt_slice w T _ _ _ _ hT', run_slice_h w T _ n c hT' .i64 (r : Int) (by omega) (by omega), hel]
      simp [sizeOf, typeInfo, hi', Result.andThen, hq]
    have hv : sliced (some ⟨b, 0, none⟩) 0 r c size = .slice (some ⟨b, 0, none⟩) r c := by
      unfold sliced; split <;> simp [Addr.add_mid]
    refine wpList_plain hgd fun K hK => ?_
    unfold Oper.wp execOp
    simp only [ho, Option.map, hs, hlo, Sem.run_bind, Result.andThen_ok, run, hv]
    exact hK _ _ (h _ ⟨hlt, .inr ⟨b, 0, c, rfl, range_take hrg _⟩⟩)
theorem run_sliceP (a : Int) (n : Nat) (w : World) : (Instr.buildSlice 37 1 #[(0, .agg (peA (a, n)))]).run Try.prog w = .ok (.slice (some ⟨w.heap.size, 0, none⟩) 1 1) (w.alloc (.cells (peA (a, n)) 28)) := by kernel_rfl
theorem run_slice3 (a b c : Int) (n m k : Nat) (w : World) : (Instr.buildSlice 37 3 #[(0, .agg (peA (a, n))), (1, .agg (peA (b, m))), (2, .agg (peA (c, k)))]).run Try.prog w = .ok (.slice (some ⟨w.heap.size, 0, none⟩) 3 3) (w.alloc (.cells (flat [(a, n), (b, m), (c, k)]).toArray 28)) := by kernel_rfl
theorem p_sliceP {ops : Array Oper} {rest : List Oper} {o : Oper} {a : Act} {w : World} {Q : Exit → Act → World → Prop} (hgd : o.guard = none) (x : Operand) (ho : o.op = .buildSlice 37 1 #[(0, x)])
    (p : Pe) (hx : a.eval x = .agg (peA p)) (h : wpList Try.prog ops Q rest (a.put o.dst (.slice (some ⟨w.heap.size, 0, none⟩) 1 1)) (w.alloc (.cells (peA p) 28))) : wpList Try.prog ops Q (o :: rest) a w := by
  refine wpList_plain hgd fun K hK => ?_
  unfold Oper.wp execOp
  simp only [ho, List.map_toArray, List.map_cons, List.map_nil, hx, Sem.run_bind, run_sliceP p.1 p.2 w, Sem.run_pure, Result.andThen_ok]
  exact hK _ _ h
theorem p_slice3 {ops : Array Oper} {rest : List Oper} {o : Oper} {a : Act} {w : World} {Q : Exit → Act → World → Prop} (hgd : o.guard = none) (x y z : Operand) (ho : o.op = .buildSlice 37 3 #[(0, x), (1, y), (2, z)])
    (p q r : Pe) (hx : a.eval x = .agg (peA p)) (hy : a.eval y = .agg (peA q)) (hz : a.eval z = .agg (peA r)) (h : wpList Try.prog ops Q rest (a.put o.dst (.slice (some ⟨w.heap.size, 0, none⟩) 3 3)) (w.alloc (.cells (flat [p, q, r]).toArray 28))) : wpList Try.prog ops Q (o :: rest) a w := by
  refine wpList_plain hgd fun K hK => ?_
  unfold Oper.wp execOp
  simp only [ho, List.map_toArray, List.map_cons, List.map_nil, hx, hy, hz, Sem.run_bind, run_slice3 p.1 q.1 r.1 p.2 q.2 r.2 w, Sem.run_pure, Result.andThen_ok]
  exact hK _ _ h
def ints (l : List Int) : List Value := l.map (Value.int .i64)
/-- v reads as the numbers A -/
def Nums (w : World) (v : Value) (A : List Int) : Prop := (v = .slice none 0 0 ∧ A = []) ∨ ∃ b o c, v = .slice (some ⟨b, o, none⟩) A.length c ∧ w.rangeAt b o (ints A)
theorem Nums.form {w : World} {v : Value} {A : List Int} (h : Nums w v A) : ∃ a c, v = .slice a A.length c := by
  rcases h with ⟨rfl, rfl⟩ | ⟨b, o, c, rfl, _⟩
  · exact ⟨_, _, rfl⟩
  · exact ⟨_, _, rfl⟩
theorem ints_get (A : List Int) (i : Nat) (h : i < A.length) : (ints A)[i]? = some (.int .i64 (A.getD i 0)) := by
  unfold ints
  rw [List.getElem?_map, List.getD_eq_getElem?_getD, List.getElem?_eq_getElem h]; rfl
theorem Nums.some {w : World} {v : Value} {A : List Int} (h : Nums w v A) (hn : 0 < A.length) : ∃ b o c, v = .slice (some ⟨b, o, none⟩) A.length c ∧ w.rangeAt b o (ints A) ∧ b < w.heap.size := by
  rcases h with ⟨_, rfl⟩ | ⟨b, o, c, rfl, hr⟩
  · simp at hn
  · exact ⟨b, o, c, rfl, hr, World.block_lt_of_cell? w _ (hr 0 _ (ints_get A 0 hn))⟩
theorem nums_cell {w : World} {b o : Nat} {A : List Int} (h : w.rangeAt b o (ints A)) {i : Nat} (hi : i < A.length) : w.cell? ⟨b, o + i, none⟩ = some (.int .i64 (A.getD i 0)) := h i _ (ints_get A i hi)
theorem Nums.bel {w w' : World} {v : Value} {A : List Int} (h : Nums w v A) (hb : Below w.heap.size w w') : Nums w' v A := by
  rcases h with h | ⟨b, o, c, h1, h3⟩
  · exact .inl h
  · refine .inr ⟨b, o, c, h1, ?_⟩
    by_cases he : A = []
    · subst he; intro j u hu; simp [ints] at hu
    · exact range_bel h3 hb (range_lt h3 (by intro e; apply he; simpa [ints] using e))
theorem own_up {w : World} {B e s n : Nat} {v : Value} {xs : List Value} (h : w.ownsRow 0 e s v n xs) (hb : ∀ k, v.ownBlock = some k → B ≤ k) : w.ownsRow B e s v n xs := by
  refine ⟨h.1, h.2.imp id ?_⟩
  rintro ⟨g, cap, cur, rfl, _, h2, h3⟩
  exact ⟨g, cap, cur, rfl, hb g rfl, h2, h3⟩
theorem own_down {w : World} {B e s n : Nat} {v : Value} {xs : List Value} (h : w.ownsRow B e s v n xs) : w.ownsRow 0 e s v n xs := by
  refine ⟨h.1, h.2.imp id ?_⟩
  rintro ⟨g, cap, cur, rfl, _, h2, h3⟩
  exact ⟨g, cap, cur, rfl, Nat.zero_le _, h2, h3⟩
theorem lit_src (w : World) (p : Pe) : Src (w.alloc (.cells (peA p) 28)) (.slice (some ⟨w.heap.size, 0, none⟩) 1 1) 1 21 (flat [p]) := by
  refine ⟨by rw [flat_length]; rfl, .inr ⟨w.heap.size, 0, 1, rfl, ?_⟩⟩
  rw [flat_single]
  exact blk_range (Blk.new w (peA p) 28)
theorem lies_src {w : World} {v : Value} {L : List Pe} (h : Lies w v L) : Src w v L.length 21 (flat L) := ⟨flat_length L, by
  rcases h with ⟨h, rfl⟩ | ⟨b, o, c, rfl, _, hr⟩
  · exact .inl ⟨h, rfl⟩
  · exact .inr ⟨b, o, c, rfl, hr⟩⟩
/-- a row of one's own may be written -/
theorem own_dat {w : World} {B : Nat} {v : Value} {L : List Pe} (h : w.ownsRow B 28 21 v L.length (flat L)) :
    (v = nilS ∧ L = []) ∨ ∃ b c, v = .slice (some ⟨b, 0, none⟩) L.length c ∧ L.length ≤ c ∧ B ≤ b ∧ Dat w b 0 (fun' L) L.length := by
  rcases h.2 with ⟨h1, h0⟩ | ⟨g, cap, cur, hv, hb, hg, hc, hm, hs, ht⟩
  · exact .inl ⟨h1, List.eq_nil_of_length_eq_zero h0⟩
  · refine .inr ⟨g, cap, hv, hc, hb, ?_, fun j hj => ?_, (Array.getElem?_eq_some_iff.1 hg).1⟩
    · rw [seg_fun]
      intro j v hj
      rw [Nat.zero_add, cell_of_row w g j cur _ _ hg]
      rw [← ht, List.getElem?_take] at hj
      split at hj
      · simpa using hj
      · cases hj
    · have hjs : 0 + j < cur.size := by
        have h1 := congrArg List.length ht
        rw [List.length_take, flat_length, Array.length_toList] at h1
        omega
      exact ⟨by rw [cell_of_row w g (0 + j) cur _ _ hg, Array.getElem?_eq_getElem hjs]; rfl, frozen_of_row w g (0 + j) cur _ hg⟩
theorem run_slice0 (w : World) : (Instr.buildSlice 37 0 #[]).run Try.prog w = .ok (.slice (some ⟨w.heap.size, 0, none⟩) 0 0) (w.alloc (.cells #[] 28)) := by kernel_rfl
theorem own_slice0 (w : World) : (w.alloc (.cells #[] 28)).ownsRow w.heap.size 28 21 (.slice (some ⟨w.heap.size, 0, none⟩) 0 0) 0 (flat []) :=
  ⟨rfl, .inr ⟨w.heap.size, 0, #[], rfl, Nat.le_refl _, heap_alloc_new _ _, Nat.le_refl _, by unfold maxLen; omega, rfl, rfl⟩⟩
theorem p_slice0 {ops : Array Oper} {rest : List Oper} {o : Oper} {a : Act} {w : World} {Q : Exit → Act → World → Prop} (hgd : o.guard = none) (ho : o.op = .buildSlice 37 0 #[])
    (h : wpList Try.prog ops Q rest (a.put o.dst (.slice (some ⟨w.heap.size, 0, none⟩) 0 0)) (w.alloc (.cells #[] 28))) : wpList Try.prog ops Q (o :: rest) a w := by
  refine wpList_plain hgd fun K hK => ?_
  unfold Oper.wp execOp
  simp only [ho, List.map_toArray, List.map_nil, Sem.run_bind, run_slice0 w, Sem.run_pure, Result.andThen_ok]
  exact hK _ _ h
end Go.Proofs.Ytfajfmcabpmchaa
