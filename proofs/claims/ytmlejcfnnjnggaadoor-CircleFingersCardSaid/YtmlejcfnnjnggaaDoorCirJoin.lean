/- Rows of peers that are cut, and put behind one another. -/
import Derived.Test.YtmlejcfnnjnggaaDoorCirBuild
namespace Go.Proofs.YtmlejcfnnjnggaaDoor
set_option maxRecDepth 100000
open Go Go.RowKit Go.Sort

/-- a row's cells, wherever they lie; of none the nil slice too -/
def Src (w : World) (v : Value) (k size : Nat) (xs : List Value) : Prop := xs.length = k * size ∧ ((v = .slice none 0 0 ∧ k = 0) ∨ ∃ g o c, v = .slice (some ⟨g, o, none⟩) k c ∧ w.rangeAt g o xs)
theorem range_drop {w : World} {g o : Nat} {xs : List Value} (h : w.rangeAt g o xs) (k : Nat) : w.rangeAt g (o + k) (xs.drop k) := fun j v hv => by
  rw [List.getElem?_drop] at hv
  rw [Nat.add_assoc]
  exact h (k + j) v hv
/-- row[r:] -/
theorem wpList_from {P : Program} {w : World} {ops : Array Oper} {rest : List Oper} {o : Oper} {a : Act} {Q : Exit → Act → World → Prop} (hgd : o.guard = none) (T : TypeId) (s lo : Operand)
    (ho : o.op = .slice T s (some lo) none none) (e : TypeId) (size : Nat) (hT : P.underlying T = some (.slice e)) (hi : (P.info? e).map (·.size) = some size)
    (v : Value) (n r : Nat) (xs : List Value) (B : Nat) (hs : a.eval s = v) (hlo : a.eval lo = .int .i64 r) (hr : r ≤ n) (hown : w.ownsRow B e size v n xs)
    (h : ∀ v', Src w v' (n - r) size (xs.drop (r * size)) → wpList P ops Q rest (a.put o.dst v') w) : wpList P ops Q (o :: rest) a w := by
  have hlen := hown.1
  have hel : P.elem T = e := by simp [Program.elem, hT]
  have hT' : P.underlying T = some (.slice (P.elem T)) := by rw [hel]; exact hT
  obtain ⟨i, hi', hq⟩ := Option.map_eq_some_iff.1 hi
  have run : ∀ al c, (Instr.sliceAt T (.slice al n c) (some (.int .i64 (r : Int))) none none).run P w = .ok (sliced al r n c size) w := fun al c => by
    rw [run_sliceAt_slice w T _ _ _ _ hT', run_slice_l w T al n c hT' .i64 (r : Int) (by omega) (by omega), hel]
    simp [sizeOf, typeInfo, hi', Result.andThen, hq]
  refine wpList_plain hgd fun K hK => ?_
  unfold Oper.wp execOp
  rcases own_shape hown with ⟨rfl, rfl⟩ | ⟨b, c, rfl, hc, _, hrg, _, _⟩
  · simp only [ho, Option.map, hs, hlo, Sem.run_bind, Result.andThen_ok, run]
    obtain rfl : r = 0 := by omega
    exact hK _ _ (h _ ⟨by rw [List.length_drop, hlen, Nat.sub_mul], .inl ⟨by simp [sliced], rfl⟩⟩)
  · simp only [ho, Option.map, hs, hlo, Sem.run_bind, Result.andThen_ok, run]
    refine hK _ _ (h _ ⟨by rw [List.length_drop, hlen, Nat.sub_mul], .inr ?_⟩)
    unfold sliced
    by_cases hcr : c = r
    · rw [if_pos hcr]
      have h4 : xs.drop (r * size) = [] := List.drop_eq_nil_of_le (by rw [hlen]; exact Nat.mul_le_mul_right _ (by omega))
      rw [h4]
      exact ⟨b, 0, _, rfl, fun j u hu => by simp at hu⟩
    · rw [if_neg hcr]
      exact ⟨b, 0 + r * size, c - r, by simp [Addr.add_mid], range_drop hrg _⟩
/-- append(out, row...) -/
theorem wpList_joinP {w w0 : World} {ops : Array Oper} {rest : List Oper} {o : Oper} {a : Act} {Q : Exit → Act → World → Prop} (hgd : o.guard = none) (s x : Operand)
    (ho : o.op = .call { callee := .builtin .append, args := #[s, x], argTypes := #[23, 23] }) (B : Nat) (v : Value) (L K : List Pe) (n m : Nat) (hs : a.eval s = v) (hown : w.ownsRow B 43 21 v n (flat L))
    (u : Value) (hx : a.eval x = u) (hS : Src w u m 21 (flat K)) (hl : n + m ≤ 2000000) (hb : Below B w0 w) (hbs : B ≤ w.heap.size)
    (h : ∀ v' w', w'.ownsRow B 43 21 v' (n + m) (flat (L ++ K)) → Below B w0 w' → w.heap.size ≤ w'.heap.size → wpList Tryd.prog ops Q rest (a.put o.dst v') w') : wpList Tryd.prog ops Q (o :: rest) a w := by
  obtain ⟨i, hi', hq⟩ := Option.map_eq_some_iff.1 infoP
  simp only [Prod.mk.injEq] at hq
  obtain ⟨q1, q2, q3⟩ := hq
  rcases hS.2 with ⟨rfl, rfl⟩ | ⟨g, of, c, rfl, hr⟩
  · have hK : K = [] := by
      have := hS.1
      rw [flat_length] at this
      exact List.eq_nil_of_length_eq_zero (by omega)
    subst hK
    have hr := run_append_owned_none (P := Tryd.prog) w B 23 o.type 43 i 21 Tryd.underlying23 hi' v n (flat L) hown
    refine wpList_plain hgd fun K hK => ?_
    unfold Oper.wp execOp
    simp only [ho, resolve, invoke, builtin, Sem.run_bind, Sem.run_pure, Result.andThen_ok, List.map_toArray, List.map_cons, List.map_nil, hs, hx, hr]
    exact hK _ _ (h v w (by rw [List.append_nil]; exact hown) hb (Nat.le_refl _))
  · refine wpList_append_own_at (w := w) hgd s x 23 ho B 43 i _ 21 32 Tryd.underlying23 hi' q1 q2 q3 (peA_size _) (by omega) v n (flat L) hs hown ⟨g, of, none⟩ m c (flat K) hx hS.1 (fun j y hj => by rw [Addr.add_mid]; exact hr j y hj) (flat_one _) (by unfold maxLen; omega) (by omega) hbs ?_
    intro v' w' h1 h2 _ _
    rw [← flat_append] at h1
    exact h v' w' h1 (hb.grown h2 hbs fun k hk => (hown.lt k hk).1) h2.size
theorem range_take {w : World} {b o : Nat} {xs : List Value} (h : w.rangeAt b o xs) (n : Nat) : w.rangeAt b o (xs.take n) := fun j v hj => by
  rw [List.getElem?_take] at hj
  split at hj
  · exact h j v hj
  · cases hj
/-- row[:r] -/
theorem wpList_upto {P : Program} {w : World} {ops : Array Oper} {rest : List Oper} {o : Oper} {a : Act} {Q : Exit → Act → World → Prop} (hgd : o.guard = none) (T : TypeId) (s hi_ : Operand)
    (ho : o.op = .slice T s none (some hi_) none) (e : TypeId) (size : Nat) (hT : P.underlying T = some (.slice e)) (hi : (P.info? e).map (·.size) = some size)
    (v : Value) (n r : Nat) (xs : List Value) (B : Nat) (hs : a.eval s = v) (hlo : a.eval hi_ = .int .i64 r) (hr : r ≤ n) (hown : w.ownsRow B e size v n xs)
    (h : ∀ v', Src w v' r size (xs.take (r * size)) → wpList P ops Q rest (a.put o.dst v') w) : wpList P ops Q (o :: rest) a w := by
  have hlen := hown.1
  have hel : P.elem T = e := by simp [Program.elem, hT]
  have hT' : P.underlying T = some (.slice (P.elem T)) := by rw [hel]; exact hT
  obtain ⟨i, hi', hq⟩ := Option.map_eq_some_iff.1 hi
  have hlt : (xs.take (r * size)).length = r * size := by rw [List.length_take, hlen]; exact Nat.min_eq_left (Nat.mul_le_mul_right _ hr)
  rcases own_shape hown with ⟨rfl, rfl⟩ | ⟨b, c, rfl, hc, _, hrg, _, _⟩
  · obtain rfl : r = 0 := by omega
    have run : (Instr.sliceAt T (.slice none 0 0) none (some (.int .i64 ((0 : Nat) : Int))) none).run P w = .ok (sliced none 0 0 0 size) w := by
      rw [run_sliceAt_slice w T _ _ _ _ hT', run_slice_h w T none 0 0 hT' .i64 ((0 : Nat) : Int) (by omega) (by omega), hel]
      simp [sizeOf, typeInfo, hi', Result.andThen, hq]
    refine wpList_plain hgd fun K hK => ?_
    unfold Oper.wp execOp
    simp only [ho, Option.map, hs, hlo, Sem.run_bind, Result.andThen_ok, run]
    exact hK _ _ (h _ ⟨hlt, .inl ⟨by simp [sliced], rfl⟩⟩)
  · have run : (Instr.sliceAt T (.slice (some ⟨b, 0, none⟩) n c) none (some (.int .i64 (r : Int))) none).run P w = .ok (sliced (some ⟨b, 0, none⟩) 0 r c size) w := by
      rw [run_sliceAt_slice w T _ _ _ _ hT', run_slice_h w T _ n c hT' .i64 (r : Int) (by omega) (by omega), hel]
      simp [sizeOf, typeInfo, hi', Result.andThen, hq]
    have hv : sliced (some ⟨b, 0, none⟩) 0 r c size = .slice (some ⟨b, 0, none⟩) r c := by
      unfold sliced; split <;> simp [Addr.add_mid]
    refine wpList_plain hgd fun K hK => ?_
    unfold Oper.wp execOp
    simp only [ho, Option.map, hs, hlo, Sem.run_bind, Result.andThen_ok, run, hv]
    exact hK _ _ (h _ ⟨hlt, .inr ⟨b, 0, c, rfl, range_take hrg _⟩⟩)
theorem Src.bel {w w' : World} {v : Value} {k size : Nat} {xs : List Value} (h : Src w v k size xs) (hb : Below w.heap.size w w') : Src w' v k size xs := by
  refine ⟨h.1, h.2.imp id ?_⟩
  rintro ⟨g, o, c, hv, hr⟩
  refine ⟨g, o, c, hv, ?_⟩
  cases xs with
  | nil => intro j u hu; simp at hu
  | cons x xs => exact range_bel hr hb (range_lt hr (by simp))
theorem lit_src (w : World) (p : Pe) : Src (w.alloc (.cells (peA p) 43)) (.slice (some ⟨w.heap.size, 0, none⟩) 1 1) 1 21 (flat [p]) := by
  refine ⟨by rw [flat_length]; rfl, .inr ⟨w.heap.size, 0, 1, rfl, ?_⟩⟩
  rw [flat_single]
  exact blk_range (Blk.new w (peA p) 43)
end Go.Proofs.YtmlejcfnnjnggaaDoor
