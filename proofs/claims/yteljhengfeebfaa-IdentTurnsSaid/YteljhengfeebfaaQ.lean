/- Sums and differences on the ring, as numbers; two places that are compared in a region of loads and calls. -/
import Derived.Test.YteljhengfeebfaaPlaced
namespace Go.Proofs.Yteljhengfeebfaa
open Go.RowKit Go.Sort

theorem sums_mod (a b : Nat) : sub (a + b) b % M = a % M := by
  unfold sub
  have hp := M_pos
  have hb := Nat.mod_lt b hp
  rw [show a + b + M - b % M = a + M * (b / M + 1) by have := Nat.div_add_mod b M; rw [Nat.mul_add]; omega, Nat.add_mul_mod_self_left]
theorem back_mod (a b : Nat) : (sub a b + b) % M = a % M := by
  unfold sub
  have hp := M_pos
  have hb := Nat.mod_lt b hp
  rw [show a + M - b % M + b = a + M * (b / M + 1) by have := Nat.div_add_mod b M; rw [Nat.mul_add]; omega, Nat.add_mul_mod_self_left]
theorem self_mod (a : Nat) : sub a a % M = 0 % M := by
  have := sums_mod 0 a
  rwa [Nat.zero_add] at this
theorem eqB_of {a b : Nat} (h : a % M = b % M) : eqB a b = true := by unfold eqB; exact decide_eq_true h

theorem q_eql {C : World → Prop} {o : Oper} {a : Act} {K : Act → Prop} (x y : Operand) (ho : o.op = .binOp .eql 23 x y 23) (n m : Nat) (hx : a.eval x = idv n) (hy : a.eval y = idv m) {r : Bool} (hr : eqB n m = r)
    (hk : K (a.put o.dst (.bool r))) : o.quiet Try.prog a C K := by
  refine ⟨.bool r, ?_, hk⟩
  intro w' _
  unfold Oper.quietAt execOp
  simp only [ho, hx, hy, Sem.run_bind, run_guard, run_eql, hr, Sem.run_pure, Result.andThen_ok]
  exact ⟨rfl, rfl⟩

theorem q_neq {C : World → Prop} {o : Oper} {a : Act} {K : Act → Prop} (x y : Operand) (ho : o.op = .binOp .neq 23 x y 23) (n m : Nat) (hx : a.eval x = idv n) (hy : a.eval y = idv m) {r : Bool} (hr : (!eqB n m) = r)
    (hk : K (a.put o.dst (.bool r))) : o.quiet Try.prog a C K := by
  refine ⟨.bool r, ?_, hk⟩
  intro w' _
  unfold Oper.quietAt execOp
  simp only [ho, hx, hy, Sem.run_bind, run_guard, run_neq, hr, Sem.run_pure, Result.andThen_ok]
  exact ⟨rfl, rfl⟩


theorem q_at {W : World} {o : Oper} {a : Act} {K : Act → Prop} (x : Operand) (ho : o.op = .load 23 x) (g n : Nat) (hx : a.eval x = .pointer (some ⟨g, 0, none⟩))
    (hg : At W g n) (hk : K (a.put o.dst (idv n))) : o.quiet Try.prog a (fun w' => ∃ p : Regrown, w' = grow (redrawn W p.d) p.os) K := q_load x ho g n hx hg hk
/-! one operation that is wanted -/
theorem o_load {o : Oper} {a : Act} {w : World} {K : Act → World → Prop} {Q : Exit → Act → World → Prop} (x : Operand) (ho : o.op = .load 23 x)
    (g : Nat) (hx : a.eval x = .pointer (some ⟨g, 0, none⟩)) (n : Nat) (hg : At w g n) (h : K (a.put o.dst (idv n)) w) : o.wp Try.prog a w K Q :=
  wp_load_row 23 x ho g hx 23 _ (0, 0) _ hg Try.underlying23 rfl (by rw [row_size, dig_length]; exact Try.info23) h
theorem o_eql {o : Oper} {a : Act} {w : World} {K : Act → World → Prop} {Q : Exit → Act → World → Prop} (x y : Operand) (ho : o.op = .binOp .eql 23 x y 23)
    (n m : Nat) (hx : a.eval x = idv n) (hy : a.eval y = idv m) {r : Bool} (hr : eqB n m = r) (h : K (a.put o.dst (.bool r)) w) : o.wp Try.prog a w K Q := by
  unfold Oper.wp execOp
  simp only [ho, hx, hy, Sem.run_bind, run_guard, run_eql, hr, Sem.run_pure, Result.andThen_ok]
  exact h
theorem o_neq {o : Oper} {a : Act} {w : World} {K : Act → World → Prop} {Q : Exit → Act → World → Prop} (x y : Operand) (ho : o.op = .binOp .neq 23 x y 23)
    (n m : Nat) (hx : a.eval x = idv n) (hy : a.eval y = idv m) {r : Bool} (hr : (!eqB n m) = r) (h : K (a.put o.dst (.bool r)) w) : o.wp Try.prog a w K Q := by
  unfold Oper.wp execOp
  simp only [ho, hx, hy, Sem.run_bind, run_guard, run_neq, hr, Sem.run_pure, Result.andThen_ok]
  exact h
theorem o_build {o : Oper} {a : Act} {w : World} {K : Act → World → Prop} {Q : Exit → Act → World → Prop} (ho : o.op = .build 23 #[]) (h : K (a.put o.dst (idv 0)) w) : o.wp Try.prog a w K Q := by
  have e := run_build (P := Try.prog) w 23 #[] _ built23
  unfold Oper.wp execOp
  simp only [ho, List.map_toArray, List.map_nil, Sem.run_bind, e, Sem.run_pure, Result.andThen_ok]
  have e2 : Value.agg (row (List.replicate 20 0)) = idv 0 := by rw [zero_row]; rfl
  rw [e2]
  exact h
/-! the first operation of a list, if it is not guarded -/
theorem p_load {ops : Array Oper} {rest : List Oper} {o : Oper} {a : Act} {w : World} {Q : Exit → Act → World → Prop} (hgd : o.guard = none) (x : Operand) (ho : o.op = .load 23 x)
    (g : Nat) (hx : a.eval x = .pointer (some ⟨g, 0, none⟩)) (n : Nat) (hg : At w g n)
    (h : wpList Try.prog ops Q rest (a.put o.dst (idv n)) w) : wpList Try.prog ops Q (o :: rest) a w := wpList_plain hgd fun _ hK => o_load x ho g hx n hg (hK _ _ h)
theorem p_eql {ops : Array Oper} {rest : List Oper} {o : Oper} {a : Act} {w : World} {Q : Exit → Act → World → Prop} (hgd : o.guard = none) (x y : Operand) (ho : o.op = .binOp .eql 23 x y 23)
    (n m : Nat) (hx : a.eval x = idv n) (hy : a.eval y = idv m) {r : Bool} (hr : eqB n m = r) (h : wpList Try.prog ops Q rest (a.put o.dst (.bool r)) w) : wpList Try.prog ops Q (o :: rest) a w :=
  wpList_plain hgd fun _ hK => o_eql x y ho n m hx hy hr (hK _ _ h)
theorem p_neq {ops : Array Oper} {rest : List Oper} {o : Oper} {a : Act} {w : World} {Q : Exit → Act → World → Prop} (hgd : o.guard = none) (x y : Operand) (ho : o.op = .binOp .neq 23 x y 23)
    (n m : Nat) (hx : a.eval x = idv n) (hy : a.eval y = idv m) {r : Bool} (hr : (!eqB n m) = r) (h : wpList Try.prog ops Q rest (a.put o.dst (.bool r)) w) : wpList Try.prog ops Q (o :: rest) a w :=
  wpList_plain hgd fun _ hK => o_neq x y ho n m hx hy hr (hK _ _ h)
theorem p_build {ops : Array Oper} {rest : List Oper} {o : Oper} {a : Act} {w : World} {Q : Exit → Act → World → Prop} (hgd : o.guard = none) (ho : o.op = .build 23 #[])
    (h : wpList Try.prog ops Q rest (a.put o.dst (idv 0)) w) : wpList Try.prog ops Q (o :: rest) a w := wpList_plain hgd fun _ hK => o_build ho (hK _ _ h)
theorem eqB_self (a : Nat) : eqB a a = true := eqB_of rfl
theorem neqB_self (a : Nat) : (!eqB a a) = false := by rw [eqB_self]; rfl

/-! what is written is read as it was -/
theorem dvV_hx (d : Nat) (h : d < 16) : dvV (hx d) = d := by
  have : ∀ d : Fin 16, dvV (hx d.val) = d.val := by decide
  exact this ⟨d, h⟩
theorem dvB_hx (d : Nat) (h : d < 16) : dvB (hx d) = true := by
  have : ∀ d : Fin 16, dvB (hx d.val) = true := by decide
  exact this ⟨d, h⟩
theorem hx_lt (d : Nat) (h : d < 16) : hx d < 256 := by unfold hx; split <;> omega
theorem textB_size (a : Nat) : (textB a).size = 40 := by
  unfold textB; rw [strOfNums_size, List.length_map, tpart_length a 20 (by omega)]
theorem flat_get (f g : Nat → Nat) : ∀ (l : List Nat) (j : Nat) (h : j < l.length), (l.flatMap (fun b => [f b, g b]))[2 * j]? = some (f l[j]) ∧ (l.flatMap (fun b => [f b, g b]))[2 * j + 1]? = some (g l[j])
  | [], j, h => by simp at h
  | b :: r, 0, _ => by simp
  | b :: r, j + 1, h => by
    have := flat_get f g r j (by simpa using h)
    simp only [List.flatMap_cons, List.cons_append, List.nil_append, List.getElem_cons_succ]
    rw [show 2 * (j + 1) = 2 * j + 1 + 1 by omega, show 2 * j + 1 + 1 + 1 = (2 * j + 1) + 1 + 1 by omega]
    simp only [List.getElem?_cons_succ]
    exact this
theorem dig_getElem (a j : Nat) (h : j < 20) : (dig 20 a)[j]'(by rw [dig_length]; exact h) = digit a (19 - j) := by
  have := dig_get 20 a j h
  rw [List.getElem?_eq_getElem (by rw [dig_length]; exact h)] at this
  injection this
theorem textB_bytes (a j : Nat) (h : j < 20) : byteAt (textB a) (2 * j) = hx (digit a (19 - j) / 16) ∧ byteAt (textB a) (2 * j + 1) = hx (digit a (19 - j) % 16) := by
  have hd := digit_lt a (19 - j)
  have hg := flat_get (fun b => hx (b / 16)) (fun b => hx (b % 16)) (dig 20 a) j (by rw [dig_length]; exact h)
  rw [dig_getElem a j h] at hg
  have ht : tpart a 20 = (dig 20 a).flatMap (fun b => [hx (b / 16), hx (b % 16)]) := by
    unfold tpart; rw [List.take_of_length_le (by rw [dig_length]; omega)]; simp
  have e : ∀ i d, (tpart a 20)[i]? = some d → d < 256 → byteAt (textB a) i = d := by
    intro i d hi hlt
    unfold byteAt textB
    rw [strOfNums_data, List.map_map, List.getD, List.getElem?_map, hi]
    simp
    omega
  rw [ht] at e
  exact ⟨e _ _ hg.1 (hx_lt _ (by omega)), e _ _ hg.2 (hx_lt _ (by omega))⟩
theorem text_good (a : Nat) : goodB (textB a) = true := by
  refine goodB_true (textB_size a) ?_
  intro i hi
  have h := textB_bytes a (i / 2) (by omega)
  have hd := digit_lt a (19 - i / 2)
  rcases Nat.mod_two_eq_zero_or_one i with h2 | h2
  · rw [show i = 2 * (i / 2) by omega, h.1]; exact dvB_hx _ (by omega)
  · rw [show i = 2 * (i / 2) + 1 by omega, h.2]; exact dvB_hx _ (by omega)
theorem text_ppart (a : Nat) : ppart (textB a) 20 = dig 20 a := by
  apply List.ext_getElem?
  intro j
  rcases Nat.lt_or_ge j 20 with h | h
  · rw [dig_get 20 a j h]
    unfold ppart
    rw [List.getElem?_append_left (by simpa using h), List.getElem?_map, List.getElem?_range h]
    have hb := textB_bytes a j h
    have hd := digit_lt a (19 - j)
    show some (pair (textB a) j) = some (digit a (19 - j))
    unfold pair
    rw [hb.1, hb.2, dvV_hx _ (by omega), dvV_hx _ (by omega)]
    exact congrArg some (by omega)
  · rw [List.getElem?_eq_none (by rw [ppart_length _ 20 (by omega)]; exact h), List.getElem?_eq_none (by rw [dig_length]; exact h)]
theorem parsed_text (a : Nat) : parsed (textB a) = .tuple #[idv a, .int .i64 0] := by
  unfold parsed
  rw [if_pos (text_good a)]
  have : idv (val (ppart (textB a) 20)) = idv a := by
    unfold idv
    rw [ppart_full, text_ppart]
  rw [this]
theorem parse_text (a : Nat) (w : World) : Calls Try.prog 22 #[.string (textB a)] w fun e w' => e = .returned (.tuple #[idv a, .int .i64 0]) ∧ Below w.heap.size w w' := by
  rw [← parsed_text]; exact parse_all _ w
theorem parsed_cases (s : ByteArray) : (s.size = 40 ∧ ∃ n, parsed s = .tuple #[idv n, .int .i64 0]) ∨ parsed s = .tuple #[idv 0, .int .i64 3] := by
  unfold parsed
  cases h : goodB s
  · right; rfl
  · left
    refine ⟨?_, _, rfl⟩
    unfold goodB at h
    simp only [Bool.and_eq_true, decide_eq_true_eq] at h
    exact h.1
end Go.Proofs.Yteljhengfeebfaa
