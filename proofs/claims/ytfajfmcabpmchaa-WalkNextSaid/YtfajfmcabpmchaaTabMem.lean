/- A node's table in memory. -/
import Derived.Test.YtfajfmcabpmchaaCirMem
import Derived.Test.YtfajfmcabpmchaaTabSort
namespace Go.Proofs.Ytfajfmcabpmchaa
set_option maxRecDepth 100000
open Go Go.RowKit Go.Sort

/-- a table: itself, the peer ahead, those behind, and the fingers -/
structure Tb where
  s : Pe
  p : Pe
  S : List Pe
  F : List Pe
def tabC (s p : Pe) (u v : Value) : List Value := peC s ++ (peC p ++ [u, v])
def tabA (s p : Pe) (u v : Value) : Array Value := (tabC s p u v).toArray
theorem tabC_length (s p : Pe) (u v : Value) : (tabC s p u v).length = 44 := by simp [tabC, peC_length]
theorem tabA_size (s p : Pe) (u v : Value) : (tabA s p u v).size = 44 := by unfold tabA; rw [List.size_toArray, tabC_length]
theorem tabA_list (s p : Pe) (u v : Value) : (tabA s p u v).toList = tabC s p u v := rfl
theorem tabA_one {s p : Pe} {u v : Value} (hu : u.oneCell' = true) (hv : v.oneCell' = true) : (tabA s p u v).all (·.oneCell') = true := by
  rw [Array.all_eq_true_iff_forall_mem]
  intro x hx
  rw [tabA, List.mem_toArray, tabC, List.mem_append, List.mem_append] at hx
  rcases hx with hx | hx | hx
  · exact peC_one s x hx
  · exact peC_one p x hx
  · simp only [List.mem_cons, List.not_mem_nil, or_false] at hx
    rcases hx with rfl | rfl
    · exact hu
    · exact hv
abbrev nilS : Value := .slice none 0 0
theorem sizeT : (Try.prog.info? 43).map (·.size) = some 44 := by kernel_rfl
theorem sizeS : (Try.prog.info? 37).map (·.size) = some 1 := by kernel_rfl
theorem builtT0 : Try.prog.built 43 [] = some (tabA (0, 0) (0, 0) nilS nilS) := by kernel_rfl
theorem builtT2 (s p : Pe) : Try.prog.built 43 [(0, .agg (peA s)), (1, .agg (peA p))] = some (tabA s p nilS nilS) := by kernel_rfl
theorem builtT3 (s p : Pe) (a : Option Addr) (n c : Nat) : Try.prog.built 43 [(0, .agg (peA s)), (1, .agg (peA p)), (3, .slice a n c)] = some (tabA s p nilS (.slice a n c)) := by kernel_rfl
theorem builtT4 (s p : Pe) (a : Option Addr) (n c : Nat) (b : Option Addr) (m d : Nat) : Try.prog.built 43 [(0, .agg (peA s)), (1, .agg (peA p)), (2, .slice a n c), (3, .slice b m d)] = some (tabA s p (.slice a n c) (.slice b m d)) := by kernel_rfl

theorem peer_zero : (#[Value.int IntKind.i64 0, Value.int IntKind.u8 0, Value.int IntKind.u8 0, Value.int IntKind.u8 0, Value.int IntKind.u8 0, Value.int IntKind.u8 0, Value.int IntKind.u8 0, Value.int IntKind.u8 0, Value.int IntKind.u8 0, Value.int IntKind.u8 0, Value.int IntKind.u8 0, Value.int IntKind.u8 0, Value.int IntKind.u8 0, Value.int IntKind.u8 0, Value.int IntKind.u8 0, Value.int IntKind.u8 0, Value.int IntKind.u8 0, Value.int IntKind.u8 0, Value.int IntKind.u8 0, Value.int IntKind.u8 0, Value.int IntKind.u8 0] : Array Value) = peA (0, 0) := by kernel_rfl
theorem tab_zero : (#[Value.int IntKind.i64 0, Value.int IntKind.u8 0, Value.int IntKind.u8 0, Value.int IntKind.u8 0, Value.int IntKind.u8 0, Value.int IntKind.u8 0, Value.int IntKind.u8 0, Value.int IntKind.u8 0, Value.int IntKind.u8 0, Value.int IntKind.u8 0, Value.int IntKind.u8 0, Value.int IntKind.u8 0, Value.int IntKind.u8 0, Value.int IntKind.u8 0, Value.int IntKind.u8 0, Value.int IntKind.u8 0, Value.int IntKind.u8 0, Value.int IntKind.u8 0, Value.int IntKind.u8 0, Value.int IntKind.u8 0, Value.int IntKind.u8 0, Value.int IntKind.i64 0, Value.int IntKind.u8 0, Value.int IntKind.u8 0, Value.int IntKind.u8 0, Value.int IntKind.u8 0, Value.int IntKind.u8 0, Value.int IntKind.u8 0, Value.int IntKind.u8 0, Value.int IntKind.u8 0, Value.int IntKind.u8 0, Value.int IntKind.u8 0, Value.int IntKind.u8 0, Value.int IntKind.u8 0, Value.int IntKind.u8 0, Value.int IntKind.u8 0, Value.int IntKind.u8 0, Value.int IntKind.u8 0, Value.int IntKind.u8 0, Value.int IntKind.u8 0, Value.int IntKind.u8 0, Value.int IntKind.u8 0, Value.slice none 0 0, Value.slice none 0 0] : Array Value) = tabA (0, 0) (0, 0) nilS nilS := by kernel_rfl
/-- the table stands in block g -/
def TB (w : World) (g : Nat) (s p : Pe) (u v : Value) : Prop := Blk w g (tabA s p u v) 43
theorem TB.lt {w : World} {g : Nat} {s p : Pe} {u v : Value} (h : TB w g s p u v) : g < w.heap.size := Blk.lt h
theorem TB.bel {w w' : World} {g : Nat} {s p : Pe} {u v : Value} (h : TB w g s p u v) (hb : Below w.heap.size w w') : TB w' g s p u v := Blk.below h hb h.lt
theorem TB.range {w : World} {g : Nat} {s p : Pe} {u v : Value} (h : TB w g s p u v) : w.rangeAt g 0 (tabC s p u v) := blk_range h
theorem range_app1 {w : World} {g o : Nat} {A B : List Value} (h : w.rangeAt g o (A ++ B)) : w.rangeAt g o A := fun j v hv => h j v (by
  have := (List.getElem?_eq_some_iff.1 hv).1
  rw [List.getElem?_append_left this]; exact hv)
theorem range_app2 {w : World} {g o n : Nat} {A B : List Value} (h : w.rangeAt g o (A ++ B)) (hn : A.length = n) : w.rangeAt g (o + n) B := fun j v hv => by
  have := h (n + j) v (by rw [List.getElem?_append_right (by omega), show n + j - A.length = j by omega]; exact hv)
  rwa [show o + (n + j) = o + n + j by omega] at this
theorem TB.self {w : World} {g : Nat} {s p : Pe} {u v : Value} (h : TB w g s p u v) : w.rangeAt g 0 (peC s) := range_app1 h.range
theorem TB.rest {w : World} {g : Nat} {s p : Pe} {u v : Value} (h : TB w g s p u v) : w.rangeAt g 21 (peC p ++ [u, v]) := by
  have := range_app2 h.range (peC_length s); rwa [Nat.zero_add] at this
theorem TB.pred {w : World} {g : Nat} {s p : Pe} {u v : Value} (h : TB w g s p u v) : w.rangeAt g 21 (peC p) := range_app1 h.rest
theorem TB.cu {w : World} {g : Nat} {s p : Pe} {u v : Value} (h : TB w g s p u v) : w.cell? ⟨g, 42, none⟩ = some u := (range_app2 h.rest (peC_length p)) 0 u rfl
theorem TB.cv {w : World} {g : Nat} {s p : Pe} {u v : Value} (h : TB w g s p u v) : w.cell? ⟨g, 43, none⟩ = some v := (range_app2 h.rest (peC_length p)) 1 v rfl
theorem TB.sA {w : World} {g : Nat} {s p : Pe} {u v : Value} (h : TB w g s p u v) : w.cell? ⟨g, 0, none⟩ = some (.int .i64 s.1) := pe_ad h.self
theorem TB.pA {w : World} {g : Nat} {s p : Pe} {u v : Value} (h : TB w g s p u v) : w.cell? ⟨g, 21, none⟩ = some (.int .i64 p.1) := pe_ad h.pred
theorem TB.sI {w : World} {g : Nat} {s p : Pe} {u v : Value} (h : TB w g s p u v) : w.rangeAt g 1 (row (dig 20 s.2)).toList := pe_id h.self
theorem TB.pI {w : World} {g : Nat} {s p : Pe} {u v : Value} (h : TB w g s p u v) : w.rangeAt g 22 (row (dig 20 p.2)).toList := pe_id h.pred
theorem TB.new (w : World) (s p : Pe) (u v : Value) : TB (w.alloc (.cells (tabA s p u v) 43)) w.heap.size s p u v := Blk.new ..
/-- a peer in a block of its own -/
def PB (w : World) (g : Nat) (x : Pe) : Prop := Blk w g (peA x) 28
theorem PB.lt {w : World} {g : Nat} {x : Pe} (h : PB w g x) : g < w.heap.size := Blk.lt h
theorem PB.bel {w w' : World} {g : Nat} {x : Pe} (h : PB w g x) (hb : Below w.heap.size w w') : PB w' g x := Blk.below h hb h.lt
theorem PB.range {w : World} {g : Nat} {x : Pe} (h : PB w g x) : w.rangeAt g 0 (peC x) := blk_range h
theorem PB.A {w : World} {g : Nat} {x : Pe} (h : PB w g x) : w.cell? ⟨g, 0, none⟩ = some (.int .i64 x.1) := pe_ad h.range
theorem PB.I {w : World} {g : Nat} {x : Pe} (h : PB w g x) : w.rangeAt g 1 (row (dig 20 x.2)).toList := pe_id h.range
theorem PB.new (w : World) (x : Pe) : PB (w.alloc (.cells (peA x) 28)) w.heap.size x := Blk.new ..

/-! loads and stores -/
theorem p_midT {ops : Array Oper} {rest : List Oper} {o : Oper} {a : Act} {w : World} {Q : Exit → Act → World → Prop} (hgd : o.guard = none) (x : Operand) (ho : o.op = .load 43 x)
    (g : Nat) (hx : a.eval x = .pointer (some ⟨g, 0, none⟩)) {s p : Pe} {u v : Value} (hg : TB w g s p u v)
    (h : wpList Try.prog ops Q rest (a.put o.dst (.agg (tabA s p u v))) w) : wpList Try.prog ops Q (o :: rest) a w :=
  wpList_load_mid hgd 43 x ho g 0 hx (tabC s p u v) _ hg.range Try.underlying43 rfl (by rw [tabC_length]; exact sizeT) h
theorem o_midT {o : Oper} {a : Act} {w : World} {K : Act → World → Prop} {Q : Exit → Act → World → Prop} (x : Operand) (ho : o.op = .load 43 x)
    (g : Nat) (hx : a.eval x = .pointer (some ⟨g, 0, none⟩)) {s p : Pe} {u v : Value} (hg : TB w g s p u v) (h : K (a.put o.dst (.agg (tabA s p u v))) w) : o.wp Try.prog a w K Q :=
  wp_load_mid 43 x ho g 0 hx (tabC s p u v) _ hg.range Try.underlying43 rfl (by rw [tabC_length]; exact sizeT) h
theorem q_midT {W : World} {o : Oper} {a : Act} {K : Act → Prop} (x : Operand) (ho : o.op = .load 43 x) (g : Nat) (hx : a.eval x = .pointer (some ⟨g, 0, none⟩)) {s p : Pe} {u v : Value}
    (hg : TB W g s p u v) (hk : K (a.put o.dst (.agg (tabA s p u v)))) : o.quiet Try.prog a (fun w' => ∃ p : Regrown, w' = grow (redrawn W p.d) p.os) K := by
  refine ⟨.agg (tabA s p u v), ?_, hk⟩
  rintro w' ⟨r, rfl⟩
  have hg' := (hg.bel (below_regrown W r.d r.os)).range
  unfold Oper.quietAt execOp
  simp only [ho, hx, Instr.loadAt, Instr.sureAddr, Sem.run_bind, run_loadVar_mid _ g 0 43 (tabC s p u v) _ hg' Try.underlying43 rfl (by rw [tabC_length]; exact sizeT), Sem.run_pure, Result.andThen_ok]
  exact ⟨rfl, rfl⟩
/-- a value is stored into a block that is known whole -/
theorem p_into {ops : Array Oper} {rest : List Oper} {op : Oper} {a : Act} {w : World} {Q : Exit → Act → World → Prop} (hgd : op.guard = none) (ty : TypeId) (x y : Operand) (ho : op.op = .store ty x y)
    (g o : Nat) (hx : a.eval x = .pointer (some ⟨g, o, none⟩)) (v : Value) (hy : a.eval y = v) (cur : Array Value) (T : TypeId) (hg : Blk w g cur T) (hi : (Try.prog.info? ty).map (·.size) = some v.cells.size)
    (hfit : o + v.cells.size ≤ cur.size) (h1 : v.cells.all (·.oneCell') = true) (new : Array Value) (hw : (cur.toList.take o ++ v.cells.toList ++ cur.toList.drop (o + v.cells.size)).toArray = new)
    (h : wpList Try.prog ops Q rest (a.put op.dst undef) (w.setRow g new)) : wpList Try.prog ops Q (op :: rest) a w := by
  have hst := run_storeCells_at Try.prog g o T v.cells.toList 0 cur w hg (by simpa using hfit) (fun u hu => (Array.all_eq_true_iff_forall_mem.1 h1) u (by simpa using hu))
  simp only [Nat.add_zero, Array.length_toList] at hst
  rw [hw] at hst
  have hsv : (storeVar ty ⟨g, o, none⟩ v).run Try.prog w = .ok () (w.setRow g new) := by
    obtain ⟨i, hi', hq⟩ := Option.map_eq_some_iff.1 hi
    simp [storeVar, sizeOf, typeInfo, hi', hq, hst]
  refine wpList_plain hgd fun K hK => ?_
  unfold Oper.wp execOp
  simp only [ho, hx, hy, Instr.storeAt, Instr.sureAddr, Sem.run_bind, Sem.run_pure, Result.andThen_ok, hsv]
  exact hK _ _ h
theorem lies_one {w : World} {v : Value} {L : List Pe} (h : Lies w v L) : v.oneCell' = true := by
  obtain ⟨a, c, rfl⟩ := h.form; rfl
theorem one_cells {v : Value} (h : v.oneCell' = true) : v.cells = #[v] := by cases v <;> first | rfl | cases h
theorem TB.set {w : World} {g : Nat} {s p : Pe} {u v : Value} (h : TB w g s p u v) (s' p' : Pe) (u' v' : Value) : TB (w.setRow g (tabA s' p' u' v')) g s' p' u' v' := Blk.setRow h _
theorem PB.set {w : World} {g : Nat} {x : Pe} (h : PB w g x) (y : Pe) : PB (w.setRow g (peA y)) g y := Blk.setRow h _
/-- the fields of a table are stored -/
theorem p_putS {ops : Array Oper} {rest : List Oper} {op : Oper} {a : Act} {w : World} {Q : Exit → Act → World → Prop} (hgd : op.guard = none) (x y : Operand) (ho : op.op = .store 37 x y)
    (g : Nat) (hx : a.eval x = .pointer (some ⟨g, 42, none⟩)) (r : Value) (hy : a.eval y = r) (hr : r.oneCell' = true) {s p : Pe} {u v : Value} (hg : TB w g s p u v)
    (h : wpList Try.prog ops Q rest (a.put op.dst undef) (w.setRow g (tabA s p r v))) : wpList Try.prog ops Q (op :: rest) a w := by
  have hc := one_cells hr
  refine p_into hgd 37 x y ho g 42 hx r hy (tabA s p u v) 43 hg (by rw [hc]; exact sizeS) (by rw [hc, tabA_size]; exact Nat.le_of_ble_eq_true rfl) (by rw [hc]; simp [hr]) _ ?_ h
  rw [hc, tabA_list]
  unfold tabA tabC
  have e : ∀ k, List.take (42 + k) (peC s ++ (peC p ++ [u, v])) = peC s ++ (peC p ++ List.take k [u, v]) := fun k => by
    rw [List.take_append, List.take_of_length_le (by rw [peC_length]; omega), peC_length, List.take_append, List.take_of_length_le (by rw [peC_length]; omega), peC_length, show 42 + k - 21 - 21 = k by omega]
  have e2 : List.drop 43 (peC s ++ (peC p ++ [u, v])) = [v] := by
    rw [List.drop_append, List.drop_eq_nil_of_le (by rw [peC_length]; omega), peC_length, List.drop_append, List.drop_eq_nil_of_le (by rw [peC_length]; omega), peC_length]; rfl
  have e1 := e 0
  rw [Nat.add_zero, List.take_zero, List.append_nil] at e1
  change (List.take 42 _ ++ [r] ++ List.drop 43 _).toArray = _
  rw [e1, e2, List.append_assoc, List.append_assoc]; rfl
theorem p_putF {ops : Array Oper} {rest : List Oper} {op : Oper} {a : Act} {w : World} {Q : Exit → Act → World → Prop} (hgd : op.guard = none) (x y : Operand) (ho : op.op = .store 37 x y)
    (g : Nat) (hx : a.eval x = .pointer (some ⟨g, 43, none⟩)) (r : Value) (hy : a.eval y = r) (hr : r.oneCell' = true) {s p : Pe} {u v : Value} (hg : TB w g s p u v)
    (h : wpList Try.prog ops Q rest (a.put op.dst undef) (w.setRow g (tabA s p u r))) : wpList Try.prog ops Q (op :: rest) a w := by
  have hc := one_cells hr
  refine p_into hgd 37 x y ho g 43 hx r hy (tabA s p u v) 43 hg (by rw [hc]; exact sizeS) (by rw [hc, tabA_size]; exact Nat.le_of_ble_eq_true rfl) (by rw [hc]; simp [hr]) _ ?_ h
  rw [hc, tabA_list]
  unfold tabA tabC
  have e1 : List.take 43 (peC s ++ (peC p ++ [u, v])) = peC s ++ (peC p ++ [u]) := by
    rw [List.take_append, List.take_of_length_le (by rw [peC_length]; omega), peC_length, List.take_append, List.take_of_length_le (by rw [peC_length]; omega), peC_length]; rfl
  have e2 : List.drop 44 (peC s ++ (peC p ++ [u, v])) = [] := List.drop_eq_nil_of_le (by have := tabC_length s p u v; unfold tabC at this; omega)
  change (List.take 43 _ ++ [r] ++ List.drop 44 _).toArray = _
  rw [e1, e2, List.append_nil, List.append_assoc, List.append_assoc]; rfl
theorem p_putP {ops : Array Oper} {rest : List Oper} {op : Oper} {a : Act} {w : World} {Q : Exit → Act → World → Prop} (hgd : op.guard = none) (x y : Operand) (ho : op.op = .store 28 x y)
    (g : Nat) (hx : a.eval x = .pointer (some ⟨g, 21, none⟩)) (r : Pe) (hy : a.eval y = .agg (peA r)) {s p : Pe} {u v : Value} (hg : TB w g s p u v)
    (h : wpList Try.prog ops Q rest (a.put op.dst undef) (w.setRow g (tabA s r u v))) : wpList Try.prog ops Q (op :: rest) a w := by
  have hc : (Value.agg (peA r)).cells = peA r := rfl
  refine p_into hgd 28 x y ho g 21 hx _ hy (tabA s p u v) 43 hg (by rw [hc, peA_size]; exact sizeP) (by rw [hc, tabA_size, peA_size]; decide) (by rw [hc]; exact peA_one r) _ ?_ h
  rw [hc, tabA_list, peA_size, peA_list]
  unfold tabA tabC
  have e1 : List.take 21 (peC s ++ (peC p ++ [u, v])) = peC s := by
    rw [List.take_append_of_le_length (by rw [peC_length]; omega), List.take_of_length_le (by rw [peC_length]; omega)]
  have e2 : List.drop (21 + 21) (peC s ++ (peC p ++ [u, v])) = [u, v] := by
    rw [List.drop_append, List.drop_eq_nil_of_le (by rw [peC_length]; omega), peC_length, List.drop_append, List.drop_eq_nil_of_le (by rw [peC_length]; omega), peC_length]; rfl
  rw [e1, e2, List.append_assoc]
/-- a whole table, and a whole peer, are stored -/
theorem p_putT {ops : Array Oper} {rest : List Oper} {op : Oper} {a : Act} {w : World} {Q : Exit → Act → World → Prop} (hgd : op.guard = none) (x y : Operand) (ho : op.op = .store 43 x y)
    (g : Nat) (hx : a.eval x = .pointer (some ⟨g, 0, none⟩)) {s' p' : Pe} {u' v' : Value} (hy : a.eval y = .agg (tabA s' p' u' v')) (hu : u'.oneCell' = true) (hv : v'.oneCell' = true) {s p : Pe} {u v : Value} (hg : TB w g s p u v)
    (h : wpList Try.prog ops Q rest (a.put op.dst undef) (w.setRow g (tabA s' p' u' v'))) : wpList Try.prog ops Q (op :: rest) a w :=
  wpList_store_row hgd 43 x y ho g (tabA s' p' u' v') hx hy 43 (tabA s p u v) hg (by rw [tabA_size]; exact sizeT) (by rw [tabA_size, tabA_size]) (tabA_one hu hv) h
theorem p_putO {ops : Array Oper} {rest : List Oper} {op : Oper} {a : Act} {w : World} {Q : Exit → Act → World → Prop} (hgd : op.guard = none) (x y : Operand) (ho : op.op = .store 28 x y)
    (g : Nat) (hx : a.eval x = .pointer (some ⟨g, 0, none⟩)) (r : Pe) (hy : a.eval y = .agg (peA r)) {q : Pe} (hg : PB w g q)
    (h : wpList Try.prog ops Q rest (a.put op.dst undef) (w.setRow g (peA r))) : wpList Try.prog ops Q (op :: rest) a w :=
  wpList_store_row hgd 28 x y ho g (peA r) hx hy 28 (peA q) hg (by rw [peA_size]; exact sizeP) (by rw [peA_size, peA_size]) (peA_one r) h
/-! what a call answers -/
theorem results_T1 {fn : Func} {c : Tmp} (h : fn.results = #[.cell c 43]) (tmps : Array Value) (w : World) (g : Nat) {s p : Pe} {u v : Value}
    (hp : tmps.getD c undef = .pointer (some ⟨g, 0, none⟩)) (hg : TB w g s p u v) : (results fn tmps).run Try.prog w = .ok (.agg (tabA s p u v)) w := by
  have hp' : tmps[c]?.getD undef = .pointer (some ⟨g, 0, none⟩) := by simpa using hp
  simp [results, h, hp', asAddr, run_loadVar_row w g 43 43 (tabA s p u v) (0, 0) _ hg Try.underlying43 rfl (by rw [tabA_size]; exact sizeT)]
theorem results_T2 {fn : Func} {c t : Tmp} (h : fn.results = #[.cell c 43, .tmp t]) (tmps : Array Value) (w : World) (g : Nat) {s p : Pe} {u v : Value} (x : Value)
    (hp : tmps.getD c undef = .pointer (some ⟨g, 0, none⟩)) (hx : tmps.getD t undef = x) (hg : TB w g s p u v) : (results fn tmps).run Try.prog w = .ok (.tuple #[.agg (tabA s p u v), x]) w := by
  have hp' : tmps[c]?.getD undef = .pointer (some ⟨g, 0, none⟩) := by simpa using hp
  have hx' : tmps[t]?.getD undef = x := by simpa using hx
  simp [results, h, hp', hx', asAddr, run_loadVar_row w g 43 43 (tabA s p u v) (0, 0) _ hg Try.underlying43 rfl (by rw [tabA_size]; exact sizeT)]
theorem results_T3 {fn : Func} {c t t2 : Tmp} (h : fn.results = #[.cell c 43, .tmp t, .tmp t2]) (tmps : Array Value) (w : World) (g : Nat) {s p : Pe} {u v : Value} (x y : Value)
    (hp : tmps.getD c undef = .pointer (some ⟨g, 0, none⟩)) (hx : tmps.getD t undef = x) (hy : tmps.getD t2 undef = y) (hg : TB w g s p u v) : (results fn tmps).run Try.prog w = .ok (.tuple #[.agg (tabA s p u v), x, y]) w := by
  have hp' : tmps[c]?.getD undef = .pointer (some ⟨g, 0, none⟩) := by simpa using hp
  have hx' : tmps[t]?.getD undef = x := by simpa using hx
  have hy' : tmps[t2]?.getD undef = y := by simpa using hy
  simp [results, h, hp', hx', hy', asAddr, run_loadVar_row w g 43 43 (tabA s p u v) (0, 0) _ hg Try.underlying43 rfl (by rw [tabA_size]; exact sizeT)]
theorem results_P1 {fn : Func} {c : Tmp} (h : fn.results = #[.cell c 28]) (tmps : Array Value) (w : World) (g : Nat) {r : Pe}
    (hp : tmps.getD c undef = .pointer (some ⟨g, 0, none⟩)) (hg : PB w g r) : (results fn tmps).run Try.prog w = .ok (.agg (peA r)) w := by
  have hp' : tmps[c]?.getD undef = .pointer (some ⟨g, 0, none⟩) := by simpa using hp
  simp [results, h, hp', asAddr, run_loadVar_row w g 28 28 (peA r) (0, 0) _ hg Try.underlying28 rfl (by rw [peA_size]; exact sizeP)]
theorem results_P2 {fn : Func} {c t : Tmp} (h : fn.results = #[.cell c 28, .tmp t]) (tmps : Array Value) (w : World) (g : Nat) {r : Pe} (x : Value)
    (hp : tmps.getD c undef = .pointer (some ⟨g, 0, none⟩)) (hx : tmps.getD t undef = x) (hg : PB w g r) : (results fn tmps).run Try.prog w = .ok (.tuple #[.agg (peA r), x]) w := by
  have hp' : tmps[c]?.getD undef = .pointer (some ⟨g, 0, none⟩) := by simpa using hp
  have hx' : tmps[t]?.getD undef = x := by simpa using hx
  simp [results, h, hp', hx', asAddr, run_loadVar_row w g 28 28 (peA r) (0, 0) _ hg Try.underlying28 rfl (by rw [peA_size]; exact sizeP)]
theorem p_buildNone {ops : Array Oper} {rest : List Oper} {o : Oper} {a : Act} {w : World} {Q : Exit → Act → World → Prop} (hgd : o.guard = none) (ho : o.op = .build 28 #[(0, .const (.int .i64 (-1)))])
    (h : wpList Try.prog ops Q rest (a.put o.dst (.agg (peA (-1, 0)))) w) : wpList Try.prog ops Q (o :: rest) a w := by
  refine wpList_plain hgd fun K hK => ?_
  have e := run_build (P := Try.prog) w 28 #[(0, .int .i64 (-1))] _ builtNone
  unfold Oper.wp execOp
  simp only [ho, List.map_toArray, List.map_cons, List.map_nil, Act.eval, Sem.run_bind, e, Sem.run_pure, Result.andThen_ok]
  exact hK _ _ h
/-- a value that stands for a table -/
def IsT (w : World) (t : Value) (T : Tb) : Prop := ∃ u v, t = .agg (tabA T.s T.p u v) ∧ Lies w u T.S ∧ Lies w v T.F
theorem IsT.bel {w w' : World} {t : Value} {T : Tb} (h : IsT w t T) (hb : Below w.heap.size w w') : IsT w' t T := by
  obtain ⟨u, v, h1, h2, h3⟩ := h
  exact ⟨u, v, h1, h2.bel hb, h3.bel hb⟩
theorem TB.zero (w : World) : TB (w.alloc (.cells (tabA (0, 0) (0, 0) nilS nilS) 43)) w.heap.size (0, 0) (0, 0) nilS nilS := Blk.new ..
theorem lies_nil (w : World) : Lies w nilS [] := .inl ⟨⟨_, rfl⟩, rfl⟩
end Go.Proofs.Ytfajfmcabpmchaa
