/- Rows of tables, and routes, in memory. -/
import Derived.Test.YtfajfmcabpmchaaWalNum
import Derived.Test.YtfajfmcabpmchaaWalMap
namespace Go.Proofs.Ytfajfmcabpmchaa
set_option maxRecDepth 100000
open Go Go.RowKit Go.Sort

/-- a table, and its rows' values -/
structure Tv where
  t : Tb
  u : Value
  v : Value
abbrev tvA (x : Tv) : Array Value := tabA x.t.s x.t.p x.u x.v
abbrev tvC (x : Tv) : List Value := tabC x.t.s x.t.p x.u x.v
def tv0 : Tv := ⟨tb0, nilS, nilS⟩
def flatV : List Tv → List Value
  | [] => []
  | x :: X => tvC x ++ flatV X
theorem flatV_length (X : List Tv) : (flatV X).length = X.length * 44 := by
  induction X with
  | nil => rfl
  | cons x X ih => rw [flatV, List.length_append, ih, tabC_length, List.length_cons]; omega
theorem flatV_append (X Y : List Tv) : flatV (X ++ Y) = flatV X ++ flatV Y := by
  induction X with
  | nil => rfl
  | cons x X ih => rw [List.cons_append, flatV, flatV, ih, List.append_assoc]
theorem flatV_single (x : Tv) : flatV [x] = tvC x := List.append_nil _
theorem flatV_get {X : List Tv} {j : Nat} {x : Tv} (h : X[j]? = some x) (k : Nat) (hk : k < 44) : (flatV X)[j * 44 + k]? = (tvC x)[k]? := by
  induction X generalizing j with
  | nil => simp at h
  | cons y X ih =>
    cases j with
    | zero =>
      simp only [List.getElem?_cons_zero, Option.some.injEq] at h
      subst h
      rw [flatV, Nat.zero_mul, Nat.zero_add, List.getElem?_append_left (by rw [tabC_length]; exact hk)]
    | succ j =>
      rw [flatV, List.getElem?_append_right (by rw [tabC_length]; omega), tabC_length, show (j + 1) * 44 + k - 44 = j * 44 + k by omega]
      exact ih (by simpa using h)
theorem row_tv {w : World} {b o : Nat} {X : List Tv} (h : w.rangeAt b o (flatV X)) {j : Nat} {x : Tv} (hj : X[j]? = some x) : w.rangeAt b (o + j * 44) (tvC x) := fun i v hv => by
  have hi : i < 44 := by have := (List.getElem?_eq_some_iff.1 hv).1; rwa [tabC_length] at this
  have := h _ v ((flatV_get hj i hi).trans hv)
  rwa [show o + (j * 44 + i) = o + j * 44 + i by omega] at this
/-- the rows of the tables lie -/
def Ins (w : World) (X : List Tv) : Prop := ∀ x ∈ X, Lies w x.u x.t.S ∧ Lies w x.v x.t.F
theorem Ins.bel {w w' : World} {X : List Tv} (h : Ins w X) (hb : Below w.heap.size w w') : Ins w' X := fun x hx => ⟨(h x hx).1.bel hb, (h x hx).2.bel hb⟩
theorem Ins.get {w : World} {X : List Tv} (h : Ins w X) {i : Nat} {x : Tv} (hx : X[i]? = some x) : Lies w x.u x.t.S ∧ Lies w x.v x.t.F := h x (List.mem_of_getElem? hx)
/-- v reads as the tables X -/
structure LiesT (w : World) (v : Value) (X : List Tv) : Prop where
  row : ((∃ a, v = .slice a 0 0) ∧ X = []) ∨ ∃ b o c, v = .slice (some ⟨b, o, none⟩) X.length c ∧ X.length ≤ c ∧ w.rangeAt b o (flatV X)
  ins : Ins w X
theorem tv_ne (x : Tv) : tvC x ≠ [] := by intro h; have := tabC_length x.t.s x.t.p x.u x.v; rw [show tabC x.t.s x.t.p x.u x.v = [] from h] at this; simp at this
theorem LiesT.form {w : World} {v : Value} {X : List Tv} (h : LiesT w v X) : ∃ a c, v = .slice a X.length c := by
  rcases h.row with ⟨⟨_, rfl⟩, rfl⟩ | ⟨b, o, c, rfl, _⟩
  · exact ⟨_, _, rfl⟩
  · exact ⟨_, _, rfl⟩
theorem LiesT.at {w : World} {v : Value} {X : List Tv} (h : LiesT w v X) {i : Nat} {x : Tv} (hx : X[i]? = some x) : ∃ b o c, v = .slice (some ⟨b, o, none⟩) X.length c ∧ X.length ≤ c ∧ w.rangeAt b (o + i * 44) (tvC x) ∧ b < w.heap.size := by
  rcases h.row with ⟨_, rfl⟩ | ⟨b, o, c, h1, h2, h3⟩
  · simp at hx
  · exact ⟨b, o, c, h1, h2, row_tv h3 hx, range_lt (row_tv h3 hx) (tv_ne x)⟩
theorem LiesT.bel {w w' : World} {v : Value} {X : List Tv} (h : LiesT w v X) (hb : Below w.heap.size w w') : LiesT w' v X := by
  refine ⟨?_, h.ins.bel hb⟩
  rcases h.row with h | ⟨b, o, c, h1, h2, h3⟩
  · exact .inl h
  · refine .inr ⟨b, o, c, h1, h2, ?_⟩
    cases X with
    | nil => intro j u hu; simp [flatV] at hu
    | cons x X => exact range_bel h3 hb (range_lt (row_tv (j := 0) h3 rfl) (tv_ne x))
theorem tabsAt {w : World} {b o n c : Nat} {X : List Tv} {k : Nat} {x : Tv} (h : LiesT w (.slice (some ⟨b, o, none⟩) n c) X) (hx : X[k]? = some x) : w.rangeAt b (o + k * 44) (tvC x) := by
  obtain ⟨b', o', c', e1, _, r1, _⟩ := h.at hx
  simp only [Value.slice.injEq, Option.some.injEq, Addr.mk.injEq, and_true] at e1
  obtain ⟨⟨rfl, rfl⟩, _, rfl⟩ := e1
  exact r1
theorem tv_ad {w : World} {g o : Nat} {x : Tv} (h : w.rangeAt g o (tvC x)) : w.cell? ⟨g, o, none⟩ = some (.int .i64 x.t.s.1) := h 0 _ rfl
theorem tv_self {w : World} {g o : Nat} {x : Tv} (h : w.rangeAt g o (tvC x)) : w.rangeAt g o (peC x.t.s) := range_app1 h
theorem tab_at {X : List Tv} {k : Nat} (h : k < X.length) : X[k]? = some (X.getD k tv0) := by
  rw [List.getD_eq_getElem?_getD, List.getElem?_eq_getElem h]; rfl
def tabsOf (X : List Tv) : List Tb := X.map (·.t)
theorem tabsOf_get {X : List Tv} {i : Nat} {x : Tv} (h : X[i]? = some x) : (tabsOf X)[i]? = some x.t := by unfold tabsOf; rw [List.getElem?_map, h]; rfl
theorem tabsOf_getD {X : List Tv} {i : Nat} {x : Tv} (h : X[i]? = some x) : (tabsOf X).getD i tb0 = x.t := by rw [List.getD_eq_getElem?_getD, tabsOf_get h]; rfl
theorem tabsOf_length (X : List Tv) : (tabsOf X).length = X.length := by unfold tabsOf; simp
theorem tabsOf_take (X : List Tv) (i : Nat) : (tabsOf X).take i = tabsOf (X.take i) := by unfold tabsOf; rw [List.map_take]
def findV (X : List Tv) (a : Int) : Option Tv := X.find? fun x => decide (x.t.s.1 = a)
theorem findV_T (X : List Tv) (a : Int) : findT (tabsOf X) a = (findV X a).map (·.t) := by
  unfold findT findV tabsOf
  rw [List.find?_map]; rfl
theorem findV_mem {X : List Tv} {a : Int} {x : Tv} (h : findV X a = some x) : x ∈ X := by unfold findV at h; exact List.mem_of_find?_eq_some h
theorem findV_snoc {X : List Tv} {i : Nat} {x : Tv} (h : X[i]? = some x) (a : Int) : findV (X.take (i + 1)) a = (findV (X.take i) a).or (if x.t.s.1 = a then some x else none) := by
  obtain ⟨hi, he⟩ := List.getElem?_eq_some_iff.1 h
  unfold findV
  rw [List.take_succ_eq_append_getElem hi, List.find?_append, he]
  congr 1
  by_cases h : x.t.s.1 = a <;> simp [h]

/-! loads of tables from the middle of a row -/
theorem p_rowT {ops : Array Oper} {rest : List Oper} {o : Oper} {a : Act} {w : World} {Q : Exit → Act → World → Prop} (hgd : o.guard = none) (x : Operand) (ho : o.op = .load 43 x)
    (g i : Nat) (hx : a.eval x = .pointer (some ⟨g, i, none⟩)) (y : Tv) (hg : w.rangeAt g i (tvC y))
    (h : wpList Try.prog ops Q rest (a.put o.dst (.agg (tvA y))) w) : wpList Try.prog ops Q (o :: rest) a w :=
  wpList_load_mid hgd 43 x ho g i hx (tvC y) _ hg Try.underlying43 rfl (by rw [tabC_length]; exact sizeT) h
theorem o_rowT {o : Oper} {a : Act} {w : World} {K : Act → World → Prop} {Q : Exit → Act → World → Prop} (x : Operand) (ho : o.op = .load 43 x)
    (g i : Nat) (hx : a.eval x = .pointer (some ⟨g, i, none⟩)) (y : Tv) (hg : w.rangeAt g i (tvC y)) (h : K (a.put o.dst (.agg (tvA y))) w) : o.wp Try.prog a w K Q :=
  wp_load_mid 43 x ho g i hx (tvC y) _ hg Try.underlying43 rfl (by rw [tabC_length]; exact sizeT) h
theorem q_rowT {W : World} {o : Oper} {a : Act} {K : Act → Prop} (x : Operand) (ho : o.op = .load 43 x) (g i : Nat) (hx : a.eval x = .pointer (some ⟨g, i, none⟩)) (y : Tv)
    (hg : W.rangeAt g i (tvC y)) (hk : K (a.put o.dst (.agg (tvA y)))) : o.quiet Try.prog a (fun w' => ∃ p : Regrown, w' = grow (redrawn W p.d) p.os) K := by
  refine ⟨.agg (tvA y), ?_, hk⟩
  rintro w' ⟨r, rfl⟩
  have hg' : (grow (redrawn W r.d) r.os).rangeAt g i (tvC y) := range_bel hg (below_regrown W r.d r.os) (range_lt hg (tv_ne y))
  unfold Oper.quietAt execOp
  simp only [ho, hx, Instr.loadAt, Instr.sureAddr, Sem.run_bind, run_loadVar_mid _ g i 43 (tvC y) _ hg' Try.underlying43 rfl (by rw [tabC_length]; exact sizeT), Sem.run_pure, Result.andThen_ok]
  exact ⟨rfl, rfl⟩
theorem y_rowT {ops : Array Oper} {S : World → Prop} {op : Oper} {a : Act} (hw : Region.wanted op (yielded ops a.tmps) = true) (x : Operand) (ho : op.op = .load 43 x)
    (b i : Nat) (hx : a.eval x = .pointer (some ⟨b, i, none⟩)) (y : Tv) (hS : ∀ w, S w → w.rangeAt b i (tvC y)) : YieldsIf Try.prog ops S op (.agg (tvA y)) a :=
  yieldsIf_load_mid (P := Try.prog) hw 43 x ho b i hx (tvC y) _ hS Try.underlying43 rfl (by rw [tabC_length]; exact sizeT)
theorem zeroTab (w : World) : (zeroValue 43).run Try.prog w = .ok (.agg (tvA tv0)) w := by kernel_rfl

/-! routes -/
def rtC (h : Value) (e : Pe) : List Value := h :: peC e
def rtA (h : Value) (e : Pe) : Array Value := (rtC h e).toArray
theorem rtC_length (h : Value) (e : Pe) : (rtC h e).length = 22 := by unfold rtC; rw [List.length_cons, peC_length]
theorem rtA_size (h : Value) (e : Pe) : (rtA h e).size = 22 := by unfold rtA; rw [List.size_toArray, rtC_length]
theorem rtA_list (h : Value) (e : Pe) : (rtA h e).toList = rtC h e := rfl
theorem rtA_one {h : Value} (e : Pe) (hh : h.oneCell' = true) : (rtA h e).all (·.oneCell') = true := by
  rw [Array.all_eq_true_iff_forall_mem]
  intro x hx
  rw [rtA, List.mem_toArray, rtC, List.mem_cons] at hx
  rcases hx with rfl | hx
  · exact hh
  · exact peC_one e x hx
theorem sizeR : (Try.prog.info? 30).map (·.size) = some 22 := by kernel_rfl
theorem sizeN : (Try.prog.info? 26).map (·.size) = some 1 := by kernel_rfl
theorem builtR0 : Try.prog.built 30 [] = some (rtA nilS (0, 0)) := by kernel_rfl
theorem builtR1 (a : Option Addr) (n c : Nat) : Try.prog.built 30 [(0, .slice a n c)] = some (rtA (.slice a n c) (0, 0)) := by kernel_rfl
theorem builtR2 (a : Option Addr) (n c : Nat) (e : Pe) : Try.prog.built 30 [(0, .slice a n c), (1, .agg (peA e))] = some (rtA (.slice a n c) e) := by kernel_rfl
theorem route_zero : (#[Value.slice none 0 0, Value.int IntKind.i64 0, Value.int IntKind.u8 0, Value.int IntKind.u8 0, Value.int IntKind.u8 0, Value.int IntKind.u8 0, Value.int IntKind.u8 0, Value.int IntKind.u8 0, Value.int IntKind.u8 0, Value.int IntKind.u8 0, Value.int IntKind.u8 0, Value.int IntKind.u8 0, Value.int IntKind.u8 0, Value.int IntKind.u8 0, Value.int IntKind.u8 0, Value.int IntKind.u8 0, Value.int IntKind.u8 0, Value.int IntKind.u8 0, Value.int IntKind.u8 0, Value.int IntKind.u8 0, Value.int IntKind.u8 0, Value.int IntKind.u8 0] : Array Value) = rtA nilS (0, 0) := by kernel_rfl
/-- the route stands in block g -/
def RB (w : World) (g : Nat) (h : Value) (e : Pe) : Prop := Blk w g (rtA h e) 30
theorem RB.lt {w : World} {g : Nat} {h : Value} {e : Pe} (k : RB w g h e) : g < w.heap.size := Blk.lt k
theorem RB.bel {w w' : World} {g : Nat} {h : Value} {e : Pe} (k : RB w g h e) (hb : Below w.heap.size w w') : RB w' g h e := Blk.below k hb k.lt
theorem RB.ch {w : World} {g : Nat} {h : Value} {e : Pe} (k : RB w g h e) : w.cell? ⟨g, 0, none⟩ = some h := Blk.cell k 0
theorem RB.range {w : World} {g : Nat} {h : Value} {e : Pe} (k : RB w g h e) : w.rangeAt g 0 (rtC h e) := blk_range k
theorem RB.pe {w : World} {g : Nat} {h : Value} {e : Pe} (k : RB w g h e) : w.rangeAt g 1 (peC e) := by
  have := range_app2 (A := [h]) (n := 1) k.range rfl; rwa [Nat.zero_add] at this
theorem RB.new (w : World) (h : Value) (e : Pe) : RB (w.alloc (.cells (rtA h e) 30)) w.heap.size h e := Blk.new ..
theorem RB.set {w : World} {g : Nat} {h : Value} {e : Pe} (k : RB w g h e) (h' : Value) (e' : Pe) : RB (w.setRow g (rtA h' e')) g h' e' := Blk.setRow k _
theorem RB.row {w : World} {g j : Nat} {h : Value} {e : Pe} (k : RB w g h e) (cs : Array Value) (hne : g ≠ j) : RB (w.setRow j cs) g h e := Blk.setRow_other k j cs hne
theorem p_buildR0 {ops : Array Oper} {rest : List Oper} {o : Oper} {a : Act} {w : World} {Q : Exit → Act → World → Prop} (hgd : o.guard = none) (ho : o.op = .build 30 #[])
    (h : wpList Try.prog ops Q rest (a.put o.dst (.agg (rtA nilS (0, 0)))) w) : wpList Try.prog ops Q (o :: rest) a w := by
  refine wpList_plain hgd fun K hK => ?_
  have e := run_build (P := Try.prog) w 30 #[] _ builtR0
  unfold Oper.wp execOp
  simp only [ho, List.map_toArray, List.map_nil, Sem.run_bind, e, Sem.run_pure, Result.andThen_ok]
  exact hK _ _ h
theorem p_buildR1 {ops : Array Oper} {rest : List Oper} {o : Oper} {a : Act} {w : World} {Q : Exit → Act → World → Prop} (hgd : o.guard = none) (x : Operand) (ho : o.op = .build 30 #[(0, x)])
    (d : Option Addr) (n c : Nat) (hx : a.eval x = .slice d n c) (h : wpList Try.prog ops Q rest (a.put o.dst (.agg (rtA (.slice d n c) (0, 0)))) w) : wpList Try.prog ops Q (o :: rest) a w := by
  refine wpList_plain hgd fun K hK => ?_
  have e := run_build (P := Try.prog) w 30 #[(0, .slice d n c)] _ (builtR1 d n c)
  unfold Oper.wp execOp
  simp only [ho, List.map_toArray, List.map_cons, List.map_nil, hx, Sem.run_bind, e, Sem.run_pure, Result.andThen_ok]
  exact hK _ _ h
theorem p_buildR2 {ops : Array Oper} {rest : List Oper} {o : Oper} {a : Act} {w : World} {Q : Exit → Act → World → Prop} (hgd : o.guard = none) (x y : Operand) (ho : o.op = .build 30 #[(0, x), (1, y)])
    (d : Option Addr) (n c : Nat) (hx : a.eval x = .slice d n c) (p : Pe) (hy : a.eval y = .agg (peA p)) (h : wpList Try.prog ops Q rest (a.put o.dst (.agg (rtA (.slice d n c) p))) w) : wpList Try.prog ops Q (o :: rest) a w := by
  refine wpList_plain hgd fun K hK => ?_
  have e := run_build (P := Try.prog) w 30 #[(0, .slice d n c), (1, .agg (peA p))] _ (builtR2 d n c p)
  unfold Oper.wp execOp
  simp only [ho, List.map_toArray, List.map_cons, List.map_nil, hx, hy, Sem.run_bind, e, Sem.run_pure, Result.andThen_ok]
  exact hK _ _ h
/-- a whole route is stored, into a block that there is, or into the last one -/
theorem p_putR {ops : Array Oper} {rest : List Oper} {op : Oper} {a : Act} {w : World} {Q : Exit → Act → World → Prop} (hgd : op.guard = none) (x y : Operand) (ho : op.op = .store 30 x y)
    (g : Nat) (hx : a.eval x = .pointer (some ⟨g, 0, none⟩)) {h' : Value} {e' : Pe} (hy : a.eval y = .agg (rtA h' e')) (hh : h'.oneCell' = true) {h0 : Value} {e0 : Pe} (hg : RB w g h0 e0)
    (h : wpList Try.prog ops Q rest (a.put op.dst undef) (w.setRow g (rtA h' e'))) : wpList Try.prog ops Q (op :: rest) a w :=
  wpList_store_row hgd 30 x y ho g (rtA h' e') hx hy 30 (rtA h0 e0) hg (by rw [rtA_size]; exact sizeR) (by rw [rtA_size, rtA_size]) (rtA_one e' hh) h
theorem p_storeR {ops : Array Oper} {rest : List Oper} {o : Oper} {a : Act} {w : World} {Q : Exit → Act → World → Prop} {Z : Array Value} (hz : Z.size = 22) (hgd : o.guard = none) (x y : Operand) (ho : o.op = .store 30 x y)
    {h' : Value} {e' : Pe} (hx : a.eval x = .pointer (some ⟨w.heap.size, 0, none⟩)) (hy : a.eval y = .agg (rtA h' e')) (hh : h'.oneCell' = true)
    (h : wpList Try.prog ops Q rest (a.put o.dst undef) (w.alloc (.cells (rtA h' e') 30))) : wpList Try.prog ops Q (o :: rest) a (w.alloc (.cells Z 30)) :=
  wpList_store_newrow hgd 30 x y ho (rtA h' e') hx hy (by rw [rtA_size]; exact sizeR) (rtA_one e' hh) (by rw [hz, rtA_size]) h
theorem p_storeRn {ops : Array Oper} {rest : List Oper} {o : Oper} {a : Act} {w : World} {Q : Exit → Act → World → Prop} {Z : Array Value} (g : Nat) (hg : w.heap.size = g) (hz : Z.size = 22) (hgd : o.guard = none) (x y : Operand) (ho : o.op = .store 30 x y)
    {h' : Value} {e' : Pe} (hx : a.eval x = .pointer (some ⟨g, 0, none⟩)) (hy : a.eval y = .agg (rtA h' e')) (hh : h'.oneCell' = true)
    (h : wpList Try.prog ops Q rest (a.put o.dst undef) (w.alloc (.cells (rtA h' e') 30))) : wpList Try.prog ops Q (o :: rest) a (w.alloc (.cells Z 30)) := by
  subst hg
  exact p_storeR hz hgd x y ho hx hy hh h
theorem p_midR {ops : Array Oper} {rest : List Oper} {o : Oper} {a : Act} {w : World} {Q : Exit → Act → World → Prop} (hgd : o.guard = none) (x : Operand) (ho : o.op = .load 30 x)
    (g : Nat) (hx : a.eval x = .pointer (some ⟨g, 0, none⟩)) {h0 : Value} {e0 : Pe} (hg : RB w g h0 e0)
    (h : wpList Try.prog ops Q rest (a.put o.dst (.agg (rtA h0 e0))) w) : wpList Try.prog ops Q (o :: rest) a w :=
  wpList_load_mid hgd 30 x ho g 0 hx (rtC h0 e0) _ hg.range Try.underlying30 rfl (by rw [rtC_length]; exact sizeR) h
theorem o_midR {o : Oper} {a : Act} {w : World} {K : Act → World → Prop} {Q : Exit → Act → World → Prop} (x : Operand) (ho : o.op = .load 30 x)
    (g : Nat) (hx : a.eval x = .pointer (some ⟨g, 0, none⟩)) {h0 : Value} {e0 : Pe} (hg : RB w g h0 e0) (h : K (a.put o.dst (.agg (rtA h0 e0))) w) : o.wp Try.prog a w K Q :=
  wp_load_mid 30 x ho g 0 hx (rtC h0 e0) _ hg.range Try.underlying30 rfl (by rw [rtC_length]; exact sizeR) h
/-- the fields of a route are stored -/
theorem p_putRE {ops : Array Oper} {rest : List Oper} {op : Oper} {a : Act} {w : World} {Q : Exit → Act → World → Prop} (hgd : op.guard = none) (x y : Operand) (ho : op.op = .store 28 x y)
    (g : Nat) (hx : a.eval x = .pointer (some ⟨g, 1, none⟩)) (r : Pe) (hy : a.eval y = .agg (peA r)) {h0 : Value} {e0 : Pe} (hg : RB w g h0 e0)
    (h : wpList Try.prog ops Q rest (a.put op.dst undef) (w.setRow g (rtA h0 r))) : wpList Try.prog ops Q (op :: rest) a w := by
  have hc : (Value.agg (peA r)).cells = peA r := rfl
  refine p_into hgd 28 x y ho g 1 hx _ hy (rtA h0 e0) 30 hg (by rw [hc, peA_size]; exact sizeP) (by rw [hc, rtA_size, peA_size]; decide) (by rw [hc]; exact peA_one r) _ ?_ h
  rw [hc, rtA_list, peA_size, peA_list]
  unfold rtA rtC
  rw [show 1 + 21 = 21 + 1 from rfl, List.drop_succ_cons, List.take_succ_cons, List.take_zero, List.drop_eq_nil_of_le (by rw [peC_length]; omega), List.append_nil]; rfl
theorem p_putRH {ops : Array Oper} {rest : List Oper} {op : Oper} {a : Act} {w : World} {Q : Exit → Act → World → Prop} (hgd : op.guard = none) (x y : Operand) (ho : op.op = .store 26 x y)
    (g : Nat) (hx : a.eval x = .pointer (some ⟨g, 0, none⟩)) (r : Value) (hy : a.eval y = r) (hr : r.oneCell' = true) {h0 : Value} {e0 : Pe} (hg : RB w g h0 e0)
    (h : wpList Try.prog ops Q rest (a.put op.dst undef) (w.setRow g (rtA r e0))) : wpList Try.prog ops Q (op :: rest) a w := by
  have hc := one_cells hr
  refine p_into hgd 26 x y ho g 0 hx r hy (rtA h0 e0) 30 hg (by rw [hc]; exact sizeN) (by rw [hc, rtA_size]; exact Nat.le_of_ble_eq_true rfl) (by rw [hc]; simp [hr]) _ ?_ h
  rw [hc, rtA_list]
  unfold rtA rtC
  rfl
theorem results_R2 {fn : Func} {c t : Tmp} (h : fn.results = #[.cell c 30, .tmp t]) (tmps : Array Value) (w : World) (g : Nat) {h0 : Value} {e0 : Pe} (x : Value)
    (hp : tmps.getD c undef = .pointer (some ⟨g, 0, none⟩)) (hx : tmps.getD t undef = x) (hg : RB w g h0 e0) : (results fn tmps).run Try.prog w = .ok (.tuple #[.agg (rtA h0 e0), x]) w := by
  have hp' : tmps[c]?.getD undef = .pointer (some ⟨g, 0, none⟩) := by simpa using hp
  have hx' : tmps[t]?.getD undef = x := by simpa using hx
  simp [results, h, hp', hx', asAddr, run_loadVar_row w g 30 30 (rtA h0 e0) (0, 0) _ hg Try.underlying30 rfl (by rw [rtA_size]; exact sizeR)]
end Go.Proofs.Ytfajfmcabpmchaa
