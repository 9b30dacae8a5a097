/- A letter in memory: its parts, loads and stores. -/
import Derived.Test.YtplcdjmidelboaaLetNum
import Derived.Test.YtplcdjmidelboaaCirMem
import Derived.Test.YtplcdjmidelboaaWirMem
import Derived.Deep.MidRow
namespace Go.Proofs.Ytplcdjmidelboaa
set_option maxRecDepth 100000
open Go Go.RowKit Go.Sort

abbrev nilS : Value := .slice none 0 0
def ints (l : List Int) : List Value := l.map (Value.int .i64)
/-- v reads as the numbers A -/
def Nums (w : World) (v : Value) (A : List Int) : Prop := (v = .slice none 0 0 ∧ A = []) ∨ ∃ b o c, v = .slice (some ⟨b, o, none⟩) A.length c ∧ w.rangeAt b o (ints A)
theorem Nums.form {w : World} {v : Value} {A : List Int} (h : Nums w v A) : ∃ a c, v = .slice a A.length c := by
  rcases h with ⟨rfl, rfl⟩ | ⟨b, o, c, rfl, _⟩
  · exact ⟨_, _, rfl⟩
  · exact ⟨_, _, rfl⟩
theorem ints_get (A : List Int) (i : Nat) (h : i < A.length) : (ints A)[i]? = some (.int .i64 (A.getD i 0)) := by
  unfold ints
  rw [List.getElem?_map, List.getD_eq_getElem?_getD, List.getElem?_eq_getElem h]; rfl
theorem Nums.some {w : World} {v : Value} {A : List Int} (h : Nums w v A) (hn : 0 < A.length) : ∃ b o c, v = .slice (some ⟨b, o, none⟩) A.length c ∧ w.rangeAt b o (ints A) ∧ b < w.heap.size := by
  rcases h with ⟨_, rfl⟩ | ⟨b, o, c, rfl, hr⟩
  · simp at hn
  · exact ⟨b, o, c, rfl, hr, World.block_lt_of_cell? w _ (hr 0 _ (ints_get A 0 hn))⟩
theorem nums_cell {w : World} {b o : Nat} {A : List Int} (h : w.rangeAt b o (ints A)) {i : Nat} (hi : i < A.length) : w.cell? ⟨b, o + i, none⟩ = some (.int .i64 (A.getD i 0)) := h i _ (ints_get A i hi)
theorem Nums.bel {w w' : World} {v : Value} {A : List Int} (h : Nums w v A) (hb : Below w.heap.size w w') : Nums w' v A := by
  rcases h with h | ⟨b, o, c, h1, h3⟩
  · exact .inl h
  · refine .inr ⟨b, o, c, h1, ?_⟩
    by_cases he : A = []
    · subst he; intro j u hu; simp [ints] at hu
    · exact range_bel h3 hb (range_lt h3 (by intro e; apply he; simpa [ints] using e))
theorem nums_nil (w : World) : Nums w nilS [] := .inl ⟨rfl, rfl⟩
theorem Nums.one {w : World} {v : Value} {A : List Int} (h : Nums w v A) : v.oneCell' = true := by obtain ⟨a, c, rfl⟩ := h.form; rfl
theorem own_nums {w : World} {B e : Nat} {v : Value} {A : List Int} (h : w.ownsRow B e 1 v A.length (ints A)) : Nums w v A := by
  rcases own_shape h with ⟨h1, h2⟩ | ⟨b, c, h1, h2, _, h4, _⟩
  · exact .inl ⟨h1, List.eq_nil_of_length_eq_zero h2⟩
  · exact .inr ⟨b, 0, c, h1, h4⟩
/-- a letter's cells -/
def ltC (l : Lt) (u v : Value) : List Value := .int .i64 l.kind :: (peC l.fr ++ (.int .u64 (l.req : Int) :: ((row (dig 20 l.id)).toList ++ (u :: .bool l.done :: (peC l.peer ++ [v])))))
def ltA (l : Lt) (u v : Value) : Array Value := (ltC l u v).toArray
theorem idC_length (n : Nat) : (row (dig 20 n)).toList.length = 20 := by rw [Array.length_toList, row_size, dig_length]
theorem ltC_length (l : Lt) (u v : Value) : (ltC l u v).length = 67 := by simp [ltC, peC_length, row_size, dig_length]
theorem ltA_size (l : Lt) (u v : Value) : (ltA l u v).size = 67 := by unfold ltA; rw [List.size_toArray, ltC_length]
theorem ltA_list (l : Lt) (u v : Value) : (ltA l u v).toList = ltC l u v := rfl
theorem id_one (n : Nat) : ∀ x ∈ (row (dig 20 n)).toList, x.oneCell' = true := by
  intro x hx
  simp only [row, List.mem_map] at hx
  obtain ⟨k, _, rfl⟩ := hx
  rfl
theorem ltA_one {l : Lt} {u v : Value} (hu : u.oneCell' = true) (hv : v.oneCell' = true) : (ltA l u v).all (·.oneCell') = true := by
  rw [Array.all_eq_true_iff_forall_mem]
  intro x hx
  rw [ltA, List.mem_toArray] at hx
  simp only [ltC, List.mem_cons, List.mem_append, List.not_mem_nil, or_false] at hx
  rcases hx with rfl | hx | rfl | hx | rfl | rfl | hx | rfl
  · rfl
  · exact peC_one _ x hx
  · rfl
  · exact id_one _ x hx
  · exact hu
  · rfl
  · exact peC_one _ x hx
  · exact hv
theorem sizeLt : (Try.prog.info? 30).map (·.size) = some 67 := by kernel_rfl
def zeroL : Lt := { kind := 0, fr := (0, 0), req := 0, id := 0, avoid := [], done := false, peer := (0, 0), peers := [] }
theorem built0 : Try.prog.built 30 [] = some (ltA zeroL nilS nilS) := by kernel_rfl
theorem built1 (p : Pe) : Try.prog.built 30 [(6, .agg (peA p))] = some (ltA { zeroL with peer := p } nilS nilS) := by kernel_rfl
theorem built3 (k : Int) (f p : Pe) : Try.prog.built 30 [(0, .int .i64 k), (1, .agg (peA f)), (6, .agg (peA p))] = some (ltA { zeroL with kind := k, fr := f, peer := p } nilS nilS) := by kernel_rfl

/-- the letter stands in block g; u and v are its rows -/
def LB (w : World) (g : Nat) (l : Lt) (u v : Value) : Prop := Blk w g (ltA l u v) 30
theorem LB.lt {w : World} {g : Nat} {l : Lt} {u v : Value} (h : LB w g l u v) : g < w.heap.size := Blk.lt h
theorem LB.bel {w w' : World} {g : Nat} {l : Lt} {u v : Value} (h : LB w g l u v) (hb : Below w.heap.size w w') : LB w' g l u v := Blk.below h hb h.lt
theorem LB.new (w : World) (l : Lt) (u v : Value) : LB (w.alloc (.cells (ltA l u v) 30)) w.heap.size l u v := Blk.new ..
theorem LB.keep {w w' : World} {g j : Nat} {l : Lt} {u v : Value} (h : LB w j l u v) (k : Keep w w' g g) (hj : j ≠ g) : LB w' j l u v := Blk.keep h k hj hj
theorem LB.range {w : World} {g : Nat} {l : Lt} {u v : Value} (h : LB w g l u v) : w.rangeAt g 0 (ltC l u v) := blk_range h
theorem range_app1 {w : World} {g o : Nat} {A B : List Value} (h : w.rangeAt g o (A ++ B)) : w.rangeAt g o A := fun j v hv => h j v (by
  have := (List.getElem?_eq_some_iff.1 hv).1
  rw [List.getElem?_append_left this]; exact hv)
theorem range_app2 {w : World} {g o n : Nat} {A B : List Value} (h : w.rangeAt g o (A ++ B)) (hn : A.length = n) : w.rangeAt g (o + n) B := fun j v hv => by
  have := h (n + j) v (by rw [List.getElem?_append_right (by omega), show n + j - A.length = j by omega]; exact hv)
  rwa [show o + (n + j) = o + n + j by omega] at this
theorem range_one {w : World} {g o : Nat} {x : Value} {B : List Value} (h : w.rangeAt g o (x :: B)) : w.cell? ⟨g, o, none⟩ = some x := h 0 x rfl
theorem range_tail {w : World} {g o : Nat} {x : Value} {B : List Value} (h : w.rangeAt g o (x :: B)) : w.rangeAt g (o + 1) B := range_app2 (A := [x]) h rfl
theorem LB.kind {w : World} {g : Nat} {l : Lt} {u v : Value} (h : LB w g l u v) : w.cell? ⟨g, 0, none⟩ = some (.int .i64 l.kind) := range_one h.range
theorem LB.r1 {w : World} {g : Nat} {l : Lt} {u v : Value} (h : LB w g l u v) : w.rangeAt g 1 (peC l.fr ++ (.int .u64 (l.req : Int) :: ((row (dig 20 l.id)).toList ++ (u :: .bool l.done :: (peC l.peer ++ [v]))))) := range_tail h.range
theorem LB.fr {w : World} {g : Nat} {l : Lt} {u v : Value} (h : LB w g l u v) : w.rangeAt g 1 (peC l.fr) := range_app1 h.r1
theorem LB.frA {w : World} {g : Nat} {l : Lt} {u v : Value} (h : LB w g l u v) : w.cell? ⟨g, 1, none⟩ = some (.int .i64 l.fr.1) := pe_ad h.fr
theorem LB.r22 {w : World} {g : Nat} {l : Lt} {u v : Value} (h : LB w g l u v) : w.rangeAt g 22 (.int .u64 (l.req : Int) :: ((row (dig 20 l.id)).toList ++ (u :: .bool l.done :: (peC l.peer ++ [v])))) := range_app2 h.r1 (peC_length _)
theorem LB.req {w : World} {g : Nat} {l : Lt} {u v : Value} (h : LB w g l u v) : w.cell? ⟨g, 22, none⟩ = some (.int .u64 (l.req : Int)) := range_one h.r22
theorem LB.id {w : World} {g : Nat} {l : Lt} {u v : Value} (h : LB w g l u v) : w.rangeAt g 23 (row (dig 20 l.id)).toList := range_app1 (range_tail h.r22)
theorem LB.r43 {w : World} {g : Nat} {l : Lt} {u v : Value} (h : LB w g l u v) : w.rangeAt g 43 (u :: .bool l.done :: (peC l.peer ++ [v])) := range_app2 (range_tail h.r22) (idC_length _)
theorem LB.cu {w : World} {g : Nat} {l : Lt} {u v : Value} (h : LB w g l u v) : w.cell? ⟨g, 43, none⟩ = some u := range_one h.r43
theorem LB.done {w : World} {g : Nat} {l : Lt} {u v : Value} (h : LB w g l u v) : w.cell? ⟨g, 44, none⟩ = some (.bool l.done) := range_one (range_tail h.r43)
theorem LB.r45 {w : World} {g : Nat} {l : Lt} {u v : Value} (h : LB w g l u v) : w.rangeAt g 45 (peC l.peer ++ [v]) := range_tail (range_tail h.r43)
theorem LB.peer {w : World} {g : Nat} {l : Lt} {u v : Value} (h : LB w g l u v) : w.rangeAt g 45 (peC l.peer) := range_app1 h.r45
theorem LB.peerA {w : World} {g : Nat} {l : Lt} {u v : Value} (h : LB w g l u v) : w.cell? ⟨g, 45, none⟩ = some (.int .i64 l.peer.1) := pe_ad h.peer
theorem LB.cv {w : World} {g : Nat} {l : Lt} {u v : Value} (h : LB w g l u v) : w.cell? ⟨g, 66, none⟩ = some v := range_one (range_app2 h.r45 (peC_length _))
theorem LB.free {w : World} {g : Nat} {l : Lt} {u v : Value} (h : LB w g l u v) (i : Nat) : w.frozen? ⟨g, i, none⟩ = false := Blk.free h i
theorem LB.setL {w : World} {g : Nat} {l : Lt} {u v : Value} (h : LB w g l u v) (l' : Lt) (u' v' : Value) : LB (w.setRow g (ltA l' u' v')) g l' u' v' := Blk.setRow h _
theorem set_mid (A B : List Value) (x y : Value) : (A ++ x :: B).toArray.setIfInBounds A.length y = (A ++ y :: B).toArray := by simp
theorem LB.setKind {w : World} {g : Nat} {l : Lt} {u v : Value} (h : LB w g l u v) (k : Int) : LB (w.setCell ⟨g, 0, none⟩ (.int .i64 k)) g { l with kind := k } u v := by
  have := Blk.put h 0 (.int .i64 k)
  unfold ltA ltC at this
  rw [show (0 : Nat) = ([] : List Value).length from rfl, ← List.nil_append (_ :: _), set_mid] at this
  exact this
theorem LB.setReq {w : World} {g : Nat} {l : Lt} {u v : Value} (h : LB w g l u v) (k : Nat) : LB (w.setCell ⟨g, 22, none⟩ (.int .u64 (k : Int))) g { l with req := k } u v := by
  have := Blk.put h 22 (.int .u64 (k : Int))
  have e : (ltA l u v).setIfInBounds 22 (.int .u64 (k : Int)) = ltA { l with req := k } u v := by
    unfold ltA ltC
    have := set_mid (.int .i64 l.kind :: peC l.fr) ((row (dig 20 l.id)).toList ++ (u :: .bool l.done :: (peC l.peer ++ [v]))) (.int .u64 (l.req : Int)) (.int .u64 (k : Int))
    rw [List.length_cons, peC_length] at this
    exact this
  rw [e] at this
  exact this
theorem LB.setU {w : World} {g : Nat} {l : Lt} {u v : Value} (h : LB w g l u v) (A : List Int) (r : Value) : LB (w.setCell ⟨g, 43, none⟩ r) g { l with avoid := A } r v := by
  have := Blk.put h 43 r
  have e : (ltA l u v).setIfInBounds 43 r = ltA { l with avoid := A } r v := by
    unfold ltA ltC
    have := set_mid (.int .i64 l.kind :: (peC l.fr ++ (.int .u64 (l.req : Int) :: (row (dig 20 l.id)).toList))) (.bool l.done :: (peC l.peer ++ [v])) u r
    rw [List.length_cons, List.length_append, List.length_cons, peC_length, idC_length] at this
    simpa using this
  rw [e] at this
  exact this
theorem LB.setDone {w : World} {g : Nat} {l : Lt} {u v : Value} (h : LB w g l u v) (b : Bool) : LB (w.setCell ⟨g, 44, none⟩ (.bool b)) g { l with done := b } u v := by
  have := Blk.put h 44 (.bool b)
  have e : (ltA l u v).setIfInBounds 44 (.bool b) = ltA { l with done := b } u v := by
    unfold ltA ltC
    have := set_mid (.int .i64 l.kind :: (peC l.fr ++ (.int .u64 (l.req : Int) :: ((row (dig 20 l.id)).toList ++ [u])))) (peC l.peer ++ [v]) (.bool l.done) (.bool b)
    rw [List.length_cons, List.length_append, List.length_cons, List.length_append, peC_length, idC_length] at this
    simpa using this
  rw [e] at this
  exact this
theorem LB.setV {w : World} {g : Nat} {l : Lt} {u v : Value} (h : LB w g l u v) (A : List Pe) (r : Value) : LB (w.setCell ⟨g, 66, none⟩ r) g { l with peers := A } u r := by
  have := Blk.put h 66 r
  have e : (ltA l u v).setIfInBounds 66 r = ltA { l with peers := A } u r := by
    unfold ltA ltC
    have := set_mid (.int .i64 l.kind :: (peC l.fr ++ (.int .u64 (l.req : Int) :: ((row (dig 20 l.id)).toList ++ (u :: .bool l.done :: peC l.peer))))) [] v r
    rw [List.length_cons, List.length_append, List.length_cons, List.length_append, List.length_cons, List.length_cons, peC_length, peC_length, idC_length] at this
    simpa using this
  rw [e] at this
  exact this
/-- a peer in a block of its own -/
def PB (w : World) (g : Nat) (x : Pe) : Prop := Blk w g (peA x) 25
theorem PB.lt {w : World} {g : Nat} {x : Pe} (h : PB w g x) : g < w.heap.size := Blk.lt h
theorem PB.bel {w w' : World} {g : Nat} {x : Pe} (h : PB w g x) (hb : Below w.heap.size w w') : PB w' g x := Blk.below h hb h.lt
theorem PB.range {w : World} {g : Nat} {x : Pe} (h : PB w g x) : w.rangeAt g 0 (peC x) := blk_range h
theorem PB.A {w : World} {g : Nat} {x : Pe} (h : PB w g x) : w.cell? ⟨g, 0, none⟩ = some (.int .i64 x.1) := pe_ad h.range
theorem PB.I {w : World} {g : Nat} {x : Pe} (h : PB w g x) : w.rangeAt g 1 (row (dig 20 x.2)).toList := pe_id h.range
theorem PB.new (w : World) (x : Pe) : PB (w.alloc (.cells (peA x) 25)) w.heap.size x := Blk.new ..


/-! loads and stores -/
theorem p_midL {ops : Array Oper} {rest : List Oper} {o : Oper} {a : Act} {w : World} {Q : Exit → Act → World → Prop} (hgd : o.guard = none) (x : Operand) (ho : o.op = .load 30 x)
    (g : Nat) (hx : a.eval x = .pointer (some ⟨g, 0, none⟩)) {l : Lt} {u v : Value} (hg : LB w g l u v)
    (h : wpList Try.prog ops Q rest (a.put o.dst (.agg (ltA l u v))) w) : wpList Try.prog ops Q (o :: rest) a w :=
  wpList_load_mid hgd 30 x ho g 0 hx (ltC l u v) _ hg.range Try.underlying30 rfl (by rw [ltC_length]; exact sizeLt) h
theorem o_midL {o : Oper} {a : Act} {w : World} {K : Act → World → Prop} {Q : Exit → Act → World → Prop} (x : Operand) (ho : o.op = .load 30 x)
    (g : Nat) (hx : a.eval x = .pointer (some ⟨g, 0, none⟩)) {l : Lt} {u v : Value} (hg : LB w g l u v) (h : K (a.put o.dst (.agg (ltA l u v))) w) : o.wp Try.prog a w K Q :=
  wp_load_mid 30 x ho g 0 hx (ltC l u v) _ hg.range Try.underlying30 rfl (by rw [ltC_length]; exact sizeLt) h
theorem q_midL {W : World} {o : Oper} {a : Act} {K : Act → Prop} (x : Operand) (ho : o.op = .load 30 x) (g : Nat) (hx : a.eval x = .pointer (some ⟨g, 0, none⟩)) {l : Lt} {u v : Value}
    (hg : LB W g l u v) (hk : K (a.put o.dst (.agg (ltA l u v)))) : o.quiet Try.prog a (fun w' => ∃ p : Regrown, w' = grow (redrawn W p.d) p.os) K := by
  refine ⟨.agg (ltA l u v), ?_, hk⟩
  rintro w' ⟨r, rfl⟩
  have hg' := (hg.bel (below_regrown W r.d r.os)).range
  unfold Oper.quietAt execOp
  simp only [ho, hx, Instr.loadAt, Instr.sureAddr, Sem.run_bind, run_loadVar_mid _ g 0 30 (ltC l u v) _ hg' Try.underlying30 rfl (by rw [ltC_length]; exact sizeLt), Sem.run_pure, Result.andThen_ok]
  exact ⟨rfl, rfl⟩
/-- a value is stored into a block that is known whole -/
theorem p_into {ops : Array Oper} {rest : List Oper} {op : Oper} {a : Act} {w : World} {Q : Exit → Act → World → Prop} (hgd : op.guard = none) (ty : TypeId) (x y : Operand) (ho : op.op = .store ty x y)
    (g o : Nat) (hx : a.eval x = .pointer (some ⟨g, o, none⟩)) (v : Value) (hy : a.eval y = v) (cur : Array Value) (T : TypeId) (hg : Blk w g cur T) (hi : (Try.prog.info? ty).map (·.size) = some v.cells.size)
    (hfit : o + v.cells.size ≤ cur.size) (h1 : v.cells.all (·.oneCell') = true) (new : Array Value) (hw : (cur.toList.take o ++ v.cells.toList ++ cur.toList.drop (o + v.cells.size)).toArray = new)
    (h : wpList Try.prog ops Q rest (a.put op.dst undef) (w.setRow g new)) : wpList Try.prog ops Q (op :: rest) a w := by
  have hst := run_storeCells_at Try.prog g o T v.cells.toList 0 cur w hg (by simpa using hfit) (fun u hu => (Array.all_eq_true_iff_forall_mem.1 h1) u (by simpa using hu))
  simp only [Nat.add_zero, Array.length_toList] at hst
  rw [hw] at hst
  have hsv : (storeVar ty ⟨g, o, none⟩ v).run Try.prog w = .ok () (w.setRow g new) := by
    obtain ⟨i, hi', hq⟩ := Option.map_eq_some_iff.1 hi
    simp [storeVar, sizeOf, typeInfo, hi', hq, hst]
  refine wpList_plain hgd fun K hK => ?_
  unfold Oper.wp execOp
  simp only [ho, hx, hy, Instr.storeAt, Instr.sureAddr, Sem.run_bind, Sem.run_pure, Result.andThen_ok, hsv]
  exact hK _ _ h
theorem lies_one {w : World} {v : Value} {L : List Pe} (h : Lies w v L) : v.oneCell' = true := by
  obtain ⟨a, c, rfl⟩ := h.form; rfl
theorem lies_nil (w : World) : Lies w nilS [] := .inl ⟨⟨_, rfl⟩, rfl⟩
/-- the fields of a letter that are more than a cell are stored -/
theorem p_putFr {ops : Array Oper} {rest : List Oper} {op : Oper} {a : Act} {w : World} {Q : Exit → Act → World → Prop} (hgd : op.guard = none) (x y : Operand) (ho : op.op = .store 25 x y)
    (g : Nat) (hx : a.eval x = .pointer (some ⟨g, 1, none⟩)) (r : Pe) (hy : a.eval y = .agg (peA r)) {l : Lt} {u v : Value} (hg : LB w g l u v)
    (h : wpList Try.prog ops Q rest (a.put op.dst undef) (w.setRow g (ltA { l with fr := r } u v))) : wpList Try.prog ops Q (op :: rest) a w := by
  have hc : (Value.agg (peA r)).cells = peA r := rfl
  refine p_into hgd 25 x y ho g 1 hx _ hy (ltA l u v) 30 hg (by rw [hc, peA_size]; exact sizeP) (by rw [hc, ltA_size, peA_size]; decide) (by rw [hc]; exact peA_one r) _ ?_ h
  rw [hc, ltA_list, peA_size, peA_list]
  unfold ltA ltC
  rw [show (1 : Nat) + 21 = 21 + 1 from rfl, List.take_succ_cons, List.take_zero, List.drop_succ_cons, List.drop_append, List.drop_eq_nil_of_le (by rw [peC_length]; omega), peC_length]
  simp
theorem p_putId {ops : Array Oper} {rest : List Oper} {op : Oper} {a : Act} {w : World} {Q : Exit → Act → World → Prop} (hgd : op.guard = none) (x y : Operand) (ho : op.op = .store 23 x y)
    (g : Nat) (hx : a.eval x = .pointer (some ⟨g, 23, none⟩)) (r : Nat) (hy : a.eval y = idv r) {l : Lt} {u v : Value} (hg : LB w g l u v)
    (h : wpList Try.prog ops Q rest (a.put op.dst undef) (w.setRow g (ltA { l with id := r } u v))) : wpList Try.prog ops Q (op :: rest) a w := by
  have hc : (idv r).cells = row (dig 20 r) := rfl
  have hz : (row (dig 20 r)).size = 20 := by rw [row_size, dig_length]
  refine p_into hgd 23 x y ho g 23 hx _ hy (ltA l u v) 30 hg (by rw [hc, hz]; exact sizeId20) (by rw [hc, ltA_size, hz]; decide) (by rw [hc, Array.all_eq_true_iff_forall_mem]; intro x hx; exact id_one r x (by simpa using hx)) _ ?_ h
  rw [hc, ltA_list, hz]
  unfold ltA ltC
  have e : ∀ (A B C D : List Value) (x y : Value), A.length = 21 → B.length = 20 → (List.take 23 (x :: (A ++ y :: (B ++ D))) ++ C ++ List.drop (23 + 20) (x :: (A ++ y :: (B ++ D)))) = x :: (A ++ y :: (C ++ D)) := by
    intro A B C D x y hA hB
    rw [show x :: (A ++ y :: (B ++ D)) = (x :: (A ++ [y])) ++ (B ++ D) by simp, List.take_append_of_le_length (by simp; omega), List.take_of_length_le (by simp; omega), ← List.append_assoc, List.drop_append_of_le_length (by simp; omega), List.drop_eq_nil_of_le (by simp; omega)]
    simp
  rw [e _ _ _ _ _ _ (peC_length _) (idC_length _)]
theorem p_putPeer {ops : Array Oper} {rest : List Oper} {op : Oper} {a : Act} {w : World} {Q : Exit → Act → World → Prop} (hgd : op.guard = none) (x y : Operand) (ho : op.op = .store 25 x y)
    (g : Nat) (hx : a.eval x = .pointer (some ⟨g, 45, none⟩)) (r : Pe) (hy : a.eval y = .agg (peA r)) {l : Lt} {u v : Value} (hg : LB w g l u v)
    (h : wpList Try.prog ops Q rest (a.put op.dst undef) (w.setRow g (ltA { l with peer := r } u v))) : wpList Try.prog ops Q (op :: rest) a w := by
  have hc : (Value.agg (peA r)).cells = peA r := rfl
  refine p_into hgd 25 x y ho g 45 hx _ hy (ltA l u v) 30 hg (by rw [hc, peA_size]; exact sizeP) (by rw [hc, ltA_size, peA_size]; decide) (by rw [hc]; exact peA_one r) _ ?_ h
  rw [hc, ltA_list, peA_size, peA_list]
  unfold ltA ltC
  have e : ∀ (A B C D E : List Value) (x y z t : Value), A.length = 21 → B.length = 20 → C.length = 21 → (List.take 45 (x :: (A ++ y :: (B ++ z :: t :: (C ++ E)))) ++ D ++ List.drop (45 + 21) (x :: (A ++ y :: (B ++ z :: t :: (C ++ E))))) = x :: (A ++ y :: (B ++ z :: t :: (D ++ E))) := by
    intro A B C D E x y z t hA hB hC
    rw [show x :: (A ++ y :: (B ++ z :: t :: (C ++ E))) = (x :: (A ++ y :: (B ++ [z, t]))) ++ (C ++ E) by simp, List.take_append_of_le_length (by simp; omega), List.take_of_length_le (by simp; omega), ← List.append_assoc, List.drop_append_of_le_length (by simp; omega), List.drop_eq_nil_of_le (by simp; omega)]
    simp
  rw [e _ _ _ _ _ _ _ _ _ (peC_length _) (idC_length _) (peC_length _)]
/-- a whole letter, and a whole peer, are stored -/
theorem p_putL {ops : Array Oper} {rest : List Oper} {op : Oper} {a : Act} {w : World} {Q : Exit → Act → World → Prop} (hgd : op.guard = none) (x y : Operand) (ho : op.op = .store 30 x y)
    (g : Nat) (hx : a.eval x = .pointer (some ⟨g, 0, none⟩)) {l' : Lt} {u' v' : Value} (hy : a.eval y = .agg (ltA l' u' v')) (hu : u'.oneCell' = true) (hv : v'.oneCell' = true) {l : Lt} {u v : Value} (hg : LB w g l u v)
    (h : wpList Try.prog ops Q rest (a.put op.dst undef) (w.setRow g (ltA l' u' v'))) : wpList Try.prog ops Q (op :: rest) a w :=
  wpList_store_row hgd 30 x y ho g (ltA l' u' v') hx hy 30 (ltA l u v) hg (by rw [ltA_size]; exact sizeLt) (by rw [ltA_size, ltA_size]) (ltA_one hu hv) h
/-- a letter is stored into the block that was made last -/
theorem p_newL {ops : Array Oper} {rest : List Oper} {o : Oper} {a : Act} {w : World} {Q : Exit → Act → World → Prop} {Z : Array Value} (hz : Z.size = 67) (hgd : o.guard = none) (x y : Operand) (ho : o.op = .store 30 x y)
    {l : Lt} {u v : Value} (hx : a.eval x = .pointer (some ⟨w.heap.size, 0, none⟩)) (hy : a.eval y = .agg (ltA l u v)) (hu : u.oneCell' = true) (hv : v.oneCell' = true)
    (h : wpList Try.prog ops Q rest (a.put o.dst undef) (w.alloc (.cells (ltA l u v) 30))) : wpList Try.prog ops Q (o :: rest) a (w.alloc (.cells Z 30)) :=
  wpList_store_newrow hgd 30 x y ho (ltA l u v) hx hy (by rw [ltA_size]; exact sizeLt) (ltA_one hu hv) (by rw [hz, ltA_size]) h
/-! what a call answers -/
theorem results_L1 {fn : Func} {c : Tmp} (h : fn.results = #[.cell c 30]) (tmps : Array Value) (w : World) (g : Nat) {l : Lt} {u v : Value}
    (hp : tmps.getD c undef = .pointer (some ⟨g, 0, none⟩)) (hg : LB w g l u v) : (results fn tmps).run Try.prog w = .ok (.agg (ltA l u v)) w := by
  have hp' : tmps[c]?.getD undef = .pointer (some ⟨g, 0, none⟩) := by simpa using hp
  simp [results, h, hp', asAddr, run_loadVar_row w g 30 30 (ltA l u v) (0, 0) _ hg Try.underlying30 rfl (by rw [ltA_size]; exact sizeLt)]
theorem results_L2 {fn : Func} {c t : Tmp} (h : fn.results = #[.cell c 30, .tmp t]) (tmps : Array Value) (w : World) (g : Nat) {l : Lt} {u v : Value} (x : Value)
    (hp : tmps.getD c undef = .pointer (some ⟨g, 0, none⟩)) (hx : tmps.getD t undef = x) (hg : LB w g l u v) : (results fn tmps).run Try.prog w = .ok (.tuple #[.agg (ltA l u v), x]) w := by
  have hp' : tmps[c]?.getD undef = .pointer (some ⟨g, 0, none⟩) := by simpa using hp
  have hx' : tmps[t]?.getD undef = x := by simpa using hx
  simp [results, h, hp', hx', asAddr, run_loadVar_row w g 30 30 (ltA l u v) (0, 0) _ hg Try.underlying30 rfl (by rw [ltA_size]; exact sizeLt)]
theorem results_P1 {fn : Func} {c : Tmp} (h : fn.results = #[.cell c 25]) (tmps : Array Value) (w : World) (g : Nat) {r : Pe}
    (hp : tmps.getD c undef = .pointer (some ⟨g, 0, none⟩)) (hg : PB w g r) : (results fn tmps).run Try.prog w = .ok (.agg (peA r)) w := by
  have hp' : tmps[c]?.getD undef = .pointer (some ⟨g, 0, none⟩) := by simpa using hp
  simp [results, h, hp', asAddr, run_loadVar_row w g 25 25 (peA r) (0, 0) _ hg Try.underlying25 rfl (by rw [peA_size]; exact sizeP)]
theorem results_P2 {fn : Func} {c t : Tmp} (h : fn.results = #[.cell c 25, .tmp t]) (tmps : Array Value) (w : World) (g : Nat) {r : Pe} (x : Value)
    (hp : tmps.getD c undef = .pointer (some ⟨g, 0, none⟩)) (hx : tmps.getD t undef = x) (hg : PB w g r) : (results fn tmps).run Try.prog w = .ok (.tuple #[.agg (peA r), x]) w := by
  have hp' : tmps[c]?.getD undef = .pointer (some ⟨g, 0, none⟩) := by simpa using hp
  have hx' : tmps[t]?.getD undef = x := by simpa using hx
  simp [results, h, hp', hx', asAddr, run_loadVar_row w g 25 25 (peA r) (0, 0) _ hg Try.underlying25 rfl (by rw [peA_size]; exact sizeP)]
theorem p_buildNone {ops : Array Oper} {rest : List Oper} {o : Oper} {a : Act} {w : World} {Q : Exit → Act → World → Prop} (hgd : o.guard = none) (ho : o.op = .build 25 #[(0, .const (.int .i64 (-1)))])
    (h : wpList Try.prog ops Q rest (a.put o.dst (.agg (peA (-1, 0)))) w) : wpList Try.prog ops Q (o :: rest) a w := by
  refine wpList_plain hgd fun K hK => ?_
  have e := run_build (P := Try.prog) w 25 #[(0, .int .i64 (-1))] _ builtNone
  unfold Oper.wp execOp
  simp only [ho, List.map_toArray, List.map_cons, List.map_nil, Act.eval, Sem.run_bind, e, Sem.run_pure, Result.andThen_ok]
  exact hK _ _ h
end Go.Proofs.Ytplcdjmidelboaa
