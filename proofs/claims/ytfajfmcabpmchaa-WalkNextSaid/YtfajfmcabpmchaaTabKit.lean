/- Two tables that are the same; how many of a row's first ones are not of an address. -/
import Derived.Test.YtfajfmcabpmchaaTabMath
namespace Go.Proofs.Ytfajfmcabpmchaa
set_option maxRecDepth 100000
open Go Go.RowKit Go.Sort

theorem y_midT {ops : Array Oper} {S : World → Prop} {op : Oper} {a : Act} (hw : Region.wanted op (yielded ops a.tmps) = true) (x : Operand) (ho : op.op = .load 43 x)
    (b : Nat) (hx : a.eval x = .pointer (some ⟨b, 0, none⟩)) {s p : Pe} {u v : Value} (hS : ∀ w, S w → TB w b s p u v) : YieldsIf Try.prog ops S op (.agg (tabA s p u v)) a :=
  yieldsIf_load_mid (P := Try.prog) hw 43 x ho b 0 hx (tabC s p u v) _ (fun w h => (hS w h).range) Try.underlying43 rfl (by rw [tabC_length]; exact sizeT)
theorem p_storeT {ops : Array Oper} {rest : List Oper} {o : Oper} {a : Act} {w : World} {Q : Exit → Act → World → Prop} {Z : Array Value} (hz : Z.size = 44) (hgd : o.guard = none) (x y : Operand) (ho : o.op = .store 43 x y)
    {s p : Pe} {u v : Value} (hx : a.eval x = .pointer (some ⟨w.heap.size, 0, none⟩)) (hy : a.eval y = .agg (tabA s p u v)) (hu : u.oneCell' = true) (hv : v.oneCell' = true)
    (h : wpList Try.prog ops Q rest (a.put o.dst undef) (w.alloc (.cells (tabA s p u v) 43))) : wpList Try.prog ops Q (o :: rest) a (w.alloc (.cells Z 43)) :=
  wpList_store_newrow hgd 43 x y ho (tabA s p u v) hx hy (by rw [tabA_size]; exact sizeT) (tabA_one hu hv) (by rw [hz, tabA_size]) h
theorem one_lies {w : World} {v : Value} {L : List Pe} (h : Lies w v L) : v.oneCell' = true := by
  obtain ⟨a, c, rfl⟩ := h.form; rfl
theorem y_eqlP {ops : Array Oper} {S : World → Prop} {op : Oper} {a : Act} (hw : Region.wanted op (yielded ops a.tmps) = true) (u v : Operand) (ho : op.op = .binOp .eql 28 u v 28)
    (x y : Pe) (hx : a.eval u = .agg (peA x)) (hy : a.eval v = .agg (peA y)) {r : Bool} (hr : eqP x y = r) : YieldsIf Try.prog ops S op (.bool r) a :=
  .inl ⟨hw, fun w _ => by
    unfold execOp
    simp only [ho, hx, hy, Sem.run_bind, run_eqGuard_agg w .eql 28 u v _ _ guardP, run_eql_pe, hr, Sem.run_pure, Result.andThen_ok]⟩
/-- two tables in blocks of their own -/
structure TwoT (w W : World) (s p : Pe) (u v : Value) (s' p' : Pe) (u' v' : Value) : Prop where
  bel : Below w.heap.size w W
  t : TB W w.heap.size s p u v
  t' : TB W (w.heap.size + 1) s' p' u' v'
theorem TwoT.made (w : World) (s p : Pe) (u v : Value) (s' p' : Pe) (u' v' : Value) : TwoT w ((w.alloc (.cells (tabA s p u v) 43)).alloc (.cells (tabA s' p' u' v') 43)) s p u v s' p' u' v' := by
  refine ⟨((Below.refl w.heap.size w).alloc (Nat.le_refl _) _).alloc (by simp) _, Blk.alloc (Blk.new ..) _, ?_⟩
  have := TB.new (w.alloc (.cells (tabA s p u v) 43)) s' p' u' v'
  rwa [World.size_alloc] at this
theorem eqP_self (x : Pe) : eqP x x = true := by unfold eqP; simp [eqB_self]
set_option maxHeartbeats 2000000 in
theorem same_tab {w : World} {s p : Pe} {u v u' v' : Value} {S F : List Pe} (h1 : Lies w u S) (h2 : Lies w v F) (h3 : Lies w u' S) (h4 : Lies w v' F) (hn : S.length ≤ 1000000) (hf : F.length ≤ 1000000) :
    Calls Try.prog 39 #[.agg (tabA s p u v), .agg (tabA s p u' v')] w fun e w' => e = .returned (.bool true) ∧ Below w.heap.size w w' := by
  have HX := TwoT.made w s p u v s p u' v'
  have HS1 : Hid (∀ W, Below w.heap.size w W → Calls Try.prog 70 #[u, u'] W fun e w' => e = .returned (.bool true) ∧ Below W.heap.size W w') := fun W hb => same_self (h1.bel hb) (h3.bel hb) hn
  have HS2 : Hid (∀ W, Below w.heap.size w W → Calls Try.prog 70 #[v, v'] W fun e w' => e = .returned (.bool true) ∧ Below W.heap.size W w') := fun W hb => same_self (h2.bel hb) (h4.bel hb) hf
  obtain ⟨ua, uc, rfl⟩ := h1.form
  obtain ⟨va, vc, rfl⟩ := h2.form
  obtain ⟨xa, xc, rfl⟩ := h3.form
  obtain ⟨ya, yc, rfl⟩ := h4.form
  have es := eqP_self s
  have ep := eqP_self p
  clear h1 h2 h3 h4 hn hf
  go_enter Try.func39, Try.ntmps39
  go_upto_region 1 with (fail)
  generalize (w.alloc _).alloc _ = W at *
  generalize hg : w.heap.size = g at *
  have T1 := HX.t
  have T2 := HX.t'
  have B0 := HX.bel
  rw [hg] at T1 T2 B0
  clear HX
  have S1 := T1.self
  have S2 := T2.self
  have P1 := T1.pred
  have P2 := T2.pred
  have c1 := T1.cu
  have c2 := T2.cu
  go_wp2_with (first
    | (refine p_midP rfl _ rfl g 0 rfl s S1 ?_)
    | (refine p_midP rfl _ rfl (g + 1) 0 rfl s S2 ?_)
    | (refine p_eqlP rfl _ _ rfl s s rfl rfl es ?_)
    | (go_guarded; refine o_midP _ rfl g 21 rfl p P1 ?_; simp only [Act.put, List.setIfInBounds_toArray, List.set_cons_succ, List.set_cons_zero])
    | (go_guarded; refine o_midP _ rfl (g + 1) 21 rfl p P2 ?_; simp only [Act.put, List.setIfInBounds_toArray, List.set_cons_succ, List.set_cons_zero])
    | (go_guarded; refine o_eqlP _ _ rfl p p rfl rfl ep ?_; simp only [Act.put, List.setIfInBounds_toArray, List.set_cons_succ, List.set_cons_zero])
    | (go_at_call 70; (with_reducible refine (HS1.out _ (by with_reducible exact B0)).mono ?_); rintro e w1 ⟨rfl, k1⟩; have B1 := belTo hg B0 k1; have c3 := (T1.bel k1).cv; have c4 := (T2.bel k1).cv; clear k1)
    | (go_at_call 70; (with_reducible refine (HS2.out _ (by with_reducible exact B1)).mono ?_); rintro e w2 ⟨rfl, k2⟩; have B2 := belTo hg B1 k2; clear k2))
  go_ret
  exact ⟨rfl, by (try rw [hg]); exact B2⟩

theorem row_at {w : World} {b o n c : Nat} {L : List Pe} {k : Nat} {x : Pe} (h : Lies w (.slice (some ⟨b, o, none⟩) n c) L) (hx : L[k]? = some x) : w.rangeAt b (o + k * 21) (peC x) := by
  obtain ⟨b', o', c', e1, _, _, r1, _⟩ := h.at hx
  simp only [Value.slice.injEq, Option.some.injEq, Addr.mk.injEq, and_true] at e1
  obtain ⟨⟨rfl, rfl⟩, _, rfl⟩ := e1
  exact r1
theorem nums_at {w : World} {b o n c : Nat} {A : List Int} {j : Nat} (h : Nums w (.slice (some ⟨b, o, none⟩) n c) A) (hj : j < A.length) : w.cell? ⟨b, o + j, none⟩ = some (.int .i64 (A.getD j 0)) := by
  obtain ⟨b', o', c', e1, r1, _⟩ := h.some (by omega)
  simp only [Value.slice.injEq, Option.some.injEq, Addr.mk.injEq, and_true] at e1
  obtain ⟨⟨rfl, rfl⟩, _, rfl⟩ := e1
  exact nums_cell r1 hj
theorem getD_at {L : List Pe} {k : Nat} (h : k < L.length) : L[k]? = some (L.getD k (0, 0)) := by
  rw [List.getD_eq_getElem?_getD, List.getElem?_eq_getElem h]; rfl
theorem mem_zero (A : List Int) (a : Int) : memB (A.take 0) a = false := by rw [List.take_zero]; rfl
theorem mem_succ {A : List Int} {j : Nat} (hj : j < A.length) (a : Int) : memB (A.take (j + 1)) a = (memB (A.take j) a || (A.getD j 0 == a)) := by
  unfold memB
  rw [List.take_succ_eq_append_getElem hj, List.getD_eq_getElem?_getD, List.getElem?_eq_getElem hj, Option.getD_some, Bool.eq_iff_iff]
  simp only [List.mem_append, List.mem_singleton, decide_eq_true_eq, Bool.or_eq_true, beq_iff_eq]
  exact ⟨fun h => h.imp id Eq.symm, fun h => h.imp id Eq.symm⟩
/-- whether one of the first k is such a one -/
def thB (f : Pe → Bool) (K : List Pe) (k : Nat) : Bool := (K.take k).any f
theorem th_zero (f : Pe → Bool) (K : List Pe) : thB f K 0 = false := rfl
theorem th_succ {f : Pe → Bool} {K : List Pe} {k : Nat} {x : Pe} (h : K[k]? = some x) : thB f K (k + 1) = (thB f K k || f x) := by
  unfold thB
  rw [List.take_add_one, h, List.any_append]
  simp
/-- how many of the first k are not of the address -/
def cntA (a : Int) (K : List Pe) (k : Nat) : Nat := ((K.take k).filter fun x => !decide (x.1 = a)).length
theorem cnt_zero (a : Int) (K : List Pe) : cntA a K 0 = 0 := rfl
theorem cnt_le (a : Int) (K : List Pe) (k : Nat) : cntA a K k ≤ k := Nat.le_trans (List.length_filter_le _ _) (List.length_take_le _ _)
theorem cnt_end (a : Int) (K : List Pe) : cntA a K K.length = (K.filter fun x => !decide (x.1 = a)).length := by unfold cntA; rw [List.take_length]
theorem cnt_yes {a : Int} {K : List Pe} {k : Nat} {x : Pe} (h : K[k]? = some x) (hx : x.1 = a) : cntA a K (k + 1) = cntA a K k := by
  unfold cntA
  rw [List.take_add_one, h, List.filter_append]
  simp [hx]
theorem cnt_no {a : Int} {K : List Pe} {k : Nat} {x : Pe} (h : K[k]? = some x) (hx : x.1 ≠ a) : cntA a K (k + 1) = cntA a K k + 1 ∧ (K.filter fun x => !decide (x.1 = a))[cntA a K k]? = some x := by
  obtain ⟨hk, he⟩ := List.getElem?_eq_some_iff.1 h
  refine ⟨?_, ?_⟩
  · unfold cntA
    rw [List.take_add_one, h, List.filter_append]
    simp [hx]
  · have e : K = K.take k ++ x :: K.drop (k + 1) := by
      conv => lhs; rw [← List.take_append_drop k K, List.drop_eq_getElem_cons hk, he]
    have e2 : (K.filter fun x => !decide (x.1 = a)) = ((K.take k).filter fun x => !decide (x.1 = a)) ++ x :: ((K.drop (k + 1)).filter fun x => !decide (x.1 = a)) := by
      conv => lhs; rw [e]
      rw [List.filter_append, List.filter_cons_of_pos (by simpa using hx)]
    unfold cntA
    rw [e2, List.getElem?_append_right (Nat.le_refl _), Nat.sub_self]; rfl
end Go.Proofs.Ytfajfmcabpmchaa
