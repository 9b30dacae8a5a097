/- Rows of peers that stand written in the text, and rows of numbers among the arguments. -/
import Derived.Test.YtmlejcfnnjnggaaDoorCirPeer
import Derived.Test.YtmlejcfnnjnggaaDoorCirAcc
namespace Go.Proofs.YtmlejcfnnjnggaaDoor
set_option maxRecDepth 100000
open Go Go.RowKit Go.Sort

theorem run_sliceP (a : Int) (n : Nat) (w : World) : (Instr.buildSlice 23 1 #[(0, .agg (peA (a, n)))]).run Tryd.prog w = .ok (.slice (some ⟨w.heap.size, 0, none⟩) 1 1) (w.alloc (.cells (peA (a, n)) 43)) := by kernel_rfl
theorem run_slice3 (a b c : Int) (n m k : Nat) (w : World) : (Instr.buildSlice 23 3 #[(0, .agg (peA (a, n))), (1, .agg (peA (b, m))), (2, .agg (peA (c, k)))]).run Tryd.prog w = .ok (.slice (some ⟨w.heap.size, 0, none⟩) 3 3) (w.alloc (.cells (flat [(a, n), (b, m), (c, k)]).toArray 43)) := by kernel_rfl
theorem p_sliceP {ops : Array Oper} {rest : List Oper} {o : Oper} {a : Act} {w : World} {Q : Exit → Act → World → Prop} (hgd : o.guard = none) (x : Operand) (ho : o.op = .buildSlice 23 1 #[(0, x)])
    (p : Pe) (hx : a.eval x = .agg (peA p)) (h : wpList Tryd.prog ops Q rest (a.put o.dst (.slice (some ⟨w.heap.size, 0, none⟩) 1 1)) (w.alloc (.cells (peA p) 43))) : wpList Tryd.prog ops Q (o :: rest) a w := by
  refine wpList_plain hgd fun K hK => ?_
  unfold Oper.wp execOp
  simp only [ho, List.map_toArray, List.map_cons, List.map_nil, hx, Sem.run_bind, run_sliceP p.1 p.2 w, Sem.run_pure, Result.andThen_ok]
  exact hK _ _ h
theorem p_slice3 {ops : Array Oper} {rest : List Oper} {o : Oper} {a : Act} {w : World} {Q : Exit → Act → World → Prop} (hgd : o.guard = none) (x y z : Operand) (ho : o.op = .buildSlice 23 3 #[(0, x), (1, y), (2, z)])
    (p q r : Pe) (hx : a.eval x = .agg (peA p)) (hy : a.eval y = .agg (peA q)) (hz : a.eval z = .agg (peA r)) (h : wpList Tryd.prog ops Q rest (a.put o.dst (.slice (some ⟨w.heap.size, 0, none⟩) 3 3)) (w.alloc (.cells (flat [p, q, r]).toArray 43))) : wpList Tryd.prog ops Q (o :: rest) a w := by
  refine wpList_plain hgd fun K hK => ?_
  unfold Oper.wp execOp
  simp only [ho, List.map_toArray, List.map_cons, List.map_nil, hx, hy, hz, Sem.run_bind, run_slice3 p.1 q.1 r.1 p.2 q.2 r.2 w, Sem.run_pure, Result.andThen_ok]
  exact hK _ _ h
/-- v reads as the numbers A -/
def Nums (w : World) (v : Value) (A : List Int) : Prop := (v = .slice none 0 0 ∧ A = []) ∨ ∃ b o c, v = .slice (some ⟨b, o, none⟩) A.length c ∧ w.rangeAt b o (ints A)
theorem Nums.form {w : World} {v : Value} {A : List Int} (h : Nums w v A) : ∃ a c, v = .slice a A.length c := by
  rcases h with ⟨rfl, rfl⟩ | ⟨b, o, c, rfl, _⟩
  · exact ⟨_, _, rfl⟩
  · exact ⟨_, _, rfl⟩
theorem ints_get (A : List Int) (i : Nat) (h : i < A.length) : (ints A)[i]? = some (.int .i64 (A.getD i 0)) := by
  unfold ints
  rw [List.getElem?_map, List.getD_eq_getElem?_getD, List.getElem?_eq_getElem h]; rfl
theorem Nums.some {w : World} {v : Value} {A : List Int} (h : Nums w v A) (hn : 0 < A.length) : ∃ b o c, v = .slice (some ⟨b, o, none⟩) A.length c ∧ w.rangeAt b o (ints A) ∧ b < w.heap.size := by
  rcases h with ⟨_, rfl⟩ | ⟨b, o, c, rfl, hr⟩
  · simp at hn
  · exact ⟨b, o, c, rfl, hr, World.block_lt_of_cell? w _ (hr 0 _ (ints_get A 0 hn))⟩
theorem nums_cell {w : World} {b o : Nat} {A : List Int} (h : w.rangeAt b o (ints A)) {i : Nat} (hi : i < A.length) : w.cell? ⟨b, o + i, none⟩ = some (.int .i64 (A.getD i 0)) := h i _ (ints_get A i hi)
theorem own_nums {w : World} {B : Nat} {v : Value} {A : List Int} (h : Row B w v A) : Nums w v A := by
  rcases own_shape h with ⟨h1, h2⟩ | ⟨b, c, h1, _, _, h4, _⟩
  · exact .inl ⟨h1, List.eq_nil_of_length_eq_zero h2⟩
  · exact .inr ⟨b, 0, c, h1, h4⟩
theorem Nums.bel {w w' : World} {v : Value} {A : List Int} (h : Nums w v A) (hb : Below w.heap.size w w') : Nums w' v A := by
  rcases h with h | ⟨b, o, c, h1, h3⟩
  · exact .inl h
  · refine .inr ⟨b, o, c, h1, ?_⟩
    by_cases he : A = []
    · subst he; intro j u hu; simp [ints] at hu
    · exact range_bel h3 hb (range_lt h3 (by intro e; apply he; simpa [ints] using e))
/-- what Of answers -/
inductive OfAns (A : List Int) (B : Nat) (e : Ending) (w' : World) : Prop
  | size (h : ¬ (1 ≤ A.length ∧ A.length ≤ 16)) (he : e = .returned (.tuple #[.slice none 0 0, .int .i64 2]))
  | arg (h : 1 ≤ A.length ∧ A.length ≤ 16) (g : ¬ Good A) (he : e = .returned (.tuple #[.slice none 0 0, .int .i64 1]))
  | twice (h : 1 ≤ A.length ∧ A.length ≤ 16) (g : Good A) (k : Nat) (hk : k < A.length) (hd : ∀ j, j < k → dupB A j = false) (hk2 : dupB A k = true) (he : e = .returned (.tuple #[.slice none 0 0, .int .i64 9]))
  | ok (h : 1 ≤ A.length ∧ A.length ≤ 16) (g : Good A) (hd : ∀ j, j < A.length → dupB A j = false) (v' : Value) (he : e = .returned (.tuple #[v', .int .i64 0])) (own : w'.ownsRow B 43 21 v' A.length (flat (accL A A.length)))
theorem own_up {w : World} {B e s n : Nat} {v : Value} {xs : List Value} (h : w.ownsRow 0 e s v n xs) (hb : ∀ k, v.ownBlock = some k → B ≤ k) : w.ownsRow B e s v n xs := by
  refine ⟨h.1, h.2.imp id ?_⟩
  rintro ⟨g, cap, cur, rfl, _, h2, h3⟩
  exact ⟨g, cap, cur, rfl, hb g rfl, h2, h3⟩
theorem own_down {w : World} {B e s n : Nat} {v : Value} {xs : List Value} (h : w.ownsRow B e s v n xs) : w.ownsRow 0 e s v n xs := by
  refine ⟨h.1, h.2.imp id ?_⟩
  rintro ⟨g, cap, cur, rfl, _, h2, h3⟩
  exact ⟨g, cap, cur, rfl, Nat.zero_le _, h2, h3⟩
/-- a peer is put anywhere -/
theorem insert_any {v : Value} {L : List Pe} {x : Pe} {vb i : Nat} {w : World} (hO : w.ownsRow 0 43 21 v L.length (flat L)) (hi : i ≤ L.length) (hn : L.length ≤ 1000000) (hv : Blk w vb (peA x) 43) (hne : v.ownBlock ≠ some vb) :
    Calls Tryd.prog 32 #[v, .int .i64 (i : Int), .slice (some ⟨vb, 0, none⟩) 1 1] w fun e w' => ∃ v', e = .returned v' ∧ Put w w' v v' (L.take i ++ x :: L.drop i) := by
  by_cases h : i = L.length
  · subst h
    rw [List.take_length, List.drop_length]
    exact ins_end v L x vb w hO hn hv
  · rcases own_shape hO with ⟨_, h2⟩ | ⟨b, c, rfl, hc, _, _, _⟩
    · omega
    · have hb : vb ≠ b := fun e => hne (by rw [e]; rfl)
      by_cases hc2 : L.length + 1 ≤ c
      · exact ins_mid b c i L x vb w hO (by omega) hn hc2 hv hb
      · exact ins_full b c i L x vb w hO (by omega) hn (by omega) hv
end Go.Proofs.YtmlejcfnnjnggaaDoor
