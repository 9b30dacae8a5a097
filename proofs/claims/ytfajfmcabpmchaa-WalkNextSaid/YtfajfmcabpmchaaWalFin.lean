/- What the laws of settled tables' walks stand on. -/
import Derived.Test.YtfajfmcabpmchaaWalEx
namespace Go.Proofs.Ytfajfmcabpmchaa
set_option maxRecDepth 100000
open Go Go.RowKit Go.Sort

theorem st_form {w' : World} {e : Ending} {L : List Pe} {r n : Nat} (hn : n = L.length) (h : StP L r true e w') : ∃ a c X, e = .returned (.tuple #[.slice a n c, .int .i64 0]) ∧ LiesT w' (.slice a n c) X ∧ tabsOf X = setL L r := by
  obtain ⟨v, X, rfl, h1, h2⟩ := st_yes h
  obtain ⟨a, c, rfl⟩ := h1.form
  have hx : X.length = n := by rw [hn, ← tabsOf_length, h2, setL_length]
  rw [hx] at h1 ⊢
  exact ⟨a, c, X, rfl, h1, h2⟩
theorem st_none {w' : World} {e : Ending} {L : List Pe} {r : Nat} (h : StP L r false e w') : e = .returned (.tuple #[nilS, .int .i64 1]) := by
  rcases h with ⟨_, h⟩ | ⟨h, _⟩
  · exact h
  · cases h
theorem owner_any {v : Value} {L : List Pe} (id : Nat) (w : World) (hL : Lies w v L) (hw : Wf L) (hn : L.length ≤ 1000000) (hid : id < M) : ∃ a f : Int, Hid (∀ W, Below w.heap.size w W → Calls Try.prog 18 #[v, idv id] W fun e w' => e = .returned (.tuple #[.int .i64 a, .int .i64 f]) ∧ Below W.heap.size W w') := by
  by_cases hC : Circ L
  · exact ⟨_, _, fun W hb => Cr.Owner_yes id (hL.bel hb) hw hid hC⟩
  · exact ⟨_, _, fun W hb => Cr.Owner_no id (hL.bel hb) hw hn hC⟩
/-- a route in a block of its own -/
def CaR (W : World) (A : List Int) (en : Pe) (v u : Value) (wx : World) : Prop := ∃ gp a c, v = .pointer (some ⟨gp, 0, none⟩) ∧ u = .int .i64 0 ∧ Below W.heap.size W wx ∧ RB wx gp (.slice a A.length c) en ∧ Nums wx (.slice a A.length c) A ∧ W.heap.size ≤ gp
theorem CaR.mk {W : World} {A : List Int} {en : Pe} {wx : World} {gp c : Nat} {a : Option Addr} (h1 : Below W.heap.size W wx) (h2 : RB wx gp (.slice a A.length c) en) (h3 : Nums wx (.slice a A.length c) A) (h4 : W.heap.size ≤ gp) : CaR W A en (.pointer (some ⟨gp, 0, none⟩)) (.int .i64 0) wx := ⟨gp, a, c, rfl, rfl, h1, h2, h3, h4⟩
theorem rou_own {B : Nat} {A : List Int} {en : Pe} {e : Ending} {w' : World} (h : RouP B ((A, en), 0) e w') : ∃ a c, e = .returned (.tuple #[.agg (rtA (.slice a A.length c) en), .int .i64 0]) ∧ w'.ownsRow B 3 1 (.slice a A.length c) A.length (ints A) := by
  obtain ⟨h, rfl, ho⟩ := h
  obtain ⟨a, c, rfl⟩ := (nums_own ho).form
  exact ⟨a, c, rfl, ho⟩
/-- a walk in settled tables that lie -/
theorem walk_settled {w : World} {v : Value} {L : List Pe} {X : List Tv} {r id i n : Nat} {A : List Int} {en : Pe} (hX : LiesT w v X) (hT : tabsOf X = setL L r) (hC : Circ L) (h8 : r ≤ 8) (hi : i < L.length) (hR : walkR (setL L r) (ad L i) id (n : Int) = ((A, en), 0)) :
    Hid (∀ W, Below w.heap.size w W → Calls Try.prog 10 #[v, .int .i64 (ad L i), idv id, .int .i64 (n : Int)] W fun e w' => (∃ a c, e = .returned (.tuple #[.agg (rtA (.slice a A.length c) en), .int .i64 0]) ∧ w'.ownsRow W.heap.size 3 1 (.slice a A.length c) A.length (ints A)) ∧ Below W.heap.size W w') := fun W hb => by
  obtain ⟨h1, h2⟩ := set_smal hC hT h8
  have hf : Fit (ad L i) := by
    have := (hC.2 i hi).1
    have := (hC.2 i hi).2.1
    exact fit_of (show -9223372036854775808 ≤ ad L i ∧ ad L i ≤ 9223372036854775807 by omega)
  have h := walk_any (ad L i) id (n : Int) (hX.bel hb) h1 h2 hf
  rw [hT, hR] at h
  exact h.mono fun e w' ⟨x, y⟩ => ⟨rou_own x, y⟩
theorem q_cellS {W : World} {o : Oper} {a : Act} {K : Act → Prop} (x : Operand) (ho : o.op = .load 26 x) (g i : Nat) (hx : a.eval x = .pointer (some ⟨g, i, none⟩)) (v : Value) (hg : W.cell? ⟨g, i, none⟩ = some v) (hlt : g < W.heap.size) (hk : K (a.put o.dst v)) : o.quiet Try.prog a (fun w' => ∃ p : Regrown, w' = grow (redrawn W p.d) p.os) K := by
  refine ⟨v, ?_, hk⟩
  rintro w' ⟨p, rfl⟩
  have hg' : (grow (redrawn W p.d) p.os).cell? ⟨g, i, none⟩ = some v := (World.cell?_of_block (a := ⟨g, i, none⟩) ((below_regrown W p.d p.os).block g hlt)).trans hg
  unfold Oper.quietAt execOp
  simp only [ho, hx, Instr.loadAt, Instr.sureAddr, Sem.run_bind]
  simp [go_sem, hg']
theorem q_cellN {W : World} {o : Oper} {a : Act} {K : Act → Prop} (x : Operand) (ho : o.op = .load 3 x) (g i : Nat) (hx : a.eval x = .pointer (some ⟨g, i, none⟩)) (v : Value) (hg : W.cell? ⟨g, i, none⟩ = some v) (hlt : g < W.heap.size) (hk : K (a.put o.dst v)) : o.quiet Try.prog a (fun w' => ∃ p : Regrown, w' = grow (redrawn W p.d) p.os) K := by
  refine ⟨v, ?_, hk⟩
  rintro w' ⟨p, rfl⟩
  have hg' : (grow (redrawn W p.d) p.os).cell? ⟨g, i, none⟩ = some v := (World.cell?_of_block (a := ⟨g, i, none⟩) ((below_regrown W p.d p.os).block g hlt)).trans hg
  unfold Oper.quietAt execOp
  simp only [ho, hx, Instr.loadAt, Instr.sureAddr, Sem.run_bind]
  simp [go_sem, hg']
end Go.Proofs.Ytfajfmcabpmchaa
