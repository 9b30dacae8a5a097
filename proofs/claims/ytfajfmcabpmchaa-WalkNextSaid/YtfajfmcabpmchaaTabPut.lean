/- Tables that are changed: what is answered. -/
import Derived.Test.YtfajfmcabpmchaaTabKnown
import Derived.Deep.RegionHeld3
import Derived.BigGuard
import Derived.Deep.CutRange
namespace Go.Proofs.Ytfajfmcabpmchaa
set_option maxRecDepth 100000
open Go Go.RowKit Go.Sort

theorem own_row {w : World} {B e size n g : Nat} {v : Value} {xs : List Value} (h : w.ownsRow B e size v n xs) (cs : Array Value) (hg : g < B) : (w.setRow g cs).ownsRow B e size v n xs :=
  own_keep h fun k hk => Go.setRow_other _ _ k _ (fun e => by have := (h.lt k hk).1; omega)
theorem own_base {w : World} {B B' e size n : Nat} {v : Value} {xs : List Value} (h : w.ownsRow B e size v n xs) (hB : B' ≤ B) : w.ownsRow B' e size v n xs := by
  refine ⟨h.1, h.2.imp id ?_⟩
  rintro ⟨g, cap, cur, h1, h2, r⟩
  exact ⟨g, cap, cur, h1, Nat.le_trans hB h2, r⟩
/-- two blocks: a table, and where a table is put -/
structure Two2 (w W : World) (s p : Pe) (u v : Value) (s' p' : Pe) (u' v' : Value) : Prop where
  bel : Below w.heap.size w W
  t : TB W w.heap.size s p u v
  r : TB W (w.heap.size + 1) s' p' u' v'
theorem Two2.made (w : World) (s p : Pe) (u v : Value) : Two2 w ((w.alloc (.cells (tabA s p u v) 43)).alloc (.cells (tabA (0, 0) (0, 0) nilS nilS) 43)) s p u v (0, 0) (0, 0) nilS nilS := by
  refine ⟨((Below.refl w.heap.size w).alloc (Nat.le_refl _) _).alloc (by simp) _, Blk.alloc (Blk.new ..) _, ?_⟩
  have := TB.zero (w.alloc (.cells (tabA s p u v) 43))
  rwa [World.size_alloc] at this
theorem tb_row {w : World} {g k : Nat} {s p : Pe} {u v : Value} (h : TB w g s p u v) (cs : Array Value) (hne : g ≠ k) : TB (w.setRow k cs) g s p u v := Blk.setRow_other h k cs hne
theorem grown_row (w : World) (g : Nat) (cs : Array Value) : w.grownBy (w.setRow g cs) (some g) := ⟨rfl, rfl, rfl, by rw [World.setRow]; simp, fun i _ hne => Go.setRow_other _ _ i cs (fun e => hne (by rw [e]))⟩
theorem lies_set {w : World} {v : Value} {L : List Pe} {g : Nat} (h : Lies w v L) (hne : 0 < L.length → v.ownBlock ≠ some g) (cs : Array Value) : Lies (w.setRow g cs) v L := lies_but h (grown_row w g cs) hne
end Go.Proofs.Ytfajfmcabpmchaa

namespace Go.Proofs.Ytfajfmcabpmchaa
set_option maxRecDepth 100000
open Go Go.RowKit Go.Sort

/-- a table that is told, with rows of its own -/
def OwnT (w w' : World) (s p : Pe) (S L : List Pe) (t : Value) : Prop := ∃ r1 r2, t = .agg (tabA s p r1 r2) ∧ w'.ownsRow w.heap.size 28 21 r1 S.length (flat S) ∧ w'.ownsRow w.heap.size 28 21 r2 L.length (flat L) ∧ (∀ k, r1.ownBlock = some k → r2.ownBlock ≠ some k)
def learnB (s p : Pe) (S L : List Pe) (x : Pe) : Bool := isT s p S L && (otherB s x && (eqP p (-1, 0) || openB p.2 x.2 s.2))
/-- three blocks: a table, a peer, and where a table is put -/
structure Box3 (w W : World) (s p : Pe) (u v : Value) (x : Pe) (s' p' : Pe) (u' v' : Value) : Prop where
  bel : Below w.heap.size w W
  t : TB W w.heap.size s p u v
  x : PB W (w.heap.size + 1) x
  r : TB W (w.heap.size + 2) s' p' u' v'
theorem Box3.made (w : World) (s p : Pe) (u v : Value) (x : Pe) : Box3 w (((w.alloc (.cells (tabA s p u v) 43)).alloc (.cells (peA x) 28)).alloc (.cells (tabA (0, 0) (0, 0) nilS nilS) 43)) s p u v x (0, 0) (0, 0) nilS nilS := by
  have h := Box2.made w s p u v x
  refine ⟨h.bel.alloc (by simp; omega) _, Blk.alloc h.tb _, Blk.alloc h.pb _, ?_⟩
  have := TB.zero ((w.alloc (.cells (tabA s p u v) 43)).alloc (.cells (peA x) 28))
  rwa [World.size_alloc, World.size_alloc] at this
end Go.Proofs.Ytfajfmcabpmchaa

namespace Go.Proofs.Ytfajfmcabpmchaa
set_option maxRecDepth 100000
open Go Go.RowKit Go.Sort

/-- those that are adopted, r together at most -/
def adG (oth : Pe → Bool) (r : Nat) : List Pe → List Pe → List Pe
  | acc, [] => acc
  | acc, x :: rest => if acc.length = r ∨ oth x = false then acc else adG oth r (if hasB acc x.1 = true then acc else acc ++ [x]) rest
def okR (r : Int) : Bool := decide (1 ≤ r) && decide (r ≤ 8)
def adoptB (s p : Pe) (S L : List Pe) (x : Pe) (r : Int) : Bool := isT s p S L && (otherB s x && okR r)
theorem own_form {w : World} {B e size n : Nat} {v : Value} {xs : List Value} (h : w.ownsRow B e size v n xs) : ∃ a c, v = .slice a n c := by
  rcases h.2 with ⟨rfl, rfl⟩ | ⟨g, cap, cur, rfl, _⟩
  · exact ⟨_, _, rfl⟩
  · exact ⟨_, _, rfl⟩
theorem own_slice1 (w : World) (x : Pe) : (w.alloc (.cells (peA x) 28)).ownsRow w.heap.size 28 21 (.slice (some ⟨w.heap.size, 0, none⟩) 1 1) 1 (flat [x]) :=
  ⟨by rw [flat_length]; rfl, .inr ⟨w.heap.size, 1, peA x, rfl, Nat.le_refl _, heap_alloc_new _ _, Nat.le_refl _, by unfold maxLen; omega, by rw [peA_size], by rw [flat_single, peA_list, List.take_of_length_le (by rw [peC_length]; omega)]⟩⟩
theorem p_build0 {ops : Array Oper} {rest : List Oper} {o : Oper} {a : Act} {w : World} {Q : Exit → Act → World → Prop} (hgd : o.guard = none) (ho : o.op = .build 43 #[])
    (h : wpList Try.prog ops Q rest (a.put o.dst (.agg (tabA (0, 0) (0, 0) nilS nilS))) w) : wpList Try.prog ops Q (o :: rest) a w := by
  refine wpList_plain hgd fun K hK => ?_
  have e := run_build (P := Try.prog) w 43 #[] _ builtT0
  unfold Oper.wp execOp
  simp only [ho, List.map_toArray, List.map_nil, Act.eval, Sem.run_bind, e, Sem.run_pure, Result.andThen_ok]
  exact hK _ _ h
/-- a table whose row of peers grows -/
structure AdW (g b2 k0 : Nat) (w wr : World) (s p : Pe) (r2 : Value) (L : List Pe) (v : Value) (acc : List Pe) : Prop where
  bel : Below g w wr
  t : TB wr g s p v r2
  x : TB wr (g + 2) (0, 0) (0, 0) nilS nilS
  o : wr.ownsRow k0 28 21 v acc.length (flat acc)
  o2 : wr.ownsRow b2 28 21 r2 L.length (flat L)
  lt : ∀ k, r2.ownBlock = some k → k < k0
  sz : k0 + 1 ≤ wr.heap.size
/-- .. before its slice is stored -/
structure AdV (g b2 k0 : Nat) (w wr : World) (s p : Pe) (r2 : Value) (L : List Pe) (v v2 : Value) (acc : List Pe) : Prop where
  bel : Below g w wr
  t : TB wr g s p v r2
  x : TB wr (g + 2) (0, 0) (0, 0) nilS nilS
  o : wr.ownsRow k0 28 21 v2 acc.length (flat acc)
  o2 : wr.ownsRow b2 28 21 r2 L.length (flat L)
  lt : ∀ k, r2.ownBlock = some k → k < k0
  sz : k0 + 1 ≤ wr.heap.size
theorem AdW.bel2 {g b2 k0 : Nat} {w wr w' : World} {s p : Pe} {r2 v : Value} {L acc : List Pe} (h : AdW g b2 k0 w wr s p r2 L v acc) (hg : w.heap.size = g) (hb : Below wr.heap.size wr w') : AdW g b2 k0 w w' s p r2 L v acc :=
  ⟨belTo hg h.bel hb, h.t.bel hb, h.x.bel hb, own_bel h.o hb, own_bel h.o2 hb, h.lt, Nat.le_trans h.sz hb.size⟩
theorem AdW.add {g b2 k0 na m : Nat} {w wr w4 : World} {s p y : Pe} {r2 v v2 : Value} {L acc : List Pe} (h : AdW g b2 k0 w wr s p r2 L v acc) (_ : w.heap.size = g) (_ : g + 3 ≤ b2) (hk : g + 3 ≤ k0) (hal : acc.length = na) (_ : na ≠ m) (hgr : wr.grownBy w4 v.ownBlock)
    (ho : w4.ownsRow k0 28 21 v2 (na + 1) (flat (acc ++ [y]))) : AdV g b2 k0 w w4 s p r2 L v v2 (acc ++ [y]) := by
  have hv : ∀ k, v.ownBlock = some k → k0 ≤ k := fun k e => (h.o.lt k e).1
  have kp : ∀ i, i < k0 → i < wr.heap.size → w4.heap[i]? = wr.heap[i]? := fun i hi hl => hgr.block i hl fun e => by have := hv i e.symm; omega
  have hsz := h.sz
  refine ⟨⟨hgr.os.trans h.bel.os, hgr.tape.trans h.bel.tape, hgr.output.trans h.bel.output, Nat.le_trans h.bel.size hgr.size, fun i hi => (kp i (by omega) (by omega)).trans (h.bel.block i hi)⟩, (kp g (by omega) (by omega)).trans h.t, (kp (g + 2) (by omega) (by omega)).trans h.x, ?_, own_keep h.o2 fun k e => kp k (h.lt k e) (h.o2.lt k e).2, h.lt, Nat.le_trans hsz hgr.size⟩
  rw [List.length_append, List.length_singleton, hal]
  exact ho
theorem AdV.putv {g b2 k0 : Nat} {w wr : World} {s p : Pe} {r2 v v2 : Value} {L acc : List Pe} (h : AdV g b2 k0 w wr s p r2 L v v2 acc) (_ : w.heap.size = g) (hk : g + 3 ≤ k0) (hb2 : g + 3 ≤ b2) : AdW g b2 k0 w (wr.setRow g (tabA s p v2 r2)) s p r2 L v2 acc :=
  ⟨bel_setRow h.bel (Nat.le_refl _) _, h.t.set _ _ _ _, tb_row h.x _ (by omega), own_row h.o _ (by omega), own_row h.o2 _ (by omega), h.lt, by rw [World.setRow]; simpa using h.sz⟩
/-- what an Adopt answers -/
def AdoptP (w : World) (s p : Pe) (L F : List Pe) (ok : Bool) (e : Ending) (w' : World) : Prop :=
  (ok = false ∧ e = .returned (.tuple #[.agg (tabA (0, 0) (0, 0) nilS nilS), .int .i64 1])) ∨ (ok = true ∧ ∃ t, e = .returned (.tuple #[t, .int .i64 0]) ∧ OwnT w w' s p F L t)
theorem adopt_end {g b2 k0 m : Nat} {w wr : World} {s p x : Pe} {r2 v : Value} {L R acc : List Pe} {oth : Pe → Bool} {ok : Bool} (h : AdW g b2 k0 w wr s p r2 L v acc) (hfin : acc = adG oth m [x] R) (hok : ok = true) (hg : w.heap.size = g) (hb2 : g + 3 ≤ b2) (hin : g + 3 ≤ k0) :
    AdoptP w s p L (adG oth ((m : Int).toNat) [x] R) ok (.returned (.tuple #[.agg (tabA s p v r2), .int .i64 0])) (wr.setRow (g + 2) (tabA s p v r2)) ∧ Below w.heap.size w (wr.setRow (g + 2) (tabA s p v r2)) := by
  refine ⟨.inr ⟨hok, _, rfl, v, r2, rfl, ?_, ?_, fun k h1 h2 => ?_⟩, ?_⟩
  · rw [Int.toNat_natCast, ← hfin]
    exact own_base (own_row h.o _ (by omega)) (by omega)
  · exact own_base (own_row h.o2 _ (by omega)) (by omega)
  · have := (h.o.lt k h1).1
    have := h.lt k h2
    omega
  · rw [hg]; exact bel_setRow h.bel (by omega) _
end Go.Proofs.Ytfajfmcabpmchaa

namespace Go.Proofs.Ytfajfmcabpmchaa
set_option maxRecDepth 100000
open Go Go.RowKit Go.Sort

def forP (a : Int) (x : Pe) : Pe := if x.1 = a then (-1, 0) else x
/-- .. behind them -/
structure PreD (g : Nat) (w wr : World) (s p : Pe) (a : Int) (r1 r2 : Value) (S : List Pe) : Prop where
  bel : Below g w wr
  t : TB wr g s p r1 r2
  ad : wr.cell? ⟨g + 1, 0, none⟩ = some (.int .i64 a)
  x : TB wr (g + 2) (0, 0) (0, 0) nilS nilS
  o : wr.ownsRow (g + 3) 28 21 r1 S.length (flat S)
/-- while the fingers are gone through -/
structure FoW (g b : Nat) (w wr : World) (s p : Pe) (a : Int) (r1 r2 : Value) (S : List Pe) (f : Nat → Pe) (n : Nat) : Prop where
  bel : Below g w wr
  t : TB wr g s p r1 r2
  ad : wr.cell? ⟨g + 1, 0, none⟩ = some (.int .i64 a)
  x : TB wr (g + 2) (0, 0) (0, 0) nilS nilS
  o : wr.ownsRow (g + 3) 28 21 r1 S.length (flat S)
  ne : r1.ownBlock ≠ some b
  lo : g + 3 ≤ b
  d : Dat wr b 0 f n
theorem FoW.bel2 {g b n : Nat} {w wr w' : World} {s p : Pe} {a : Int} {r1 r2 : Value} {S : List Pe} {f : Nat → Pe} (h : FoW g b w wr s p a r1 r2 S f n) (hg : w.heap.size = g) (hb : Below wr.heap.size wr w') : FoW g b w w' s p a r1 r2 S f n :=
  ⟨belTo hg h.bel hb, h.t.bel hb, cell_bel h.ad hb, h.x.bel hb, own_bel h.o hb, h.ne, h.lo, h.d.bel hb⟩
theorem FoW.put {g b n : Nat} {w wr : World} {s p : Pe} {a : Int} {r1 r2 : Value} {S : List Pe} {f : Nat → Pe} (h : FoW g b w wr s p a r1 r2 S f n) {i : Nat} (hi : i < n) (y : Pe) : FoW g b w (wr.setCells b (0 + i * 21) (peC y)) s p a r1 r2 S (fun j => if j = i then y else f j) n := by
  have hgr := grown_set wr b (0 + i * 21) (peC y)
  have hlo := h.lo
  have hlt := h.d.lt
  have hk : ∀ k, k ≠ b → k < wr.heap.size → (wr.setCells b (0 + i * 21) (peC y)).heap[k]? = wr.heap[k]? := fun k hk hl => hgr.block k hl (by simpa using hk)
  refine ⟨⟨hgr.os.trans h.bel.os, hgr.tape.trans h.bel.tape, hgr.output.trans h.bel.output, Nat.le_trans h.bel.size hgr.size, fun k hk' => (hk k (by omega) (by omega)).trans (h.bel.block k hk')⟩, (hk g (by omega) (by omega)).trans h.t, cell_but h.ad hgr (by omega), (hk (g + 2) (by omega) (by omega)).trans h.x, ?_, h.ne, h.lo, h.d.set hi y⟩
  exact own_keep h.o fun k e => hk k (fun e2 => h.ne (by rw [e, e2])) (h.o.lt k e).2
/-- before the fingers are gone through -/
structure PreW (g : Nat) (w wr : World) (s p : Pe) (a : Int) (r1 r2 : Value) (S L : List Pe) : Prop where
  bel : Below g w wr
  t : TB wr g s p r1 r2
  ad : wr.cell? ⟨g + 1, 0, none⟩ = some (.int .i64 a)
  x : TB wr (g + 2) (0, 0) (0, 0) nilS nilS
  o : wr.ownsRow (g + 3) 28 21 r1 S.length (flat S)
  o2 : wr.ownsRow (g + 3) 28 21 r2 L.length (flat L)
  ne : ∀ k, r1.ownBlock = some k → r2.ownBlock ≠ some k
theorem PreW.bel2 {g : Nat} {w wr w' : World} {s p : Pe} {a : Int} {r1 r2 : Value} {S L : List Pe} (h : PreW g w wr s p a r1 r2 S L) (hg : w.heap.size = g) (hb : Below wr.heap.size wr w') : PreW g w w' s p a r1 r2 S L :=
  ⟨belTo hg h.bel hb, h.t.bel hb, cell_bel h.ad hb, h.x.bel hb, own_bel h.o hb, own_bel h.o2 hb, h.ne⟩
theorem PreW.setp {g : Nat} {w wr : World} {s p : Pe} {a : Int} {r1 r2 : Value} {S L : List Pe} (h : PreW g w wr s p a r1 r2 S L) (_ : w.heap.size = g) (p' : Pe) : PreW g w (wr.setRow g (tabA s p' r1 r2)) s p' a r1 r2 S L :=
  ⟨bel_setRow h.bel (Nat.le_refl _) _, h.t.set _ _ _ _, cell_but h.ad (grown_row wr g _) (by omega), tb_row h.x _ (by omega), own_row h.o _ (by omega), own_row h.o2 _ (by omega), h.ne⟩
end Go.Proofs.Ytfajfmcabpmchaa

namespace Go.Proofs.Ytfajfmcabpmchaa
set_option maxRecDepth 100000
open Go Go.RowKit Go.Sort

theorem p_eqlP {ops : Array Oper} {rest : List Oper} {o : Oper} {a : Act} {w : World} {Q : Exit → Act → World → Prop} (hgd : o.guard = none) (u v : Operand) (ho : o.op = .binOp .eql 28 u v 28)
    (x y : Pe) (hx : a.eval u = .agg (peA x)) (hy : a.eval v = .agg (peA y)) {r : Bool} (hr : eqP x y = r) (h : wpList Try.prog ops Q rest (a.put o.dst (.bool r)) w) : wpList Try.prog ops Q (o :: rest) a w :=
  wpList_plain hgd fun _ hK => o_eqlP u v ho x y hx hy hr (hK _ _ h)
/-- what a finger holds, and whether it does -/
def fngR (es hb : Bool) (x : Pe) (i k : Nat) : Pe × Bool := if es = true then ((-1, 0), true) else if i = k ∨ hb = true then (x, true) else ((-1, 0), false)
/-- three blocks: a table, a peer, and where a peer is put -/
structure BoxF (w W : World) (s p : Pe) (u v : Value) (x y : Pe) : Prop where
  bel : Below w.heap.size w W
  t : TB W w.heap.size s p u v
  x : PB W (w.heap.size + 1) x
  r : PB W (w.heap.size + 2) y
theorem BoxF.made (w : World) (s p : Pe) (u v : Value) (x : Pe) : BoxF w (((w.alloc (.cells (tabA s p u v) 43)).alloc (.cells (peA x) 28)).alloc (.cells (peA (0, 0)) 28)) s p u v x (0, 0) := by
  have h := Box2.made w s p u v x
  refine ⟨h.bel.alloc (by simp; omega) _, Blk.alloc h.tb _, Blk.alloc h.pb _, ?_⟩
  have := PB.zero ((w.alloc (.cells (tabA s p u v) 43)).alloc (.cells (peA x) 28))
  rwa [World.size_alloc, World.size_alloc] at this
theorem BoxF.bel2 {w W w' : World} {s p : Pe} {u v : Value} {x y : Pe} (h : BoxF w W s p u v x y) (hb : Below W.heap.size W w') : BoxF w w' s p u v x y := ⟨step h.bel hb, h.t.bel hb, h.x.bel hb, h.r.bel hb⟩
theorem pb_row {w : World} {g k : Nat} {x : Pe} (h : PB w g x) (cs : Array Value) (hne : g ≠ k) : PB (w.setRow k cs) g x := Blk.setRow_other h k cs hne
theorem BoxF.setx {w W : World} {s p : Pe} {u v : Value} {x y : Pe} (h : BoxF w W s p u v x y) (z : Pe) : BoxF w (W.setRow (w.heap.size + 1) (peA z)) s p u v z y :=
  ⟨bel_setRow h.bel (by omega) _, tb_row h.t _ (by omega), h.x.set z, pb_row h.r _ (by omega)⟩
end Go.Proofs.Ytfajfmcabpmchaa

namespace Go.Proofs.Ytfajfmcabpmchaa
set_option maxRecDepth 100000
open Go Go.RowKit Go.Sort

/-- the fingers from i on, n of them, and the next one to point -/
def ptL (fg : Nat → Pe × Bool) : Nat → Nat → List Pe → List Pe × Nat
  | 0, _, L => (L, 0)
  | n + 1, i, L => if (fg i).2 = true then ptL fg n (i + 1) (L.set i (fg i).1) else (L, i)
def okK (k : Int) : Bool := decide (0 ≤ k) && decide (k < 160)
theorem fun_set (L : List Pe) {i : Nat} (hi : i < L.length) (y : Pe) : fun' (L.set i y) = fun j => if j = i then y else fun' L j := by
  funext j
  unfold fun'
  rw [List.getD_eq_getElem?_getD, List.getElem?_set]
  by_cases e : i = j
  · subst e; rw [if_pos rfl, if_pos hi, if_pos rfl]; rfl
  · rw [if_neg e, if_neg (fun h => e h.symm), ← List.getD_eq_getElem?_getD]
/-- while the fingers are pointed -/
structure PoW (g b : Nat) (w wr : World) (s p x : Pe) (r1 r2 : Value) (S L : List Pe) : Prop where
  bel : Below g w wr
  t : TB wr g s p r1 r2
  pb : PB wr (g + 1) x
  x : TB wr (g + 2) (0, 0) (0, 0) nilS nilS
  o : wr.ownsRow (g + 3) 28 21 r1 S.length (flat S)
  ne : r1.ownBlock ≠ some b
  lo : g + 3 ≤ b
  d : Dat wr b 0 (fun' L) L.length
theorem PoW.bel2 {g b : Nat} {w wr w' : World} {s p x : Pe} {r1 r2 : Value} {S L : List Pe} (h : PoW g b w wr s p x r1 r2 S L) (hg : w.heap.size = g) (hb : Below wr.heap.size wr w') : PoW g b w w' s p x r1 r2 S L :=
  ⟨belTo hg h.bel hb, h.t.bel hb, h.pb.bel hb, h.x.bel hb, own_bel h.o hb, h.ne, h.lo, h.d.bel hb⟩
theorem PoW.put {g b : Nat} {w wr : World} {s p x : Pe} {r1 r2 : Value} {S L : List Pe} (h : PoW g b w wr s p x r1 r2 S L) {i : Nat} (hi : i < L.length) (y : Pe) : PoW g b w (wr.setCells b (0 + i * 21) (peC y)) s p x r1 r2 S (L.set i y) := by
  have hgr := grown_set wr b (0 + i * 21) (peC y)
  have hlo := h.lo
  have hlt := h.d.lt
  have hk : ∀ k, k ≠ b → k < wr.heap.size → (wr.setCells b (0 + i * 21) (peC y)).heap[k]? = wr.heap[k]? := fun k hk hl => hgr.block k hl (by simpa using hk)
  refine ⟨⟨hgr.os.trans h.bel.os, hgr.tape.trans h.bel.tape, hgr.output.trans h.bel.output, Nat.le_trans h.bel.size hgr.size, fun k hk' => (hk k (by omega) (by omega)).trans (h.bel.block k hk')⟩, (hk g (by omega) (by omega)).trans h.t, (hk (g + 1) (by omega) (by omega)).trans h.pb, (hk (g + 2) (by omega) (by omega)).trans h.x, ?_, h.ne, h.lo, ?_⟩
  · exact own_keep h.o fun k e => hk k (fun e2 => h.ne (by rw [e, e2])) (h.o.lt k e).2
  · rw [List.length_set, fun_set L hi]; exact h.d.set hi y
/-- what a Point answers -/
def PointP (B : Nat) (s p : Pe) (S F : List Pe) (next : Nat) (ok : Bool) (e : Ending) (w' : World) : Prop :=
  (ok = false ∧ e = .returned (.tuple #[.agg (tabA (0, 0) (0, 0) nilS nilS), .int .i64 0, .int .i64 1])) ∨ (ok = true ∧ ∃ r1 r2, e = .returned (.tuple #[.agg (tabA s p r1 r2), .int .i64 (next : Int), .int .i64 0]) ∧ Lies w' r1 S ∧ Lies w' r2 F ∧ (∀ k, r1.ownBlock = some k → B ≤ k) ∧ ∀ k, r2.ownBlock = some k → B ≤ k)
theorem point_end {g b c n : Nat} {w wr : World} {s p x : Pe} {r1 : Value} {S L : List Pe} {next n2 : Nat} {F : List Pe} {ok : Bool} (h : PoW g b w wr s p x r1 (.slice (some ⟨b, 0, none⟩) n c) S L) (hl : L.length = n) (hc : n ≤ c) (e : L = F) (e2 : next = n2) (hok : ok = true) (hg : w.heap.size = g) :
    PointP w.heap.size s p S F n2 ok (.returned (.tuple #[.agg (tabA s p r1 (.slice (some ⟨b, 0, none⟩) n c)), .int .i64 (next : Int), .int .i64 0])) (wr.setRow (g + 2) (tabA s p r1 (.slice (some ⟨b, 0, none⟩) n c))) ∧ Below w.heap.size w (wr.setRow (g + 2) (tabA s p r1 (.slice (some ⟨b, 0, none⟩) n c))) := by
  have hlo := h.lo
  subst e e2
  refine ⟨.inr ⟨hok, _, _, rfl, own_lies (own_row h.o _ (by omega)), ?_, fun k e => by have := (h.o.lt k e).1; omega, fun k e => by have h2 : (some b : Option Nat) = some k := e; rw [Option.some.injEq] at h2; omega⟩, ?_⟩
  · refine lies_set ?_ (fun _ => by simp only [Value.ownBlock, ne_eq, Option.some.injEq]; omega) _
    have := Dat.lies h.d (by rw [hl]; exact hc)
    rwa [seg_fun, hl] at this
  · rw [hg]; exact bel_setRow h.bel (by omega) _
def pointB (s p : Pe) (S L : List Pe) (x : Pe) (k : Int) : Bool := isT s p S L && (okK k && (eqP x s || otherB s x))
def pointG (s x : Pe) (k i : Nat) : Pe × Bool := fngR (eqP x s) (halfB s.2 (s.2 + 2 ^ i) x.2) x i k
end Go.Proofs.Ytfajfmcabpmchaa
