/- A table adopts peers. -/
import Derived.Test.YtkcljbolopephaaTabLearn
namespace Go.Proofs.Ytkcljbolopephaa
set_option maxRecDepth 100000
open Go Go.RowKit Go.Sort

/-- those that are adopted, r together at most -/
def adG (oth : Pe → Bool) (r : Nat) : List Pe → List Pe → List Pe
  | acc, [] => acc
  | acc, x :: rest => if acc.length = r ∨ oth x = false then acc else adG oth r (if hasB acc x.1 = true then acc else acc ++ [x]) rest
def okR (r : Int) : Bool := decide (1 ≤ r) && decide (r ≤ 8)
def adoptB (s p : Pe) (S L : List Pe) (x : Pe) (r : Int) : Bool := isT s p S L && (otherB s x && okR r)
theorem own_form {w : World} {B e size n : Nat} {v : Value} {xs : List Value} (h : w.ownsRow B e size v n xs) : ∃ a c, v = .slice a n c := by
  rcases h.2 with ⟨rfl, rfl⟩ | ⟨g, cap, cur, rfl, _⟩
  · exact ⟨_, _, rfl⟩
  · exact ⟨_, _, rfl⟩
theorem own_slice1 (w : World) (x : Pe) : (w.alloc (.cells (peA x) 25)).ownsRow w.heap.size 25 21 (.slice (some ⟨w.heap.size, 0, none⟩) 1 1) 1 (flat [x]) :=
  ⟨by rw [flat_length]; rfl, .inr ⟨w.heap.size, 1, peA x, rfl, Nat.le_refl _, heap_alloc_new _ _, Nat.le_refl _, by unfold maxLen; omega, by rw [peA_size], by rw [flat_single, peA_list, List.take_of_length_le (by rw [peC_length]; omega)]⟩⟩
theorem p_build0 {ops : Array Oper} {rest : List Oper} {o : Oper} {a : Act} {w : World} {Q : Exit → Act → World → Prop} (hgd : o.guard = none) (ho : o.op = .build 28 #[])
    (h : wpList Try.prog ops Q rest (a.put o.dst (.agg (tabA (0, 0) (0, 0) nilS nilS))) w) : wpList Try.prog ops Q (o :: rest) a w := by
  refine wpList_plain hgd fun K hK => ?_
  have e := run_build (P := Try.prog) w 28 #[] _ builtT0
  unfold Oper.wp execOp
  simp only [ho, List.map_toArray, List.map_nil, Act.eval, Sem.run_bind, e, Sem.run_pure, Result.andThen_ok]
  exact hK _ _ h
/-- a table whose row of peers grows -/
structure AdW (g b2 k0 : Nat) (w wr : World) (s p : Pe) (r2 : Value) (L : List Pe) (v : Value) (acc : List Pe) : Prop where
  bel : Below g w wr
  t : TB wr g s p v r2
  x : TB wr (g + 2) (0, 0) (0, 0) nilS nilS
  o : wr.ownsRow k0 25 21 v acc.length (flat acc)
  o2 : wr.ownsRow b2 25 21 r2 L.length (flat L)
  lt : ∀ k, r2.ownBlock = some k → k < k0
  sz : k0 + 1 ≤ wr.heap.size
/-- .. before its slice is stored -/
structure AdV (g b2 k0 : Nat) (w wr : World) (s p : Pe) (r2 : Value) (L : List Pe) (v v2 : Value) (acc : List Pe) : Prop where
  bel : Below g w wr
  t : TB wr g s p v r2
  x : TB wr (g + 2) (0, 0) (0, 0) nilS nilS
  o : wr.ownsRow k0 25 21 v2 acc.length (flat acc)
  o2 : wr.ownsRow b2 25 21 r2 L.length (flat L)
  lt : ∀ k, r2.ownBlock = some k → k < k0
  sz : k0 + 1 ≤ wr.heap.size
theorem AdW.bel2 {g b2 k0 : Nat} {w wr w' : World} {s p : Pe} {r2 v : Value} {L acc : List Pe} (h : AdW g b2 k0 w wr s p r2 L v acc) (hg : w.heap.size = g) (hb : Below wr.heap.size wr w') : AdW g b2 k0 w w' s p r2 L v acc :=
  ⟨belTo hg h.bel hb, h.t.bel hb, h.x.bel hb, own_bel h.o hb, own_bel h.o2 hb, h.lt, Nat.le_trans h.sz hb.size⟩
theorem AdW.add {g b2 k0 na m : Nat} {w wr w4 : World} {s p y : Pe} {r2 v v2 : Value} {L acc : List Pe} (h : AdW g b2 k0 w wr s p r2 L v acc) (_ : w.heap.size = g) (_ : g + 3 ≤ b2) (hk : g + 3 ≤ k0) (hal : acc.length = na) (_ : na ≠ m) (hgr : wr.grownBy w4 v.ownBlock)
    (ho : w4.ownsRow k0 25 21 v2 (na + 1) (flat (acc ++ [y]))) : AdV g b2 k0 w w4 s p r2 L v v2 (acc ++ [y]) := by
  have hv : ∀ k, v.ownBlock = some k → k0 ≤ k := fun k e => (h.o.lt k e).1
  have kp : ∀ i, i < k0 → i < wr.heap.size → w4.heap[i]? = wr.heap[i]? := fun i hi hl => hgr.block i hl fun e => by have := hv i e.symm; omega
  have hsz := h.sz
  refine ⟨⟨hgr.os.trans h.bel.os, hgr.tape.trans h.bel.tape, hgr.output.trans h.bel.output, Nat.le_trans h.bel.size hgr.size, fun i hi => (kp i (by omega) (by omega)).trans (h.bel.block i hi)⟩, (kp g (by omega) (by omega)).trans h.t, (kp (g + 2) (by omega) (by omega)).trans h.x, ?_, own_keep h.o2 fun k e => kp k (h.lt k e) (h.o2.lt k e).2, h.lt, Nat.le_trans hsz hgr.size⟩
  rw [List.length_append, List.length_singleton, hal]
  exact ho
theorem AdV.putv {g b2 k0 : Nat} {w wr : World} {s p : Pe} {r2 v v2 : Value} {L acc : List Pe} (h : AdV g b2 k0 w wr s p r2 L v v2 acc) (_ : w.heap.size = g) (hk : g + 3 ≤ k0) (hb2 : g + 3 ≤ b2) : AdW g b2 k0 w (wr.setRow g (tabA s p v2 r2)) s p r2 L v2 acc :=
  ⟨bel_setRow h.bel (Nat.le_refl _) _, h.t.set _ _ _ _, tb_row h.x _ (by omega), own_row h.o _ (by omega), own_row h.o2 _ (by omega), h.lt, by rw [World.setRow]; simpa using h.sz⟩
/-- what an Adopt answers -/
def AdoptP (w : World) (s p : Pe) (L F : List Pe) (ok : Bool) (e : Ending) (w' : World) : Prop :=
  (ok = false ∧ e = .returned (.tuple #[.agg (tabA (0, 0) (0, 0) nilS nilS), .int .i64 1])) ∨ (ok = true ∧ ∃ t, e = .returned (.tuple #[t, .int .i64 0]) ∧ OwnT w w' s p F L t)
theorem adopt_end {g b2 k0 m : Nat} {w wr : World} {s p x : Pe} {r2 v : Value} {L R acc : List Pe} {oth : Pe → Bool} {ok : Bool} (h : AdW g b2 k0 w wr s p r2 L v acc) (hfin : acc = adG oth m [x] R) (hok : ok = true) (hg : w.heap.size = g) (hb2 : g + 3 ≤ b2) (hin : g + 3 ≤ k0) :
    AdoptP w s p L (adG oth ((m : Int).toNat) [x] R) ok (.returned (.tuple #[.agg (tabA s p v r2), .int .i64 0])) (wr.setRow (g + 2) (tabA s p v r2)) ∧ Below w.heap.size w (wr.setRow (g + 2) (tabA s p v r2)) := by
  refine ⟨.inr ⟨hok, _, rfl, v, r2, rfl, ?_, ?_, fun k h1 h2 => ?_⟩, ?_⟩
  · rw [Int.toNat_natCast, ← hfin]
    exact own_base (own_row h.o _ (by omega)) (by omega)
  · exact own_base (own_row h.o2 _ (by omega)) (by omega)
  · have := (h.o.lt k h1).1
    have := h.lt k h2
    omega
  · rw [hg]; exact bel_setRow h.bel (by omega) _
set_option maxHeartbeats 8000000 in
theorem adopt_core {w : World} {s p : Pe} {u v z : Value} {S L R : List Pe} (x : Pe) (r : Int) (it : Bool) (oth : Pe → Bool) (hS : Lies w u S) (hF : Lies w v L) (hR : Lies w z R) (hn : S.length ≤ 1000000) (hf : L.length ≤ 1000000) (hrn : R.length ≤ 1000000)
    (hI : ∀ W, Below w.heap.size w W → Calls Try.prog 25 #[.agg (tabA s p u v)] W fun e w' => e = .returned (.bool it) ∧ Below W.heap.size W w') (hO : ∀ y u v, Gives Try.prog 44 #[.agg (tabA s p u v), .agg (peA y)] (.bool (oth y))) :
    Calls Try.prog 13 #[.agg (tabA s p u v), .agg (peA x), z, .int .i64 r] w fun e w' => AdoptP w s p L (adG oth r.toNat [x] R) (it && (oth x && okR r)) e w' ∧ Below w.heap.size w w' := by
  have hX := Box3.made w s p u v x
  have HS := Lib.hid (hS.bel hX.bel)
  have HF := Lib.hid (hF.bel hX.bel)
  have HR := Lib.hid (hR.bel hX.bel)
  have HI := Lib.hid (hI _ hX.bel)
  have HO := Lib.hid hO
  have HC : Hid (∀ W', Lies W' u S → Lies W' v L → Calls Try.prog 45 #[.agg (tabA s p u v)] W' fun e w' => ∃ r1 r2, e = .returned (.agg (tabA s p r1 r2)) ∧ w'.ownsRow W'.heap.size 25 21 r1 S.length (flat S) ∧ w'.ownsRow W'.heap.size 25 21 r2 L.length (flat L) ∧
      (∀ k, r1.ownBlock = some k → r2.ownBlock ≠ some k) ∧ Below W'.heap.size W' w') := fun W' h1 h2 => copied_any h1 h2 hn hf
  have HRW0 : Hid (∀ wr, Below w.heap.size w wr → Lies wr z R) := fun wr h => hR.bel h
  obtain ⟨za, zc, rfl⟩ := hR.form
  have HRW := HRW0
  clear HRW0
  have HRN := Lib.hid hrn
  clear hS hF hR hn hf hI hO hrn
  generalize hrl : R.length = n at *
  have HRL := Lib.hid hrl
  clear hrl
  go_enter Try.func13, Try.ntmps13
  go_upto_region 1 with (fail)
  rw [tab_zero]
  generalize ((w.alloc _).alloc _).alloc _ = W at *
  obtain ⟨b0, t0, p0, x0⟩ := hX
  generalize hg : w.heap.size = g at *
  have hgW : g + 3 ≤ W.heap.size := x0.lt
  cases it
  · go_wp2_with (first
      | (refine p_midT rfl _ rfl g rfl t0 ?_)
      | (go_at_call 25; (with_reducible refine HI.out.mono ?_); rintro e w1 ⟨rfl, k1⟩; have x1 := x0.bel k1; have b1 := belTo hg b0 k1; clear k1)
      | (refine p_build0 rfl rfl ?_)
      | (refine p_putT rfl _ _ rfl (g + 2) rfl rfl rfl rfl x1 ?_))
    refine bodyPost_ret (results_T2 Try.results13 _ _ (g + 2) _ rfl rfl (x1.set _ _ _ _)) rfl ⟨.inl ⟨rfl, rfl⟩, by (try rw [hg]); exact bel_setRow b1 (by omega) _⟩
  generalize hot : oth x = ot
  have hO1 := HO.out x u v
  rw [hot] at hO1
  have HOT := Lib.hid hot
  clear hot
  cases ot
  · go_wp2_with (first
      | (refine p_midT rfl _ rfl g rfl t0 ?_)
      | (go_at_call 25; (with_reducible refine HI.out.mono ?_); rintro e w1 ⟨rfl, k1⟩; have t1 := t0.bel k1; have p1 := (p0.bel k1).range; have x1 := x0.bel k1; have b1 := belTo hg b0 k1; clear k1)
      | (go_guarded; refine o_midT _ rfl g rfl t1 ?_; simp only [Act.put, List.setIfInBounds_toArray, List.set_cons_succ, List.set_cons_zero])
      | (go_guarded; refine o_midP _ rfl (g + 1) 0 rfl x p1 ?_; simp only [Act.put, List.setIfInBounds_toArray, List.set_cons_succ, List.set_cons_zero])
      | (go_at_call 44; (with_reducible refine (hO1.calls _).mono ?_); rintro e w2 ⟨rfl, k2⟩; have x2 := x1.bel k2; have b2 := belTo hg b1 k2; clear k2)
      | (refine p_build0 rfl rfl ?_)
      | (refine p_putT rfl _ _ rfl (g + 2) rfl rfl rfl rfl x2 ?_))
    refine bodyPost_ret (results_T2 Try.results13 _ _ (g + 2) _ rfl rfl (x2.set _ _ _ _)) rfl ⟨.inl ⟨by rw [HOT.out]; rfl, rfl⟩, by (try rw [hg]); exact bel_setRow b2 (by omega) _⟩
  by_cases hr1 : r < 1
  · have e1 : okR r = false := by unfold okR; rw [decide_eq_false (by omega)]; rfl
    have HE := Lib.hid e1
    clear e1
    go_wp2_with (first
      | (refine p_midT rfl _ rfl g rfl t0 ?_)
      | (go_at_call 25; (with_reducible refine HI.out.mono ?_); rintro e w1 ⟨rfl, k1⟩; have t1 := t0.bel k1; have p1 := (p0.bel k1).range; have x1 := x0.bel k1; have b1 := belTo hg b0 k1; clear k1)
      | (go_guarded; refine o_midT _ rfl g rfl t1 ?_; simp only [Act.put, List.setIfInBounds_toArray, List.set_cons_succ, List.set_cons_zero])
      | (go_guarded; refine o_midP _ rfl (g + 1) 0 rfl x p1 ?_; simp only [Act.put, List.setIfInBounds_toArray, List.set_cons_succ, List.set_cons_zero])
      | (go_at_call 44; (with_reducible refine (hO1.calls _).mono ?_); rintro e w2 ⟨rfl, k2⟩; have x2 := x1.bel k2; have b2 := belTo hg b1 k2; clear k2)
      | (refine p_build0 rfl rfl ?_)
      | (refine p_putT rfl _ _ rfl (g + 2) rfl rfl rfl rfl x2 ?_))
    refine bodyPost_ret (results_T2 Try.results13 _ _ (g + 2) _ rfl rfl (x2.set _ _ _ _)) rfl ⟨.inl ⟨by rw [HOT.out, HE.out]; rfl, rfl⟩, by (try rw [hg]); exact bel_setRow b2 (by omega) _⟩
  by_cases hr8 : 8 < r
  · have e1 : okR r = false := by unfold okR; rw [decide_eq_false (p := r ≤ 8) (by omega), Bool.and_false]
    have HE := Lib.hid e1
    clear e1
    go_wp2_with (first
      | (refine p_midT rfl _ rfl g rfl t0 ?_)
      | (go_at_call 25; (with_reducible refine HI.out.mono ?_); rintro e w1 ⟨rfl, k1⟩; have t1 := t0.bel k1; have p1 := (p0.bel k1).range; have x1 := x0.bel k1; have b1 := belTo hg b0 k1; clear k1)
      | (go_guarded; refine o_midT _ rfl g rfl t1 ?_; simp only [Act.put, List.setIfInBounds_toArray, List.set_cons_succ, List.set_cons_zero])
      | (go_guarded; refine o_midP _ rfl (g + 1) 0 rfl x p1 ?_; simp only [Act.put, List.setIfInBounds_toArray, List.set_cons_succ, List.set_cons_zero])
      | (go_at_call 44; (with_reducible refine (hO1.calls _).mono ?_); rintro e w2 ⟨rfl, k2⟩; have x2 := x1.bel k2; have b2 := belTo hg b1 k2; clear k2)
      | (refine p_build0 rfl rfl ?_)
      | (refine p_putT rfl _ _ rfl (g + 2) rfl rfl rfl rfl x2 ?_))
    refine bodyPost_ret (results_T2 Try.results13 _ _ (g + 2) _ rfl rfl (x2.set _ _ _ _)) rfl ⟨.inl ⟨by rw [HOT.out, HE.out]; rfl, rfl⟩, by (try rw [hg]); exact bel_setRow b2 (by omega) _⟩
  have e1 : okR r = true := by unfold okR; rw [decide_eq_true (by omega), decide_eq_true (by omega)]; rfl
  have HE := Lib.hid e1
  clear e1
  obtain ⟨m, rfl⟩ : ∃ m : Nat, r = (m : Int) := ⟨r.toNat, by omega⟩
  go_upto_region 4 with (first
    | (refine p_midT rfl _ rfl g rfl t0 ?_)
    | (go_at_call 25; (with_reducible refine HI.out.mono ?_); rintro e w1 ⟨rfl, k1⟩; have t1 := t0.bel k1; have P1 := Lib.hid (p0.bel k1); have p1 := (p0.bel k1).range; have x1 := x0.bel k1; have K1 := Lib.hid k1; have b1 := belTo hg b0 k1; clear k1)
    | (go_guarded; refine o_midT _ rfl g rfl t1 ?_; simp only [Act.put, List.setIfInBounds_toArray, List.set_cons_succ, List.set_cons_zero])
    | (go_guarded; refine o_midP _ rfl (g + 1) 0 rfl x p1 ?_; simp only [Act.put, List.setIfInBounds_toArray, List.set_cons_succ, List.set_cons_zero])
    | (go_at_call 44; (with_reducible refine (hO1.calls _).mono ?_); rintro e w2 ⟨rfl, k2⟩; have t2 := t1.bel k2; have P2 := Lib.hid (P1.out.bel k2); have x2 := x1.bel k2; have b2 := belTo hg b1 k2; have K2 := Lib.hid (step K1.out k2); clear k2)
    | (refine p_midT rfl _ rfl g rfl t2 ?_)
    | (go_at_call 45; (with_reducible refine (HC.out _ (HS.out.bel K2.out) (HF.out.bel K2.out)).mono ?_); rintro e w3 ⟨r1, r2, rfl, o1, o2, ha, k3⟩; have t3 := t2.bel k3; have P3 := Lib.hid (P2.out.bel k3); have x3 := x2.bel k3; have O2 := Lib.hid o2; have E1 := Lib.hid (own_one o1); have K3 := Lib.hid k3; have b3 := belTo hg b2 k3; clear o1 o2 ha k3)
    | (refine p_putT rfl _ _ rfl g rfl rfl E1.out (own_one O2.out) t3 ?_))
  have t4 := t3.set s p r1 r2
  have x4 := tb_row x3 (tabA s p r1 r2) (show g + 2 ≠ g by omega)
  have P4 := PB.range (Blk.setRow_other P3.out g (tabA s p r1 r2) (by omega))
  have hsz3 : g + 3 ≤ w2.heap.size := Nat.le_trans hgW K2.out.size
  have hsz4 : w3.heap.size = (w3.setRow g (tabA s p r1 r2)).heap.size := by rw [World.setRow]; simp
  have hW3 : w2.heap.size ≤ w3.heap.size := K3.out.size
  have O4 := Lib.hid (own_row O2.out (tabA s p r1 r2) (show g < w2.heap.size by omega))
  have B4 : Below g w (w3.setRow g (tabA s p r1 r2)) := bel_setRow b3 (Nat.le_refl _) _
  clear t0 p0 x0 b0 t1 P1 p1 x1 K1 b1 t2 P2 x2 b2 K2 t3 P3 x3 O2 E1 K3 b3 HS HF HC HI hO1
  generalize w3.setRow g (tabA s p r1 r2) = W4 at *
  have C4 := (Below.refl W4.heap.size W4).alloc (Nat.le_refl _) (.cells (peA x) 25)
  have t5 := t4.bel C4
  have x5 := x4.bel C4
  have B5 := belTo hg B4 C4
  have O5 := Lib.hid (own_bel O4.out C4)
  have S5 := Lib.hid (own_slice1 W4 x)
  have hk0 : ∀ k, r2.ownBlock = some k → k < W4.heap.size := fun k hk => (O4.out.lt k hk).2
  have HK0 := Lib.hid hk0
  clear hk0 C4 B4 t4 x4 O4
  have hsz5 : W4.heap.size + 1 = (W4.alloc (.cells (peA x) 25)).heap.size := by simp
  go_upto_region 5 with (first
    | (refine p_midP rfl _ rfl (g + 1) 0 rfl x P4 ?_)
    | (refine p_sliceP rfl _ rfl x rfl ?_)
    | (refine p_putS rfl _ _ rfl g rfl (.slice (some ⟨W4.heap.size, 0, none⟩) 1 1) rfl rfl t5 ?_))
  generalize hk0 : W4.heap.size = k0 at *
  have hin : g + 3 ≤ k0 := by omega
  have t6 := t5.set s p (.slice (some ⟨k0, 0, none⟩) 1 1) r2
  have x6 := tb_row x5 (tabA s p (.slice (some ⟨k0, 0, none⟩) 1 1) r2) (show g + 2 ≠ g by omega)
  have B6 : Below g w ((W4.alloc (.cells (peA x) 25)).setRow g (tabA s p (.slice (some ⟨k0, 0, none⟩) 1 1) r2)) := bel_setRow B5 (Nat.le_refl _) _
  have O6 := own_row O5.out (tabA s p (.slice (some ⟨k0, 0, none⟩) 1 1) r2) (show g < w2.heap.size by omega)
  have S6 := own_row S5.out (tabA s p (.slice (some ⟨k0, 0, none⟩) 1 1) r2) (show g < k0 by omega)
  have hsz6 : k0 + 1 ≤ ((W4.alloc (.cells (peA x) 25)).setRow g (tabA s p (.slice (some ⟨k0, 0, none⟩) 1 1) r2)).heap.size := by rw [World.setRow]; simp; omega
  clear t5 x5 B5 O5 S5 P4 hsz5 hsz4
  generalize (W4.alloc (.cells (peA x) 25)).setRow g (tabA s p (.slice (some ⟨k0, 0, none⟩) 1 1) r2) = W6 at *
  have A6 : Hid (AdW g w2.heap.size k0 w W6 s p r2 L (.slice (some ⟨k0, 0, none⟩) 1 1) [x]) := ⟨B6, t6, x6, S6, O6, HK0.out, hsz6⟩
  have hm1 : 1 ≤ m := by omega
  have hm8 : m ≤ 8 := by omega
  clear t6 x6 B6 O6 S6 HK0 hsz6 hgW hr1 hr8
  have hb2 : g + 3 ≤ w2.heap.size := hsz3
  generalize w2.heap.size = b2 at *
  go_upto_region 6 with (fail)
  go_loopw [11, 37] (fun _ i wr => ∃ (k : Nat) (acc : List Pe) (v' : Value), i = .int .i64 (k : Int) ∧ k ≤ n ∧ AdW g b2 k0 w wr s p r2 L v' acc ∧ acc.length ≤ m ∧ adG oth m acc (R.drop k) = adG oth m [x] R) (fun _ i _ => n - (intOf i).toNat)
  case atStart => exact ⟨0, [x], _, rfl, Nat.zero_le _, A6.out, hm1, by rw [List.drop_zero]⟩
  case round =>
    clear A6
    obtain ⟨k, acc, v', rfl, hk, hA, hacc, hE⟩ := hrel
    have HA := Lib.hid hA
    have HEQ := Lib.hid hE
    obtain ⟨va, vc, rfl⟩ := own_form hA.o
    clear hA hE
    by_cases hlt : k < n
    · have hx : R[k]? = some (R.getD k (0, 0)) := by
        have : k < R.length := by have := HRL.out; omega
        rw [List.getD_eq_getElem?_getD, List.getElem?_eq_getElem this]; rfl
      obtain ⟨b, o, c, e1, hc, hr, r1', hlb⟩ := (HRW.out _ HA.out.bel).at hx
      simp only [Value.slice.injEq] at e1
      obtain ⟨rfl, e2, rfl⟩ := e1
      have hdrop : R.drop k = R.getD k (0, 0) :: R.drop (k + 1) := by
        have : k < R.length := by have := HRL.out; omega
        rw [List.drop_eq_getElem_cons this, List.getD_eq_getElem?_getD, List.getElem?_eq_getElem this]; rfl
      have hE := HEQ.out
      rw [hdrop, adG] at hE
      have HE2 := Lib.hid hE
      clear hx e2 hc hr hdrop hE HEQ
      generalize R.getD k (0, 0) = y at *
      have B1 := (Below.refl wr.heap.size wr).alloc (Nat.le_refl _) (.cells (peA y) 25)
      have X1 := PB.new wr y
      have HA1 := Lib.hid (HA.out.bel2 hg B1)
      go_upto_region 8 with (first
        | (refine p_midP rfl _ rfl b (o + k * 21) rfl y r1' ?_)
        | (refine p_storeP rfl rfl _ _ rfl y rfl rfl ?_))
      (try simp only [Act.put])
      clear B1 r1' hlb HA
      generalize wr.alloc _ = W1 at *
      generalize wr.heap.size = g1 at *
      have t1 := HA1.out.t
      have c1 := t1.cu
      have P1 := X1.range
      have d1 := X1.A
      have HO8 := HO.out y (.slice va acc.length vc) r2
      have HH : Hid (∀ w', AdW g b2 k0 w w' s p r2 L (.slice va acc.length vc) acc → Calls Try.prog 46 #[.slice va acc.length vc, .int .i64 y.1] w' fun e w'' => e = .returned (.bool (hasB acc y.1)) ∧ Below w'.heap.size w' w'') := fun w' h => hasAddr_any y.1 (own_lies h.o) (by omega)
      generalize hal : acc.length = na at *
      have HAL := Lib.hid hal
      clear hal
      by_cases hm : na = m
      · have hfin : acc = adG oth m [x] R := by rw [← HE2.out, if_pos (.inl hm)]
        subst hm
        have e1 : ((na : Int) == (na : Int)) = true := by simp
        have H13 := Lib.hid hfin
        clear hfin HE2 HO8 HH
        go_wp2_with (first
          | (go_guarded; refine o_midT _ rfl g rfl t1 ?_; simp only [Act.put, List.setIfInBounds_toArray, List.set_cons_succ, List.set_cons_zero])
          | (go_guarded; refine o_midP _ rfl g1 0 rfl y P1 ?_; simp only [Act.put, List.setIfInBounds_toArray, List.set_cons_succ, List.set_cons_zero])
          | (go_at_call 44; (with_reducible refine (HO8.calls _).mono ?_); rintro e w2 ⟨rfl, k2⟩; have HA2 := Lib.hid (HA1.out.bel2 hg k2); clear k2)
          | (refine p_midT rfl _ rfl g rfl HA1.out.t ?_)
          | (refine p_midT rfl _ rfl g rfl HA2.out.t ?_)
          | (refine p_putT rfl _ _ rfl (g + 2) rfl rfl rfl (own_one HA1.out.o2) HA1.out.x ?_)
          | (refine p_putT rfl _ _ rfl (g + 2) rfl rfl rfl (own_one HA2.out.o2) HA2.out.x ?_))
        first
          | exact bodyPost_ret (results_T2 Try.results13 _ _ (g + 2) _ rfl rfl (HA2.out.x.set _ _ _ _)) rfl (adopt_end HA2.out H13.out (by rw [HOT.out, HE.out]; rfl) hg hb2 hin)
          | exact bodyPost_ret (results_T2 Try.results13 _ _ (g + 2) _ rfl rfl (HA1.out.x.set _ _ _ _)) rfl (adopt_end HA1.out H13.out (by rw [HOT.out, HE.out]; rfl) hg hb2 hin)
      · have e1 : ((na : Int) == (m : Int)) = false := by rw [beq_addr]; exact decide_eq_false (by omega)
        generalize hoy : oth y = oy
        rw [hoy] at HO8
        cases oy
        · have hfin : acc = adG oth m [x] R := by rw [← HE2.out, if_pos (.inr hoy)]
          have H13 := Lib.hid hfin
          clear hfin HE2 HH hoy
          go_wp2_with (first
            | (go_guarded; refine o_midT _ rfl g rfl t1 ?_; simp only [Act.put, List.setIfInBounds_toArray, List.set_cons_succ, List.set_cons_zero])
            | (go_guarded; refine o_midP _ rfl g1 0 rfl y P1 ?_; simp only [Act.put, List.setIfInBounds_toArray, List.set_cons_succ, List.set_cons_zero])
            | (go_at_call 44; (with_reducible refine (HO8.calls _).mono ?_); rintro e w2 ⟨rfl, k2⟩; have HA2 := Lib.hid (HA1.out.bel2 hg k2); clear k2)
            | (refine p_midT rfl _ rfl g rfl HA1.out.t ?_)
            | (refine p_midT rfl _ rfl g rfl HA2.out.t ?_)
            | (refine p_putT rfl _ _ rfl (g + 2) rfl rfl rfl (own_one HA1.out.o2) HA1.out.x ?_)
            | (refine p_putT rfl _ _ rfl (g + 2) rfl rfl rfl (own_one HA2.out.o2) HA2.out.x ?_))
          first
            | exact bodyPost_ret (results_T2 Try.results13 _ _ (g + 2) _ rfl rfl (HA2.out.x.set _ _ _ _)) rfl (adopt_end HA2.out H13.out (by rw [HOT.out, HE.out]; rfl) hg hb2 hin)
            | exact bodyPost_ret (results_T2 Try.results13 _ _ (g + 2) _ rfl rfl (HA1.out.x.set _ _ _ _)) rfl (adopt_end HA1.out H13.out (by rw [HOT.out, HE.out]; rfl) hg hb2 hin)
        · have hnx : adG oth m (if hasB acc y.1 = true then acc else acc ++ [y]) (R.drop (k + 1)) = adG oth m [x] R := by
            rw [← HE2.out, if_neg (c := na = m ∨ oth y = false) (by rintro (h | h); exact hm h; rw [hoy] at h; cases h)]
          have HNX := Lib.hid hnx
          clear hnx HE2 hoy
          have s1 : IntKind.i64.wrap ((k : Int) + 1) = (k : Int) + 1 := IntWalk.i64_in _ (by have := HRN.out; omega)
          generalize hhb : hasB acc y.1 = hb at *
          have HHB := Lib.hid hhb
          clear hhb
          cases hb
          · go_upto_region 10 with (first
              | (go_guarded; refine o_midT _ rfl g rfl t1 ?_; simp only [Act.put, List.setIfInBounds_toArray, List.set_cons_succ, List.set_cons_zero])
              | (go_guarded; refine o_midP _ rfl g1 0 rfl y P1 ?_; simp only [Act.put, List.setIfInBounds_toArray, List.set_cons_succ, List.set_cons_zero])
              | (go_at_call 44; (with_reducible refine (HO8.calls _).mono ?_); rintro e w2 ⟨rfl, k2⟩; have HA2 := Lib.hid (HA1.out.bel2 hg k2); have c2 := HA2.out.t.cu; have X2 := X1.bel k2; have d2 := X2.A; have K2 := Lib.hid k2; clear k2)
              | (go_at_call 46; (with_reducible refine (HH.out _ HA2.out).mono ?_); rintro e w3 ⟨rfl, k3⟩; have HA3 := Lib.hid (HA2.out.bel2 hg k3); have X3 := X2.bel k3; clear k3))
            have HA4 := HA3
            have t3 := HA3.out.t
            have c3 := t3.cu
            have R3 := X3.range
            have B3 := (Below.refl w3.heap.size w3).alloc (Nat.le_refl _) (.cells (peA y) 25)
            have HA5 := Lib.hid (HA3.out.bel2 hg B3)
            have X5 := (PB.new w3 y).range
            clear HA1 HA2 HA3 t1 c1 P1 d1 c2 d2 K2 X1 X2 X3 HO8 HH B3
            go_upto_region 11 with (first
              | (refine p_midP rfl _ rfl g1 0 rfl y R3 ?_)
              | (refine p_sliceP rfl _ rfl y rfl ?_)
              | (refine wpList_addG rfl _ _ rfl k0 (.slice va na vc) acc na rfl (HAL.out ▸ HA5.out.o) w3.heap.size 1 y rfl X5 (by omega) (by have := HA5.out.sz; omega) ?_; intro v2 w4 ho2 hg2; have HA6 := Lib.hid (HA5.out.add hg hb2 hin HAL.out (by simpa using hm) hg2 ho2); have E6 := Lib.hid (own_one ho2); clear ho2 hg2)
              | (refine p_putS rfl _ _ rfl g rfl v2 rfl E6.out HA6.out.t ?_))
            have HA7 := Lib.hid (HA6.out.putv hg hin hb2)
            clear HA4 HA5 HA6 t3 c3 R3 X5 E6
            generalize w4.setRow g (tabA s p v2 r2) = W7 at *
            go_wp2
            exact ⟨⟨k + 1, acc ++ [y], v2, by go_num, by omega, HA7.out, by have := HAL.out; rw [List.length_append, List.length_singleton]; omega, HNX.out⟩, by simp [intOf]; omega⟩
          · go_wp2_with (first
              | (go_guarded; refine o_midT _ rfl g rfl t1 ?_; simp only [Act.put, List.setIfInBounds_toArray, List.set_cons_succ, List.set_cons_zero])
              | (go_guarded; refine o_midP _ rfl g1 0 rfl y P1 ?_; simp only [Act.put, List.setIfInBounds_toArray, List.set_cons_succ, List.set_cons_zero])
              | (go_at_call 44; (with_reducible refine (HO8.calls _).mono ?_); rintro e w2 ⟨rfl, k2⟩; have HA2 := Lib.hid (HA1.out.bel2 hg k2); have c2 := HA2.out.t.cu; have X2 := X1.bel k2; have d2 := X2.A; have K2 := Lib.hid k2; clear k2)
              | (go_at_call 46; (with_reducible refine (HH.out _ HA2.out).mono ?_); rintro e w3 ⟨rfl, k3⟩; have HA3 := Lib.hid (HA2.out.bel2 hg k3); clear k3))
            exact ⟨⟨k + 1, acc, _, by go_num, by omega, HAL.out ▸ HA3.out, by have := HAL.out; omega, HNX.out⟩, by simp [intOf]; omega⟩
    · obtain rfl : k = n := by omega
      have hfin : acc = adG oth m [x] R := by
        rw [← HEQ.out, List.drop_of_length_le (by have := HRL.out; omega), adG]
      have H13 := Lib.hid hfin
      clear hfin HEQ
      generalize acc.length = na at *
      go_wp2_with (first
        | (refine p_midT rfl _ rfl g rfl HA.out.t ?_)
        | (refine p_putT rfl _ _ rfl (g + 2) rfl rfl rfl (own_one HA.out.o2) HA.out.x ?_))
      exact bodyPost_ret (results_T2 Try.results13 _ _ (g + 2) _ rfl rfl (HA.out.x.set _ _ _ _)) rfl (adopt_end HA.out H13.out (by rw [HOT.out, HE.out]; rfl) hg hb2 hin)
theorem adopt_any {w : World} {s p : Pe} {u v z : Value} {S L R : List Pe} (x : Pe) (r : Int) (hS : Lies w u S) (hF : Lies w v L) (hR : Lies w z R) (hn : S.length ≤ 1000000) (hf : L.length ≤ 1000000) (hrn : R.length ≤ 1000000) :
    Calls Try.prog 13 #[.agg (tabA s p u v), .agg (peA x), z, .int .i64 r] w fun e w' => AdoptP w s p L (adG (otherB s) r.toNat [x] R) (adoptB s p S L x r) e w' ∧ Below w.heap.size w w' :=
  adopt_core x r _ _ hS hF hR hn hf hrn (fun _ hb => is_any (hS.bel hb) (hF.bel hb) hn hf) fun y u v => isOther_gives s p u v y
end Go.Proofs.Ytkcljbolopephaa
