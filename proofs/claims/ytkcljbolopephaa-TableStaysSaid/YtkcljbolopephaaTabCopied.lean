/- A table with rows of its own. -/
import Derived.Test.YtkcljbolopephaaTabKnown
namespace Go.Proofs.Ytkcljbolopephaa
set_option maxRecDepth 100000
open Go Go.RowKit Go.Sort

theorem own_row {w : World} {B e size n g : Nat} {v : Value} {xs : List Value} (h : w.ownsRow B e size v n xs) (cs : Array Value) (hg : g < B) : (w.setRow g cs).ownsRow B e size v n xs :=
  own_keep h fun k hk => Go.setRow_other _ _ k _ (fun e => by have := (h.lt k hk).1; omega)
theorem own_base {w : World} {B B' e size n : Nat} {v : Value} {xs : List Value} (h : w.ownsRow B e size v n xs) (hB : B' ≤ B) : w.ownsRow B' e size v n xs := by
  refine ⟨h.1, h.2.imp id ?_⟩
  rintro ⟨g, cap, cur, h1, h2, r⟩
  exact ⟨g, cap, cur, h1, Nat.le_trans hB h2, r⟩
/-- two blocks: a table, and where a table is put -/
structure Two2 (w W : World) (s p : Pe) (u v : Value) (s' p' : Pe) (u' v' : Value) : Prop where
  bel : Below w.heap.size w W
  t : TB W w.heap.size s p u v
  r : TB W (w.heap.size + 1) s' p' u' v'
theorem Two2.made (w : World) (s p : Pe) (u v : Value) : Two2 w ((w.alloc (.cells (tabA s p u v) 28)).alloc (.cells (tabA (0, 0) (0, 0) nilS nilS) 28)) s p u v (0, 0) (0, 0) nilS nilS := by
  refine ⟨((Below.refl w.heap.size w).alloc (Nat.le_refl _) _).alloc (by simp) _, Blk.alloc (Blk.new ..) _, ?_⟩
  have := TB.zero (w.alloc (.cells (tabA s p u v) 28))
  rwa [World.size_alloc] at this
theorem tb_row {w : World} {g k : Nat} {s p : Pe} {u v : Value} (h : TB w g s p u v) (cs : Array Value) (hne : g ≠ k) : TB (w.setRow k cs) g s p u v := Blk.setRow_other h k cs hne
theorem grown_row (w : World) (g : Nat) (cs : Array Value) : w.grownBy (w.setRow g cs) (some g) := ⟨rfl, rfl, rfl, by rw [World.setRow]; simp, fun i _ hne => Go.setRow_other _ _ i cs (fun e => hne (by rw [e]))⟩
theorem lies_set {w : World} {v : Value} {L : List Pe} {g : Nat} (h : Lies w v L) (hne : 0 < L.length → v.ownBlock ≠ some g) (cs : Array Value) : Lies (w.setRow g cs) v L := lies_but h (grown_row w g cs) hne
set_option maxHeartbeats 4000000 in
theorem copied_any {w : World} {s p : Pe} {u v : Value} {S L : List Pe} (hS : Lies w u S) (hF : Lies w v L) (hn : S.length ≤ 1000000) (hf : L.length ≤ 1000000) :
    Calls Try.prog 45 #[.agg (tabA s p u v)] w fun e w' => ∃ r1 r2, e = .returned (.agg (tabA s p r1 r2)) ∧ w'.ownsRow w.heap.size 25 21 r1 S.length (flat S) ∧ w'.ownsRow w.heap.size 25 21 r2 L.length (flat L) ∧
      (∀ k, r1.ownBlock = some k → r2.ownBlock ≠ some k) ∧ Below w.heap.size w w' := by
  have hX := Two2.made w s p u v
  have HS := Lib.hid (hS.bel hX.bel)
  have HF := Lib.hid (hF.bel hX.bel)
  have HC1 : Hid (∀ W', Lies W' u S → Calls Try.prog 72 #[u] W' fun e w' => ∃ r, e = .returned r ∧ w'.ownsRow W'.heap.size 25 21 r S.length (flat S) ∧ Below W'.heap.size W' w') := fun W' h => clone_any h hn
  have HC2 : Hid (∀ W', Lies W' v L → Calls Try.prog 72 #[v] W' fun e w' => ∃ r, e = .returned r ∧ w'.ownsRow W'.heap.size 25 21 r L.length (flat L) ∧ Below W'.heap.size W' w') := fun W' h => clone_any h hf
  have HNF : Hid (0 < L.length → v.ownBlock ≠ some w.heap.size) := fun h => lies_block hF h (Nat.le_refl _)
  clear hS hF hn hf
  go_enter Try.func45, Try.ntmps45
  go_upto_region 1 with (fail)
  rw [tab_zero]
  generalize (w.alloc _).alloc _ = W at *
  obtain ⟨b0, t0, x0⟩ := hX
  generalize hg : w.heap.size = g at *
  have hgW : g + 2 ≤ W.heap.size := x0.lt
  have c1 := t0.cu
  go_upto_region 2 with (first
    | (go_at_call 72; (with_reducible refine (HC1.out _ HS.out).mono ?_); rintro e w1 ⟨r1, rfl, o1, k1⟩; have t1 := t0.bel k1; have x1 := x0.bel k1; have O1 := Lib.hid o1; have K1 := Lib.hid k1; clear o1 k1)
    | (refine p_putS rfl _ _ rfl g rfl r1 rfl (own_one O1.out) t1 ?_))
  have t2 := t1.set s p r1 v
  have x2 := tb_row x1 (tabA s p r1 v) (show g + 1 ≠ g by omega)
  have O2 := Lib.hid (own_row O1.out (tabA s p r1 v) (show g < W.heap.size by omega))
  have B2 : Below g w (w1.setRow g (tabA s p r1 v)) := bel_setRow (belTo hg b0 K1.out) (Nat.le_refl _) _
  have F2 : Hid (Lies (w1.setRow g (tabA s p r1 v)) v L) := lies_set (HF.out.bel K1.out) HNF.out _
  have hs2 : W.heap.size ≤ (w1.setRow g (tabA s p r1 v)).heap.size := by rw [World.setRow]; simpa using K1.out.size
  clear t0 x0 c1 b0 t1 x1 O1 K1 HS HC1
  generalize w1.setRow g (tabA s p r1 v) = W2 at *
  have c2 := t2.cv
  go_upto_region 3 with (first
    | (go_at_call 72; (with_reducible refine (HC2.out _ F2.out).mono ?_); rintro e w3 ⟨r2, rfl, o3, k3⟩; have t3 := t2.bel k3; have x3 := x2.bel k3; have O3 := Lib.hid o3; have K3 := Lib.hid k3; clear o3 k3)
    | (refine p_putF rfl _ _ rfl g rfl r2 rfl (own_one O3.out) t3 ?_))
  have t4 := t3.set s p r1 r2
  have x4 := tb_row x3 (tabA s p r1 r2) (show g + 1 ≠ g by omega)
  have O4 := Lib.hid (own_row (own_bel O2.out K3.out) (tabA s p r1 r2) (show g < W.heap.size by omega))
  have O5 := Lib.hid (own_row O3.out (tabA s p r1 r2) (show g < W2.heap.size by omega))
  have B4 : Below g w (w3.setRow g (tabA s p r1 r2)) := bel_setRow (belTo hg B2 K3.out) (Nat.le_refl _) _
  have HA : Hid (∀ k, r1.ownBlock = some k → r2.ownBlock ≠ some k) := fun k h1 h2 => by
    have a := (O2.out.lt k h1).2
    have b := (O3.out.lt k h2).1
    omega
  have e1 := own_one O2.out
  have e2 := own_one O3.out
  clear t2 x2 c2 B2 t3 x3 K3 O2 O3 F2 HC2
  generalize w3.setRow g (tabA s p r1 r2) = W4 at *
  go_wp2_with (first
    | (refine p_midT rfl _ rfl g rfl t4 ?_)
    | (refine p_putT rfl _ _ rfl (g + 1) rfl rfl e1 e2 x4 ?_))
  exact bodyPost_ret (results_T1 Try.results45 _ _ (g + 1) rfl (x4.set s p r1 r2)) rfl ⟨r1, r2, rfl, own_base (own_row O4.out _ (by omega)) (by omega), own_base (own_row O5.out _ (by omega)) (by omega), HA.out, by rw [hg]; exact bel_setRow B4 (Nat.le_succ g) _⟩
end Go.Proofs.Ytkcljbolopephaa
