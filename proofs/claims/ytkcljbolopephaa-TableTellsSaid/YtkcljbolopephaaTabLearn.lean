/- A table learns of a peer ahead. -/
import Derived.Test.YtkcljbolopephaaTabCopied
namespace Go.Proofs.Ytkcljbolopephaa
set_option maxRecDepth 100000
open Go Go.RowKit Go.Sort

/-- a table that is told, with rows of its own -/
def OwnT (w w' : World) (s p : Pe) (S L : List Pe) (t : Value) : Prop := ∃ r1 r2, t = .agg (tabA s p r1 r2) ∧ w'.ownsRow w.heap.size 25 21 r1 S.length (flat S) ∧ w'.ownsRow w.heap.size 25 21 r2 L.length (flat L) ∧ (∀ k, r1.ownBlock = some k → r2.ownBlock ≠ some k)
def learnB (s p : Pe) (S L : List Pe) (x : Pe) : Bool := isT s p S L && (otherB s x && (eqP p (-1, 0) || openB p.2 x.2 s.2))
/-- three blocks: a table, a peer, and where a table is put -/
structure Box3 (w W : World) (s p : Pe) (u v : Value) (x : Pe) (s' p' : Pe) (u' v' : Value) : Prop where
  bel : Below w.heap.size w W
  t : TB W w.heap.size s p u v
  x : PB W (w.heap.size + 1) x
  r : TB W (w.heap.size + 2) s' p' u' v'
theorem Box3.made (w : World) (s p : Pe) (u v : Value) (x : Pe) : Box3 w (((w.alloc (.cells (tabA s p u v) 28)).alloc (.cells (peA x) 25)).alloc (.cells (tabA (0, 0) (0, 0) nilS nilS) 28)) s p u v x (0, 0) (0, 0) nilS nilS := by
  have h := Box2.made w s p u v x
  refine ⟨h.bel.alloc (by simp; omega) _, Blk.alloc h.tb _, Blk.alloc h.pb _, ?_⟩
  have := TB.zero ((w.alloc (.cells (tabA s p u v) 28)).alloc (.cells (peA x) 25))
  rwa [World.size_alloc, World.size_alloc] at this
set_option maxHeartbeats 8000000 in
theorem learn_core {w : World} {s p : Pe} {u v : Value} {S L : List Pe} (x : Pe) (it ot np ob : Bool) (hS : Lies w u S) (hF : Lies w v L) (hn : S.length ≤ 1000000) (hf : L.length ≤ 1000000)
    (hI : ∀ W, Below w.heap.size w W → GivesW W 25 #[.agg (tabA s p u v)] (.bool it)) (hO : Gives Try.prog 44 #[.agg (tabA s p u v), .agg (peA x)] (.bool ot)) (hN : eqP p (-1, 0) = np)
    (hE : Gives Try.prog 36 #[idv p.2, idv x.2, idv s.2] (.bool ob)) :
    Calls Try.prog 19 #[.agg (tabA s p u v), .agg (peA x)] w fun e w' => ∃ t, e = .returned t ∧ OwnT w w' s (if (it && (ot && (np || ob))) = true then x else p) S L t ∧ Below w.heap.size w w' := by
  have hX := Box3.made w s p u v x
  have HS := Lib.hid (hS.bel hX.bel)
  have HF := Lib.hid (hF.bel hX.bel)
  have hI1 := hI _ hX.bel
  have HNS : Hid (0 < S.length → u.ownBlock ≠ some w.heap.size) := fun h => lies_block hS h (Nat.le_refl _)
  have HNF : Hid (0 < L.length → v.ownBlock ≠ some w.heap.size) := fun h => lies_block hF h (Nat.le_refl _)
  have HC : Hid (∀ W' p', Lies W' u S → Lies W' v L → Calls Try.prog 45 #[.agg (tabA s p' u v)] W' fun e w' => ∃ r1 r2, e = .returned (.agg (tabA s p' r1 r2)) ∧ w'.ownsRow W'.heap.size 25 21 r1 S.length (flat S) ∧ w'.ownsRow W'.heap.size 25 21 r2 L.length (flat L) ∧
      (∀ k, r1.ownBlock = some k → r2.ownBlock ≠ some k) ∧ Below W'.heap.size W' w') := fun W' p' h1 h2 => copied_any h1 h2 hn hf
  have hnone : Gives Try.prog 42 #[] (.agg (peA (-1, 0))) := none_any
  clear hS hF hn hf hI
  go_enter Try.func19, Try.ntmps19
  go_upto_region 1 with (fail)
  rw [tab_zero]
  generalize ((w.alloc _).alloc _).alloc _ = W at *
  obtain ⟨b0, t0, p0, x0⟩ := hX
  generalize hg : w.heap.size = g at *
  have hgW : g + 3 ≤ W.heap.size := x0.lt
  have P1 := p0.range
  have P2 := t0.pred
  have I1 := p0.I
  have I2 := t0.pI
  have I3 := t0.sI
  cases it
  · refine wp_region_quiet_below (by kernel_rfl) (by kernel_rfl) ?_
    repeat (first
      | go_big_quiet_skip
      | (go_big_quiet_want
         first
         | (first | (refine q_midT _ rfl g rfl t0 ?_) | (refine q_midP _ rfl (g + 1) 0 rfl x (by with_reducible exact P1) ?_) | (refine q_midP _ rfl g 21 rfl p (by with_reducible exact P2) ?_) | (refine q_midI _ rfl (g + 1) 1 rfl x.2 (by with_reducible exact I1) ?_) | (refine q_midI _ rfl g 22 rfl p.2 (by with_reducible exact I2) ?_) | (refine q_midI _ rfl g 1 rfl s.2 (by with_reducible exact I3) ?_) | (refine q_eqlP _ _ rfl p (-1, 0) rfl rfl hq ?_)
            simp only [Act.put, List.setIfInBounds_toArray, List.set_cons_succ, List.set_cons_zero]
            go_big_quiet_on)
         | (go_big_quiet_op
            first | go_big_quiet_on | go_big_quiet_call (first | with_reducible exact hI1.grown _ _ | with_reducible exact hO.grown _ _ | with_reducible exact hnone.grown _ _ | with_reducible exact hE.grown _ _))))
    refine wpQuiet_nil ?_
    intro w2 hw'
    have hb2 := quiet_end hw'
    clear hw'
    have t2 := t0.bel hb2
    have x2 := x0.bel hb2
    have p2 := (p0.bel hb2).range
    have B2 := belTo hg b0 hb2
    have LS := Lib.hid (HS.out.bel hb2)
    have LF := Lib.hid (HF.out.bel hb2)
    have hs2 : g + 3 ≤ w2.heap.size := Nat.le_trans hgW hb2.size
    clear hb2 t0 p0 x0 P1 P2 I1 I2 I3 b0 hI1 hO hE hnone
    go_wp2_with (first
      | (refine p_midT rfl _ rfl g rfl t2 ?_)
      | (go_at_call 45; (with_reducible refine (HC.out _ _ LS.out LF.out).mono ?_); rintro e w3 ⟨r1, r2, rfl, o1, o2, ha, k3⟩; have x3 := x2.bel k3; have O1 := Lib.hid o1; have O2 := Lib.hid o2; have HA := Lib.hid ha; have K3 := Lib.hid k3; clear o1 o2 ha k3)
      | (refine p_putT rfl _ _ rfl (g + 2) rfl rfl (own_one O1.out) (own_one O2.out) x3 ?_))
    exact bodyPost_ret (results_T1 Try.results19 _ _ (g + 2) rfl (x3.set _ _ _ _)) rfl ⟨_, rfl, ⟨r1, r2, rfl, own_base (own_row O1.out _ (by omega)) (by omega), own_base (own_row O2.out _ (by omega)) (by omega), HA.out⟩, by (try rw [hg]); exact bel_setRow (belTo hg B2 K3.out) (by omega) _⟩
  · cases ot
    · refine wp_region_quiet_below (by kernel_rfl) (by kernel_rfl) ?_
      repeat (first
        | go_big_quiet_skip
        | (go_big_quiet_want
           first
           | (first | (refine q_midT _ rfl g rfl t0 ?_) | (refine q_midP _ rfl (g + 1) 0 rfl x (by with_reducible exact P1) ?_) | (refine q_midP _ rfl g 21 rfl p (by with_reducible exact P2) ?_) | (refine q_midI _ rfl (g + 1) 1 rfl x.2 (by with_reducible exact I1) ?_) | (refine q_midI _ rfl g 22 rfl p.2 (by with_reducible exact I2) ?_) | (refine q_midI _ rfl g 1 rfl s.2 (by with_reducible exact I3) ?_) | (refine q_eqlP _ _ rfl p (-1, 0) rfl rfl hq ?_)
              simp only [Act.put, List.setIfInBounds_toArray, List.set_cons_succ, List.set_cons_zero]
              go_big_quiet_on)
           | (go_big_quiet_op
              first | go_big_quiet_on | go_big_quiet_call (first | with_reducible exact hI1.grown _ _ | with_reducible exact hO.grown _ _ | with_reducible exact hnone.grown _ _ | with_reducible exact hE.grown _ _))))
      refine wpQuiet_nil ?_
      intro w2 hw'
      have hb2 := quiet_end hw'
      clear hw'
      have t2 := t0.bel hb2
      have x2 := x0.bel hb2
      have p2 := (p0.bel hb2).range
      have B2 := belTo hg b0 hb2
      have LS := Lib.hid (HS.out.bel hb2)
      have LF := Lib.hid (HF.out.bel hb2)
      have hs2 : g + 3 ≤ w2.heap.size := Nat.le_trans hgW hb2.size
      clear hb2 t0 p0 x0 P1 P2 I1 I2 I3 b0 hI1 hO hE hnone
      go_wp2_with (first
        | (refine p_midT rfl _ rfl g rfl t2 ?_)
        | (go_at_call 45; (with_reducible refine (HC.out _ _ LS.out LF.out).mono ?_); rintro e w3 ⟨r1, r2, rfl, o1, o2, ha, k3⟩; have x3 := x2.bel k3; have O1 := Lib.hid o1; have O2 := Lib.hid o2; have HA := Lib.hid ha; have K3 := Lib.hid k3; clear o1 o2 ha k3)
        | (refine p_putT rfl _ _ rfl (g + 2) rfl rfl (own_one O1.out) (own_one O2.out) x3 ?_))
      exact bodyPost_ret (results_T1 Try.results19 _ _ (g + 2) rfl (x3.set _ _ _ _)) rfl ⟨_, rfl, ⟨r1, r2, rfl, own_base (own_row O1.out _ (by omega)) (by omega), own_base (own_row O2.out _ (by omega)) (by omega), HA.out⟩, by (try rw [hg]); exact bel_setRow (belTo hg B2 K3.out) (by omega) _⟩
    · cases np
      · cases ob
        · have hq : eqP p (-1, 0) = false := hN
          refine wp_region_quiet_below (by kernel_rfl) (by kernel_rfl) ?_
          repeat (first
            | go_big_quiet_skip
            | (go_big_quiet_want
               first
               | (first | (refine q_midT _ rfl g rfl t0 ?_) | (refine q_midP _ rfl (g + 1) 0 rfl x (by with_reducible exact P1) ?_) | (refine q_midP _ rfl g 21 rfl p (by with_reducible exact P2) ?_) | (refine q_midI _ rfl (g + 1) 1 rfl x.2 (by with_reducible exact I1) ?_) | (refine q_midI _ rfl g 22 rfl p.2 (by with_reducible exact I2) ?_) | (refine q_midI _ rfl g 1 rfl s.2 (by with_reducible exact I3) ?_) | (refine q_eqlP _ _ rfl p (-1, 0) rfl rfl hq ?_)
                  simp only [Act.put, List.setIfInBounds_toArray, List.set_cons_succ, List.set_cons_zero]
                  go_big_quiet_on)
               | (go_big_quiet_op
                  first | go_big_quiet_on | go_big_quiet_call (first | with_reducible exact hI1.grown _ _ | with_reducible exact hO.grown _ _ | with_reducible exact hnone.grown _ _ | with_reducible exact hE.grown _ _))))
          refine wpQuiet_nil ?_
          intro w2 hw'
          have hb2 := quiet_end hw'
          clear hw'
          have t2 := t0.bel hb2
          have x2 := x0.bel hb2
          have p2 := (p0.bel hb2).range
          have B2 := belTo hg b0 hb2
          have LS := Lib.hid (HS.out.bel hb2)
          have LF := Lib.hid (HF.out.bel hb2)
          have hs2 : g + 3 ≤ w2.heap.size := Nat.le_trans hgW hb2.size
          clear hb2 t0 p0 x0 P1 P2 I1 I2 I3 b0 hI1 hO hE hnone
          go_wp2_with (first
            | (refine p_midT rfl _ rfl g rfl t2 ?_)
            | (go_at_call 45; (with_reducible refine (HC.out _ _ LS.out LF.out).mono ?_); rintro e w3 ⟨r1, r2, rfl, o1, o2, ha, k3⟩; have x3 := x2.bel k3; have O1 := Lib.hid o1; have O2 := Lib.hid o2; have HA := Lib.hid ha; have K3 := Lib.hid k3; clear o1 o2 ha k3)
            | (refine p_putT rfl _ _ rfl (g + 2) rfl rfl (own_one O1.out) (own_one O2.out) x3 ?_))
          exact bodyPost_ret (results_T1 Try.results19 _ _ (g + 2) rfl (x3.set _ _ _ _)) rfl ⟨_, rfl, ⟨r1, r2, rfl, own_base (own_row O1.out _ (by omega)) (by omega), own_base (own_row O2.out _ (by omega)) (by omega), HA.out⟩, by (try rw [hg]); exact bel_setRow (belTo hg B2 K3.out) (by omega) _⟩
        · have hq : eqP p (-1, 0) = false := hN
          refine wp_region_quiet_below (by kernel_rfl) (by kernel_rfl) ?_
          repeat (first
            | go_big_quiet_skip
            | (go_big_quiet_want
               first
               | (first | (refine q_midT _ rfl g rfl t0 ?_) | (refine q_midP _ rfl (g + 1) 0 rfl x (by with_reducible exact P1) ?_) | (refine q_midP _ rfl g 21 rfl p (by with_reducible exact P2) ?_) | (refine q_midI _ rfl (g + 1) 1 rfl x.2 (by with_reducible exact I1) ?_) | (refine q_midI _ rfl g 22 rfl p.2 (by with_reducible exact I2) ?_) | (refine q_midI _ rfl g 1 rfl s.2 (by with_reducible exact I3) ?_) | (refine q_eqlP _ _ rfl p (-1, 0) rfl rfl hq ?_)
                  simp only [Act.put, List.setIfInBounds_toArray, List.set_cons_succ, List.set_cons_zero]
                  go_big_quiet_on)
               | (go_big_quiet_op
                  first | go_big_quiet_on | go_big_quiet_call (first | with_reducible exact hI1.grown _ _ | with_reducible exact hO.grown _ _ | with_reducible exact hnone.grown _ _ | with_reducible exact hE.grown _ _))))
          refine wpQuiet_nil ?_
          intro w2 hw'
          have hb2 := quiet_end hw'
          clear hw'
          have t2 := t0.bel hb2
          have x2 := x0.bel hb2
          have p2 := (p0.bel hb2).range
          have B2 := belTo hg b0 hb2
          have LS := Lib.hid (HS.out.bel hb2)
          have LF := Lib.hid (HF.out.bel hb2)
          have hs2 : g + 3 ≤ w2.heap.size := Nat.le_trans hgW hb2.size
          clear hb2 t0 p0 x0 P1 P2 I1 I2 I3 b0 hI1 hO hE hnone
          go_upto_region 3 with (first
            | (refine p_midP rfl _ rfl (g + 1) 0 rfl x p2 ?_)
            | (refine p_putP rfl _ _ rfl g rfl x rfl t2 ?_))
          have t4 := t2.set s x u v
          have x4 := tb_row x2 (tabA s x u v) (show g + 2 ≠ g by omega)
          have B4 : Below g w (w2.setRow g (tabA s x u v)) := bel_setRow B2 (Nat.le_refl _) _
          have LS4 := Lib.hid (lies_set LS.out HNS.out (tabA s x u v))
          have LF4 := Lib.hid (lies_set LF.out HNF.out (tabA s x u v))
          have hs4 : g + 3 ≤ (w2.setRow g (tabA s x u v)).heap.size := by rw [World.setRow]; simpa using hs2
          clear t2 x2 p2 B2 LS LF hs2
          generalize w2.setRow g (tabA s x u v) = W4 at *
          go_wp2_with (first
            | (refine p_midT rfl _ rfl g rfl t4 ?_)
            | (go_at_call 45; (with_reducible refine (HC.out _ _ LS4.out LF4.out).mono ?_); rintro e w3 ⟨r1, r2, rfl, o1, o2, ha, k3⟩; have x3 := x4.bel k3; have O1 := Lib.hid o1; have O2 := Lib.hid o2; have HA := Lib.hid ha; have K3 := Lib.hid k3; clear o1 o2 ha k3)
            | (refine p_putT rfl _ _ rfl (g + 2) rfl rfl (own_one O1.out) (own_one O2.out) x3 ?_))
          exact bodyPost_ret (results_T1 Try.results19 _ _ (g + 2) rfl (x3.set _ _ _ _)) rfl ⟨_, rfl, ⟨r1, r2, rfl, own_base (own_row O1.out _ (by omega)) (by omega), own_base (own_row O2.out _ (by omega)) (by omega), HA.out⟩, by (try rw [hg]); exact bel_setRow (belTo hg B4 K3.out) (by omega) _⟩
      · have hq : eqP p (-1, 0) = true := hN
        refine wp_region_quiet_below (by kernel_rfl) (by kernel_rfl) ?_
        repeat (first
          | go_big_quiet_skip
          | (go_big_quiet_want
             first
             | (first | (refine q_midT _ rfl g rfl t0 ?_) | (refine q_midP _ rfl (g + 1) 0 rfl x (by with_reducible exact P1) ?_) | (refine q_midP _ rfl g 21 rfl p (by with_reducible exact P2) ?_) | (refine q_midI _ rfl (g + 1) 1 rfl x.2 (by with_reducible exact I1) ?_) | (refine q_midI _ rfl g 22 rfl p.2 (by with_reducible exact I2) ?_) | (refine q_midI _ rfl g 1 rfl s.2 (by with_reducible exact I3) ?_) | (refine q_eqlP _ _ rfl p (-1, 0) rfl rfl hq ?_)
                simp only [Act.put, List.setIfInBounds_toArray, List.set_cons_succ, List.set_cons_zero]
                go_big_quiet_on)
             | (go_big_quiet_op
                first | go_big_quiet_on | go_big_quiet_call (first | with_reducible exact hI1.grown _ _ | with_reducible exact hO.grown _ _ | with_reducible exact hnone.grown _ _ | with_reducible exact hE.grown _ _))))
        refine wpQuiet_nil ?_
        intro w2 hw'
        have hb2 := quiet_end hw'
        clear hw'
        have t2 := t0.bel hb2
        have x2 := x0.bel hb2
        have p2 := (p0.bel hb2).range
        have B2 := belTo hg b0 hb2
        have LS := Lib.hid (HS.out.bel hb2)
        have LF := Lib.hid (HF.out.bel hb2)
        have hs2 : g + 3 ≤ w2.heap.size := Nat.le_trans hgW hb2.size
        clear hb2 t0 p0 x0 P1 P2 I1 I2 I3 b0 hI1 hO hE hnone
        go_upto_region 3 with (first
          | (refine p_midP rfl _ rfl (g + 1) 0 rfl x p2 ?_)
          | (refine p_putP rfl _ _ rfl g rfl x rfl t2 ?_))
        have t4 := t2.set s x u v
        have x4 := tb_row x2 (tabA s x u v) (show g + 2 ≠ g by omega)
        have B4 : Below g w (w2.setRow g (tabA s x u v)) := bel_setRow B2 (Nat.le_refl _) _
        have LS4 := Lib.hid (lies_set LS.out HNS.out (tabA s x u v))
        have LF4 := Lib.hid (lies_set LF.out HNF.out (tabA s x u v))
        have hs4 : g + 3 ≤ (w2.setRow g (tabA s x u v)).heap.size := by rw [World.setRow]; simpa using hs2
        clear t2 x2 p2 B2 LS LF hs2
        generalize w2.setRow g (tabA s x u v) = W4 at *
        go_wp2_with (first
          | (refine p_midT rfl _ rfl g rfl t4 ?_)
          | (go_at_call 45; (with_reducible refine (HC.out _ _ LS4.out LF4.out).mono ?_); rintro e w3 ⟨r1, r2, rfl, o1, o2, ha, k3⟩; have x3 := x4.bel k3; have O1 := Lib.hid o1; have O2 := Lib.hid o2; have HA := Lib.hid ha; have K3 := Lib.hid k3; clear o1 o2 ha k3)
          | (refine p_putT rfl _ _ rfl (g + 2) rfl rfl (own_one O1.out) (own_one O2.out) x3 ?_))
        exact bodyPost_ret (results_T1 Try.results19 _ _ (g + 2) rfl (x3.set _ _ _ _)) rfl ⟨_, rfl, ⟨r1, r2, rfl, own_base (own_row O1.out _ (by omega)) (by omega), own_base (own_row O2.out _ (by omega)) (by omega), HA.out⟩, by (try rw [hg]); exact bel_setRow (belTo hg B4 K3.out) (by omega) _⟩
theorem learn_any {w : World} {s p : Pe} {u v : Value} {S L : List Pe} (x : Pe) (hS : Lies w u S) (hF : Lies w v L) (hn : S.length ≤ 1000000) (hf : L.length ≤ 1000000) :
    Calls Try.prog 19 #[.agg (tabA s p u v), .agg (peA x)] w fun e w' => ∃ t, e = .returned t ∧ OwnT w w' s (if learnB s p S L x = true then x else p) S L t ∧ Below w.heap.size w w' :=
  learn_core x _ _ _ _ hS hF hn hf (fun _ hb => is_givesW (hS.bel hb) (hF.bel hb) hn hf) (isOther_gives s p u v x) rfl fun w => open_all _ _ _ w
end Go.Proofs.Ytkcljbolopephaa
