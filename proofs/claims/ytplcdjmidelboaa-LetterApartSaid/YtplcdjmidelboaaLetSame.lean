/- The document's function that tells whether two letters are the same; and that tells whether one is big. -/
import Derived.Test.YtplcdjmidelboaaLetRows
import Derived.Deep.Light
namespace Go.Proofs.Ytplcdjmidelboaa
set_option maxRecDepth 100000
open Go Go.RowKit Go.Sort

structure TwoL (w W : World) (l m : Lt) (u v u' v' : Value) : Prop where
  bel : Below w.heap.size w W
  a : LB W w.heap.size l u v
  b : LB W (w.heap.size + 1) m u' v'
theorem TwoL.made (w : World) (l m : Lt) (u v u' v' : Value) : TwoL w ((w.alloc (.cells (ltA l u v) 30)).alloc (.cells (ltA m u' v') 30)) l m u v u' v' := by
  refine ⟨((Below.refl w.heap.size w).alloc (Nat.le_refl _) _).alloc (by simp) _, Blk.alloc (Blk.new ..) _, ?_⟩
  have := LB.new (w.alloc (.cells (ltA l u v) 30)) m u' v'
  rwa [World.size_alloc] at this
set_option maxHeartbeats 16000000 in
theorem same_core {w : World} {l m : Lt} {u v u' v' : Value} (hL : LtM w l u v) (hM : LtM w m u' v') (hla : l.avoid.length ≤ 1000000) (hma : m.avoid.length ≤ 1000000) (hlp : l.peers.length ≤ 1000000) (hmp : m.peers.length ≤ 1000000) (hlw : Wf l.peers) (hmw : Wf m.peers)
    (b1 b2 b3 b4 b5 b6 b7 b8 : Bool) (h1 : (l.kind == m.kind) = b1) (h2 : eqP l.fr m.fr = b2) (h3 : ((l.req : Int) == (m.req : Int)) = b3) (h4 : eqB l.id m.id = b4) (h5 : decide (l.avoid = m.avoid) = b5) (h6 : (l.done == m.done) = b6) (h7 : eqP l.peer m.peer = b7) (h8 : decide (l.peers = m.peers) = b8) :
    Calls Try.prog 16 #[.agg (ltA l u v), .agg (ltA m u' v')] w fun e w' => e = .returned (.bool (b1 && b2 && b3 && b4 && b5 && b6 && b7 && b8)) ∧ Below w.heap.size w w' := by
  have HX := TwoL.made w l m u v u' v'
  have HI : Hid (∀ W, Below w.heap.size w W → Calls Try.prog 47 #[u, u'] W fun r w' => r = .returned (.bool b5) ∧ Below W.heap.size W w') := fun W hb => by rw [← h5]; exact ints_any (hL.a.bel hb) (hM.a.bel hb) hla hma
  have HS : Hid (∀ W, Below w.heap.size w W → Calls Try.prog 48 #[v, v'] W fun r w' => r = .returned (.bool b8) ∧ Below W.heap.size W w') := fun W hb => by rw [← h8]; exact rowps_any (hL.p.bel hb) (hM.p.bel hb) hlp hmp hlw hmw
  obtain ⟨ua, uc, rfl⟩ := hL.a.form
  obtain ⟨va, vc, rfl⟩ := hL.p.form
  obtain ⟨xa, xc, rfl⟩ := hM.a.form
  obtain ⟨ya, yc, rfl⟩ := hM.p.form
  clear h5 h8 hla hma hlp hmp hlw hmw hL hM
  generalize l.avoid.length = n1 at *
  generalize m.avoid.length = n2 at *
  generalize l.peers.length = n3 at *
  generalize m.peers.length = n4 at *
  go_enter Try.func16, Try.ntmps16
  go_upto_region 1 with (fail)
  generalize (w.alloc _).alloc _ = W at *
  generalize hg : w.heap.size = g at *
  have L2 := HX.a
  have M2 := HX.b
  have B0 := HX.bel
  rw [hg] at L2 M2 B0
  clear HX
  have HB2 := Lib.hid B0
  have hgs : ∀ {W' : World}, Below g w W' → g ≤ W'.heap.size := fun h => by rw [← hg] at h ⊢; exact h.size
  have hgW : g ≤ W.heap.size := hgs B0
  clear B0
  have c1 := L2.kind
  have c2 := M2.kind
  have c3 := L2.req
  have c4 := M2.req
  have c5 := L2.cu
  have c6 := M2.cu
  cases b1 with
  | false =>
    go_wp2_with (first
      | go_big_skip
      | (go_guarded; refine o_midP _ rfl g 1 rfl l.fr L2.fr ?_; simp only [Act.put, List.setIfInBounds_toArray, List.set_cons_succ, List.set_cons_zero])
      | (go_guarded; refine o_midP _ rfl (g + 1) 1 rfl m.fr M2.fr ?_; simp only [Act.put, List.setIfInBounds_toArray, List.set_cons_succ, List.set_cons_zero])
      | (go_guarded; refine o_eqlP _ _ rfl l.fr m.fr rfl rfl h2 ?_; simp only [Act.put, List.setIfInBounds_toArray, List.set_cons_succ, List.set_cons_zero])
      | (go_guarded; refine o_midI _ rfl g 23 rfl l.id L2.id ?_; simp only [Act.put, List.setIfInBounds_toArray, List.set_cons_succ, List.set_cons_zero])
      | (go_guarded; refine o_midI _ rfl (g + 1) 23 rfl m.id M2.id ?_; simp only [Act.put, List.setIfInBounds_toArray, List.set_cons_succ, List.set_cons_zero])
      | (go_guarded; refine o_eql _ _ rfl l.id m.id rfl rfl h4 ?_; simp only [Act.put, List.setIfInBounds_toArray, List.set_cons_succ, List.set_cons_zero])
      | (go_at_call 47; (with_reducible refine (HI.out _ HB2.out).mono ?_); rintro e w1 ⟨rfl, kk1⟩; have L1 := L2.bel kk1; have M1 := M2.bel kk1; have HB1 := Lib.hid (HB2.out.trans (kk1.mono hgW)); clear kk1; have a4 := L1.done; have b4 := M1.done; have a6 := L1.cv; have b6 := M1.cv)
      | (go_guarded; refine o_midP _ rfl g 45 rfl l.peer L1.peer ?_; simp only [Act.put, List.setIfInBounds_toArray, List.set_cons_succ, List.set_cons_zero])
      | (go_guarded; refine o_midP _ rfl (g + 1) 45 rfl m.peer M1.peer ?_; simp only [Act.put, List.setIfInBounds_toArray, List.set_cons_succ, List.set_cons_zero])
      | (go_guarded; refine o_eqlP _ _ rfl l.peer m.peer rfl rfl h7 ?_; simp only [Act.put, List.setIfInBounds_toArray, List.set_cons_succ, List.set_cons_zero])
      | (go_at_call 48; (with_reducible refine (HS.out _ HB1.out).mono ?_); rintro e w3 ⟨rfl, kk3⟩; have HB3 := Lib.hid (HB1.out.trans (kk3.mono (hgs HB1.out))); clear kk3))
    go_ret
    exact ⟨rfl, by (try rw [hg]); exact HB2.out⟩
  | true =>
    cases b2 with
    | false =>
      go_wp2_with (first
        | go_big_skip
        | (go_guarded; refine o_midP _ rfl g 1 rfl l.fr L2.fr ?_; simp only [Act.put, List.setIfInBounds_toArray, List.set_cons_succ, List.set_cons_zero])
        | (go_guarded; refine o_midP _ rfl (g + 1) 1 rfl m.fr M2.fr ?_; simp only [Act.put, List.setIfInBounds_toArray, List.set_cons_succ, List.set_cons_zero])
        | (go_guarded; refine o_eqlP _ _ rfl l.fr m.fr rfl rfl h2 ?_; simp only [Act.put, List.setIfInBounds_toArray, List.set_cons_succ, List.set_cons_zero])
        | (go_guarded; refine o_midI _ rfl g 23 rfl l.id L2.id ?_; simp only [Act.put, List.setIfInBounds_toArray, List.set_cons_succ, List.set_cons_zero])
        | (go_guarded; refine o_midI _ rfl (g + 1) 23 rfl m.id M2.id ?_; simp only [Act.put, List.setIfInBounds_toArray, List.set_cons_succ, List.set_cons_zero])
        | (go_guarded; refine o_eql _ _ rfl l.id m.id rfl rfl h4 ?_; simp only [Act.put, List.setIfInBounds_toArray, List.set_cons_succ, List.set_cons_zero])
        | (go_at_call 47; (with_reducible refine (HI.out _ HB2.out).mono ?_); rintro e w1 ⟨rfl, kk1⟩; have L1 := L2.bel kk1; have M1 := M2.bel kk1; have HB1 := Lib.hid (HB2.out.trans (kk1.mono hgW)); clear kk1; have a4 := L1.done; have b4 := M1.done; have a6 := L1.cv; have b6 := M1.cv)
        | (go_guarded; refine o_midP _ rfl g 45 rfl l.peer L1.peer ?_; simp only [Act.put, List.setIfInBounds_toArray, List.set_cons_succ, List.set_cons_zero])
        | (go_guarded; refine o_midP _ rfl (g + 1) 45 rfl m.peer M1.peer ?_; simp only [Act.put, List.setIfInBounds_toArray, List.set_cons_succ, List.set_cons_zero])
        | (go_guarded; refine o_eqlP _ _ rfl l.peer m.peer rfl rfl h7 ?_; simp only [Act.put, List.setIfInBounds_toArray, List.set_cons_succ, List.set_cons_zero])
        | (go_at_call 48; (with_reducible refine (HS.out _ HB1.out).mono ?_); rintro e w3 ⟨rfl, kk3⟩; have HB3 := Lib.hid (HB1.out.trans (kk3.mono (hgs HB1.out))); clear kk3))
      go_ret
      exact ⟨rfl, by (try rw [hg]); exact HB2.out⟩
    | true =>
      cases b3 with
      | false =>
        go_wp2_with (first
          | go_big_skip
          | (go_guarded; refine o_midP _ rfl g 1 rfl l.fr L2.fr ?_; simp only [Act.put, List.setIfInBounds_toArray, List.set_cons_succ, List.set_cons_zero])
          | (go_guarded; refine o_midP _ rfl (g + 1) 1 rfl m.fr M2.fr ?_; simp only [Act.put, List.setIfInBounds_toArray, List.set_cons_succ, List.set_cons_zero])
          | (go_guarded; refine o_eqlP _ _ rfl l.fr m.fr rfl rfl h2 ?_; simp only [Act.put, List.setIfInBounds_toArray, List.set_cons_succ, List.set_cons_zero])
          | (go_guarded; refine o_midI _ rfl g 23 rfl l.id L2.id ?_; simp only [Act.put, List.setIfInBounds_toArray, List.set_cons_succ, List.set_cons_zero])
          | (go_guarded; refine o_midI _ rfl (g + 1) 23 rfl m.id M2.id ?_; simp only [Act.put, List.setIfInBounds_toArray, List.set_cons_succ, List.set_cons_zero])
          | (go_guarded; refine o_eql _ _ rfl l.id m.id rfl rfl h4 ?_; simp only [Act.put, List.setIfInBounds_toArray, List.set_cons_succ, List.set_cons_zero])
          | (go_at_call 47; (with_reducible refine (HI.out _ HB2.out).mono ?_); rintro e w1 ⟨rfl, kk1⟩; have L1 := L2.bel kk1; have M1 := M2.bel kk1; have HB1 := Lib.hid (HB2.out.trans (kk1.mono hgW)); clear kk1; have a4 := L1.done; have b4 := M1.done; have a6 := L1.cv; have b6 := M1.cv)
          | (go_guarded; refine o_midP _ rfl g 45 rfl l.peer L1.peer ?_; simp only [Act.put, List.setIfInBounds_toArray, List.set_cons_succ, List.set_cons_zero])
          | (go_guarded; refine o_midP _ rfl (g + 1) 45 rfl m.peer M1.peer ?_; simp only [Act.put, List.setIfInBounds_toArray, List.set_cons_succ, List.set_cons_zero])
          | (go_guarded; refine o_eqlP _ _ rfl l.peer m.peer rfl rfl h7 ?_; simp only [Act.put, List.setIfInBounds_toArray, List.set_cons_succ, List.set_cons_zero])
          | (go_at_call 48; (with_reducible refine (HS.out _ HB1.out).mono ?_); rintro e w3 ⟨rfl, kk3⟩; have HB3 := Lib.hid (HB1.out.trans (kk3.mono (hgs HB1.out))); clear kk3))
        go_ret
        exact ⟨rfl, by (try rw [hg]); exact HB2.out⟩
      | true =>
        cases b4 with
        | false =>
          go_wp2_with (first
            | go_big_skip
            | (go_guarded; refine o_midP _ rfl g 1 rfl l.fr L2.fr ?_; simp only [Act.put, List.setIfInBounds_toArray, List.set_cons_succ, List.set_cons_zero])
            | (go_guarded; refine o_midP _ rfl (g + 1) 1 rfl m.fr M2.fr ?_; simp only [Act.put, List.setIfInBounds_toArray, List.set_cons_succ, List.set_cons_zero])
            | (go_guarded; refine o_eqlP _ _ rfl l.fr m.fr rfl rfl h2 ?_; simp only [Act.put, List.setIfInBounds_toArray, List.set_cons_succ, List.set_cons_zero])
            | (go_guarded; refine o_midI _ rfl g 23 rfl l.id L2.id ?_; simp only [Act.put, List.setIfInBounds_toArray, List.set_cons_succ, List.set_cons_zero])
            | (go_guarded; refine o_midI _ rfl (g + 1) 23 rfl m.id M2.id ?_; simp only [Act.put, List.setIfInBounds_toArray, List.set_cons_succ, List.set_cons_zero])
            | (go_guarded; refine o_eql _ _ rfl l.id m.id rfl rfl h4 ?_; simp only [Act.put, List.setIfInBounds_toArray, List.set_cons_succ, List.set_cons_zero])
            | (go_at_call 47; (with_reducible refine (HI.out _ HB2.out).mono ?_); rintro e w1 ⟨rfl, kk1⟩; have L1 := L2.bel kk1; have M1 := M2.bel kk1; have HB1 := Lib.hid (HB2.out.trans (kk1.mono hgW)); clear kk1; have a4 := L1.done; have b4 := M1.done; have a6 := L1.cv; have b6 := M1.cv)
            | (go_guarded; refine o_midP _ rfl g 45 rfl l.peer L1.peer ?_; simp only [Act.put, List.setIfInBounds_toArray, List.set_cons_succ, List.set_cons_zero])
            | (go_guarded; refine o_midP _ rfl (g + 1) 45 rfl m.peer M1.peer ?_; simp only [Act.put, List.setIfInBounds_toArray, List.set_cons_succ, List.set_cons_zero])
            | (go_guarded; refine o_eqlP _ _ rfl l.peer m.peer rfl rfl h7 ?_; simp only [Act.put, List.setIfInBounds_toArray, List.set_cons_succ, List.set_cons_zero])
            | (go_at_call 48; (with_reducible refine (HS.out _ HB1.out).mono ?_); rintro e w3 ⟨rfl, kk3⟩; have HB3 := Lib.hid (HB1.out.trans (kk3.mono (hgs HB1.out))); clear kk3))
          go_ret
          exact ⟨rfl, by (try rw [hg]); exact HB2.out⟩
        | true =>
          cases b5 with
          | false =>
            go_wp2_with (first
              | go_big_skip
              | (go_guarded; refine o_midP _ rfl g 1 rfl l.fr L2.fr ?_; simp only [Act.put, List.setIfInBounds_toArray, List.set_cons_succ, List.set_cons_zero])
              | (go_guarded; refine o_midP _ rfl (g + 1) 1 rfl m.fr M2.fr ?_; simp only [Act.put, List.setIfInBounds_toArray, List.set_cons_succ, List.set_cons_zero])
              | (go_guarded; refine o_eqlP _ _ rfl l.fr m.fr rfl rfl h2 ?_; simp only [Act.put, List.setIfInBounds_toArray, List.set_cons_succ, List.set_cons_zero])
              | (go_guarded; refine o_midI _ rfl g 23 rfl l.id L2.id ?_; simp only [Act.put, List.setIfInBounds_toArray, List.set_cons_succ, List.set_cons_zero])
              | (go_guarded; refine o_midI _ rfl (g + 1) 23 rfl m.id M2.id ?_; simp only [Act.put, List.setIfInBounds_toArray, List.set_cons_succ, List.set_cons_zero])
              | (go_guarded; refine o_eql _ _ rfl l.id m.id rfl rfl h4 ?_; simp only [Act.put, List.setIfInBounds_toArray, List.set_cons_succ, List.set_cons_zero])
              | (go_at_call 47; (with_reducible refine (HI.out _ HB2.out).mono ?_); rintro e w1 ⟨rfl, kk1⟩; have L1 := L2.bel kk1; have M1 := M2.bel kk1; have HB1 := Lib.hid (HB2.out.trans (kk1.mono hgW)); clear kk1; have a4 := L1.done; have b4 := M1.done; have a6 := L1.cv; have b6 := M1.cv)
              | (go_guarded; refine o_midP _ rfl g 45 rfl l.peer L1.peer ?_; simp only [Act.put, List.setIfInBounds_toArray, List.set_cons_succ, List.set_cons_zero])
              | (go_guarded; refine o_midP _ rfl (g + 1) 45 rfl m.peer M1.peer ?_; simp only [Act.put, List.setIfInBounds_toArray, List.set_cons_succ, List.set_cons_zero])
              | (go_guarded; refine o_eqlP _ _ rfl l.peer m.peer rfl rfl h7 ?_; simp only [Act.put, List.setIfInBounds_toArray, List.set_cons_succ, List.set_cons_zero])
              | (go_at_call 48; (with_reducible refine (HS.out _ HB1.out).mono ?_); rintro e w3 ⟨rfl, kk3⟩; have HB3 := Lib.hid (HB1.out.trans (kk3.mono (hgs HB1.out))); clear kk3))
            go_ret
            exact ⟨rfl, by (try rw [hg]); exact HB1.out⟩
          | true =>
            cases b6 with
            | false =>
              go_wp2_with (first
                | go_big_skip
                | (go_guarded; refine o_midP _ rfl g 1 rfl l.fr L2.fr ?_; simp only [Act.put, List.setIfInBounds_toArray, List.set_cons_succ, List.set_cons_zero])
                | (go_guarded; refine o_midP _ rfl (g + 1) 1 rfl m.fr M2.fr ?_; simp only [Act.put, List.setIfInBounds_toArray, List.set_cons_succ, List.set_cons_zero])
                | (go_guarded; refine o_eqlP _ _ rfl l.fr m.fr rfl rfl h2 ?_; simp only [Act.put, List.setIfInBounds_toArray, List.set_cons_succ, List.set_cons_zero])
                | (go_guarded; refine o_midI _ rfl g 23 rfl l.id L2.id ?_; simp only [Act.put, List.setIfInBounds_toArray, List.set_cons_succ, List.set_cons_zero])
                | (go_guarded; refine o_midI _ rfl (g + 1) 23 rfl m.id M2.id ?_; simp only [Act.put, List.setIfInBounds_toArray, List.set_cons_succ, List.set_cons_zero])
                | (go_guarded; refine o_eql _ _ rfl l.id m.id rfl rfl h4 ?_; simp only [Act.put, List.setIfInBounds_toArray, List.set_cons_succ, List.set_cons_zero])
                | (go_at_call 47; (with_reducible refine (HI.out _ HB2.out).mono ?_); rintro e w1 ⟨rfl, kk1⟩; have L1 := L2.bel kk1; have M1 := M2.bel kk1; have HB1 := Lib.hid (HB2.out.trans (kk1.mono hgW)); clear kk1; have a4 := L1.done; have b4 := M1.done; have a6 := L1.cv; have b6 := M1.cv)
                | (go_guarded; refine o_midP _ rfl g 45 rfl l.peer L1.peer ?_; simp only [Act.put, List.setIfInBounds_toArray, List.set_cons_succ, List.set_cons_zero])
                | (go_guarded; refine o_midP _ rfl (g + 1) 45 rfl m.peer M1.peer ?_; simp only [Act.put, List.setIfInBounds_toArray, List.set_cons_succ, List.set_cons_zero])
                | (go_guarded; refine o_eqlP _ _ rfl l.peer m.peer rfl rfl h7 ?_; simp only [Act.put, List.setIfInBounds_toArray, List.set_cons_succ, List.set_cons_zero])
                | (go_at_call 48; (with_reducible refine (HS.out _ HB1.out).mono ?_); rintro e w3 ⟨rfl, kk3⟩; have HB3 := Lib.hid (HB1.out.trans (kk3.mono (hgs HB1.out))); clear kk3))
              go_ret
              exact ⟨rfl, by (try rw [hg]); exact HB1.out⟩
            | true =>
              cases b7 with
              | false =>
                go_wp2_with (first
                  | go_big_skip
                  | (go_guarded; refine o_midP _ rfl g 1 rfl l.fr L2.fr ?_; simp only [Act.put, List.setIfInBounds_toArray, List.set_cons_succ, List.set_cons_zero])
                  | (go_guarded; refine o_midP _ rfl (g + 1) 1 rfl m.fr M2.fr ?_; simp only [Act.put, List.setIfInBounds_toArray, List.set_cons_succ, List.set_cons_zero])
                  | (go_guarded; refine o_eqlP _ _ rfl l.fr m.fr rfl rfl h2 ?_; simp only [Act.put, List.setIfInBounds_toArray, List.set_cons_succ, List.set_cons_zero])
                  | (go_guarded; refine o_midI _ rfl g 23 rfl l.id L2.id ?_; simp only [Act.put, List.setIfInBounds_toArray, List.set_cons_succ, List.set_cons_zero])
                  | (go_guarded; refine o_midI _ rfl (g + 1) 23 rfl m.id M2.id ?_; simp only [Act.put, List.setIfInBounds_toArray, List.set_cons_succ, List.set_cons_zero])
                  | (go_guarded; refine o_eql _ _ rfl l.id m.id rfl rfl h4 ?_; simp only [Act.put, List.setIfInBounds_toArray, List.set_cons_succ, List.set_cons_zero])
                  | (go_at_call 47; (with_reducible refine (HI.out _ HB2.out).mono ?_); rintro e w1 ⟨rfl, kk1⟩; have L1 := L2.bel kk1; have M1 := M2.bel kk1; have HB1 := Lib.hid (HB2.out.trans (kk1.mono hgW)); clear kk1; have a4 := L1.done; have b4 := M1.done; have a6 := L1.cv; have b6 := M1.cv)
                  | (go_guarded; refine o_midP _ rfl g 45 rfl l.peer L1.peer ?_; simp only [Act.put, List.setIfInBounds_toArray, List.set_cons_succ, List.set_cons_zero])
                  | (go_guarded; refine o_midP _ rfl (g + 1) 45 rfl m.peer M1.peer ?_; simp only [Act.put, List.setIfInBounds_toArray, List.set_cons_succ, List.set_cons_zero])
                  | (go_guarded; refine o_eqlP _ _ rfl l.peer m.peer rfl rfl h7 ?_; simp only [Act.put, List.setIfInBounds_toArray, List.set_cons_succ, List.set_cons_zero])
                  | (go_at_call 48; (with_reducible refine (HS.out _ HB1.out).mono ?_); rintro e w3 ⟨rfl, kk3⟩; have HB3 := Lib.hid (HB1.out.trans (kk3.mono (hgs HB1.out))); clear kk3))
                go_ret
                exact ⟨rfl, by (try rw [hg]); exact HB1.out⟩
              | true =>
                cases b8 with
                | false =>
                  go_wp2_with (first
                    | go_big_skip
                    | (go_guarded; refine o_midP _ rfl g 1 rfl l.fr L2.fr ?_; simp only [Act.put, List.setIfInBounds_toArray, List.set_cons_succ, List.set_cons_zero])
                    | (go_guarded; refine o_midP _ rfl (g + 1) 1 rfl m.fr M2.fr ?_; simp only [Act.put, List.setIfInBounds_toArray, List.set_cons_succ, List.set_cons_zero])
                    | (go_guarded; refine o_eqlP _ _ rfl l.fr m.fr rfl rfl h2 ?_; simp only [Act.put, List.setIfInBounds_toArray, List.set_cons_succ, List.set_cons_zero])
                    | (go_guarded; refine o_midI _ rfl g 23 rfl l.id L2.id ?_; simp only [Act.put, List.setIfInBounds_toArray, List.set_cons_succ, List.set_cons_zero])
                    | (go_guarded; refine o_midI _ rfl (g + 1) 23 rfl m.id M2.id ?_; simp only [Act.put, List.setIfInBounds_toArray, List.set_cons_succ, List.set_cons_zero])
                    | (go_guarded; refine o_eql _ _ rfl l.id m.id rfl rfl h4 ?_; simp only [Act.put, List.setIfInBounds_toArray, List.set_cons_succ, List.set_cons_zero])
                    | (go_at_call 47; (with_reducible refine (HI.out _ HB2.out).mono ?_); rintro e w1 ⟨rfl, kk1⟩; have L1 := L2.bel kk1; have M1 := M2.bel kk1; have HB1 := Lib.hid (HB2.out.trans (kk1.mono hgW)); clear kk1; have a4 := L1.done; have b4 := M1.done; have a6 := L1.cv; have b6 := M1.cv)
                    | (go_guarded; refine o_midP _ rfl g 45 rfl l.peer L1.peer ?_; simp only [Act.put, List.setIfInBounds_toArray, List.set_cons_succ, List.set_cons_zero])
                    | (go_guarded; refine o_midP _ rfl (g + 1) 45 rfl m.peer M1.peer ?_; simp only [Act.put, List.setIfInBounds_toArray, List.set_cons_succ, List.set_cons_zero])
                    | (go_guarded; refine o_eqlP _ _ rfl l.peer m.peer rfl rfl h7 ?_; simp only [Act.put, List.setIfInBounds_toArray, List.set_cons_succ, List.set_cons_zero])
                    | (go_at_call 48; (with_reducible refine (HS.out _ HB1.out).mono ?_); rintro e w3 ⟨rfl, kk3⟩; have HB3 := Lib.hid (HB1.out.trans (kk3.mono (hgs HB1.out))); clear kk3))
                  go_ret
                  exact ⟨rfl, by (try rw [hg]); exact HB3.out⟩
                | true =>
                  go_wp2_with (first
                    | go_big_skip
                    | (go_guarded; refine o_midP _ rfl g 1 rfl l.fr L2.fr ?_; simp only [Act.put, List.setIfInBounds_toArray, List.set_cons_succ, List.set_cons_zero])
                    | (go_guarded; refine o_midP _ rfl (g + 1) 1 rfl m.fr M2.fr ?_; simp only [Act.put, List.setIfInBounds_toArray, List.set_cons_succ, List.set_cons_zero])
                    | (go_guarded; refine o_eqlP _ _ rfl l.fr m.fr rfl rfl h2 ?_; simp only [Act.put, List.setIfInBounds_toArray, List.set_cons_succ, List.set_cons_zero])
                    | (go_guarded; refine o_midI _ rfl g 23 rfl l.id L2.id ?_; simp only [Act.put, List.setIfInBounds_toArray, List.set_cons_succ, List.set_cons_zero])
                    | (go_guarded; refine o_midI _ rfl (g + 1) 23 rfl m.id M2.id ?_; simp only [Act.put, List.setIfInBounds_toArray, List.set_cons_succ, List.set_cons_zero])
                    | (go_guarded; refine o_eql _ _ rfl l.id m.id rfl rfl h4 ?_; simp only [Act.put, List.setIfInBounds_toArray, List.set_cons_succ, List.set_cons_zero])
                    | (go_at_call 47; (with_reducible refine (HI.out _ HB2.out).mono ?_); rintro e w1 ⟨rfl, kk1⟩; have L1 := L2.bel kk1; have M1 := M2.bel kk1; have HB1 := Lib.hid (HB2.out.trans (kk1.mono hgW)); clear kk1; have a4 := L1.done; have b4 := M1.done; have a6 := L1.cv; have b6 := M1.cv)
                    | (go_guarded; refine o_midP _ rfl g 45 rfl l.peer L1.peer ?_; simp only [Act.put, List.setIfInBounds_toArray, List.set_cons_succ, List.set_cons_zero])
                    | (go_guarded; refine o_midP _ rfl (g + 1) 45 rfl m.peer M1.peer ?_; simp only [Act.put, List.setIfInBounds_toArray, List.set_cons_succ, List.set_cons_zero])
                    | (go_guarded; refine o_eqlP _ _ rfl l.peer m.peer rfl rfl h7 ?_; simp only [Act.put, List.setIfInBounds_toArray, List.set_cons_succ, List.set_cons_zero])
                    | (go_at_call 48; (with_reducible refine (HS.out _ HB1.out).mono ?_); rintro e w3 ⟨rfl, kk3⟩; have HB3 := Lib.hid (HB1.out.trans (kk3.mono (hgs HB1.out))); clear kk3))
                  go_ret
                  exact ⟨rfl, by (try rw [hg]); exact HB3.out⟩

def bigL (l : Lt) : Bool := decide (60 < l.avoid.length) || decide (60 < l.peers.length)
set_option maxHeartbeats 2000000 in
theorem big_any {w : World} {l : Lt} {u v : Value} (hM : LtM w l u v) : Calls Try.prog 8 #[.agg (ltA l u v)] w fun e w' => e = .returned (.bool (bigL l)) ∧ Below w.heap.size w w' := by
  have B0 := (Below.refl w.heap.size w).alloc (Nat.le_refl _) (.cells (ltA l u v) 30)
  have L0 := LB.new w l u v
  obtain ⟨ua, uc, rfl⟩ := hM.a.form
  obtain ⟨va, vc, rfl⟩ := hM.p.form
  clear hM
  generalize hb : bigL l = B
  have HBB := Lib.hid hb
  clear hb
  generalize hs : l.avoid.length = n at *
  generalize hl : l.peers.length = m at *
  have HS := Lib.hid hs
  have HL := Lib.hid hl
  clear hs hl
  go_enter Try.func8, Try.ntmps8
  go_upto_region 1 with (fail)
  generalize w.alloc _ = W at *
  have c1 := L0.cu
  have c2 := L0.cv
  have HB := Lib.hid B0
  clear B0 L0
  by_cases h1 : 60 < n
  · have d1 : decide ((60 : Int) < (n : Int)) = true := decide_eq_true (by omega)
    have e : B = true := by rw [← HBB.out]; unfold bigL; rw [HS.out, decide_eq_true h1]; rfl
    subst e
    clear h1
    go_wp2_with go_big_skip
    go_ret
    exact ⟨rfl, HB.out⟩
  · have d1 : decide ((60 : Int) < (n : Int)) = false := decide_eq_false (by omega)
    by_cases h2 : 60 < m
    · have d2 : decide ((60 : Int) < (m : Int)) = true := decide_eq_true (by omega)
      have e : B = true := by rw [← HBB.out]; unfold bigL; rw [HL.out, decide_eq_true h2, Bool.or_true]
      subst e
      clear h1 h2
      go_wp2_with go_big_skip
      go_ret
      exact ⟨rfl, HB.out⟩
    · have d2 : decide ((60 : Int) < (m : Int)) = false := decide_eq_false (by omega)
      have e : B = false := by rw [← HBB.out]; unfold bigL; rw [HS.out, HL.out, decide_eq_false h1, decide_eq_false h2]; rfl
      subst e
      clear h1 h2
      go_wp2_with go_big_skip
      go_ret
      exact ⟨rfl, HB.out⟩
def sameL (l m : Lt) : Bool := (l.kind == m.kind) && eqP l.fr m.fr && ((l.req : Int) == (m.req : Int)) && eqB l.id m.id && decide (l.avoid = m.avoid) && (l.done == m.done) && eqP l.peer m.peer && decide (l.peers = m.peers)
theorem sameL_iff {l m : Lt} (hl : l.Wf) (hm : m.Wf) : sameL l m = true ↔ l = m := by
  unfold sameL
  simp only [Bool.and_eq_true, beq_iff_eq, decide_eq_true_eq, eqP_iff hl.fr hm.fr, eqP_iff hl.peer hm.peer, eqB_lt hl.id hm.id]
  constructor
  · rintro ⟨⟨⟨⟨⟨⟨⟨h1, h2⟩, h3⟩, h4⟩, h5⟩, h6⟩, h7⟩, h8⟩
    obtain ⟨k, f, r, i, a, d, p, ps⟩ := l
    obtain ⟨k', f', r', i', a', d', p', ps'⟩ := m
    simp only at h1 h2 h3 h4 h5 h6 h7 h8
    subst h1 h2 h4 h5 h6 h7 h8
    rw [show r = r' by omega]
  · rintro rfl
    exact ⟨⟨⟨⟨⟨⟨⟨rfl, rfl⟩, rfl⟩, rfl⟩, rfl⟩, rfl⟩, rfl⟩, rfl⟩
theorem same_any {w : World} {l m : Lt} {u v u' v' : Value} (hL : LtM w l u v) (hM : LtM w m u' v') (hlw : l.Wf) (hmw : m.Wf) (hla : l.avoid.length ≤ 1000000) (hma : m.avoid.length ≤ 1000000) (hlp : l.peers.length ≤ 1000000) (hmp : m.peers.length ≤ 1000000) :
    Calls Try.prog 16 #[.agg (ltA l u v), .agg (ltA m u' v')] w fun e w' => e = .returned (.bool (sameL l m)) ∧ Below w.heap.size w w' :=
  same_core hL hM hla hma hlp hmp hlw.peers hmw.peers _ _ _ _ _ _ _ _ rfl rfl rfl rfl rfl rfl rfl rfl
end Go.Proofs.Ytplcdjmidelboaa
