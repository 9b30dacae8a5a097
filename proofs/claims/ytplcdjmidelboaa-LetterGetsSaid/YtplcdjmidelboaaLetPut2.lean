/- The program's bytes of a letter. -/
import Derived.Test.YtplcdjmidelboaaLetPut
import Derived.Deep.Upon
namespace Go.Proofs.Ytplcdjmidelboaa
set_option maxRecDepth 100000
open Go Go.RowKit Go.Sort

set_option maxHeartbeats 2000000 in
theorem put_no {w : World} {l : Lt} {u v : Value} (hM : LtM w l u v) (hk : -9223372036854775808 ≤ l.kind ∧ l.kind ≤ 9223372036854775807) (hla : l.avoid.length ≤ 1000000) (hlp : l.peers.length ≤ 1000000) (hR : rightB l = false) :
    Calls Try.prog 9 #[.agg (ltA l u v)] w fun e w' => e = .returned (.tuple #[.string ⟨#[]⟩, .int .i64 1]) ∧ Below w.heap.size w w' := by
  have B0 := (Below.refl w.heap.size w).alloc (Nat.le_refl _) (.cells (ltA l u v) 30)
  have L0 := LB.new w l u v
  have HI := Lib.hid (is_any (hM.bel B0) hk hla hlp)
  have HB := Lib.hid B0
  rw [hR] at HI
  clear B0 hM hk hla hlp hR
  generalize hg : w.heap.size = g at *
  go_enter Try.func9, Try.ntmps9
  go_upto_region 1 with (fail)
  (try rw [hg])
  generalize w.alloc _ = W at *
  go_wp2_with (first
    | (refine p_midL rfl _ rfl g rfl L0 ?_)
    | (go_at_call 12; (with_reducible refine HI.out.mono ?_); rintro e w1 ⟨rfl, k1⟩))
  go_ret2
  subst hg
  exact ⟨rfl, step HB.out k1⟩
/-- how long the parts are -/
structure Shorts (l : Lt) : Prop where
  p0 : (p0 l).length ≤ 1000
  p1 : (p1 l).length ≤ 2000
  p2 : (p2 l).length ≤ 3000
  p3 : (p3 l).length ≤ 4000
  p4 : (p4 l).length ≤ 5000
  p5 : (p5 l).length ≤ 6000
  all : (putN l).length ≤ 7000
theorem mayN_len {x : Pe} (h : x = noP ∨ adB x.1 = true) : (mayN x).length ≤ 60 := by
  unfold mayN
  split
  · have := numN_len (v := 0) (by omega); omega
  · rename_i h0
    have h1 := numN_len (v := 1) (by omega)
    have h2 := peN_len (h.resolve_left h0)
    rw [List.length_append]; omega
theorem if_len {c : Bool} {A : List Nat} {n : Nat} (h : A.length ≤ n) : (if c then A else []).length ≤ n := by split <;> simp_all
theorem shorts {l : Lt} (hw : l.Wf) (h : Right l) : Shorts l := by
  have k1 := numN_len (v := l.kind.toNat) (by have := h.kind; omega)
  have k2 := peN_len h.fr
  have k3 := numN_len hw.req
  have k4 := numN_len (v := l.avoid.length) (by have := h.navoid; omega)
  have k5 := avsN_len h.avoid
  have k6 := numN_len (v := l.peers.length) (by have := h.npeers; omega)
  have k7 := pesN_len h.peers
  have k8 := mayN_len h.peer
  have k9 : (bitN l.done).length ≤ 9 := by unfold bitN; cases l.done <;> exact numN_len (by decide)
  have n1 := h.navoid
  have n2 := h.npeers
  have a0 : (p0 l).length ≤ 40 := by unfold p0; rw [List.length_append]; omega
  have a1 : (p1 l).length ≤ 50 := by unfold p1; rw [List.length_append]; have := if_len (c := reqK l.kind) k3; omega
  have a2 : (p2 l).length ≤ 70 := by unfold p2; rw [List.length_append]; have := if_len (c := idK l.kind) (A := dig 20 l.id) (n := 20) (by rw [dig_length]; omega); omega
  have a3 : (p3 l).length ≤ 300 := by unfold p3; rw [List.length_append]; have := if_len (c := idK l.kind) (A := numN l.avoid.length ++ avsN l.avoid) (n := 200) (by rw [List.length_append]; omega); omega
  have a4 : (p4 l).length ≤ 310 := by unfold p4; rw [List.length_append]; have := if_len (c := doneK l.kind) k9; omega
  have a5 : (p5 l).length ≤ 400 := by unfold p5; rw [List.length_append]; have := if_len (c := peerK l.kind) k8; omega
  have a6 : (putN l).length ≤ 700 := by unfold putN; rw [List.length_append]; have := if_len (c := peersK l.kind) (A := numN l.peers.length ++ pesN l.peers) (n := 250) (by rw [List.length_append]; omega); omega
  exact ⟨by omega, by omega, by omega, by omega, by omega, by omega, by omega⟩
theorem emp_app (L : List Nat) : (⟨#[]⟩ : ByteArray) ++ txt L = txt L := by
  apply ByteArray.ext
  rw [ByteArray.data_append]
  simp

/-- the calls that Put makes -/
structure Puts (w : World) (l : Lt) (u v : Value) : Prop where
  k : ∀ W, Calls Try.prog 19 #[.string ⟨#[]⟩, .int .i64 l.kind] W fun e w' => e = .returned (.string (txt (numN l.kind.toNat))) ∧ Below W.heap.size W w'
  f : ∀ W, Calls Try.prog 18 #[.string (txt (numN l.kind.toNat)), .agg (peA l.fr)] W fun e w' => e = .returned (.string (txt (p0 l))) ∧ Below W.heap.size W w'
  req : reqK l.kind = true → ∀ W, Calls Try.prog 21 #[.string (txt (p0 l)), .int .u64 (l.req : Int)] W fun e w' => e = .returned (.string (txt (p1 l))) ∧ Below W.heap.size W w'
  id : idK l.kind = true → ∀ W, Calls Try.prog 22 #[.string (txt (p1 l)), idv l.id] W fun e w' => e = .returned (.string (txt (p2 l))) ∧ Below W.heap.size W w'
  avoid : idK l.kind = true → ∀ W, Below w.heap.size w W → Calls Try.prog 23 #[.string (txt (p2 l)), u, .func (.func 19) #[] #[]] W fun e w' => e = .returned (.string (txt (p3 l))) ∧ Below W.heap.size W w'
  done : doneK l.kind = true → ∀ W, Calls Try.prog 24 #[.string (txt (p3 l)), .bool l.done] W fun e w' => e = .returned (.string (txt (p4 l))) ∧ Below W.heap.size W w'
  none : peerK l.kind = true → l.peer = noP → ∀ W, Calls Try.prog 24 #[.string (txt (p4 l)), .bool false] W fun e w' => e = .returned (.string (txt (p5 l))) ∧ Below W.heap.size W w'
  some : peerK l.kind = true → l.peer ≠ noP → ∀ W, Calls Try.prog 24 #[.string (txt (p4 l)), .bool true] W fun e w' => e = .returned (.string (txt (p4 l ++ numN 1))) ∧ Below W.heap.size W w'
  peer : peerK l.kind = true → l.peer ≠ noP → ∀ W, Calls Try.prog 18 #[.string (txt (p4 l ++ numN 1)), .agg (peA l.peer)] W fun e w' => e = .returned (.string (txt (p5 l))) ∧ Below W.heap.size W w'
  peers : peersK l.kind = true → ∀ W, Below w.heap.size w W → Calls Try.prog 26 #[.string (txt (p5 l)), v, .func (.func 18) #[] #[]] W fun e w' => e = .returned (.string (txt (putN l))) ∧ Below W.heap.size W w'
theorem puts {w : World} {l : Lt} {u v : Value} (hM : LtM w l u v) (hw : l.Wf) (h : Right l) : Puts w l u v := by
  have s := shorts hw h
  have hk := h.kind
  have k1 := numN_len (v := l.kind.toNat) (by omega)
  have k2 := numN_len (v := 1) (by omega)
  refine ⟨fun W => ?_, fun W => ?_, fun c W => ?_, fun c W => ?_, fun c W hb => ?_, fun c W => ?_, fun c e W => ?_, fun c e W => ?_, fun c e W => ?_, fun c W hb => ?_⟩
  · have := putInt_any ⟨#[]⟩ l.kind W (by decide) (by omega) (by omega)
    rwa [emp_app] at this
  · have := putPeer_any (txt (numN l.kind.toNat)) l.fr W (by rw [txt_size]; omega) h.fr
    rwa [← txt_append] at this
  · have := putNumber_any (txt (p0 l)) l.req W (by rw [txt_size]; have := s.p0; omega) hw.req
    rwa [← txt_append, show p0 l ++ numN l.req = p1 l by unfold p1; rw [if_pos c]] at this
  · have := putPlace_any (txt (p1 l)) l.id W (by rw [txt_size]; have := s.p1; omega)
    rwa [← txt_append, show p1 l ++ dig 20 l.id = p2 l by unfold p2; rw [if_pos c]] at this
  · have := putInts_any (txt (p2 l)) W (hM.a.bel hb) h.navoid h.avoid (by rw [txt_size]; have := s.p2; omega)
    rwa [← txt_append, show p2 l ++ (numN l.avoid.length ++ avsN l.avoid) = p3 l by unfold p3; rw [if_pos c]] at this
  · have := putBool_any (txt (p3 l)) l.done W (by rw [txt_size]; have := s.p3; omega)
    rwa [← txt_append, show p3 l ++ bitN l.done = p4 l by unfold p4; rw [if_pos c]] at this
  · have := putBool_any (txt (p4 l)) false W (by rw [txt_size]; have := s.p4; omega)
    rwa [← txt_append, show p4 l ++ bitN false = p5 l by unfold p5 mayN; rw [if_pos c, if_pos e]; rfl] at this
  · have := putBool_any (txt (p4 l)) true W (by rw [txt_size]; have := s.p4; omega)
    rwa [← txt_append, show p4 l ++ bitN true = p4 l ++ numN 1 from rfl] at this
  · have := putPeer_any (txt (p4 l ++ numN 1)) l.peer W (by rw [txt_size, List.length_append]; have := s.p4; omega) (h.peer.resolve_left e)
    rwa [← txt_append, show p4 l ++ numN 1 ++ peN l.peer = p5 l by unfold p5 mayN; rw [if_pos c, if_neg e, List.append_assoc]] at this
  · have := putPeers_any (txt (p5 l)) W (hM.p.bel hb) h.npeers h.peers (by rw [txt_size]; have := s.p5; omega)
    rwa [← txt_append, show p5 l ++ (numN l.peers.length ++ pesN l.peers) = putN l by unfold putN; rw [if_pos c]] at this
set_option maxHeartbeats 8000000 in
theorem put_yes {w : World} {l : Lt} {u v : Value} (hM : LtM w l u v) (hw : l.Wf) (hla : l.avoid.length ≤ 1000000) (hlp : l.peers.length ≤ 1000000) (h : Right l) :
    Calls Try.prog 9 #[.agg (ltA l u v)] w fun e w' => e = .returned (.tuple #[.string (txt (putN l)), .int .i64 0]) ∧ Below w.heap.size w w' := by
  have B0 := (Below.refl w.heap.size w).alloc (Nat.le_refl _) (.cells (ltA l u v) 30)
  have L0 := LB.new w l u v
  have HI := Lib.hid (is_any (hM.bel B0) hw.kind hla hlp)
  have HB := Lib.hid B0
  rw [(rightB_iff hw).2 h] at HI
  have hk := h.kind
  have HPU := Lib.hid (puts hM hw h)
  have HPO := Lib.hid (fun w => partsOf_any l.kind w)
  rw [show isK l.kind = true by unfold isK; exact decide_eq_true hk] at HPO
  have hwk : IntKind.u64.wrap l.kind = l.kind := IntWalk.u64_in _ (by omega)
  have HReq := Lib.hid (fun w => hasReq_any l.kind w)
  have HId := Lib.hid (fun w => hasId_any l.kind w)
  have HAvoid := Lib.hid (fun w => hasAvoid_any l.kind w)
  have HDone := Lib.hid (fun w => hasDone_any l.kind w)
  have HPeer := Lib.hid (fun w => hasPeer_any l.kind w)
  have HPeers := Lib.hid (fun w => hasPeers_any l.kind w)
  have HN := none_any
  have HNP := Lib.hid (fun e : l.peer = noP => (show (!eqP l.peer noP) = false by rw [(eqP_noP hw.peer).2 e]; rfl))
  have HNN := Lib.hid (fun e : l.peer ≠ noP => (show (!eqP l.peer noP) = true by rw [Bool.eq_false_iff.2 (fun c => e ((eqP_noP hw.peer).1 c))]; rfl))
  obtain ⟨ua, uc, rfl⟩ := hM.a.form
  obtain ⟨va, vc, rfl⟩ := hM.p.form
  clear B0 hM hw hla hlp h
  generalize hg : w.heap.size = g at *
  generalize maskK l.kind = mk at *
  generalize l.avoid.length = na at *
  generalize l.peers.length = np at *
  go_enter Try.func9, Try.ntmps9
  go_upto_region 1 with (fail)
  (try rw [hg])
  generalize w.alloc _ = W at *
  have hgW : g ≤ W.heap.size := by rw [← hg]; rw [← hg] at HB; exact HB.out.size
  have c0 := L0.kind
  go_upto_region 4 with (first
    | (refine p_midL rfl _ rfl g rfl L0 ?_)
    | (go_at_call 12; (with_reducible refine HI.out.mono ?_); rintro e w1 ⟨rfl, k1⟩; have L1 := L0.bel k1; have c0 := L1.kind; have HB1 := Lib.hid (HB.out.trans (k1.mono hgW)); clear k1)
    | (go_at_call 17; (with_reducible refine (HPO.out _).mono ?_); rintro e w2 ⟨rfl, rfl⟩))
  have HL := Lib.hid L1
  clear HI HPO L0 HB
  have HK := Lib.hid HPU.out.k
  have HF := Lib.hid HPU.out.f
  generalize hb0 : txt (numN l.kind.toNat) = b0 at *
  refine wp_region_quiet_below (by kernel_rfl) (by kernel_rfl) ?_
  repeat (first
    | go_big_quiet_skip
    | (go_big_quiet_want
       first
       | (first | (refine q_cell 3 _ rfl _ 0 rfl _ (fun w h => ldN w _ _ _ h) HL.out.kind HL.out.lt ?_) | (refine q_midP _ rfl _ _ rfl l.fr (by with_reducible exact HL.out.fr) ?_)
          simp only [Act.put, List.setIfInBounds_toArray, List.set_cons_succ, List.set_cons_zero]
          go_big_quiet_on)
       | (go_big_quiet_op
          first | go_big_quiet_on | go_big_quiet_call (first | with_reducible exact Calls.regrown_of (HK.out _) | with_reducible exact Calls.regrown_of (HF.out _)))))
  refine wpQuiet_nil ?_
  intro w9 hw'
  have k9 := quiet_end hw'
  clear hw'
  have hg1 : g ≤ w1.heap.size := by rw [← hg]; rw [← hg] at HB1; exact HB1.out.size
  have L2 := HL.out.bel k9
  have HC := Lib.hid (HB1.out.trans (k9.mono hg1))
  clear HL L1 c0 hb0 HK HF HB1 hg1 k9
  generalize w9 = wc at *
  have hgc : g ≤ wc.heap.size := by rw [← hg]; rw [← hg] at HC; exact HC.out.size
  go_upto_if 24 with (go_at_call 20; (with_reducible refine (HReq.out _).mono ?_); rintro e wh ⟨rfl, rfl⟩)
  go_cut [6] from 24 (fun v6 wx => v6 = .string (txt (p1 l)) ∧ Hid (LB wx g l (.slice ua na uc) (.slice va np vc)) ∧ Hid (Below g w wx))
  case first =>
    cases hc : reqK l.kind with
    | false =>
      have he : txt (p1 l) = txt (p0 l) := by unfold p1; rw [if_neg (by rw [hc]; decide), List.append_nil]
      go_wp2
      go_meet
      exact ⟨by rw [he], Lib.hid L2, HC⟩
    | true =>
      have HX := Lib.hid (HPU.out.req hc)
      have c22 := L2.req
      go_wp2_with (go_at_call 21; (with_reducible refine (HX.out _).mono ?_); rintro e w5 ⟨rfl, k5⟩)
      go_meet
      exact ⟨rfl, Lib.hid (L2.bel k5), Lib.hid (HC.out.trans (k5.mono hgc))⟩
  case rest =>
    clear HC L2 hgc
    obtain ⟨rfl, hL, hC⟩ := hcut
    have L2 := hL.out
    have HC := hC
    clear hL hC
    have hgc : g ≤ wc.heap.size := by rw [← hg]; rw [← hg] at HC; exact HC.out.size
    go_upto_if 30 with (go_at_call 20; (with_reducible refine (HId.out _).mono ?_); rintro e wh ⟨rfl, rfl⟩)
    go_cut [6] from 30 (fun v6 wx => v6 = .string (txt (p2 l)) ∧ Hid (LB wx g l (.slice ua na uc) (.slice va np vc)) ∧ Hid (Below g w wx))
    case first =>
      cases hc : idK l.kind with
      | false =>
        have he : txt (p2 l) = txt (p1 l) := by unfold p2; rw [if_neg (by rw [hc]; decide), List.append_nil]
        go_wp2
        go_meet
        exact ⟨by rw [he], Lib.hid L2, HC⟩
      | true =>
        have HX := Lib.hid (HPU.out.id hc)
        go_wp2_with (first
          | (refine p_midI rfl _ rfl g 23 rfl l.id L2.id ?_)
          | (go_at_call 22; (with_reducible refine (HX.out _).mono ?_); rintro e w5 ⟨rfl, k5⟩))
        go_meet
        exact ⟨rfl, Lib.hid (L2.bel k5), Lib.hid (HC.out.trans (k5.mono hgc))⟩
    case rest =>
      clear HC L2 hgc
      obtain ⟨rfl, hL, hC⟩ := hcut
      have L2 := hL.out
      have HC := hC
      clear hL hC
      have hgc : g ≤ wc.heap.size := by rw [← hg]; rw [← hg] at HC; exact HC.out.size
      go_upto_if 36 with (go_at_call 20; (with_reducible refine (HAvoid.out _).mono ?_); rintro e wh ⟨rfl, rfl⟩)
      go_cut [6] from 36 (fun v6 wx => v6 = .string (txt (p3 l)) ∧ Hid (LB wx g l (.slice ua na uc) (.slice va np vc)) ∧ Hid (Below g w wx))
      case first =>
        cases hc : idK l.kind with
        | false =>
          have he : txt (p3 l) = txt (p2 l) := by unfold p3; rw [if_neg (by rw [hc]; decide), List.append_nil]
          go_wp2
          go_meet
          exact ⟨by rw [he], Lib.hid L2, HC⟩
        | true =>
          have HX := Lib.hid (HPU.out.avoid hc _ (by rw [hg]; exact HC.out))
          have c43 := L2.cu
          go_wp2_with (go_at_call 23; (with_reducible refine HX.out.mono ?_); rintro e w5 ⟨rfl, k5⟩)
          go_meet
          exact ⟨rfl, Lib.hid (L2.bel k5), Lib.hid (HC.out.trans (k5.mono hgc))⟩
      case rest =>
        clear HC L2 hgc
        obtain ⟨rfl, hL, hC⟩ := hcut
        have L2 := hL.out
        have HC := hC
        clear hL hC
        have hgc : g ≤ wc.heap.size := by rw [← hg]; rw [← hg] at HC; exact HC.out.size
        go_upto_if 42 with (go_at_call 20; (with_reducible refine (HDone.out _).mono ?_); rintro e wh ⟨rfl, rfl⟩)
        go_cut [6] from 42 (fun v6 wx => v6 = .string (txt (p4 l)) ∧ Hid (LB wx g l (.slice ua na uc) (.slice va np vc)) ∧ Hid (Below g w wx))
        case first =>
          cases hc : doneK l.kind with
          | false =>
            have he : txt (p4 l) = txt (p3 l) := by unfold p4; rw [if_neg (by rw [hc]; decide), List.append_nil]
            go_wp2
            go_meet
            exact ⟨by rw [he], Lib.hid L2, HC⟩
          | true =>
            have HX := Lib.hid (HPU.out.done hc)
            have c44 := L2.done
            go_wp2_with (go_at_call 24; (with_reducible refine (HX.out _).mono ?_); rintro e w5 ⟨rfl, k5⟩)
            go_meet
            exact ⟨rfl, Lib.hid (L2.bel k5), Lib.hid (HC.out.trans (k5.mono hgc))⟩
        case rest =>
          clear HC L2 hgc
          obtain ⟨rfl, hL, hC⟩ := hcut
          have L2 := hL.out
          have HC := hC
          clear hL hC
          have hgc : g ≤ wc.heap.size := by rw [← hg]; rw [← hg] at HC; exact HC.out.size
          go_upto_if 48 with (go_at_call 20; (with_reducible refine (HPeer.out _).mono ?_); rintro e wh ⟨rfl, rfl⟩)
          go_cut [6] from 48 (fun v6 wx => v6 = .string (txt (p5 l)) ∧ Hid (LB wx g l (.slice ua na uc) (.slice va np vc)) ∧ Hid (Below g w wx))
          case first =>
            cases hc : peerK l.kind with
            | false =>
              have he : txt (p5 l) = txt (p4 l) := by unfold p5; rw [if_neg (by rw [hc]; decide), List.append_nil]
              go_wp2
              go_meet
              exact ⟨by rw [he], Lib.hid L2, HC⟩
            | true =>
              by_cases hp : l.peer = noP
              · have HX := Lib.hid (HPU.out.none hc hp)
                have e1 := HNP.out hp
                clear hp
                go_upto_region 14 with (fail)
                refine wp_region_quiet_below (by kernel_rfl) (by kernel_rfl) ?_
                repeat (first
                  | go_big_quiet_skip
                  | (go_big_quiet_want
                     first
                     | (first | (refine q_midP _ rfl _ _ rfl l.peer (by with_reducible exact L2.peer) ?_) | (refine q_neqP _ _ rfl l.peer noP rfl rfl e1 ?_)
                        simp only [Act.put, List.setIfInBounds_toArray, List.set_cons_succ, List.set_cons_zero]
                        go_big_quiet_on)
                     | (go_big_quiet_op
                        first | go_big_quiet_on | go_big_quiet_call (first | with_reducible exact Calls.regrown_of (HN _) | with_reducible exact Calls.regrown_of (HX.out _)))))
                refine wpQuiet_nil ?_
                intro w7 hw'
                have k7 := quiet_end hw'
                clear hw'
                have L7 := L2.bel k7
                have b7 := HC.out.trans (k7.mono hgc)
                have hg7 : g ≤ w7.heap.size := Nat.le_trans hgc k7.size
                go_upto_region 15 with (fail)
                refine wp_region_quiet_below (by kernel_rfl) (by kernel_rfl) ?_
                repeat (first
                  | go_big_quiet_skip
                  | (go_big_quiet_want
                     first
                     | (first | (refine q_midP _ rfl _ _ rfl l.peer (by with_reducible exact L7.peer) ?_) | (refine q_neqP _ _ rfl l.peer noP rfl rfl e1 ?_)
                        simp only [Act.put, List.setIfInBounds_toArray, List.set_cons_succ, List.set_cons_zero]
                        go_big_quiet_on)
                     | (go_big_quiet_op
                        first | go_big_quiet_on | go_big_quiet_call (first | with_reducible exact Calls.regrown_of (HN _) | with_reducible exact Calls.regrown_of (HX.out _)))))
                refine wpQuiet_nil ?_
                intro w8 hw'
                have k8 := quiet_end hw'
                clear hw'
                go_wp2
                go_meet
                exact ⟨rfl, Lib.hid (L7.bel k8), Lib.hid (b7.trans (k8.mono hg7))⟩
              · have HX := Lib.hid (HPU.out.some hc hp)
                have HY := Lib.hid (HPU.out.peer hc hp)
                have e1 := HNN.out hp
                clear hp
                go_upto_region 14 with (fail)
                refine wp_region_quiet_below (by kernel_rfl) (by kernel_rfl) ?_
                repeat (first
                  | go_big_quiet_skip
                  | (go_big_quiet_want
                     first
                     | (first | (refine q_midP _ rfl _ _ rfl l.peer (by with_reducible exact L2.peer) ?_) | (refine q_neqP _ _ rfl l.peer noP rfl rfl e1 ?_)
                        simp only [Act.put, List.setIfInBounds_toArray, List.set_cons_succ, List.set_cons_zero]
                        go_big_quiet_on)
                     | (go_big_quiet_op
                        first | go_big_quiet_on | go_big_quiet_call (first | with_reducible exact Calls.regrown_of (HN _) | with_reducible exact Calls.regrown_of (HX.out _)))))
                refine wpQuiet_nil ?_
                intro w7 hw'
                have k7 := quiet_end hw'
                clear hw'
                have L7 := L2.bel k7
                have b7 := HC.out.trans (k7.mono hgc)
                have hg7 : g ≤ w7.heap.size := Nat.le_trans hgc k7.size
                go_upto_region 15 with (fail)
                refine wp_region_quiet_below (by kernel_rfl) (by kernel_rfl) ?_
                repeat (first
                  | go_big_quiet_skip
                  | (go_big_quiet_want
                     first
                     | (first | (refine q_midP _ rfl _ _ rfl l.peer (by with_reducible exact L7.peer) ?_) | (refine q_neqP _ _ rfl l.peer noP rfl rfl e1 ?_)
                        simp only [Act.put, List.setIfInBounds_toArray, List.set_cons_succ, List.set_cons_zero]
                        go_big_quiet_on)
                     | (go_big_quiet_op
                        first | go_big_quiet_on | go_big_quiet_call (first | with_reducible exact Calls.regrown_of (HN _) | with_reducible exact Calls.regrown_of (HX.out _)))))
                refine wpQuiet_nil ?_
                intro w8 hw'
                have k8 := quiet_end hw'
                clear hw'
                have L8 := L7.bel k8
                have b8 := b7.trans (k8.mono hg7)
                have hg8 : g ≤ w8.heap.size := Nat.le_trans hg7 k8.size
                go_wp2_with (first
                  | (refine p_midP rfl _ rfl g 45 rfl l.peer L8.peer ?_)
                  | (go_at_call 18; (with_reducible refine (HY.out _).mono ?_); rintro e w5 ⟨rfl, k5⟩))
                go_meet
                exact ⟨rfl, Lib.hid (L8.bel k5), Lib.hid (b8.trans (k5.mono hg8))⟩
          case rest =>
            clear HC L2 hgc
            obtain ⟨rfl, hL, hC⟩ := hcut
            have L2 := hL.out
            have HC := hC
            clear hL hC
            have hgc : g ≤ wc.heap.size := by rw [← hg]; rw [← hg] at HC; exact HC.out.size
            go_upto_if 64 with (go_at_call 20; (with_reducible refine (HPeers.out _).mono ?_); rintro e wh ⟨rfl, rfl⟩)
            go_cut [6] from 64 (fun v6 wx => v6 = .string (txt (putN l)) ∧ Hid (LB wx g l (.slice ua na uc) (.slice va np vc)) ∧ Hid (Below g w wx))
            case first =>
              cases hc : peersK l.kind with
              | false =>
                have he : txt (putN l) = txt (p5 l) := by unfold putN; rw [if_neg (by rw [hc]; decide), List.append_nil]
                go_wp2
                go_meet
                exact ⟨by rw [he], Lib.hid L2, HC⟩
              | true =>
                have HX := Lib.hid (HPU.out.peers hc _ (by rw [hg]; exact HC.out))
                have c66 := L2.cv
                go_wp2_with (go_at_call 26; (with_reducible refine HX.out.mono ?_); rintro e w5 ⟨rfl, k5⟩)
                go_meet
                exact ⟨rfl, Lib.hid (L2.bel k5), Lib.hid (HC.out.trans (k5.mono hgc))⟩
            case rest =>
              clear HC L2 hgc
              obtain ⟨rfl, hL, hC⟩ := hcut
              go_wp2
              go_ret2
              exact ⟨rfl, hC.out⟩
end Go.Proofs.Ytplcdjmidelboaa
