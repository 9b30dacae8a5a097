/- The document's bytes of a letter. -/
import Derived.Test.YtplcdjmidelboaaLetRef
namespace Go.Proofs.Ytplcdjmidelboaa
set_option maxRecDepth 100000
open Go Go.RowKit Go.Sort

theorem refis_any {w : World} {l : Lt} {u v : Value} (hM : LtM w l u v) (hla : l.avoid.length ≤ 1000000) (hlp : l.peers.length ≤ 1000000) :
    Calls Try.prog 13 #[.agg (ltA l u v)] w fun e w' => e = .returned (.bool (rightB l)) ∧ Below w.heap.size w w' := by
  have h := refis_core hM hla hlp _ _ _ _ _ _ _ _ (fill1 l) (fill2 l) (fill3 l) l.done (fill5 l) (fill6 l) _ _ _ _ _ rfl rfl rfl rfl rfl rfl rfl rfl rfl rfl rfl rfl (by unfold fill5; rw [Bool.not_not]) rfl rfl rfl rfl rfl rfl
  have e : rightC (decide (l.kind < 1)) (decide (8 < l.kind)) (adB l.fr.1) (decide (16 < l.avoid.length)) (decide (8 < l.peers.length)) (eqP l.peer noP) (l.kind == 2) (adB l.peer.1)
      (missC (reqK l.kind) (idK l.kind) (doneK l.kind) (peerK l.kind) (peersK l.kind) (fill1 l) (fill2 l) (fill3 l) l.done (fill5 l) (fill6 l)) (l.avoid.all adB) (l.peers.all fun x => adB x.1) = rightB l := by
    have hk : isK l.kind = (!decide (l.kind < 1) && !decide (8 < l.kind)) := by
      unfold isK
      rw [Bool.eq_iff_iff]
      simp only [decide_eq_true_eq, Bool.and_eq_true, Bool.not_eq_true', decide_eq_false_iff_not]
      omega
    have hm : missC (reqK l.kind) (idK l.kind) (doneK l.kind) (peerK l.kind) (peersK l.kind) (fill1 l) (fill2 l) (fill3 l) l.done (fill5 l) (fill6 l) = missL l := by
      unfold missC missL missB
      simp only [Bool.and_comm]
    rw [hm]
    unfold rightC rightB
    rw [hk]
    generalize decide (l.kind < 1) = a
    generalize decide (8 < l.kind) = b
    generalize adB l.fr.1 = c
    generalize decide (16 < l.avoid.length) = d
    generalize decide (8 < l.peers.length) = e
    generalize eqP l.peer noP = f
    generalize (l.kind == 2) = g
    generalize adB l.peer.1 = h
    generalize missL l = i
    generalize l.avoid.all adB = j
    generalize (l.peers.all fun x => adB x.1) = k
    revert a b c d e f g h i j k
    decide +kernel
  rwa [e] at h
theorem run_addS (x y : ByteArray) (w : World) (hs : x.size + y.size ≤ 9223372036854775807) : (binOp .add 9 (.string x) (.string y)).run Try.prog w = .ok (.string (x ++ y)) w := by simp [go_sem, hs]
theorem q_addS {C : World → Prop} {o : Oper} {a : Act} {K : Act → Prop} (u v : Operand) (ho : o.op = .binOp .add 9 u v 9) (x y : ByteArray) (hx : a.eval u = .string x) (hy : a.eval v = .string y) (hs : x.size + y.size ≤ 9223372036854775807) (hk : K (a.put o.dst (.string (x ++ y)))) : o.quiet Try.prog a C K := by
  refine ⟨.string (x ++ y), ?_, hk⟩
  intro w' _
  have hs' : ¬ 9223372036854775807 < x.size + y.size := by omega
  unfold Oper.quietAt execOp
  simp only [ho, hx, hy, Sem.run_bind]
  simp [go_sem, hs']
theorem refpeer_any (x : Pe) (w : World) (hx : adB x.1 = true) : Calls Try.prog 29 #[.agg (peA x)] w fun e w' => e = .returned (.string (txt (peN x))) ∧ Below w.heap.size w w' := by
  have ha := adB_iff.1 hx
  obtain ⟨n, hn⟩ : ∃ n : Nat, x.1 = n := ⟨x.1.toNat, by omega⟩
  have HNL := Lib.hid (numN_len (v := n) (by omega))
  have HP := Lib.hid (fun w => refNum_any n w (by omega))
  have HQ := Lib.hid (fun w => refPlace_any x.2 w)
  have B0 := (Below.refl w.heap.size w).alloc (Nat.le_refl _) (.cells (peA x) 25)
  have X0 := PB.new w x
  have he : txt (numN n) ++ txt (dig 20 x.2) = txt (peN x) := by rw [← txt_append]; unfold peN; rw [hn, Int.toNat_natCast]
  have hcv : IntKind.u64.wrap x.1 = (n : Int) := by rw [hn]; exact IntWalk.u64_in _ (by omega)
  have HB := Lib.hid B0
  have HE := Lib.hid he
  clear B0 ha hx he hn
  rw [← HE.out]
  have hss : (txt (numN n)).size + (txt (dig 20 x.2)).size ≤ 9223372036854775807 := by rw [txt_size, txt_size, dig_length]; have := HNL.out; omega
  generalize hg : w.heap.size = g at *
  generalize txt (numN n) = b1 at *
  generalize txt (dig 20 x.2) = b2 at *
  go_enter Try.func29, Try.ntmps29
  go_upto_region 1 with (fail)
  (try rw [hg])
  generalize w.alloc _ = W at *
  refine wp_region_quiet_below (by kernel_rfl) (by kernel_rfl) ?_
  repeat (first
    | go_big_quiet_skip
    | (go_big_quiet_want
       first
       | (first | (refine q_cell 3 _ rfl _ 0 rfl _ (fun w h => ldN w _ _ _ h) X0.A X0.lt ?_) | (refine q_midI _ rfl _ _ rfl x.2 (by with_reducible exact X0.I) ?_) | (refine q_addS _ _ rfl b1 b2 rfl rfl hss ?_)
          simp only [Act.put, List.setIfInBounds_toArray, List.set_cons_succ, List.set_cons_zero]
          go_big_quiet_on)
       | (go_big_quiet_op
          first | go_big_quiet_on | go_big_quiet_call (first | with_reducible exact Calls.regrown_of (HP.out _) | with_reducible exact Calls.regrown_of (HQ.out _)))))
  refine wpQuiet_nil ?_
  intro w9 hw'
  have k9 := quiet_end hw'
  clear hw'
  go_wp2
  go_ret
  subst hg
  exact ⟨rfl, step HB.out k9⟩
set_option maxHeartbeats 2000000 in
theorem refput_no {w : World} {l : Lt} {u v : Value} (hM : LtM w l u v) (hla : l.avoid.length ≤ 1000000) (hlp : l.peers.length ≤ 1000000) (hR : rightB l = false) :
    Calls Try.prog 10 #[.agg (ltA l u v)] w fun e w' => e = .returned (.tuple #[.string ⟨#[]⟩, .int .i64 1]) ∧ Below w.heap.size w w' := by
  have B0 := (Below.refl w.heap.size w).alloc (Nat.le_refl _) (.cells (ltA l u v) 30)
  have L0 := LB.new w l u v
  have HI := Lib.hid (refis_any (hM.bel B0) hla hlp)
  have HB := Lib.hid B0
  rw [hR] at HI
  clear B0 hM hla hlp hR
  generalize hg : w.heap.size = g at *
  go_enter Try.func10, Try.ntmps10
  go_upto_region 1 with (fail)
  (try rw [hg])
  generalize w.alloc _ = W at *
  go_wp2_with (first
    | (refine p_midL rfl _ rfl g rfl L0 ?_)
    | (go_at_call 13; (with_reducible refine HI.out.mono ?_); rintro e w1 ⟨rfl, k1⟩))
  go_ret2
  subst hg
  exact ⟨rfl, step HB.out k1⟩
/-- the bytes that the document puts behind one another -/
structure RPuts (l : Lt) : Prop where
  head : txt (numN l.kind.toNat) ++ txt (peN l.fr) = txt (p0 l)
  req : reqK l.kind = true → txt (p0 l) ++ txt (numN l.req) = txt (p1 l)
  req' : reqK l.kind = false → txt (p0 l) = txt (p1 l)
  id : idK l.kind = true → txt (p1 l) ++ txt (dig 20 l.id) = txt (p2 l)
  id' : idK l.kind = false → txt (p1 l) = txt (p2 l)
  avoid : idK l.kind = true → ∃ F : Nat → ByteArray, txt (p2 l) ++ txt (numN l.avoid.length) = F 0 ∧ (∀ (k n : Nat), l.avoid[k]? = some (n : Int) → F k ++ txt (numN n) = F (k + 1)) ∧ (∀ k, (F k).size ≤ 10000) ∧ F l.avoid.length = txt (p3 l)
  avoid' : idK l.kind = false → txt (p2 l) = txt (p3 l)
  done : doneK l.kind = true → l.done = true → txt (p3 l) ++ txt (numN 1) = txt (p4 l)
  done0 : doneK l.kind = true → l.done = false → txt (p3 l) ++ txt (numN 0) = txt (p4 l)
  done' : doneK l.kind = false → txt (p3 l) = txt (p4 l)
  none : peerK l.kind = true → eqP l.peer noP = true → txt (p4 l) ++ txt (numN 0) = txt (p5 l)
  peer : peerK l.kind = true → eqP l.peer noP = false → txt (p4 l) ++ txt (numN 1) ++ txt (peN l.peer) = txt (p5 l)
  peer' : peerK l.kind = false → txt (p4 l) = txt (p5 l)
  peers : peersK l.kind = true → ∃ F : Nat → ByteArray, txt (p5 l) ++ txt (numN l.peers.length) = F 0 ∧ (∀ (k : Nat) (x : Pe), l.peers[k]? = some x → F k ++ txt (peN x) = F (k + 1)) ∧ (∀ k, (F k).size ≤ 10000) ∧ F l.peers.length = txt (putN l)
  peers' : peersK l.kind = false → txt (p5 l) = txt (putN l)
theorem rputs {l : Lt} (hw : l.Wf) (h : Right l) : RPuts l := by
  have s := shorts hw h
  have e5 := eqP_noP hw.peer
  have hna := h.navoid
  have hnp := h.npeers
  refine ⟨?_, fun c => ?_, fun c => ?_, fun c => ?_, fun c => ?_, fun c => ?_, fun c => ?_, fun c d => ?_, fun c d => ?_, fun c => ?_, fun c e => ?_, fun c e => ?_, fun c => ?_, fun c => ?_, fun c => ?_⟩
  · rw [← txt_append]; rfl
  · rw [← txt_append]; unfold p1; rw [if_pos c]
  · unfold p1; rw [if_neg (by rw [c]; decide), List.append_nil]
  · rw [← txt_append]; unfold p2; rw [if_pos c]
  · unfold p2; rw [if_neg (by rw [c]; decide), List.append_nil]
  · refine ⟨fun k => txt (p2 l ++ (numN l.avoid.length ++ avsN (l.avoid.take k))), ?_, fun k n hk => ?_, fun k => ?_, ?_⟩
    · rw [← txt_append]; simp only [List.take_zero]; rw [show avsN [] = [] from rfl, List.append_nil]
    · simp only; rw [← txt_append, List.append_assoc, List.append_assoc, avsN_take hk, Int.toNat_natCast]
    · simp only
      rw [txt_size, List.length_append, List.length_append]
      have h1 := avsN_len (L := l.avoid.take k) fun y hy => h.avoid y (List.mem_of_mem_take hy)
      have h2 : (l.avoid.take k).length ≤ 16 := by rw [List.length_take]; omega
      have h3 := numN_len (v := l.avoid.length) (by omega)
      have := s.p2
      omega
    · simp only [List.take_length]; unfold p3; rw [if_pos c]
  · unfold p3; rw [if_neg (by rw [c]; decide), List.append_nil]
  · rw [← txt_append]; unfold p4 bitN; rw [if_pos c, if_pos d]
  · rw [← txt_append]; unfold p4 bitN; rw [if_pos c, if_neg (by rw [d]; decide)]
  · unfold p4; rw [if_neg (by rw [c]; decide), List.append_nil]
  · rw [← txt_append]; unfold p5 mayN; rw [if_pos c, if_pos (e5.1 e)]
  · rw [← txt_append, ← txt_append]; unfold p5 mayN; rw [if_pos c, if_neg (fun k => by rw [e5.2 k] at e; cases e), List.append_assoc]
  · unfold p5; rw [if_neg (by rw [c]; decide), List.append_nil]
  · refine ⟨fun k => txt (p5 l ++ (numN l.peers.length ++ pesN (l.peers.take k))), ?_, fun k x hk => ?_, fun k => ?_, ?_⟩
    · rw [← txt_append]; simp only [List.take_zero]; rw [show pesN [] = [] from rfl, List.append_nil]
    · simp only; rw [← txt_append, List.append_assoc, List.append_assoc, pesN_take hk]
    · simp only
      rw [txt_size, List.length_append, List.length_append]
      have h1 := pesN_len (L := l.peers.take k) fun y hy => h.peers y (List.mem_of_mem_take hy)
      have h2 : (l.peers.take k).length ≤ 8 := by rw [List.length_take]; omega
      have h3 := numN_len (v := l.peers.length) (by omega)
      have := s.p5
      omega
    · simp only [List.take_length]; unfold putN; rw [if_pos c]
  · unfold putN; rw [if_neg (by rw [c]; decide), List.append_nil]
def pickB (c : Bool) (x y : ByteArray) : ByteArray := if c then x else y
theorem pick_size {c : Bool} {x y : ByteArray} (h : x.size ≤ 10000) (h' : y.size ≤ 10000) : (pickB c x y).size ≤ 10000 := by cases c <;> assumption
set_option maxHeartbeats 8000000 in
theorem refput_yes {w : World} {l : Lt} {u v : Value} (hM : LtM w l u v) (hw : l.Wf) (h : Right l) :
    Calls Try.prog 10 #[.agg (ltA l u v)] w fun e w' => e = .returned (.tuple #[.string (txt (putN l)), .int .i64 0]) ∧ Below w.heap.size w w' := by
  have B0 := (Below.refl w.heap.size w).alloc (Nat.le_refl _) (.cells (ltA l u v) 30)
  have L0 := LB.new w l u v
  have hna := h.navoid
  have hnp := h.npeers
  have s := shorts hw h
  have HI := Lib.hid (refis_any (hM.bel B0) (by omega) (by omega))
  have HB := Lib.hid B0
  rw [(rightB_iff hw).2 h] at HI
  have hk := h.kind
  have HRP := rputs hw h
  have HO := Lib.hid (fun w => of_any l.kind w)
  unfold ofA at HO
  obtain ⟨n0, hn0⟩ : ∃ n0 : Nat, l.kind = n0 := ⟨l.kind.toNat, by omega⟩
  have hwk : IntKind.u64.wrap l.kind = (n0 : Int) := by rw [hn0]; exact IntWalk.u64_in _ (by omega)
  have HNK := Lib.hid (fun w => refNum_any n0 w (by omega))
  have HFR := Lib.hid (fun w => refpeer_any l.fr w h.fr)
  have HRQ := Lib.hid (fun w => refNum_any l.req w hw.req)
  have HID := Lib.hid (fun w => refPlace_any l.id w)
  have HN1 : Hid (∀ w, Calls Try.prog 28 #[.int .u64 1] w fun e w' => e = .returned (.string (txt (numN 1))) ∧ Below w.heap.size w w') := fun w => refNum_any 1 w (by decide)
  have HN0 : Hid (∀ w, Calls Try.prog 28 #[.int .u64 0] w fun e w' => e = .returned (.string (txt (numN 0))) ∧ Below w.heap.size w w') := fun w => refNum_any 0 w (by decide)
  have HNA := Lib.hid (fun w => refNum_any l.avoid.length w (by omega))
  have HNPE := Lib.hid (fun w => refNum_any l.peers.length w (by omega))
  have HPP := Lib.hid (fun (hp : eqP l.peer noP = false) w => refpeer_any l.peer w (h.peer.resolve_left fun k => by rw [(eqP_noP hw.peer).2 k] at hp; cases hp))
  have HAI := Lib.hid (fun (k : Nat) (x : Int) (hx : l.avoid[k]? = some x) => (show ∃ n : Nat, x = n ∧ n ≤ 999 ∧ (txt (numN n)).size ≤ 10 ∧ ∀ w, Calls Try.prog 28 #[.int .u64 (n : Int)] w fun e w' => e = .returned (.string (txt (numN n))) ∧ Below w.heap.size w w' from by
    have := adB_iff.1 (h.avoid x (List.mem_of_getElem? hx))
    exact ⟨x.toNat, by omega, by omega, by rw [txt_size]; have := numN_len (v := x.toNat) (by omega); omega, fun w => refNum_any _ w (by omega)⟩))
  have HPI := Lib.hid (fun (k : Nat) (x : Pe) (hx : l.peers[k]? = some x) => (show (txt (peN x)).size ≤ 30 ∧ ∀ w, Calls Try.prog 29 #[.agg (peA x)] w fun e w' => e = .returned (.string (txt (peN x))) ∧ Below w.heap.size w w' from
    ⟨by rw [txt_size]; have := peN_len (h.peers x (List.mem_of_getElem? hx)); omega, fun w => refpeer_any x w (h.peers x (List.mem_of_getElem? hx))⟩))
  have HN := refnone_any
  have HM := Lib.hid hM
  obtain ⟨ua, uc, rfl⟩ := hM.a.form
  obtain ⟨va, vc, rfl⟩ := hM.p.form
  have E0 := HRP.head
  rw [hn0, Int.toNat_natCast] at E0
  have E1 := Lib.hid HRP.req
  have E1' := Lib.hid HRP.req'
  have E2 := Lib.hid HRP.id
  have E2' := Lib.hid HRP.id'
  have E3 := Lib.hid HRP.avoid
  have E3' := Lib.hid HRP.avoid'
  have E4 := Lib.hid HRP.done
  have E40 := Lib.hid HRP.done0
  have E4' := Lib.hid HRP.done'
  have E50 := Lib.hid HRP.none
  have E5 := Lib.hid HRP.peer
  have E5' := Lib.hid HRP.peer'
  have E6 := Lib.hid HRP.peers
  have E6' := Lib.hid HRP.peers'
  have z0 : (txt (p0 l)).size ≤ 10000 := by rw [txt_size]; have := s.p0; omega
  have z1 : (txt (p1 l)).size ≤ 10000 := by rw [txt_size]; have := s.p1; omega
  have z2 : (txt (p2 l)).size ≤ 10000 := by rw [txt_size]; have := s.p2; omega
  have z3 : (txt (p3 l)).size ≤ 10000 := by rw [txt_size]; have := s.p3; omega
  have z4 : (txt (p4 l)).size ≤ 10000 := by rw [txt_size]; have := s.p4; omega
  have z5 : (txt (p5 l)).size ≤ 10000 := by rw [txt_size]; have := s.p5; omega
  have zk : (txt (numN n0)).size ≤ 10 := by rw [txt_size]; have := numN_len (v := n0) (by omega); omega
  have zf : (txt (peN l.fr)).size ≤ 30 := by rw [txt_size]; have := peN_len h.fr; omega
  have zr : (txt (numN l.req)).size ≤ 10 := by rw [txt_size]; have := numN_len hw.req; omega
  have zi : (txt (dig 20 l.id)).size ≤ 20 := by rw [txt_size, dig_length]; omega
  have zo : (txt (numN 1)).size ≤ 10 := by rw [txt_size]; have := numN_len (v := 1) (by omega); omega
  have zn : (txt (numN 0)).size ≤ 10 := by rw [txt_size]; have := numN_len (v := 0) (by omega); omega
  have za : (txt (numN l.avoid.length)).size ≤ 10 := by rw [txt_size]; have := numN_len (v := l.avoid.length) (by omega); omega
  have zp : (txt (numN l.peers.length)).size ≤ 10 := by rw [txt_size]; have := numN_len (v := l.peers.length) (by omega); omega
  have zq : Hid (eqP l.peer noP = false → (txt (peN l.peer)).size ≤ 30) := fun hp => by rw [txt_size]; have := peN_len (h.peer.resolve_left fun k => by rw [(eqP_noP hw.peer).2 k] at hp; cases hp); omega
  clear B0 hM hw h hk hn0 HRP s
  generalize txt (putN l) = T6 at *
  generalize txt (p5 l) = T5 at *
  generalize txt (p4 l) = T4 at *
  generalize txt (p3 l) = T3 at *
  generalize txt (p2 l) = T2 at *
  generalize txt (p1 l) = T1 at *
  generalize txt (p0 l) = T0 at *
  generalize txt (numN l.req) = TR at *
  generalize txt (dig 20 l.id) = TI at *
  generalize txt (numN n0) = TK at *
  generalize txt (peN l.fr) = TF at *
  generalize txt (numN l.avoid.length) = TA at *
  generalize txt (numN l.peers.length) = TP at *
  generalize txt (peN l.peer) = TQ at *
  generalize htO : txt (numN 1) = TO at *
  generalize htN : txt (numN 0) = TN at *
  clear htO htN
  generalize hqe : eqP l.peer noP = pn at *
  generalize hdn : l.done = dn at *
  generalize reqK l.kind = cq at *
  generalize idK l.kind = ci at *
  generalize doneK l.kind = cd at *
  generalize peerK l.kind = cp at *
  generalize peersK l.kind = cs at *
  have HQE := Lib.hid hqe
  have HDN := Lib.hid hdn
  clear hqe hdn
  generalize hg : w.heap.size = g at *
  generalize hqa : l.avoid.length = na at *
  generalize hqp : l.peers.length = np at *
  have HQA := Lib.hid hqa
  have HQP := Lib.hid hqp
  clear hqa hqp
  go_enter Try.func10, Try.ntmps10
  go_upto_region 1 with (fail)
  (try rw [hg])
  generalize w.alloc _ = W at *
  have hgW : g ≤ W.heap.size := by rw [← hg]; rw [← hg] at HB; exact HB.out.size
  have c0 := L0.kind
  go_upto_region 4 with (first
    | (refine p_midL rfl _ rfl g rfl L0 ?_)
    | (go_at_call 13; (with_reducible refine HI.out.mono ?_); rintro e w1 ⟨rfl, k1⟩; have L1 := L0.bel k1; have c0 := L1.kind; have HB1 := Lib.hid (HB.out.trans (k1.mono hgW)); have hg1 : g ≤ w1.heap.size := Nat.le_trans hgW k1.size; clear k1)
    | (go_at_call 27; (with_reducible refine (HO.out _).mono ?_); rintro e w2 ⟨rfl, kk2⟩; have L2 := L1.bel kk2; have HB2 := Lib.hid (HB1.out.trans (kk2.mono hg1)); have hg2 : g ≤ w2.heap.size := Nat.le_trans hg1 kk2.size; clear kk2)
    | ((with_reducible show wpList _ _ _ (Oper.mk _ (Op.store _ _ _) _ _ _ _ :: _) _ _); refine wpList_store_newrow rfl 56 _ _ rfl #[.bool cq, .bool ci, .bool ci, .bool cd, .bool cp, .bool cs] rfl rfl sizeOf6 (six_one _ _ _ _ _ _) rfl ?_))
  (try simp only [Act.put])
  have O3 := Blk.new w2 #[.bool cq, .bool ci, .bool ci, .bool cd, .bool cp, .bool cs] 56
  have b3 := (Below.refl w2.heap.size w2).alloc (Nat.le_refl _) (.cells #[.bool cq, .bool ci, .bool ci, .bool cd, .bool cp, .bool cs] 56)
  have HL := Lib.hid (L2.bel b3)
  have HB3 := Lib.hid (HB2.out.trans (b3.mono hg2))
  clear L0 L1 L2 HB HB1 HB2 b3 hg1 hg2 c0 HI HO
  generalize w2.heap.size = gp at *
  generalize w2.alloc _ = W3 at *
  have hg3 : g ≤ W3.heap.size := by rw [← hg]; rw [← hg] at HB3; exact HB3.out.size
  refine wp_region_quiet_below (by kernel_rfl) (by kernel_rfl) ?_
  repeat (first
    | go_big_quiet_skip
    | (go_big_quiet_want
       first
       | (first | (refine q_cell 3 _ rfl _ 0 rfl _ (fun w h => ldN w _ _ _ h) HL.out.kind HL.out.lt ?_) | (refine q_midP _ rfl _ _ rfl l.fr (by with_reducible exact HL.out.fr) ?_) | (refine q_addS _ _ rfl TK TF rfl rfl (by omega) ?_)
          simp only [Act.put, List.setIfInBounds_toArray, List.set_cons_succ, List.set_cons_zero]
          go_big_quiet_on)
       | (go_big_quiet_op
          first | go_big_quiet_on | go_big_quiet_call (first | with_reducible exact Calls.regrown_of (HNK.out _) | with_reducible exact Calls.regrown_of (HFR.out _)))))
  refine wpQuiet_nil ?_
  intro w9 hw'
  have k9 := quiet_end hw'
  clear hw'
  have L2 := HL.out.bel k9
  have O2 := O3.below k9 O3.lt
  have HC := Lib.hid (HB3.out.trans (k9.mono hg3))
  have HE0 := Lib.hid E0
  clear HL HB3 hg3 k9 O3 E0 HNK HFR zk zf hwk
  generalize hT0 : TK ++ TF = T00 at *
  have hT1 : T00 = T0 := HE0.out
  subst hT1
  clear HE0 hT0
  generalize w9 = wc at *
  have hgc : g ≤ wc.heap.size := by rw [← hg]; rw [← hg] at HC; exact HC.out.size
  have qj : wc.cell? ⟨gp, 0, none⟩ = some (.bool cq) := O2.cell 0
  have c22 := L2.req
  go_upto_if 23 with (fail)
  go_cut [5] from 23 (fun v5 wx => v5 = .string T1 ∧ Hid (LB wx g l (.slice ua na uc) (.slice va np vc)) ∧ Hid (Blk wx gp #[.bool cq, .bool ci, .bool ci, .bool cd, .bool cp, .bool cs] 56) ∧ Hid (Below g w wx))
  case first =>
    cases cq with
    | false =>
      have he := Lib.hid (E1'.out rfl)
      go_wp2
      go_meet
      exact ⟨by rw [he.out], Lib.hid L2, Lib.hid O2, HC⟩
    | true =>
      have he := Lib.hid (E1.out rfl)
      go_wp2_with (go_at_call 28; (with_reducible refine (HRQ.out _).mono ?_); rintro e w5 ⟨rfl, k5⟩)
      go_meet
      exact ⟨by rw [← he.out], Lib.hid (L2.bel k5), Lib.hid (O2.below k5 O2.lt), Lib.hid (HC.out.trans (k5.mono hgc))⟩
  case rest =>
    clear HC L2 O2 hgc qj c22 E1 E1' HRQ zr
    obtain ⟨hv, hL, hO, hC⟩ := hcut
    have L2 := hL.out
    have O2 := hO.out
    have HC := hC
    clear hL hO hC
    subst hv
    have hgc : g ≤ wc.heap.size := by rw [← hg]; rw [← hg] at HC; exact HC.out.size
    have qj : wc.cell? ⟨gp, 1, none⟩ = some (.bool ci) := O2.cell 1
    go_upto_if 30 with (fail)
    go_cut [5] from 30 (fun v5 wx => v5 = .string T2 ∧ Hid (LB wx g l (.slice ua na uc) (.slice va np vc)) ∧ Hid (Blk wx gp #[.bool cq, .bool ci, .bool ci, .bool cd, .bool cp, .bool cs] 56) ∧ Hid (Below g w wx))
    case first =>
      cases ci with
      | false =>
        have he := Lib.hid (E2'.out rfl)
        go_wp2
        go_meet
        exact ⟨by rw [he.out], Lib.hid L2, Lib.hid O2, HC⟩
      | true =>
        have he := Lib.hid (E2.out rfl)
        go_wp2_with (first
          | (refine p_midI rfl _ rfl g 23 rfl l.id L2.id ?_)
          | (go_at_call 30; (with_reducible refine (HID.out _).mono ?_); rintro e w5 ⟨rfl, k5⟩))
        go_meet
        exact ⟨by rw [← he.out], Lib.hid (L2.bel k5), Lib.hid (O2.below k5 O2.lt), Lib.hid (HC.out.trans (k5.mono hgc))⟩
    case rest =>
      clear HC L2 O2 hgc qj E2 E2' HID zi
      obtain ⟨hv, hL, hO, hC⟩ := hcut
      have L2 := hL.out
      have O2 := hO.out
      have HC := hC
      clear hL hO hC
      subst hv
      have hgc : g ≤ wc.heap.size := by rw [← hg]; rw [← hg] at HC; exact HC.out.size
      have qj : wc.cell? ⟨gp, 2, none⟩ = some (.bool ci) := O2.cell 2
      go_upto_if 37 with (fail)
      go_cut [5, 6] from 37 (fun v5 _ wx => v5 = .string T3 ∧ Hid (LB wx g l (.slice ua na uc) (.slice va np vc)) ∧ Hid (Blk wx gp #[.bool cq, .bool ci, .bool ci, .bool cd, .bool cp, .bool cs] 56) ∧ Hid (Below g w wx))
      case first =>
        cases ci with
        | false =>
          have he := Lib.hid (E3'.out rfl)
          go_wp2
          go_meet
          exact ⟨by rw [he.out], Lib.hid L2, Lib.hid O2, HC⟩
        | true =>
          obtain ⟨F, f0, fs, fz, fn⟩ := E3.out rfl
          have HFS := Lib.hid fs
          have HFZ := Lib.hid fz
          have HFN := Lib.hid fn
          clear fs fz fn
          have cu := L2.cu
          have hcv : IntKind.u64.wrap (na : Int) = (na : Int) := IntWalk.u64_in _ (by omega)
          go_upto_region 11 with (go_at_call 28; (with_reducible refine (HNA.out _).mono ?_); rintro e w5 ⟨rfl, k5⟩)
          have L5 := L2.bel k5
          have O5 := O2.below k5 O2.lt
          have HC5 := Lib.hid (HC.out.trans (k5.mono hgc))
          have hF0 : T2 ++ TA = F 0 := f0
          generalize T2 ++ TA = TB at *
          subst hF0
          have hg5 : g ≤ w5.heap.size := Nat.le_trans hgc k5.size
          have HNX := Lib.hid (fun (W : World) (h : Below g w W) => (show Nums W (.slice ua na uc) l.avoid from by rw [← hg] at h; exact HM.out.a.bel h))
          have HLX := Lib.hid (fun (W : World) (h : Below w5.heap.size w5 W) => L5.bel h)
          have HOX := Lib.hid (fun (W : World) (h : Below w5.heap.size w5 W) => O5.below h O5.lt)
          have HBX := Lib.hid (fun (W : World) (h : Below w5.heap.size w5 W) => HC5.out.trans (h.mono hg5))
          clear L5 O5 HC5 L2 O2 HC cu k5 f0
          go_upto_region 12 with (fail)
          go_loopw [5, 6] (fun s i wq => ∃ k : Nat, i = .int .i64 (k : Int) ∧ k ≤ na ∧ s = .string (F k) ∧ Below w5.heap.size w5 wq) (fun _ i _ => na - (intOf i).toNat)
          case atStart => exact ⟨0, rfl, Nat.zero_le _, rfl, Below.refl _ _⟩
          case round =>
            obtain ⟨k, rfl, hk, rfl, hB⟩ := hrel
            have HBQ := Lib.hid hB
            have hsz := hB.size
            clear hB
            have cu := (HLX.out _ HBQ.out).cu
            by_cases hlt : k < na
            · have hlt2 : k < l.avoid.length := by rw [HQA.out]; exact hlt
              obtain ⟨b, o, c, e, hr, _⟩ := (HNX.out _ (HBX.out _ HBQ.out)).some (by omega)
              have c1 := nums_cell hr hlt2
              have hx : l.avoid[k]? = some (l.avoid.getD k 0) := by rw [List.getD_eq_getElem?_getD, List.getElem?_eq_getElem hlt2]; rfl
              generalize l.avoid.getD k 0 = x at *
              obtain ⟨m, rfl, hm, hmz, hmc⟩ := HAI.out k x hx
              have HX := Lib.hid hmc
              have hst := HFS.out k m hx
              have hfz := HFZ.out k
              injection e with e1 e2 e3
              subst e1 e3
              clear e2 hr hlt2 hmc hx
              generalize txt (numN m) = TM at *
              have b1 : (k : Int) < (na : Int) := by omega
              have b2 : (0 : Int) ≤ (k : Int) := by omega
              have hcm : IntKind.u64.wrap (m : Int) = (m : Int) := IntWalk.u64_in _ (by omega)
              have s2 : IntKind.i64.wrap ((k : Int) + 1) = (k : Int) + 1 := IntWalk.i64_in _ (by omega)
              go_wp2_with (go_at_call 28; (with_reducible refine (HX.out _).mono ?_); rintro e w6 ⟨rfl, k6⟩; have HB6 := Lib.hid (HBQ.out.trans (k6.mono hsz)); clear k6)
              exact ⟨⟨k + 1, by go_num, by omega, rfl, HB6.out⟩, by simp [intOf]; omega⟩
            · obtain rfl : k = na := by omega
              go_wp2
              go_meet
              exact ⟨by rw [HFN.out], Lib.hid (HLX.out _ HBQ.out), Lib.hid (HOX.out _ HBQ.out), Lib.hid (HBX.out _ HBQ.out)⟩
      case rest =>
        clear HC L2 O2 hgc qj E3 E3' HNA za HAI
        obtain ⟨hv, hL, hO, hC⟩ := hcut
        have L2 := hL.out
        have O2 := hO.out
        have HC := hC
        clear hL hO hC
        subst hv
        go_upto_region 15 with (fail)
        go_cut [66] from 61 (fun v wx => v = .bool (cd && dn) ∧ wx = wc)
        case first =>
          have qj : wc.cell? ⟨gp, 3, none⟩ = some (.bool cd) := O2.cell 3
          have c44 := L2.done
          rw [HDN.out] at c44
          cases cd with
          | false =>
            go_wp2_with (first | go_big_skip)
            go_meet
            exact ⟨rfl, rfl⟩
          | true =>
            go_wp2_with (first | go_big_skip)
            go_meet
            exact ⟨rfl, rfl⟩
        case rest =>
          obtain ⟨rfl, rfl⟩ := hcut
          have hgc : g ≤ wc.heap.size := by rw [← hg]; rw [← hg] at HC; exact HC.out.size
          go_upto_if 66 with (fail)
          go_cut [5] from 66 (fun v5 wx => v5 = .string (pickB (cd && dn) T4 T3) ∧ Hid (LB wx g l (.slice ua na uc) (.slice va np vc)) ∧ Hid (Blk wx gp #[.bool cq, .bool ci, .bool ci, .bool cd, .bool cp, .bool cs] 56) ∧ Hid (Below g w wx))
          case first =>
            cases hb : cd && dn with
            | false =>
              have HBB := Lib.hid hb
              (try rw [hb])
              clear hb
              go_wp2
              go_meet
              exact ⟨by rw [HBB.out]; rfl, Lib.hid L2, Lib.hid O2, HC⟩
            | true =>
              have he := E4.out (by revert hb; cases cd <;> simp) (by revert hb; cases cd <;> simp)
              have he := Lib.hid he
              have HBB := Lib.hid hb
              (try rw [hb])
              clear hb
              go_wp2_with (go_at_call 28; (with_reducible refine (HN1.out _).mono ?_); rintro e w5 ⟨rfl, k5⟩)
              go_meet
              exact ⟨by rw [HBB.out]; first | rfl | (rw [he.out]; rfl), Lib.hid (L2.bel k5), Lib.hid (O2.below k5 O2.lt), Lib.hid (HC.out.trans (k5.mono hgc))⟩
          case rest =>
            clear HC L2 O2 hgc
            obtain ⟨hv, hL, hO, hC⟩ := hcut
            have L2 := hL.out
            have O2 := hO.out
            have HC := hC
            clear hL hO hC
            subst hv
            have zx := pick_size (c := cd && dn) z4 z3
            generalize htx : pickB (cd && dn) T4 T3 = TX at *
            have HTX := Lib.hid htx
            clear htx
            go_upto_region 17 with (fail)
            go_cut [76] from 70 (fun v wx => v = .bool (cd && !dn) ∧ wx = wc)
            case first =>
              have qj : wc.cell? ⟨gp, 3, none⟩ = some (.bool cd) := O2.cell 3
              have c44 := L2.done
              rw [HDN.out] at c44
              cases cd with
              | false =>
                go_wp2_with (first | go_big_skip)
                go_meet
                exact ⟨rfl, rfl⟩
              | true =>
                go_wp2_with (first | go_big_skip)
                go_meet
                exact ⟨rfl, rfl⟩
            case rest =>
              obtain ⟨rfl, rfl⟩ := hcut
              have hgc : g ≤ wc.heap.size := by rw [← hg]; rw [← hg] at HC; exact HC.out.size
              go_upto_if 76 with (fail)
              go_cut [5] from 76 (fun v5 wx => v5 = .string T4 ∧ Hid (LB wx g l (.slice ua na uc) (.slice va np vc)) ∧ Hid (Blk wx gp #[.bool cq, .bool ci, .bool ci, .bool cd, .bool cp, .bool cs] 56) ∧ Hid (Below g w wx))
              case first =>
                cases hb : cd && !dn with
                | false =>
                  have he : Hid (TX = T4) := by
                    unfold Hid
                    rw [← HTX.out]
                    have k4 := E4'.out
                    revert hb k4
                    cases cd <;> cases dn <;> simp [pickB]
                  have HBB := Lib.hid hb
                  (try rw [hb])
                  clear hb
                  go_wp2
                  go_meet
                  exact ⟨by rw [he.out], Lib.hid L2, Lib.hid O2, HC⟩
                | true =>
                  have he := E40.out (by revert hb; cases cd <;> simp) (by revert hb; cases cd <;> simp)
                  have hx : T3 = TX := by rw [← HTX.out]; revert hb; cases cd <;> cases dn <;> simp [pickB]
                  rw [hx] at he
                  have he := Lib.hid he
                  clear hx
                  have HBB := Lib.hid hb
                  (try rw [hb])
                  clear hb
                  go_wp2_with (go_at_call 28; (with_reducible refine (HN0.out _).mono ?_); rintro e w5 ⟨rfl, k5⟩)
                  go_meet
                  exact ⟨by first | rfl | rw [he.out], Lib.hid (L2.bel k5), Lib.hid (O2.below k5 O2.lt), Lib.hid (HC.out.trans (k5.mono hgc))⟩
              case rest =>
                clear HC L2 O2 hgc HTX zx E4 E40 E4' z3
                obtain ⟨hv, hL, hO, hC⟩ := hcut
                have L2 := hL.out
                have O2 := hO.out
                have HC := hC
                clear hL hO hC
                subst hv
                have hgc : g ≤ wc.heap.size := by rw [← hg]; rw [← hg] at HC; exact HC.out.size
                go_upto_region 19 with (fail)
                go_cut [87] from 80 (fun v wx => v = .bool (cp && pn) ∧ Hid (LB wx g l (.slice ua na uc) (.slice va np vc)) ∧ Hid (Blk wx gp #[.bool cq, .bool ci, .bool ci, .bool cd, .bool cp, .bool cs] 56) ∧ Hid (Below g w wx))
                case first =>
                  have qj : wc.cell? ⟨gp, 4, none⟩ = some (.bool cp) := O2.cell 4
                  have e1 : eqP l.peer noP = pn := by rw [HQE.out]
                  cases cp with
                  | false =>
                    refine wp_region_quiet_below (by kernel_rfl) (by kernel_rfl) ?_
                    repeat (first
                      | go_big_quiet_skip
                      | (go_big_quiet_want
                         first
                         | (first | (refine q_cell 4 _ rfl _ 4 rfl _ (fun w h => ldB w _ _ _ h) qj O2.lt ?_) | (refine q_midP _ rfl _ _ rfl l.peer (by with_reducible exact L2.peer) ?_) | (refine q_eqlP _ _ rfl l.peer noP rfl rfl e1 ?_)
                            simp only [Act.put, List.setIfInBounds_toArray, List.set_cons_succ, List.set_cons_zero]
                            go_big_quiet_on)
                         | (go_big_quiet_op
                            first | go_big_quiet_on | go_big_quiet_call (first | with_reducible exact Calls.regrown_of (HN _)))))
                    refine wpQuiet_nil ?_
                    intro w9 hw'
                    have k9 := quiet_end hw'
                    clear hw'
                    go_wp2
                    go_meet
                    exact ⟨rfl, Lib.hid (L2.bel k9), Lib.hid (O2.below k9 O2.lt), Lib.hid (HC.out.trans (k9.mono hgc))⟩
                  | true =>
                    refine wp_region_quiet_below (by kernel_rfl) (by kernel_rfl) ?_
                    repeat (first
                      | go_big_quiet_skip
                      | (go_big_quiet_want
                         first
                         | (first | (refine q_cell 4 _ rfl _ 4 rfl _ (fun w h => ldB w _ _ _ h) qj O2.lt ?_) | (refine q_midP _ rfl _ _ rfl l.peer (by with_reducible exact L2.peer) ?_) | (refine q_eqlP _ _ rfl l.peer noP rfl rfl e1 ?_)
                            simp only [Act.put, List.setIfInBounds_toArray, List.set_cons_succ, List.set_cons_zero]
                            go_big_quiet_on)
                         | (go_big_quiet_op
                            first | go_big_quiet_on | go_big_quiet_call (first | with_reducible exact Calls.regrown_of (HN _)))))
                    refine wpQuiet_nil ?_
                    intro w9 hw'
                    have k9 := quiet_end hw'
                    clear hw'
                    go_wp2
                    go_meet
                    exact ⟨rfl, Lib.hid (L2.bel k9), Lib.hid (O2.below k9 O2.lt), Lib.hid (HC.out.trans (k9.mono hgc))⟩
                case rest =>
                  clear HC L2 O2 hgc
                  obtain ⟨hv, hL, hO, hC⟩ := hcut
                  have L2 := hL.out
                  have O2 := hO.out
                  have HC := hC
                  clear hL hO hC
                  subst hv
                  have hgc : g ≤ wc.heap.size := by rw [← hg]; rw [← hg] at HC; exact HC.out.size
                  go_upto_if 87 with (fail)
                  go_cut [5] from 87 (fun v5 wx => v5 = .string (pickB (cp && pn) T5 T4) ∧ Hid (LB wx g l (.slice ua na uc) (.slice va np vc)) ∧ Hid (Blk wx gp #[.bool cq, .bool ci, .bool ci, .bool cd, .bool cp, .bool cs] 56) ∧ Hid (Below g w wx))
                  case first =>
                    cases hb : cp && pn with
                    | false =>
                      have HBB := Lib.hid hb
                      (try rw [hb])
                      clear hb
                      go_wp2
                      go_meet
                      exact ⟨by rw [HBB.out]; rfl, Lib.hid L2, Lib.hid O2, HC⟩
                    | true =>
                      have he := E50.out (by revert hb; cases cp <;> simp) (by revert hb; cases cp <;> simp)
                      have he := Lib.hid he
                      have HBB := Lib.hid hb
                      (try rw [hb])
                      clear hb
                      go_wp2_with (go_at_call 28; (with_reducible refine (HN0.out _).mono ?_); rintro e w5 ⟨rfl, k5⟩)
                      go_meet
                      exact ⟨by rw [HBB.out]; first | rfl | (rw [he.out]; rfl), Lib.hid (L2.bel k5), Lib.hid (O2.below k5 O2.lt), Lib.hid (HC.out.trans (k5.mono hgc))⟩
                  case rest =>
                    clear HC L2 O2 hgc
                    obtain ⟨hv, hL, hO, hC⟩ := hcut
                    have L2 := hL.out
                    have O2 := hO.out
                    have HC := hC
                    clear hL hO hC
                    subst hv
                    have hgc : g ≤ wc.heap.size := by rw [← hg]; rw [← hg] at HC; exact HC.out.size
                    have zx := pick_size (c := cp && pn) z5 z4
                    generalize htx : pickB (cp && pn) T5 T4 = TX at *
                    have HTX := Lib.hid htx
                    clear htx
                    go_upto_region 21 with (fail)
                    go_cut [98] from 91 (fun v wx => v = .bool (cp && !pn) ∧ Hid (LB wx g l (.slice ua na uc) (.slice va np vc)) ∧ Hid (Blk wx gp #[.bool cq, .bool ci, .bool ci, .bool cd, .bool cp, .bool cs] 56) ∧ Hid (Below g w wx))
                    case first =>
                      have qj : wc.cell? ⟨gp, 4, none⟩ = some (.bool cp) := O2.cell 4
                      have e1 : (!eqP l.peer noP) = !pn := by rw [HQE.out]
                      cases cp with
                      | false =>
                        refine wp_region_quiet_below (by kernel_rfl) (by kernel_rfl) ?_
                        repeat (first
                          | go_big_quiet_skip
                          | (go_big_quiet_want
                             first
                             | (first | (refine q_cell 4 _ rfl _ 4 rfl _ (fun w h => ldB w _ _ _ h) qj O2.lt ?_) | (refine q_midP _ rfl _ _ rfl l.peer (by with_reducible exact L2.peer) ?_) | (refine q_neqP _ _ rfl l.peer noP rfl rfl e1 ?_)
                                simp only [Act.put, List.setIfInBounds_toArray, List.set_cons_succ, List.set_cons_zero]
                                go_big_quiet_on)
                             | (go_big_quiet_op
                                first | go_big_quiet_on | go_big_quiet_call (first | with_reducible exact Calls.regrown_of (HN _)))))
                        refine wpQuiet_nil ?_
                        intro w9 hw'
                        have k9 := quiet_end hw'
                        clear hw'
                        go_wp2
                        go_meet
                        exact ⟨rfl, Lib.hid (L2.bel k9), Lib.hid (O2.below k9 O2.lt), Lib.hid (HC.out.trans (k9.mono hgc))⟩
                      | true =>
                        refine wp_region_quiet_below (by kernel_rfl) (by kernel_rfl) ?_
                        repeat (first
                          | go_big_quiet_skip
                          | (go_big_quiet_want
                             first
                             | (first | (refine q_cell 4 _ rfl _ 4 rfl _ (fun w h => ldB w _ _ _ h) qj O2.lt ?_) | (refine q_midP _ rfl _ _ rfl l.peer (by with_reducible exact L2.peer) ?_) | (refine q_neqP _ _ rfl l.peer noP rfl rfl e1 ?_)
                                simp only [Act.put, List.setIfInBounds_toArray, List.set_cons_succ, List.set_cons_zero]
                                go_big_quiet_on)
                             | (go_big_quiet_op
                                first | go_big_quiet_on | go_big_quiet_call (first | with_reducible exact Calls.regrown_of (HN _)))))
                        refine wpQuiet_nil ?_
                        intro w9 hw'
                        have k9 := quiet_end hw'
                        clear hw'
                        go_wp2
                        go_meet
                        exact ⟨rfl, Lib.hid (L2.bel k9), Lib.hid (O2.below k9 O2.lt), Lib.hid (HC.out.trans (k9.mono hgc))⟩
                    case rest =>
                      clear HC L2 O2 hgc
                      obtain ⟨hv, hL, hO, hC⟩ := hcut
                      have L2 := hL.out
                      have O2 := hO.out
                      have HC := hC
                      clear hL hO hC
                      subst hv
                      have hgc : g ≤ wc.heap.size := by rw [← hg]; rw [← hg] at HC; exact HC.out.size
                      go_upto_if 98 with (fail)
                      go_cut [5] from 98 (fun v5 wx => v5 = .string T5 ∧ Hid (LB wx g l (.slice ua na uc) (.slice va np vc)) ∧ Hid (Blk wx gp #[.bool cq, .bool ci, .bool ci, .bool cd, .bool cp, .bool cs] 56) ∧ Hid (Below g w wx))
                      case first =>
                        cases hb : cp && !pn with
                        | false =>
                          have he : Hid (TX = T5) := by
                            unfold Hid
                            rw [← HTX.out]
                            have k4 := E5'.out
                            revert hb k4
                            cases cp <;> cases pn <;> simp [pickB]
                          have HBB := Lib.hid hb
                          (try rw [hb])
                          clear hb
                          go_wp2
                          go_meet
                          exact ⟨by rw [he.out], Lib.hid L2, Lib.hid O2, HC⟩
                        | true =>
                          have hpn : pn = false := by revert hb; cases cp <;> simp
                          have he := E5.out (by revert hb; cases cp <;> simp) hpn
                          have hx : T4 = TX := by rw [← HTX.out]; revert hb; cases cp <;> cases pn <;> simp [pickB]
                          have zqq := zq.out hpn
                          have HQP2 := Lib.hid (HPP.out hpn)
                          rw [hx] at he
                          have he := Lib.hid he
                          clear hx hpn
                          have HBB := Lib.hid hb
                          (try rw [hb])
                          clear hb
                          go_upto_region 22 with (fail)
                          refine wp_region_quiet_below (by kernel_rfl) (by kernel_rfl) ?_
                          repeat (first
                            | go_big_quiet_skip
                            | (go_big_quiet_want
                               first
                               | (first | (refine q_midP _ rfl _ _ rfl l.peer (by with_reducible exact L2.peer) ?_) | (refine q_addS _ _ rfl TX TO rfl rfl (by omega) ?_) | (refine q_addS _ _ rfl (TX ++ TO) TQ rfl rfl (by rw [ByteArray.size_append]; omega) ?_)
                                  simp only [Act.put, List.setIfInBounds_toArray, List.set_cons_succ, List.set_cons_zero]
                                  go_big_quiet_on)
                               | (go_big_quiet_op
                                  first | go_big_quiet_on | go_big_quiet_call (first | with_reducible exact Calls.regrown_of (HN1.out _) | with_reducible exact Calls.regrown_of (HQP2.out _)))))
                          refine wpQuiet_nil ?_
                          intro w9 hw'
                          have k9 := quiet_end hw'
                          clear hw'
                          go_wp2
                          go_meet
                          exact ⟨by first | rfl | rw [he.out], Lib.hid (L2.bel k9), Lib.hid (O2.below k9 O2.lt), Lib.hid (HC.out.trans (k9.mono hgc))⟩
                      case rest =>
                        clear HC L2 O2 hgc HTX zx E5 E50 E5' z4 zo zn zq HN0 HN1 HN
                        obtain ⟨hv, hL, hO, hC⟩ := hcut
                        have L2 := hL.out
                        have O2 := hO.out
                        have HC := hC
                        clear hL hO hC
                        subst hv
                        have hgc : g ≤ wc.heap.size := by rw [← hg]; rw [← hg] at HC; exact HC.out.size
                        have qj : wc.cell? ⟨gp, 5, none⟩ = some (.bool cs) := O2.cell 5
                        go_upto_if 107 with (fail)
                        go_cut [5, 7] from 107 (fun v5 _ wx => v5 = .string T6 ∧ Hid (Below g w wx))
                        case first =>
                          cases cs with
                          | false =>
                            have he := Lib.hid (E6'.out rfl)
                            go_wp2
                            go_meet
                            exact ⟨by rw [he.out], HC⟩
                          | true =>
                            obtain ⟨F, f0, fs, fz, fn⟩ := E6.out rfl
                            have HFS := Lib.hid fs
                            have HFZ := Lib.hid fz
                            have HFN := Lib.hid fn
                            clear fs fz fn
                            have cv := L2.cv
                            have hcv : IntKind.u64.wrap (np : Int) = (np : Int) := IntWalk.u64_in _ (by omega)
                            go_upto_region 25 with (go_at_call 28; (with_reducible refine (HNPE.out _).mono ?_); rintro e w5 ⟨rfl, k5⟩)
                            have L5 := L2.bel k5
                            have HC5 := Lib.hid (HC.out.trans (k5.mono hgc))
                            have hF0 : T5 ++ TP = F 0 := f0
                            generalize T5 ++ TP = TB at *
                            subst hF0
                            have hg5 : g ≤ w5.heap.size := Nat.le_trans hgc k5.size
                            have HNX := Lib.hid (fun (W : World) (h : Below g w W) => (show Lies W (.slice va np vc) l.peers from by rw [← hg] at h; exact HM.out.p.bel h))
                            have HLX := Lib.hid (fun (W : World) (h : Below w5.heap.size w5 W) => L5.bel h)
                            have HBX := Lib.hid (fun (W : World) (h : Below w5.heap.size w5 W) => HC5.out.trans (h.mono hg5))
                            clear L5 HC5 L2 O2 HC cv k5 f0
                            go_upto_region 26 with (fail)
                            go_loopw [5, 7] (fun s i wq => ∃ k : Nat, i = .int .i64 (k : Int) ∧ k ≤ np ∧ s = .string (F k) ∧ Below w5.heap.size w5 wq) (fun _ i _ => np - (intOf i).toNat)
                            case atStart => exact ⟨0, rfl, Nat.zero_le _, rfl, Below.refl _ _⟩
                            case round =>
                              obtain ⟨k, rfl, hk, rfl, hB⟩ := hrel
                              have HBQ := Lib.hid hB
                              have hsz := hB.size
                              clear hB
                              have cv := (HLX.out _ HBQ.out).cv
                              by_cases hlt : k < np
                              · have hlt2 : k < l.peers.length := by rw [HQP.out]; exact hlt
                                obtain ⟨x, hx⟩ : ∃ x, l.peers[k]? = some x := ⟨_, List.getElem?_eq_getElem hlt2⟩
                                obtain ⟨b, o, c, e, _, _, hr, _⟩ := (HNX.out _ (HBX.out _ HBQ.out)).at hx
                                obtain ⟨hmz, hmc⟩ := HPI.out k x hx
                                have HX := Lib.hid hmc
                                have hst := HFS.out k x hx
                                have hfz := HFZ.out k
                                injection e with e1 e2 e3
                                subst e1 e3
                                clear e2 hlt2 hmc hx
                                generalize txt (peN x) = TM at *
                                have b1 : (k : Int) < (np : Int) := by omega
                                have b2 : (0 : Int) ≤ (k : Int) := by omega
                                have s2 : IntKind.i64.wrap ((k : Int) + 1) = (k : Int) + 1 := IntWalk.i64_in _ (by omega)
                                go_wp2_with (first
                                  | (refine p_midP rfl _ rfl b (o + k * 21) rfl x hr ?_)
                                  | (go_at_call 29; (with_reducible refine (HX.out _).mono ?_); rintro e w6 ⟨rfl, k6⟩; have HB6 := Lib.hid (HBQ.out.trans (k6.mono hsz)); clear k6))
                                exact ⟨⟨k + 1, by go_num, by omega, rfl, HB6.out⟩, by simp [intOf]; omega⟩
                              · obtain rfl : k = np := by omega
                                go_wp2
                                go_meet
                                exact ⟨by rw [HFN.out], Lib.hid (HBX.out _ HBQ.out)⟩
                        case rest =>
                          obtain ⟨rfl, hC⟩ := hcut
                          go_wp2
                          go_ret2
                          exact ⟨rfl, hC.out⟩
end Go.Proofs.Ytplcdjmidelboaa
