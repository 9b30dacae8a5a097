/- Whether a letter is right: the program's answer. -/
import Derived.Test.YtplcdjmidelboaaLetAll
import Derived.Lib.Hide
import Derived.Lib.QuietBelow
import Derived.Deep.CutRange
namespace Go.Proofs.Ytplcdjmidelboaa
set_option maxRecDepth 100000
open Go Go.RowKit Go.Sort

theorem eqP_noP {x : Pe} (hx : x.2 < M) : eqP x noP = true ↔ x = noP := eqP_iff hx M_pos
/-- the bools that are asked for -/
def fill1 (l : Lt) : Bool := ((l.req : Int) != 0)
def fill2 (l : Lt) : Bool := !eqB l.id 0
def fill3 (l : Lt) : Bool := decide (0 < l.avoid.length)
def fill5 (l : Lt) : Bool := !eqP l.peer noP
def fill6 (l : Lt) : Bool := decide (0 < l.peers.length)
def missL (l : Lt) : Bool := missB l.kind (fill1 l) (fill2 l) (fill3 l) l.done (fill5 l) (fill6 l)
def rightB (l : Lt) : Bool := isK l.kind && !missL l && !decide (16 < l.avoid.length) && !decide (8 < l.peers.length) && !(eqP l.peer noP && (l.kind == 2)) && !(!eqP l.peer noP && !adB l.peer.1) && (adB l.fr.1 && l.avoid.all adB && l.peers.all fun x => adB x.1)
theorem imp_b {a b : Bool} : (a && !b) = false ↔ (b = false → a = false) := by cases a <;> cases b <;> simp
theorem rightB_iff {l : Lt} (hw : l.Wf) : rightB l = true ↔ Right l := by
  have e1 : fill1 l = false ↔ l.req = 0 := by unfold fill1; simp
  have e2 : fill2 l = false ↔ l.id = 0 := by unfold fill2; rw [eqB_lt hw.id M_pos]; simp
  have e3 : fill3 l = false ↔ l.avoid = [] := by unfold fill3; simp
  have e5 : fill5 l = false ↔ l.peer = noP := by unfold fill5; rw [Bool.not_eq_false', eqP_noP hw.peer]
  have e6 : fill6 l = false ↔ l.peers = [] := by unfold fill6; simp
  have e0 := eqP_noP hw.peer
  have em : missL l = false ↔ (reqK l.kind = false → l.req = 0) ∧ (idK l.kind = false → l.id = 0) ∧ (idK l.kind = false → l.avoid = []) ∧ (doneK l.kind = false → l.done = false) ∧ (peerK l.kind = false → l.peer = noP) ∧ (peersK l.kind = false → l.peers = []) := by
    unfold missL missB
    rw [Bool.or_eq_false_iff, Bool.or_eq_false_iff, Bool.or_eq_false_iff, Bool.or_eq_false_iff, Bool.or_eq_false_iff, imp_b, imp_b, imp_b, imp_b, imp_b, imp_b, e1, e2, e3, e5, e6]
    constructor
    · rintro ⟨⟨⟨⟨⟨a, b⟩, c⟩, d⟩, e⟩, f⟩; exact ⟨a, b, c, d, e, f⟩
    · rintro ⟨a, b, c, d, e, f⟩; exact ⟨⟨⟨⟨⟨a, b⟩, c⟩, d⟩, e⟩, f⟩
  unfold rightB isK
  rw [Bool.and_eq_true, Bool.and_eq_true, Bool.and_eq_true, Bool.and_eq_true, Bool.and_eq_true, Bool.and_eq_true, Bool.and_eq_true, Bool.and_eq_true, decide_eq_true_eq, Bool.not_eq_true', em, Bool.not_eq_true', Bool.not_eq_true', Bool.not_eq_true', Bool.not_eq_true', decide_eq_false_iff_not, decide_eq_false_iff_not, List.all_eq_true, List.all_eq_true]
  have e7 : (eqP l.peer noP && (l.kind == 2)) = false ↔ (l.kind = 2 → l.peer ≠ noP) := by
    rw [ne_eq, ← e0, Bool.and_eq_false_iff, beq_eq_false_iff_ne]
    cases eqP l.peer noP <;> simp
  have e8 : (!eqP l.peer noP && !adB l.peer.1) = false ↔ (l.peer = noP ∨ adB l.peer.1 = true) := by
    rw [← e0]
    cases eqP l.peer noP <;> cases adB l.peer.1 <;> simp
  rw [e7, e8]
  constructor
  · rintro ⟨⟨⟨⟨⟨⟨h1, m1, m2, m3, m4, m5, m6⟩, h2⟩, h3⟩, h4⟩, h5⟩, ⟨h6, h7⟩, h8⟩
    exact ⟨h1, h6, by omega, by omega, h4, h5, m1, m2, m3, m4, m5, m6, h7, h8⟩
  · rintro ⟨h1, h6, h2, h3, h4, h5, m1, m2, m3, m4, m5, m6, h7, h8⟩
    exact ⟨⟨⟨⟨⟨⟨h1, m1, m2, m3, m4, m5, m6⟩, by omega⟩, by omega⟩, h4⟩, h5⟩, ⟨h6, h7⟩, h8⟩

/-- what stands in memory of a letter among the arguments -/
structure LtM (w : World) (l : Lt) (u v : Value) : Prop where
  a : Nums w u l.avoid
  p : Lies w v l.peers
theorem LtM.bel {w w' : World} {l : Lt} {u v : Value} (h : LtM w l u v) (hb : Below w.heap.size w w') : LtM w' l u v := ⟨h.a.bel hb, h.p.bel hb⟩
theorem id_zero : Try.prog.built 23 [] = some (row (dig 20 0)) := builtAddr

set_option maxHeartbeats 2000000 in
theorem filled_any {w : World} {l : Lt} {u v : Value} (hM : LtM w l u v) : Calls Try.prog 32 #[.agg (ltA l u v)] w fun e w' => e = .returned (.int .u64 (filV (fill1 l) (fill2 l) (fill3 l) l.done (fill5 l) (fill6 l))) ∧ Below w.heap.size w w' := by
  have B0 := (Below.refl w.heap.size w).alloc (Nat.le_refl _) (.cells (ltA l u v) 30)
  have L0 := LB.new w l u v
  obtain ⟨ua, uc, rfl⟩ := hM.a.form
  obtain ⟨va, vc, rfl⟩ := hM.p.form
  have HB := Lib.hid B0
  have h1 : ((l.req : Int) != 0) = fill1 l := rfl
  have h2 : (!eqB l.id 0) = fill2 l := rfl
  have h3 : decide (0 < l.avoid.length) = fill3 l := rfl
  have h5 : (!eqP l.peer noP) = fill5 l := rfl
  have h6 : decide (0 < l.peers.length) = fill6 l := rfl
  have HN := none_any
  clear B0 hM
  generalize hg : w.heap.size = g at *
  unfold filV
  generalize fill1 l = f1 at *
  generalize fill2 l = f2 at *
  generalize fill3 l = f3 at *
  generalize fill5 l = f5 at *
  generalize fill6 l = f6 at *
  have W1 : Gives Try.prog 54 #[.int .u64 (0), .int .u64 1, .bool f1] (.int .u64 (wth 1 f1 (0))) := with_gives _ 1 _
  have W2 : Gives Try.prog 54 #[.int .u64 (wth 1 f1 0), .int .u64 2, .bool f2] (.int .u64 (wth 2 f2 (wth 1 f1 0))) := with_gives _ 2 _
  have W3 : Gives Try.prog 54 #[.int .u64 (wth 2 f2 (wth 1 f1 0)), .int .u64 4, .bool f3] (.int .u64 (wth 4 f3 (wth 2 f2 (wth 1 f1 0)))) := with_gives _ 4 _
  have W4 : Gives Try.prog 54 #[.int .u64 (wth 4 f3 (wth 2 f2 (wth 1 f1 0))), .int .u64 8, .bool l.done] (.int .u64 (wth 8 l.done (wth 4 f3 (wth 2 f2 (wth 1 f1 0))))) := with_gives _ 8 _
  have W5 : Gives Try.prog 54 #[.int .u64 (wth 8 l.done (wth 4 f3 (wth 2 f2 (wth 1 f1 0)))), .int .u64 16, .bool f5] (.int .u64 (wth 16 f5 (wth 8 l.done (wth 4 f3 (wth 2 f2 (wth 1 f1 0)))))) := with_gives _ 16 _
  have W6 : Gives Try.prog 54 #[.int .u64 (wth 16 f5 (wth 8 l.done (wth 4 f3 (wth 2 f2 (wth 1 f1 0))))), .int .u64 32, .bool f6] (.int .u64 (wth 32 f6 (wth 16 f5 (wth 8 l.done (wth 4 f3 (wth 2 f2 (wth 1 f1 0))))))) := with_gives _ 32 _
  generalize wth 32 f6 (wth 16 f5 (wth 8 l.done (wth 4 f3 (wth 2 f2 (wth 1 f1 0))))) = x6 at *
  generalize wth 16 f5 (wth 8 l.done (wth 4 f3 (wth 2 f2 (wth 1 f1 0)))) = x5 at *
  generalize wth 8 l.done (wth 4 f3 (wth 2 f2 (wth 1 f1 0))) = x4 at *
  generalize wth 4 f3 (wth 2 f2 (wth 1 f1 0)) = x3 at *
  generalize wth 2 f2 (wth 1 f1 0) = x2 at *
  generalize wth 1 f1 0 = x1 at *
  go_enter Try.func32, Try.ntmps32
  go_upto_region 1 with (fail)
  (try rw [hg])
  generalize w.alloc _ = W at *
  refine wp_region_quiet_below (by kernel_rfl) (by kernel_rfl) ?_
  repeat (first
    | go_big_quiet_skip
    | (go_big_quiet_want
       first
       | (first | (refine q_cell 26 _ rfl _ 22 rfl _ (fun w h => ldU w _ _ _ h) L0.req L0.lt ?_) | (refine q_midI _ rfl _ _ rfl l.id (by with_reducible exact L0.id) ?_) | (refine q_cell 27 _ rfl _ 43 rfl _ (fun w h => ldS w _ _ _ h) L0.cu L0.lt ?_) | (refine q_cell 4 _ rfl _ 44 rfl _ (fun w h => ldB w _ _ _ h) L0.done L0.lt ?_) | (refine q_midP _ rfl _ _ rfl l.peer (by with_reducible exact L0.peer) ?_) | (refine q_cell 28 _ rfl _ 66 rfl _ (fun w h => ldP w _ _ _ h) L0.cv L0.lt ?_) | (refine q_neq _ _ rfl l.id 0 rfl rfl h2 ?_) | (refine q_neqP _ _ rfl l.peer noP rfl rfl h5 ?_)
          simp only [Act.put, List.setIfInBounds_toArray, List.set_cons_succ, List.set_cons_zero]
          go_big_quiet_on)
       | (go_big_quiet_op
          first | go_big_quiet_on | go_big_quiet_call (first | with_reducible exact Calls.regrown_of (HN _) | with_reducible exact W1.grown _ _ | with_reducible exact W2.grown _ _ | with_reducible exact W3.grown _ _ | with_reducible exact W4.grown _ _ | with_reducible exact W5.grown _ _ | with_reducible exact W6.grown _ _))))
  refine wpQuiet_nil ?_
  intro w9 hw'
  have k9 := quiet_end hw'
  clear hw'
  go_wp2
  go_ret
  subst hg
  exact ⟨rfl, step HB.out k9⟩
theorem wrap_neg {k : Int} (h : k < 0) (h2 : -9223372036854775808 ≤ k) : IntKind.u64.wrap k = k + 18446744073709551616 := by
  show k % 18446744073709551616 = _
  omega
set_option maxHeartbeats 4000000 in
theorem is_core {w : World} {l : Lt} {u v : Value} (hM : LtM w l u v) (hk64 : -9223372036854775808 ≤ l.kind ∧ l.kind ≤ 9223372036854775807) (hla : l.avoid.length ≤ 1000000) (hlp : l.peers.length ≤ 1000000) (K m n t : Bool) (fa fp A P : Bool)
    (hK : isK l.kind = K) (hm : K = true → (bits .andNot .u64 (filV (fill1 l) (fill2 l) (fill3 l) l.done (fill5 l) (fill6 l)) (maskK l.kind : Int) != 0) = m) (hn : eqP l.peer noP = n) (ht : (l.kind == 2) = t) (hfa : adB l.fr.1 = fa) (hfp : adB l.peer.1 = fp) (hA : l.avoid.all adB = A) (hP : (l.peers.all fun x => adB x.1) = P) :
    Calls Try.prog 12 #[.agg (ltA l u v)] w fun e w' => e = .returned (.bool (K && !m && !decide (16 < l.avoid.length) && !decide (8 < l.peers.length) && !(n && t) && !(!n && !fp) && (fa && A && P))) ∧ Below w.heap.size w w' := by
  have B0 := (Below.refl w.heap.size w).alloc (Nat.le_refl _) (.cells (ltA l u v) 30)
  have L0 := LB.new w l u v
  have M0 := hM.bel B0
  obtain ⟨ua, uc, rfl⟩ := hM.a.form
  obtain ⟨va, vc, rfl⟩ := hM.p.form
  have HB := Lib.hid B0
  have HM := Lib.hid M0
  have hg0 : Hid (Below w.heap.size w (w.alloc (.cells (ltA l (.slice ua l.avoid.length uc) (.slice va l.peers.length vc)) 30))) := B0
  obtain ⟨k', hk', e1, e2⟩ : ∃ k', IntKind.u64.wrap l.kind = k' ∧ maskK k' = maskK l.kind ∧ isK k' = isK l.kind := by
    by_cases h0 : 0 ≤ l.kind
    · exact ⟨l.kind, IntWalk.u64_in _ (by omega), rfl, rfl⟩
    · refine ⟨_, rfl, ?_, ?_⟩
      · rw [wrap_neg (by omega) hk64.1]
        unfold maskK
        rw [if_neg (by omega), if_neg (by omega), if_neg (by omega), if_neg (by omega), if_neg (by omega), if_neg (by omega), if_neg (by omega), if_neg (by omega), if_neg (by omega), if_neg (by omega)]
      · rw [wrap_neg (by omega) hk64.1]
        unfold isK
        rw [decide_eq_false (by omega), decide_eq_false (by omega)]
  have HPO := Lib.hid (fun w => partsOf_any k' w)
  rw [e1, e2, hK] at HPO
  have HF := Lib.hid (fun W (h : Below w.heap.size w W) => filled_any (hM.bel h))
  have HN := none_any
  have HNP := Lib.hid (fun w => needs_any l.kind w)
  have HIP := isPeer_any l.peer
  have HIF := isPeer_any l.fr
  have HAA := Lib.hid (fun W (h : Below w.heap.size w W) => allN_any (hM.a.bel h) hla)
  have HAP := Lib.hid (fun W (h : Below w.heap.size w W) => allP_any (hM.p.bel h) hlp)
  rw [hA] at HAA
  rw [hP] at HAP
  rw [hfa] at HIF
  rw [hfp] at HIP
  rw [ht] at HNP
  generalize filV (fill1 l) (fill2 l) (fill3 l) l.done (fill5 l) (fill6 l) = fv at *
  clear hA hP hfa hfp ht e1 e2 hk64 hla hlp hM M0 HM hK B0 hg0
  generalize hg : w.heap.size = g at *
  have hla2 : l.avoid.length = l.avoid.length := rfl
  generalize hna : l.avoid.length = na at *
  generalize hnp : l.peers.length = np at *
  clear hla2
  generalize maskK l.kind = mk at *

  cases K with
  | false =>
    have c0 := L0.kind
    clear hm hn HF HN HNP HIP HIF HAA HAP
    go_enter Try.func12, Try.ntmps12
    go_upto_region 1 with (fail)
    (try rw [hg])
    generalize w.alloc _ = W at *
    have hgW : g ≤ W.heap.size := by rw [← hg]; exact HB.out.size
    go_wp2_with (first
      | go_big_skip
      | (go_at_call 17; (with_reducible refine (HPO.out _).mono ?_); rintro e w1 ⟨rfl, rfl⟩)
      | (go_guarded; refine o_midL _ rfl g rfl L0 ?_; simp only [Act.put, List.setIfInBounds_toArray, List.set_cons_succ, List.set_cons_zero])
      | (go_at_call 32; (with_reducible refine (HF.out _ HB.out).mono ?_); rintro e w1 ⟨rfl, k1⟩; have L1 := L0.bel k1; have HB1 := Lib.hid (HB.out.trans (k1.mono hgW)); have c43 := L1.cu; have c66 := L1.cv; clear k1))
    go_ret
    subst hg
    exact ⟨rfl, HB.out⟩
  | true =>
    have hm := hm rfl
    have c0 := L0.kind
    go_enter Try.func12, Try.ntmps12
    go_upto_region 1 with (fail)
    (try rw [hg])
    generalize w.alloc _ = W at *
    have hgW : g ≤ W.heap.size := by rw [← hg]; exact HB.out.size
    cases m with
    | true =>
      clear hn HN HNP HIP HIF HAA HAP
      go_wp2_with (first
        | go_big_skip
        | (go_at_call 17; (with_reducible refine (HPO.out _).mono ?_); rintro e w1 ⟨rfl, rfl⟩)
        | (go_guarded; refine o_midL _ rfl g rfl L0 ?_; simp only [Act.put, List.setIfInBounds_toArray, List.set_cons_succ, List.set_cons_zero])
        | (go_at_call 32; (with_reducible refine (HF.out _ HB.out).mono ?_); rintro e w1 ⟨rfl, k1⟩; have L1 := L0.bel k1; have HB1 := Lib.hid (HB.out.trans (k1.mono hgW)); have c43 := L1.cu; have c66 := L1.cv; clear k1))
      go_ret
      subst hg
      exact ⟨rfl, HB1.out⟩
    | false =>
      by_cases h16 : 16 < na
      · have d16 : decide (16 < na) = true := decide_eq_true h16
        have d16' : decide ((16 : Int) < (na : Int)) = true := decide_eq_true (by omega)
        clear hn HN HNP HIP HIF HAA HAP h16
        go_wp2_with (first
          | go_big_skip
          | (go_at_call 17; (with_reducible refine (HPO.out _).mono ?_); rintro e w1 ⟨rfl, rfl⟩)
          | (go_guarded; refine o_midL _ rfl g rfl L0 ?_; simp only [Act.put, List.setIfInBounds_toArray, List.set_cons_succ, List.set_cons_zero])
          | (go_at_call 32; (with_reducible refine (HF.out _ HB.out).mono ?_); rintro e w1 ⟨rfl, k1⟩; have L1 := L0.bel k1; have HB1 := Lib.hid (HB.out.trans (k1.mono hgW)); have c43 := L1.cu; have c66 := L1.cv; clear k1))
        go_ret
        subst hg
        exact ⟨by rw [d16]; rfl, HB1.out⟩
      · have d16 : decide (16 < na) = false := decide_eq_false h16
        have d16' : decide ((16 : Int) < (na : Int)) = false := decide_eq_false (by omega)
        by_cases h8 : 8 < np
        · have d8 : decide (8 < np) = true := decide_eq_true h8
          have d8' : decide ((8 : Int) < (np : Int)) = true := decide_eq_true (by omega)
          clear hn HN HNP HIP HIF HAA HAP h16 h8
          go_wp2_with (first
            | go_big_skip
            | (go_at_call 17; (with_reducible refine (HPO.out _).mono ?_); rintro e w1 ⟨rfl, rfl⟩)
            | (go_guarded; refine o_midL _ rfl g rfl L0 ?_; simp only [Act.put, List.setIfInBounds_toArray, List.set_cons_succ, List.set_cons_zero])
            | (go_at_call 32; (with_reducible refine (HF.out _ HB.out).mono ?_); rintro e w1 ⟨rfl, k1⟩; have L1 := L0.bel k1; have HB1 := Lib.hid (HB.out.trans (k1.mono hgW)); have c43 := L1.cu; have c66 := L1.cv; clear k1))
          go_ret
          subst hg
          exact ⟨by rw [d16, d8]; rfl, HB1.out⟩
        · have d8 : decide (8 < np) = false := decide_eq_false h8
          have d8' : decide ((8 : Int) < (np : Int)) = false := decide_eq_false (by omega)
          clear h16 h8
          go_upto_region 4 with (first
            | go_big_skip
            | (go_at_call 17; (with_reducible refine (HPO.out _).mono ?_); rintro e w1 ⟨rfl, rfl⟩)
            | (go_guarded; refine o_midL _ rfl g rfl L0 ?_; simp only [Act.put, List.setIfInBounds_toArray, List.set_cons_succ, List.set_cons_zero])
            | (go_at_call 32; (with_reducible refine (HF.out _ HB.out).mono ?_); rintro e w1 ⟨rfl, k1⟩; have L1 := L0.bel k1; have HB1 := Lib.hid (HB.out.trans (k1.mono hgW)); have c43 := L1.cu; have c66 := L1.cv; clear k1))
          have HL := Lib.hid L1
          have hg1 : g ≤ w1.heap.size := by rw [← hg]; rw [← hg] at HB1; exact HB1.out.size
          clear hm HPO HF d16' d8' c0 c43 c66 L0 HB
          have c0 := L1.kind
          cases n with
          | true =>
            have e1 : (!eqP l.peer noP) = false := by rw [hn]; rfl
            cases t with
            | true =>
              refine wp_region_quiet_below (by kernel_rfl) (by kernel_rfl) ?_
              repeat (first
                | go_big_quiet_skip
                | (go_big_quiet_want
                   first
                   | (first | (refine q_midP _ rfl _ _ rfl l.peer (by with_reducible exact HL.out.peer) ?_) | (refine q_cell 3 _ rfl _ 0 rfl _ (fun w h => ldN w _ _ _ h) HL.out.kind HL.out.lt ?_) | (refine q_eqlP _ _ rfl l.peer noP rfl rfl hn ?_) | (refine q_neqP _ _ rfl l.peer noP rfl rfl e1 ?_)
                      simp only [Act.put, List.setIfInBounds_toArray, List.set_cons_succ, List.set_cons_zero]
                      go_big_quiet_on)
                   | (go_big_quiet_op
                      first | go_big_quiet_on | go_big_quiet_call (first | with_reducible exact Calls.regrown_of (HN _) | with_reducible exact Calls.regrown_of (calls_below (HNP.out _)) | with_reducible exact Calls.regrown_of (HIP _)))))
              refine wpQuiet_nil ?_
              intro w9 hw'
              have k9 := quiet_end hw'
              clear hw'
              go_wp2
              go_ret
              refine ⟨by rw [d16, d8]; rfl, ?_⟩
              exact HB1.out.trans (k9.mono hg1)
            | false =>
              refine wp_region_quiet_below (by kernel_rfl) (by kernel_rfl) ?_
              repeat (first
                | go_big_quiet_skip
                | (go_big_quiet_want
                   first
                   | (first | (refine q_midP _ rfl _ _ rfl l.peer (by with_reducible exact HL.out.peer) ?_) | (refine q_cell 3 _ rfl _ 0 rfl _ (fun w h => ldN w _ _ _ h) HL.out.kind HL.out.lt ?_) | (refine q_eqlP _ _ rfl l.peer noP rfl rfl hn ?_) | (refine q_neqP _ _ rfl l.peer noP rfl rfl e1 ?_)
                      simp only [Act.put, List.setIfInBounds_toArray, List.set_cons_succ, List.set_cons_zero]
                      go_big_quiet_on)
                   | (go_big_quiet_op
                      first | go_big_quiet_on | go_big_quiet_call (first | with_reducible exact Calls.regrown_of (HN _) | with_reducible exact Calls.regrown_of (calls_below (HNP.out _)) | with_reducible exact Calls.regrown_of (HIP _)))))
              refine wpQuiet_nil ?_
              intro w9 hw'
              have k9 := quiet_end hw'
              clear hw'
              have L9 := HL.out.bel k9
              have HB9 := Lib.hid (HB1.out.trans (k9.mono hg1))
              clear k9
              cases fa with
              | false =>
                go_wp2_with (first
                  | go_big_skip
                  | (refine p_midP rfl _ rfl g 1 rfl l.fr L9.fr ?_)
                  | (go_at_call 34; (with_reducible refine (HIF _).mono ?_); rintro e w10 ⟨rfl, k10⟩; have L10 := L9.bel k10; have HB10 := Lib.hid (HB9.out.trans (k10.mono (by rw [← hg]; rw [← hg] at HB9; exact HB9.out.size))); have c43 := L10.cu; clear k10)
                  | (go_at_call 35; (with_reducible refine (HAA.out _ HB10.out).mono ?_); rintro e w11 ⟨rfl, k11⟩; have L11 := L10.bel k11; have HB11 := Lib.hid (HB10.out.trans (k11.mono (by rw [← hg]; rw [← hg] at HB10; exact HB10.out.size))); have c66 := L11.cv; clear k11)
                  | (go_at_call 37; (with_reducible refine (HAP.out _ HB11.out).mono ?_); rintro e w12 ⟨rfl, k12⟩; have HB12 := Lib.hid (HB11.out.trans (k12.mono (by rw [← hg]; rw [← hg] at HB11; exact HB11.out.size))); clear k12))
                go_ret
                exact ⟨by rw [d16, d8]; rfl, HB10.out⟩
              | true =>
                cases A with
                | false =>
                  go_wp2_with (first
                    | go_big_skip
                    | (refine p_midP rfl _ rfl g 1 rfl l.fr L9.fr ?_)
                    | (go_at_call 34; (with_reducible refine (HIF _).mono ?_); rintro e w10 ⟨rfl, k10⟩; have L10 := L9.bel k10; have HB10 := Lib.hid (HB9.out.trans (k10.mono (by rw [← hg]; rw [← hg] at HB9; exact HB9.out.size))); have c43 := L10.cu; clear k10)
                    | (go_at_call 35; (with_reducible refine (HAA.out _ HB10.out).mono ?_); rintro e w11 ⟨rfl, k11⟩; have L11 := L10.bel k11; have HB11 := Lib.hid (HB10.out.trans (k11.mono (by rw [← hg]; rw [← hg] at HB10; exact HB10.out.size))); have c66 := L11.cv; clear k11)
                    | (go_at_call 37; (with_reducible refine (HAP.out _ HB11.out).mono ?_); rintro e w12 ⟨rfl, k12⟩; have HB12 := Lib.hid (HB11.out.trans (k12.mono (by rw [← hg]; rw [← hg] at HB11; exact HB11.out.size))); clear k12))
                  go_ret
                  exact ⟨by rw [d16, d8]; rfl, HB11.out⟩
                | true =>
                  go_wp2_with (first
                    | go_big_skip
                    | (refine p_midP rfl _ rfl g 1 rfl l.fr L9.fr ?_)
                    | (go_at_call 34; (with_reducible refine (HIF _).mono ?_); rintro e w10 ⟨rfl, k10⟩; have L10 := L9.bel k10; have HB10 := Lib.hid (HB9.out.trans (k10.mono (by rw [← hg]; rw [← hg] at HB9; exact HB9.out.size))); have c43 := L10.cu; clear k10)
                    | (go_at_call 35; (with_reducible refine (HAA.out _ HB10.out).mono ?_); rintro e w11 ⟨rfl, k11⟩; have L11 := L10.bel k11; have HB11 := Lib.hid (HB10.out.trans (k11.mono (by rw [← hg]; rw [← hg] at HB10; exact HB10.out.size))); have c66 := L11.cv; clear k11)
                    | (go_at_call 37; (with_reducible refine (HAP.out _ HB11.out).mono ?_); rintro e w12 ⟨rfl, k12⟩; have HB12 := Lib.hid (HB11.out.trans (k12.mono (by rw [← hg]; rw [← hg] at HB11; exact HB11.out.size))); clear k12))
                  go_ret
                  exact ⟨by rw [d16, d8]; rfl, HB12.out⟩
          | false =>
            have e1 : (!eqP l.peer noP) = true := by rw [hn]; rfl
            cases fp with
            | false =>
              refine wp_region_quiet_below (by kernel_rfl) (by kernel_rfl) ?_
              repeat (first
                | go_big_quiet_skip
                | (go_big_quiet_want
                   first
                   | (first | (refine q_midP _ rfl _ _ rfl l.peer (by with_reducible exact HL.out.peer) ?_) | (refine q_cell 3 _ rfl _ 0 rfl _ (fun w h => ldN w _ _ _ h) HL.out.kind HL.out.lt ?_) | (refine q_eqlP _ _ rfl l.peer noP rfl rfl hn ?_) | (refine q_neqP _ _ rfl l.peer noP rfl rfl e1 ?_)
                      simp only [Act.put, List.setIfInBounds_toArray, List.set_cons_succ, List.set_cons_zero]
                      go_big_quiet_on)
                   | (go_big_quiet_op
                      first | go_big_quiet_on | go_big_quiet_call (first | with_reducible exact Calls.regrown_of (HN _) | with_reducible exact Calls.regrown_of (calls_below (HNP.out _)) | with_reducible exact Calls.regrown_of (HIP _)))))
              refine wpQuiet_nil ?_
              intro w9 hw'
              have k9 := quiet_end hw'
              clear hw'
              go_wp2
              go_ret
              refine ⟨by rw [d16, d8]; rfl, ?_⟩
              exact HB1.out.trans (k9.mono hg1)
            | true =>
              refine wp_region_quiet_below (by kernel_rfl) (by kernel_rfl) ?_
              repeat (first
                | go_big_quiet_skip
                | (go_big_quiet_want
                   first
                   | (first | (refine q_midP _ rfl _ _ rfl l.peer (by with_reducible exact HL.out.peer) ?_) | (refine q_cell 3 _ rfl _ 0 rfl _ (fun w h => ldN w _ _ _ h) HL.out.kind HL.out.lt ?_) | (refine q_eqlP _ _ rfl l.peer noP rfl rfl hn ?_) | (refine q_neqP _ _ rfl l.peer noP rfl rfl e1 ?_)
                      simp only [Act.put, List.setIfInBounds_toArray, List.set_cons_succ, List.set_cons_zero]
                      go_big_quiet_on)
                   | (go_big_quiet_op
                      first | go_big_quiet_on | go_big_quiet_call (first | with_reducible exact Calls.regrown_of (HN _) | with_reducible exact Calls.regrown_of (calls_below (HNP.out _)) | with_reducible exact Calls.regrown_of (HIP _)))))
              refine wpQuiet_nil ?_
              intro w9 hw'
              have k9 := quiet_end hw'
              clear hw'
              have L9 := HL.out.bel k9
              have HB9 := Lib.hid (HB1.out.trans (k9.mono hg1))
              clear k9
              cases fa with
              | false =>
                go_wp2_with (first
                  | go_big_skip
                  | (refine p_midP rfl _ rfl g 1 rfl l.fr L9.fr ?_)
                  | (go_at_call 34; (with_reducible refine (HIF _).mono ?_); rintro e w10 ⟨rfl, k10⟩; have L10 := L9.bel k10; have HB10 := Lib.hid (HB9.out.trans (k10.mono (by rw [← hg]; rw [← hg] at HB9; exact HB9.out.size))); have c43 := L10.cu; clear k10)
                  | (go_at_call 35; (with_reducible refine (HAA.out _ HB10.out).mono ?_); rintro e w11 ⟨rfl, k11⟩; have L11 := L10.bel k11; have HB11 := Lib.hid (HB10.out.trans (k11.mono (by rw [← hg]; rw [← hg] at HB10; exact HB10.out.size))); have c66 := L11.cv; clear k11)
                  | (go_at_call 37; (with_reducible refine (HAP.out _ HB11.out).mono ?_); rintro e w12 ⟨rfl, k12⟩; have HB12 := Lib.hid (HB11.out.trans (k12.mono (by rw [← hg]; rw [← hg] at HB11; exact HB11.out.size))); clear k12))
                go_ret
                exact ⟨by rw [d16, d8]; rfl, HB10.out⟩
              | true =>
                cases A with
                | false =>
                  go_wp2_with (first
                    | go_big_skip
                    | (refine p_midP rfl _ rfl g 1 rfl l.fr L9.fr ?_)
                    | (go_at_call 34; (with_reducible refine (HIF _).mono ?_); rintro e w10 ⟨rfl, k10⟩; have L10 := L9.bel k10; have HB10 := Lib.hid (HB9.out.trans (k10.mono (by rw [← hg]; rw [← hg] at HB9; exact HB9.out.size))); have c43 := L10.cu; clear k10)
                    | (go_at_call 35; (with_reducible refine (HAA.out _ HB10.out).mono ?_); rintro e w11 ⟨rfl, k11⟩; have L11 := L10.bel k11; have HB11 := Lib.hid (HB10.out.trans (k11.mono (by rw [← hg]; rw [← hg] at HB10; exact HB10.out.size))); have c66 := L11.cv; clear k11)
                    | (go_at_call 37; (with_reducible refine (HAP.out _ HB11.out).mono ?_); rintro e w12 ⟨rfl, k12⟩; have HB12 := Lib.hid (HB11.out.trans (k12.mono (by rw [← hg]; rw [← hg] at HB11; exact HB11.out.size))); clear k12))
                  go_ret
                  exact ⟨by rw [d16, d8]; rfl, HB11.out⟩
                | true =>
                  go_wp2_with (first
                    | go_big_skip
                    | (refine p_midP rfl _ rfl g 1 rfl l.fr L9.fr ?_)
                    | (go_at_call 34; (with_reducible refine (HIF _).mono ?_); rintro e w10 ⟨rfl, k10⟩; have L10 := L9.bel k10; have HB10 := Lib.hid (HB9.out.trans (k10.mono (by rw [← hg]; rw [← hg] at HB9; exact HB9.out.size))); have c43 := L10.cu; clear k10)
                    | (go_at_call 35; (with_reducible refine (HAA.out _ HB10.out).mono ?_); rintro e w11 ⟨rfl, k11⟩; have L11 := L10.bel k11; have HB11 := Lib.hid (HB10.out.trans (k11.mono (by rw [← hg]; rw [← hg] at HB10; exact HB10.out.size))); have c66 := L11.cv; clear k11)
                    | (go_at_call 37; (with_reducible refine (HAP.out _ HB11.out).mono ?_); rintro e w12 ⟨rfl, k12⟩; have HB12 := Lib.hid (HB11.out.trans (k12.mono (by rw [← hg]; rw [← hg] at HB11; exact HB11.out.size))); clear k12))
                  go_ret
                  exact ⟨by rw [d16, d8]; rfl, HB12.out⟩
end Go.Proofs.Ytplcdjmidelboaa
