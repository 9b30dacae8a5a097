/- The document's parts of a kind, and whether a letter is right. -/
import Derived.Test.YtplcdjmidelboaaLetPut2
import Derived.Test.YtplcdjmidelboaaWirRef
namespace Go.Proofs.Ytplcdjmidelboaa
set_option maxRecDepth 100000
open Go Go.RowKit Go.Sort

/-- a kind's parts, as the document tells them -/
def ofA (k : Int) : Array Value := #[.bool (reqK k), .bool (idK k), .bool (idK k), .bool (doneK k), .bool (peerK k), .bool (peersK k)]
theorem sizeOf6 : (Try.prog.info? 56).map (·.size) = some 6 := by kernel_rfl

theorem ofA_one (k : Int) : (ofA k).all (·.oneCell') = true := by simp [ofA, Value.oneCell']
theorem six_one (a b c d e f : Bool) : (#[.bool a, .bool b, .bool c, .bool d, .bool e, .bool f] : Array Value).all (·.oneCell') = true := by simp [Value.oneCell']
set_option maxHeartbeats 1000000 in
theorem of_any (k : Int) (w : World) : Calls Try.prog 27 #[.int .i64 k] w fun e w' => e = .returned (.agg (ofA k)) ∧ Below w.heap.size w w' := by
  have B0 := (Below.refl w.heap.size w).alloc (Nat.le_refl _) (.cells #[.bool false, .bool false, .bool false, .bool false, .bool false, .bool false] 56)
  have Z0 := Blk.new w #[.bool false, .bool false, .bool false, .bool false, .bool false, .bool false] 56
  have hof : k = 1 ∨ k = 2 ∨ k = 3 ∨ k = 4 ∨ k = 6 ∨ k = 7 ∨ k = 8 ∨ (k ≠ 1 ∧ k ≠ 2 ∧ k ≠ 3 ∧ k ≠ 4 ∧ k ≠ 6 ∧ k ≠ 7 ∧ k ≠ 8) := by omega
  rcases hof with rfl | rfl | rfl | rfl | rfl | rfl | rfl | hk
  · go_enter Try.func27, Try.ntmps27
    go_upto_region 1 with (fail)
    generalize w.alloc _ = W at *
    go_wp2_with (first
      | ((with_reducible show wpList _ _ _ (Oper.mk _ (Op.store _ _ _) _ _ _ _ :: _) _ _); refine wpList_store_row rfl 56 _ _ rfl w.heap.size (ofA 1) rfl rfl 56 #[.bool false, .bool false, .bool false, .bool false, .bool false, .bool false] Z0 sizeOf6 rfl (ofA_one _) ?_))
    exact bodyPost_ret (results_cell_row Try.results27 _ _ w.heap.size 56 (ofA 1) (0, 0) _ rfl (Z0.setRow _) Try.underlying56 rfl sizeOf6) rfl ⟨rfl, bel_setRow B0 (Nat.le_refl _) _⟩
  · go_enter Try.func27, Try.ntmps27
    go_upto_region 1 with (fail)
    generalize w.alloc _ = W at *
    go_wp2_with (first
      | ((with_reducible show wpList _ _ _ (Oper.mk _ (Op.store _ _ _) _ _ _ _ :: _) _ _); refine wpList_store_row rfl 56 _ _ rfl w.heap.size (ofA 2) rfl rfl 56 #[.bool false, .bool false, .bool false, .bool false, .bool false, .bool false] Z0 sizeOf6 rfl (ofA_one _) ?_))
    exact bodyPost_ret (results_cell_row Try.results27 _ _ w.heap.size 56 (ofA 2) (0, 0) _ rfl (Z0.setRow _) Try.underlying56 rfl sizeOf6) rfl ⟨rfl, bel_setRow B0 (Nat.le_refl _) _⟩
  · go_enter Try.func27, Try.ntmps27
    go_upto_region 1 with (fail)
    generalize w.alloc _ = W at *
    go_wp2_with (first
      | ((with_reducible show wpList _ _ _ (Oper.mk _ (Op.store _ _ _) _ _ _ _ :: _) _ _); refine wpList_store_row rfl 56 _ _ rfl w.heap.size (ofA 3) rfl rfl 56 #[.bool false, .bool false, .bool false, .bool false, .bool false, .bool false] Z0 sizeOf6 rfl (ofA_one _) ?_))
    exact bodyPost_ret (results_cell_row Try.results27 _ _ w.heap.size 56 (ofA 3) (0, 0) _ rfl (Z0.setRow _) Try.underlying56 rfl sizeOf6) rfl ⟨rfl, bel_setRow B0 (Nat.le_refl _) _⟩
  · go_enter Try.func27, Try.ntmps27
    go_upto_region 1 with (fail)
    generalize w.alloc _ = W at *
    go_wp2_with (first
      | ((with_reducible show wpList _ _ _ (Oper.mk _ (Op.store _ _ _) _ _ _ _ :: _) _ _); refine wpList_store_row rfl 56 _ _ rfl w.heap.size (ofA 4) rfl rfl 56 #[.bool false, .bool false, .bool false, .bool false, .bool false, .bool false] Z0 sizeOf6 rfl (ofA_one _) ?_))
    exact bodyPost_ret (results_cell_row Try.results27 _ _ w.heap.size 56 (ofA 4) (0, 0) _ rfl (Z0.setRow _) Try.underlying56 rfl sizeOf6) rfl ⟨rfl, bel_setRow B0 (Nat.le_refl _) _⟩
  · go_enter Try.func27, Try.ntmps27
    go_upto_region 1 with (fail)
    generalize w.alloc _ = W at *
    go_wp2_with (first
      | ((with_reducible show wpList _ _ _ (Oper.mk _ (Op.store _ _ _) _ _ _ _ :: _) _ _); refine wpList_store_row rfl 56 _ _ rfl w.heap.size (ofA 6) rfl rfl 56 #[.bool false, .bool false, .bool false, .bool false, .bool false, .bool false] Z0 sizeOf6 rfl (ofA_one _) ?_))
    exact bodyPost_ret (results_cell_row Try.results27 _ _ w.heap.size 56 (ofA 6) (0, 0) _ rfl (Z0.setRow _) Try.underlying56 rfl sizeOf6) rfl ⟨rfl, bel_setRow B0 (Nat.le_refl _) _⟩
  · go_enter Try.func27, Try.ntmps27
    go_upto_region 1 with (fail)
    generalize w.alloc _ = W at *
    go_wp2_with (first
      | ((with_reducible show wpList _ _ _ (Oper.mk _ (Op.store _ _ _) _ _ _ _ :: _) _ _); refine wpList_store_row rfl 56 _ _ rfl w.heap.size (ofA 7) rfl rfl 56 #[.bool false, .bool false, .bool false, .bool false, .bool false, .bool false] Z0 sizeOf6 rfl (ofA_one _) ?_))
    exact bodyPost_ret (results_cell_row Try.results27 _ _ w.heap.size 56 (ofA 7) (0, 0) _ rfl (Z0.setRow _) Try.underlying56 rfl sizeOf6) rfl ⟨rfl, bel_setRow B0 (Nat.le_refl _) _⟩
  · go_enter Try.func27, Try.ntmps27
    go_upto_region 1 with (fail)
    generalize w.alloc _ = W at *
    go_wp2_with (first
      | ((with_reducible show wpList _ _ _ (Oper.mk _ (Op.store _ _ _) _ _ _ _ :: _) _ _); refine wpList_store_row rfl 56 _ _ rfl w.heap.size (ofA 8) rfl rfl 56 #[.bool false, .bool false, .bool false, .bool false, .bool false, .bool false] Z0 sizeOf6 rfl (ofA_one _) ?_))
    exact bodyPost_ret (results_cell_row Try.results27 _ _ w.heap.size 56 (ofA 8) (0, 0) _ rfl (Z0.setRow _) Try.underlying56 rfl sizeOf6) rfl ⟨rfl, bel_setRow B0 (Nat.le_refl _) _⟩
  · obtain ⟨h1, h2, h3, h4, h6, h7, h8⟩ := hk
    have e : ofA k = ofA 0 := by
      unfold ofA reqK idK doneK peerK peersK
      simp [h1, h2, h3, h4, h6, h7, h8]
    rw [e]
    have e1 : (k == 1) = false := by simpa using h1
    have e2 : (k == 2) = false := by simpa using h2
    have e3 : (k == 3) = false := by simpa using h3
    have e4 : (k == 4) = false := by simpa using h4
    have e6 : (k == 6) = false := by simpa using h6
    have e7 : (k == 7) = false := by simpa using h7
    have e8 : (k == 8) = false := by simpa using h8
    clear h1 h2 h3 h4 h6 h7 h8 e
    go_enter Try.func27, Try.ntmps27
    go_upto_region 1 with (fail)
    generalize w.alloc _ = W at *
    go_wp2_with (first
      | ((with_reducible show wpList _ _ _ (Oper.mk _ (Op.store _ _ _) _ _ _ _ :: _) _ _); refine wpList_store_row rfl 56 _ _ rfl w.heap.size (ofA 0) rfl rfl 56 #[.bool false, .bool false, .bool false, .bool false, .bool false, .bool false] Z0 sizeOf6 rfl (ofA_one _) ?_))
    exact bodyPost_ret (results_cell_row Try.results27 _ _ w.heap.size 56 (ofA 0) (0, 0) _ rfl (Z0.setRow _) Try.underlying56 rfl sizeOf6) rfl ⟨rfl, bel_setRow B0 (Nat.le_refl _) _⟩
/-- the bools that the document asks for, one behind the other -/
def rightC (k1 k8 fa a16 p8 n t fp m A P : Bool) : Bool := !k1 && !k8 && fa && !a16 && !p8 && !(!n && !fp) && !(n && t) && !m && A && P
def missC (r i d p ps f1 f2 f3 f4 f5 f6 : Bool) : Bool := !r && f1 || !i && f2 || !i && f3 || !d && f4 || !p && f5 || !ps && f6
theorem kindV (k : Int) (h1 : 1 ≤ k) (h8 : k ≤ 8) : (reqK k = true ∧ idK k = true ∧ doneK k = false ∧ peerK k = false ∧ peersK k = false) ∨ (reqK k = true ∧ idK k = false ∧ doneK k = true ∧ peerK k = true ∧ peersK k = false) ∨ (reqK k = true ∧ idK k = false ∧ doneK k = false ∧ peerK k = false ∧ peersK k = false) ∨ (reqK k = true ∧ idK k = false ∧ doneK k = false ∧ peerK k = true ∧ peersK k = true) ∨ (reqK k = false ∧ idK k = false ∧ doneK k = false ∧ peerK k = false ∧ peersK k = false) ∨ (reqK k = false ∧ idK k = false ∧ doneK k = false ∧ peerK k = true ∧ peersK k = true) := by
  have : k = 1 ∨ k = 2 ∨ k = 3 ∨ k = 4 ∨ k = 5 ∨ k = 6 ∨ k = 7 ∨ k = 8 := by omega
  rcases this with rfl | rfl | rfl | rfl | rfl | rfl | rfl | rfl <;> decide
theorem rightC_eq (k1 k8 fa a16 p8 n t fp m A P : Bool) : rightC k1 k8 fa a16 p8 n t fp m A P = (!(k1 || k8 || !fa || a16 || p8 || (!n && !fp) || (n && t)) && !m && A && P) := by
  unfold rightC
  cases k1 <;> cases k8 <;> cases fa <;> cases a16 <;> cases p8 <;> cases n <;> cases t <;> cases fp <;> simp
set_option maxHeartbeats 16000000 in
theorem refis_core {w : World} {l : Lt} {u v : Value} (hM : LtM w l u v) (hla : l.avoid.length ≤ 1000000) (hlp : l.peers.length ≤ 1000000) (k1 k8 fa a16 p8 n t fp f1 f2 f3 f4 f5 f6 r i d p ps : Bool) (hk1 : decide (l.kind < 1) = k1) (hk8 : decide (8 < l.kind) = k8) (hfa : adB l.fr.1 = fa)
    (ha16 : decide (16 < l.avoid.length) = a16) (hp8 : decide (8 < l.peers.length) = p8) (hn : eqP l.peer noP = n) (ht : (l.kind == 2) = t) (hfp : adB l.peer.1 = fp)
    (hf1 : ((l.req : Int) != 0) = f1) (hf2 : (!eqB l.id 0) = f2) (hf3 : decide (0 < l.avoid.length) = f3) (hf4 : l.done = f4) (hf5 : n = !f5) (hf6 : decide (0 < l.peers.length) = f6)
    (hr : reqK l.kind = r) (hi : idK l.kind = i) (hd : doneK l.kind = d) (hp : peerK l.kind = p) (hps : peersK l.kind = ps) :
    Calls Try.prog 13 #[.agg (ltA l u v)] w fun e w' => e = .returned (.bool (rightC k1 k8 fa a16 p8 n t fp (missC r i d p ps f1 f2 f3 f4 f5 f6) (l.avoid.all adB) (l.peers.all fun x => adB x.1))) ∧ Below w.heap.size w w' := by
  have B0 := (Below.refl w.heap.size w).alloc (Nat.le_refl _) (.cells (ltA l u v) 30)
  have L0 := LB.new w l u v
  have HM := Lib.hid hM
  obtain ⟨ua, uc, rfl⟩ := hM.a.form
  obtain ⟨va, vc, rfl⟩ := hM.p.form
  have HB := Lib.hid B0
  have HO := Lib.hid (fun w => of_any l.kind w)
  have HKV := Lib.hid (kindV l.kind)
  unfold ofA at HO
  rw [hr, hi, hd, hp, hps] at HO HKV
  have HN := refnone_any
  have HAF := refaddr_any l.fr.1
  have HAP := refaddr_any l.peer.1
  rw [hfa] at HAF
  rw [hfp] at HAP
  have HF5 := Lib.hid hf5
  clear hf5
  have HK1 := Lib.hid hk1
  have HK8 := Lib.hid hk8
  have hne : (!eqP l.peer noP) = !n := by rw [hn]
  have hla2 : decide ((16 : Int) < (l.avoid.length : Int)) = a16 := by rw [← ha16]; exact decide_eq_decide.2 (by omega)
  have hlp2 : decide ((8 : Int) < (l.peers.length : Int)) = p8 := by rw [← hp8]; exact decide_eq_decide.2 (by omega)
  clear B0 hr hi hd hp hps hM hfa hfp
  generalize hAA : l.avoid.all adB = A at *
  generalize hPP : (l.peers.all fun x => adB x.1) = P at *
  have HA := Lib.hid hAA
  have HP := Lib.hid hPP
  clear hAA hPP
  generalize hg : w.heap.size = g at *
  generalize hna : l.avoid.length = na at *
  generalize hnp : l.peers.length = np at *
  have HNA := Lib.hid hna
  have HNPL := Lib.hid hnp
  clear hna hnp
  rw [rightC_eq]
  go_enter Try.func13, Try.ntmps13
  go_upto_region 1 with (fail)
  (try rw [hg])
  generalize w.alloc _ = W at *
  have hgW : g ≤ W.heap.size := by rw [← hg]; rw [← hg] at HB; exact HB.out.size
  have c0 := L0.kind
  go_upto_region 2 with (first
    | (go_at_call 27; (with_reducible refine (HO.out _).mono ?_); rintro e w1 ⟨rfl, kk1⟩; have L1 := L0.bel kk1; have HB1 := Lib.hid (HB.out.trans (kk1.mono hgW)); clear kk1)
    | ((with_reducible show wpList _ _ _ (Oper.mk _ (Op.store _ _ _) _ _ _ _ :: _) _ _); refine wpList_store_newrow rfl 56 _ _ rfl #[.bool r, .bool i, .bool i, .bool d, .bool p, .bool ps] rfl rfl sizeOf6 (six_one _ _ _ _ _ _) rfl ?_))
  (try simp only [Act.put])
  have hg1 : g ≤ w1.heap.size := by rw [← hg]; rw [← hg] at HB1; exact HB1.out.size
  have O2 := Blk.new w1 #[.bool r, .bool i, .bool i, .bool d, .bool p, .bool ps] 56
  have b2 := (Below.refl w1.heap.size w1).alloc (Nat.le_refl _) (.cells #[.bool r, .bool i, .bool i, .bool d, .bool p, .bool ps] 56)
  have HL := Lib.hid (L1.bel b2)
  have HB2 := Lib.hid (HB1.out.trans (b2.mono hg1))
  clear L1 HB1 b2 hg1 c0 L0 HB HO
  generalize w1.heap.size = gp at *
  generalize w1.alloc _ = W2 at *
  have hg2 : g ≤ W2.heap.size := by rw [← hg]; rw [← hg] at HB2; exact HB2.out.size
  refine wp_region_quiet_below (by kernel_rfl) (by kernel_rfl) ?_
  repeat (first
    | go_big_quiet_skip
    | (go_big_quiet_want
       first
       | (first | (refine q_midP _ rfl _ _ rfl l.peer (by with_reducible exact HL.out.peer) ?_) | (refine q_eqlP _ _ rfl l.peer noP rfl rfl hn ?_)
          simp only [Act.put, List.setIfInBounds_toArray, List.set_cons_succ, List.set_cons_zero]
          go_big_quiet_on)
       | (go_big_quiet_op
          first | go_big_quiet_on | go_big_quiet_call (first | with_reducible exact Calls.regrown_of (HN _)))))
  refine wpQuiet_nil ?_
  intro w9 hw'
  have k9 := quiet_end hw'
  clear hw'
  have L3 := HL.out.bel k9
  have O3 := O2.below k9 O2.lt
  have HB3 := Lib.hid (HB2.out.trans (k9.mono hg2))
  have hg3 : g ≤ w9.heap.size := Nat.le_trans hg2 k9.size
  clear HL O2 HB2 k9 hg2
  have c0 := L3.kind
  have cf := L3.frA
  have cu := L3.cu
  have cv := L3.cv
  have cp := L3.peerA
  have c22 := L3.req
  have c44 := L3.done
  have q0 := O3.cell 0
  have q1 := O3.cell 1
  have q2 := O3.cell 2
  have q3 := O3.cell 3
  have q4 := O3.cell 4
  have q5 := O3.cell 5
  simp only [List.getElem?_toArray, List.getElem?_cons_zero, List.getElem?_cons_succ] at q0 q1 q2 q3 q4 q5
  go_upto_region 3 with (fail)
  go_cut [59] from 14 (fun v wx => v = .bool (k1 || k8 || !fa || a16 || p8 || (!n && !fp) || (n && t)) ∧ wx = w9)
  case first =>
    cases k1 with
    | true =>
      go_wp2_with (first
        | go_big_skip
        | (go_at_call 38; (with_reducible refine (HAF _).mono ?_); rintro e wa ⟨rfl, rfl⟩)
        | (go_at_call 38; (with_reducible refine (HAP _).mono ?_); rintro e wa ⟨rfl, rfl⟩))
      go_meet
      exact ⟨rfl, rfl⟩
    | false =>
      cases k8 with
      | true =>
        go_wp2_with (first
          | go_big_skip
          | (go_at_call 38; (with_reducible refine (HAF _).mono ?_); rintro e wa ⟨rfl, rfl⟩)
          | (go_at_call 38; (with_reducible refine (HAP _).mono ?_); rintro e wa ⟨rfl, rfl⟩))
        go_meet
        exact ⟨rfl, rfl⟩
      | false =>
        cases fa with
        | false =>
          go_wp2_with (first
            | go_big_skip
            | (go_at_call 38; (with_reducible refine (HAF _).mono ?_); rintro e wa ⟨rfl, rfl⟩)
            | (go_at_call 38; (with_reducible refine (HAP _).mono ?_); rintro e wa ⟨rfl, rfl⟩))
          go_meet
          exact ⟨rfl, rfl⟩
        | true =>
          cases a16 with
          | true =>
            go_wp2_with (first
              | go_big_skip
              | (go_at_call 38; (with_reducible refine (HAF _).mono ?_); rintro e wa ⟨rfl, rfl⟩)
              | (go_at_call 38; (with_reducible refine (HAP _).mono ?_); rintro e wa ⟨rfl, rfl⟩))
            go_meet
            exact ⟨rfl, rfl⟩
          | false =>
            cases p8 with
            | true =>
              go_wp2_with (first
                | go_big_skip
                | (go_at_call 38; (with_reducible refine (HAF _).mono ?_); rintro e wa ⟨rfl, rfl⟩)
                | (go_at_call 38; (with_reducible refine (HAP _).mono ?_); rintro e wa ⟨rfl, rfl⟩))
              go_meet
              exact ⟨rfl, rfl⟩
            | false =>
              cases n with
              | false =>
                cases fp with
                | false =>
                  go_wp2_with (first
                    | go_big_skip
                    | (go_at_call 38; (with_reducible refine (HAF _).mono ?_); rintro e wa ⟨rfl, rfl⟩)
                    | (go_at_call 38; (with_reducible refine (HAP _).mono ?_); rintro e wa ⟨rfl, rfl⟩))
                  go_meet
                  exact ⟨rfl, rfl⟩
                | true =>
                  go_wp2_with (first
                    | go_big_skip
                    | (go_at_call 38; (with_reducible refine (HAF _).mono ?_); rintro e wa ⟨rfl, rfl⟩)
                    | (go_at_call 38; (with_reducible refine (HAP _).mono ?_); rintro e wa ⟨rfl, rfl⟩))
                  go_meet
                  exact ⟨rfl, rfl⟩
              | true =>
                cases t with
                | true =>
                  go_wp2_with (first
                    | go_big_skip
                    | (go_at_call 38; (with_reducible refine (HAF _).mono ?_); rintro e wa ⟨rfl, rfl⟩)
                    | (go_at_call 38; (with_reducible refine (HAP _).mono ?_); rintro e wa ⟨rfl, rfl⟩))
                  go_meet
                  exact ⟨rfl, rfl⟩
                | false =>
                  go_wp2_with (first
                    | go_big_skip
                    | (go_at_call 38; (with_reducible refine (HAF _).mono ?_); rintro e wa ⟨rfl, rfl⟩)
                    | (go_at_call 38; (with_reducible refine (HAP _).mono ?_); rintro e wa ⟨rfl, rfl⟩))
                  go_meet
                  exact ⟨rfl, rfl⟩
  case rest =>
    obtain ⟨rfl, rfl⟩ := hcut
    have HK : Hid ((k1 || k8 || !fa || a16 || p8 || (!n && !fp) || (n && t)) = false → 1 ≤ l.kind ∧ l.kind ≤ 8) := fun h => by
      have h1 : k1 = false := by cases k1 <;> simp_all
      have h8 : k8 = false := by cases k1 <;> cases k8 <;> simp_all
      have e1 := HK1.out
      have e8 := HK8.out
      rw [h1] at e1
      rw [h8] at e8
      simp only [decide_eq_false_iff_not] at e1 e8
      omega
    clear hk1 hk8 ha16 hp8 hla2 hlp2 HAF cf cp c0 HK1 HK8 hn hne
    generalize hb3 : (k1 || k8 || !fa || a16 || p8 || (!n && !fp) || (n && t)) = b3 at *
    have HB3E := Lib.hid hb3
    clear hb3
    cases b3 with
    | true =>
      go_wp2
      go_ret
      exact ⟨by rw [HB3E.out]; rfl, HB3.out⟩
    | false =>
      have hkv := HKV.out (HK.out rfl).1 (HK.out rfl).2
      go_upto_region 5 with (fail)
      go_cut [118] from 60 (fun v wx => v = .bool (missC r i d p ps f1 f2 f3 f4 f5 f6) ∧ wx = wc)
      case first =>
        have hz : Try.prog.built 23 [] = some (row (dig 20 0)) := builtAddr
        have hf5 := HF5.out
        subst hf5
        clear HF5
        rcases hkv with ⟨rfl, rfl, rfl, rfl, rfl⟩ | ⟨rfl, rfl, rfl, rfl, rfl⟩ | ⟨rfl, rfl, rfl, rfl, rfl⟩ | ⟨rfl, rfl, rfl, rfl, rfl⟩ | ⟨rfl, rfl, rfl, rfl, rfl⟩ | ⟨rfl, rfl, rfl, rfl, rfl⟩
        · cases f4 with
          | true =>
            go_wp2_with (first
              | go_big_skip
              | (go_guarded; refine o_midI _ rfl g 23 rfl l.id L3.id ?_; simp only [Act.put, List.setIfInBounds_toArray, List.set_cons_succ, List.set_cons_zero])
              | (go_guarded; refine o_neq _ _ rfl l.id 0 rfl rfl hf2 ?_; simp only [Act.put, List.setIfInBounds_toArray, List.set_cons_succ, List.set_cons_zero]))
            go_meet
            exact ⟨rfl, rfl⟩
          | false =>
            cases f5 with
            | true =>
              go_wp2_with (first
                | go_big_skip
                | (go_guarded; refine o_midI _ rfl g 23 rfl l.id L3.id ?_; simp only [Act.put, List.setIfInBounds_toArray, List.set_cons_succ, List.set_cons_zero])
                | (go_guarded; refine o_neq _ _ rfl l.id 0 rfl rfl hf2 ?_; simp only [Act.put, List.setIfInBounds_toArray, List.set_cons_succ, List.set_cons_zero]))
              go_meet
              exact ⟨rfl, rfl⟩
            | false =>
              cases f6 with
              | true =>
                go_wp2_with (first
                  | go_big_skip
                  | (go_guarded; refine o_midI _ rfl g 23 rfl l.id L3.id ?_; simp only [Act.put, List.setIfInBounds_toArray, List.set_cons_succ, List.set_cons_zero])
                  | (go_guarded; refine o_neq _ _ rfl l.id 0 rfl rfl hf2 ?_; simp only [Act.put, List.setIfInBounds_toArray, List.set_cons_succ, List.set_cons_zero]))
                go_meet
                exact ⟨rfl, rfl⟩
              | false =>
                go_wp2_with (first
                  | go_big_skip
                  | (go_guarded; refine o_midI _ rfl g 23 rfl l.id L3.id ?_; simp only [Act.put, List.setIfInBounds_toArray, List.set_cons_succ, List.set_cons_zero])
                  | (go_guarded; refine o_neq _ _ rfl l.id 0 rfl rfl hf2 ?_; simp only [Act.put, List.setIfInBounds_toArray, List.set_cons_succ, List.set_cons_zero]))
                go_meet
                exact ⟨rfl, rfl⟩
        · cases f2 with
          | true =>
            go_wp2_with (first
              | go_big_skip
              | (go_guarded; refine o_midI _ rfl g 23 rfl l.id L3.id ?_; simp only [Act.put, List.setIfInBounds_toArray, List.set_cons_succ, List.set_cons_zero])
              | (go_guarded; refine o_neq _ _ rfl l.id 0 rfl rfl hf2 ?_; simp only [Act.put, List.setIfInBounds_toArray, List.set_cons_succ, List.set_cons_zero]))
            go_meet
            exact ⟨rfl, rfl⟩
          | false =>
            cases f3 with
            | true =>
              go_wp2_with (first
                | go_big_skip
                | (go_guarded; refine o_midI _ rfl g 23 rfl l.id L3.id ?_; simp only [Act.put, List.setIfInBounds_toArray, List.set_cons_succ, List.set_cons_zero])
                | (go_guarded; refine o_neq _ _ rfl l.id 0 rfl rfl hf2 ?_; simp only [Act.put, List.setIfInBounds_toArray, List.set_cons_succ, List.set_cons_zero]))
              go_meet
              exact ⟨rfl, rfl⟩
            | false =>
              cases f6 with
              | true =>
                go_wp2_with (first
                  | go_big_skip
                  | (go_guarded; refine o_midI _ rfl g 23 rfl l.id L3.id ?_; simp only [Act.put, List.setIfInBounds_toArray, List.set_cons_succ, List.set_cons_zero])
                  | (go_guarded; refine o_neq _ _ rfl l.id 0 rfl rfl hf2 ?_; simp only [Act.put, List.setIfInBounds_toArray, List.set_cons_succ, List.set_cons_zero]))
                go_meet
                exact ⟨rfl, rfl⟩
              | false =>
                go_wp2_with (first
                  | go_big_skip
                  | (go_guarded; refine o_midI _ rfl g 23 rfl l.id L3.id ?_; simp only [Act.put, List.setIfInBounds_toArray, List.set_cons_succ, List.set_cons_zero])
                  | (go_guarded; refine o_neq _ _ rfl l.id 0 rfl rfl hf2 ?_; simp only [Act.put, List.setIfInBounds_toArray, List.set_cons_succ, List.set_cons_zero]))
                go_meet
                exact ⟨rfl, rfl⟩
        · cases f2 with
          | true =>
            go_wp2_with (first
              | go_big_skip
              | (go_guarded; refine o_midI _ rfl g 23 rfl l.id L3.id ?_; simp only [Act.put, List.setIfInBounds_toArray, List.set_cons_succ, List.set_cons_zero])
              | (go_guarded; refine o_neq _ _ rfl l.id 0 rfl rfl hf2 ?_; simp only [Act.put, List.setIfInBounds_toArray, List.set_cons_succ, List.set_cons_zero]))
            go_meet
            exact ⟨rfl, rfl⟩
          | false =>
            cases f3 with
            | true =>
              go_wp2_with (first
                | go_big_skip
                | (go_guarded; refine o_midI _ rfl g 23 rfl l.id L3.id ?_; simp only [Act.put, List.setIfInBounds_toArray, List.set_cons_succ, List.set_cons_zero])
                | (go_guarded; refine o_neq _ _ rfl l.id 0 rfl rfl hf2 ?_; simp only [Act.put, List.setIfInBounds_toArray, List.set_cons_succ, List.set_cons_zero]))
              go_meet
              exact ⟨rfl, rfl⟩
            | false =>
              cases f4 with
              | true =>
                go_wp2_with (first
                  | go_big_skip
                  | (go_guarded; refine o_midI _ rfl g 23 rfl l.id L3.id ?_; simp only [Act.put, List.setIfInBounds_toArray, List.set_cons_succ, List.set_cons_zero])
                  | (go_guarded; refine o_neq _ _ rfl l.id 0 rfl rfl hf2 ?_; simp only [Act.put, List.setIfInBounds_toArray, List.set_cons_succ, List.set_cons_zero]))
                go_meet
                exact ⟨rfl, rfl⟩
              | false =>
                cases f5 with
                | true =>
                  go_wp2_with (first
                    | go_big_skip
                    | (go_guarded; refine o_midI _ rfl g 23 rfl l.id L3.id ?_; simp only [Act.put, List.setIfInBounds_toArray, List.set_cons_succ, List.set_cons_zero])
                    | (go_guarded; refine o_neq _ _ rfl l.id 0 rfl rfl hf2 ?_; simp only [Act.put, List.setIfInBounds_toArray, List.set_cons_succ, List.set_cons_zero]))
                  go_meet
                  exact ⟨rfl, rfl⟩
                | false =>
                  cases f6 with
                  | true =>
                    go_wp2_with (first
                      | go_big_skip
                      | (go_guarded; refine o_midI _ rfl g 23 rfl l.id L3.id ?_; simp only [Act.put, List.setIfInBounds_toArray, List.set_cons_succ, List.set_cons_zero])
                      | (go_guarded; refine o_neq _ _ rfl l.id 0 rfl rfl hf2 ?_; simp only [Act.put, List.setIfInBounds_toArray, List.set_cons_succ, List.set_cons_zero]))
                    go_meet
                    exact ⟨rfl, rfl⟩
                  | false =>
                    go_wp2_with (first
                      | go_big_skip
                      | (go_guarded; refine o_midI _ rfl g 23 rfl l.id L3.id ?_; simp only [Act.put, List.setIfInBounds_toArray, List.set_cons_succ, List.set_cons_zero])
                      | (go_guarded; refine o_neq _ _ rfl l.id 0 rfl rfl hf2 ?_; simp only [Act.put, List.setIfInBounds_toArray, List.set_cons_succ, List.set_cons_zero]))
                    go_meet
                    exact ⟨rfl, rfl⟩
        · cases f2 with
          | true =>
            go_wp2_with (first
              | go_big_skip
              | (go_guarded; refine o_midI _ rfl g 23 rfl l.id L3.id ?_; simp only [Act.put, List.setIfInBounds_toArray, List.set_cons_succ, List.set_cons_zero])
              | (go_guarded; refine o_neq _ _ rfl l.id 0 rfl rfl hf2 ?_; simp only [Act.put, List.setIfInBounds_toArray, List.set_cons_succ, List.set_cons_zero]))
            go_meet
            exact ⟨rfl, rfl⟩
          | false =>
            cases f3 with
            | true =>
              go_wp2_with (first
                | go_big_skip
                | (go_guarded; refine o_midI _ rfl g 23 rfl l.id L3.id ?_; simp only [Act.put, List.setIfInBounds_toArray, List.set_cons_succ, List.set_cons_zero])
                | (go_guarded; refine o_neq _ _ rfl l.id 0 rfl rfl hf2 ?_; simp only [Act.put, List.setIfInBounds_toArray, List.set_cons_succ, List.set_cons_zero]))
              go_meet
              exact ⟨rfl, rfl⟩
            | false =>
              cases f4 with
              | true =>
                go_wp2_with (first
                  | go_big_skip
                  | (go_guarded; refine o_midI _ rfl g 23 rfl l.id L3.id ?_; simp only [Act.put, List.setIfInBounds_toArray, List.set_cons_succ, List.set_cons_zero])
                  | (go_guarded; refine o_neq _ _ rfl l.id 0 rfl rfl hf2 ?_; simp only [Act.put, List.setIfInBounds_toArray, List.set_cons_succ, List.set_cons_zero]))
                go_meet
                exact ⟨rfl, rfl⟩
              | false =>
                go_wp2_with (first
                  | go_big_skip
                  | (go_guarded; refine o_midI _ rfl g 23 rfl l.id L3.id ?_; simp only [Act.put, List.setIfInBounds_toArray, List.set_cons_succ, List.set_cons_zero])
                  | (go_guarded; refine o_neq _ _ rfl l.id 0 rfl rfl hf2 ?_; simp only [Act.put, List.setIfInBounds_toArray, List.set_cons_succ, List.set_cons_zero]))
                go_meet
                exact ⟨rfl, rfl⟩
        · cases f1 with
          | true =>
            go_wp2_with (first
              | go_big_skip
              | (go_guarded; refine o_midI _ rfl g 23 rfl l.id L3.id ?_; simp only [Act.put, List.setIfInBounds_toArray, List.set_cons_succ, List.set_cons_zero])
              | (go_guarded; refine o_neq _ _ rfl l.id 0 rfl rfl hf2 ?_; simp only [Act.put, List.setIfInBounds_toArray, List.set_cons_succ, List.set_cons_zero]))
            go_meet
            exact ⟨rfl, rfl⟩
          | false =>
            cases f2 with
            | true =>
              go_wp2_with (first
                | go_big_skip
                | (go_guarded; refine o_midI _ rfl g 23 rfl l.id L3.id ?_; simp only [Act.put, List.setIfInBounds_toArray, List.set_cons_succ, List.set_cons_zero])
                | (go_guarded; refine o_neq _ _ rfl l.id 0 rfl rfl hf2 ?_; simp only [Act.put, List.setIfInBounds_toArray, List.set_cons_succ, List.set_cons_zero]))
              go_meet
              exact ⟨rfl, rfl⟩
            | false =>
              cases f3 with
              | true =>
                go_wp2_with (first
                  | go_big_skip
                  | (go_guarded; refine o_midI _ rfl g 23 rfl l.id L3.id ?_; simp only [Act.put, List.setIfInBounds_toArray, List.set_cons_succ, List.set_cons_zero])
                  | (go_guarded; refine o_neq _ _ rfl l.id 0 rfl rfl hf2 ?_; simp only [Act.put, List.setIfInBounds_toArray, List.set_cons_succ, List.set_cons_zero]))
                go_meet
                exact ⟨rfl, rfl⟩
              | false =>
                cases f4 with
                | true =>
                  go_wp2_with (first
                    | go_big_skip
                    | (go_guarded; refine o_midI _ rfl g 23 rfl l.id L3.id ?_; simp only [Act.put, List.setIfInBounds_toArray, List.set_cons_succ, List.set_cons_zero])
                    | (go_guarded; refine o_neq _ _ rfl l.id 0 rfl rfl hf2 ?_; simp only [Act.put, List.setIfInBounds_toArray, List.set_cons_succ, List.set_cons_zero]))
                  go_meet
                  exact ⟨rfl, rfl⟩
                | false =>
                  cases f5 with
                  | true =>
                    go_wp2_with (first
                      | go_big_skip
                      | (go_guarded; refine o_midI _ rfl g 23 rfl l.id L3.id ?_; simp only [Act.put, List.setIfInBounds_toArray, List.set_cons_succ, List.set_cons_zero])
                      | (go_guarded; refine o_neq _ _ rfl l.id 0 rfl rfl hf2 ?_; simp only [Act.put, List.setIfInBounds_toArray, List.set_cons_succ, List.set_cons_zero]))
                    go_meet
                    exact ⟨rfl, rfl⟩
                  | false =>
                    cases f6 with
                    | true =>
                      go_wp2_with (first
                        | go_big_skip
                        | (go_guarded; refine o_midI _ rfl g 23 rfl l.id L3.id ?_; simp only [Act.put, List.setIfInBounds_toArray, List.set_cons_succ, List.set_cons_zero])
                        | (go_guarded; refine o_neq _ _ rfl l.id 0 rfl rfl hf2 ?_; simp only [Act.put, List.setIfInBounds_toArray, List.set_cons_succ, List.set_cons_zero]))
                      go_meet
                      exact ⟨rfl, rfl⟩
                    | false =>
                      go_wp2_with (first
                        | go_big_skip
                        | (go_guarded; refine o_midI _ rfl g 23 rfl l.id L3.id ?_; simp only [Act.put, List.setIfInBounds_toArray, List.set_cons_succ, List.set_cons_zero])
                        | (go_guarded; refine o_neq _ _ rfl l.id 0 rfl rfl hf2 ?_; simp only [Act.put, List.setIfInBounds_toArray, List.set_cons_succ, List.set_cons_zero]))
                      go_meet
                      exact ⟨rfl, rfl⟩
        · cases f1 with
          | true =>
            go_wp2_with (first
              | go_big_skip
              | (go_guarded; refine o_midI _ rfl g 23 rfl l.id L3.id ?_; simp only [Act.put, List.setIfInBounds_toArray, List.set_cons_succ, List.set_cons_zero])
              | (go_guarded; refine o_neq _ _ rfl l.id 0 rfl rfl hf2 ?_; simp only [Act.put, List.setIfInBounds_toArray, List.set_cons_succ, List.set_cons_zero]))
            go_meet
            exact ⟨rfl, rfl⟩
          | false =>
            cases f2 with
            | true =>
              go_wp2_with (first
                | go_big_skip
                | (go_guarded; refine o_midI _ rfl g 23 rfl l.id L3.id ?_; simp only [Act.put, List.setIfInBounds_toArray, List.set_cons_succ, List.set_cons_zero])
                | (go_guarded; refine o_neq _ _ rfl l.id 0 rfl rfl hf2 ?_; simp only [Act.put, List.setIfInBounds_toArray, List.set_cons_succ, List.set_cons_zero]))
              go_meet
              exact ⟨rfl, rfl⟩
            | false =>
              cases f3 with
              | true =>
                go_wp2_with (first
                  | go_big_skip
                  | (go_guarded; refine o_midI _ rfl g 23 rfl l.id L3.id ?_; simp only [Act.put, List.setIfInBounds_toArray, List.set_cons_succ, List.set_cons_zero])
                  | (go_guarded; refine o_neq _ _ rfl l.id 0 rfl rfl hf2 ?_; simp only [Act.put, List.setIfInBounds_toArray, List.set_cons_succ, List.set_cons_zero]))
                go_meet
                exact ⟨rfl, rfl⟩
              | false =>
                cases f4 with
                | true =>
                  go_wp2_with (first
                    | go_big_skip
                    | (go_guarded; refine o_midI _ rfl g 23 rfl l.id L3.id ?_; simp only [Act.put, List.setIfInBounds_toArray, List.set_cons_succ, List.set_cons_zero])
                    | (go_guarded; refine o_neq _ _ rfl l.id 0 rfl rfl hf2 ?_; simp only [Act.put, List.setIfInBounds_toArray, List.set_cons_succ, List.set_cons_zero]))
                  go_meet
                  exact ⟨rfl, rfl⟩
                | false =>
                  go_wp2_with (first
                    | go_big_skip
                    | (go_guarded; refine o_midI _ rfl g 23 rfl l.id L3.id ?_; simp only [Act.put, List.setIfInBounds_toArray, List.set_cons_succ, List.set_cons_zero])
                    | (go_guarded; refine o_neq _ _ rfl l.id 0 rfl rfl hf2 ?_; simp only [Act.put, List.setIfInBounds_toArray, List.set_cons_succ, List.set_cons_zero]))
                  go_meet
                  exact ⟨rfl, rfl⟩
      case rest =>
        obtain ⟨rfl, rfl⟩ := hcut
        clear hf1 hf2 hf3 hf4 hf6 hkv HF5 HK HKV c22 c44 q0 q1 q2 q3 q4 q5 O3
        generalize hm : missC r i d p ps f1 f2 f3 f4 f5 f6 = m at *
        have HME := Lib.hid hm
        clear hm
        cases m with
        | true =>
          go_wp2
          go_ret
          exact ⟨by rw [HB3E.out, HME.out]; rfl, HB3.out⟩
        | false =>
          go_upto_region 7 with (fail)
          have HNX := Lib.hid (fun (W : World) (h : Below g w W) => (show Nums W (.slice ua na uc) l.avoid from by rw [← hg] at h; exact HM.out.a.bel h))
          have HPX := Lib.hid (fun (W : World) (h : Below g w W) => (show Lies W (.slice va np vc) l.peers from by rw [← hg] at h; exact HM.out.p.bel h))
          have HLX := Lib.hid (fun (W : World) (h : Below wc.heap.size wc W) => L3.bel h)
          have HBX := Lib.hid (fun (W : World) (h : Below wc.heap.size wc W) => HB3.out.trans (h.mono hg3))
          clear cu cv L3 HM
          go_upto_region 8 with (fail)
          go_loopw [5] (fun i wr => ∃ k : Nat, i = .int .i64 (k : Int) ∧ k ≤ na ∧ (∀ j x, j < k → l.avoid[j]? = some x → adB x = true) ∧ wr = wc) (fun i _ => na - (intOf i).toNat)
          case atStart => exact ⟨0, rfl, Nat.zero_le _, fun j _ hj => by omega, rfl⟩
          case round =>
            obtain ⟨k, rfl, hk, hall, rfl⟩ := hrel
            have HAL := Lib.hid hall
            clear hall
            have cu := (HLX.out _ (Below.refl _ _)).cu
            by_cases hlt : k < na
            · have hlt2 : k < l.avoid.length := by rw [HNA.out]; exact hlt
              obtain ⟨b, o, c, e, hr, _⟩ := (HNX.out _ (HBX.out _ (Below.refl _ _))).some (by omega)
              have c1 := nums_cell hr hlt2
              have hx : l.avoid[k]? = some (l.avoid.getD k 0) := by rw [List.getD_eq_getElem?_getD, List.getElem?_eq_getElem hlt2]; rfl
              generalize l.avoid.getD k 0 = x at *
              have HX := Lib.hid (refaddr_any x)
              injection e with e1 e2 e3
              subst e1 e3
              clear e2 hr hlt2
              have b1 : (k : Int) < (na : Int) := by omega
              have b2 : (0 : Int) ≤ (k : Int) := by omega
              by_cases hbad : adB x = false
              · have hAf : Hid (A = false) := by unfold Hid; rw [← HA.out]; exact all_no (ok := adB) hx hbad
                rw [hbad] at HX
                clear hbad hx
                go_wp2_with (go_at_call 38; (with_reducible refine (HX.out _).mono ?_); rintro e wa ⟨rfl, rfl⟩)
                go_ret
                exact ⟨by rw [HB3E.out, HME.out, hAf.out]; rfl, HB3.out⟩
              · have hgood : adB x = true := by simpa using hbad
                have hall : ∀ j y, j < k + 1 → l.avoid[j]? = some y → adB y = true := fun j y hj hy => by
                  rcases Nat.lt_or_ge j k with h | h
                  · exact HAL.out j y h hy
                  · obtain rfl : j = k := by omega
                    rw [hx] at hy
                    cases hy
                    exact hgood
                have HA2 := Lib.hid hall
                rw [hgood] at HX
                clear hbad hgood hx HAL hall
                have s2 : IntKind.i64.wrap ((k : Int) + 1) = (k : Int) + 1 := IntWalk.i64_in _ (by omega)
                go_wp2_with (go_at_call 38; (with_reducible refine (HX.out _).mono ?_); rintro e wa ⟨rfl, rfl⟩)
                exact ⟨⟨k + 1, by go_num, by omega, HA2.out, (by trivial)⟩, by simp [intOf]; omega⟩
            · obtain rfl : k = na := by omega
              have hAt : Hid (A = true) := by
                unfold Hid
                rw [← HA.out]
                exact all_yes fun j x hx => HAL.out j x (by have := (List.getElem?_eq_some_iff.1 hx).1; have := HNA.out; omega) hx
              clear HAL
              go_upto_region 13 with (fail)
              clear cu
              generalize wr = wd at *
              go_loopw [6] (fun i wq => ∃ k : Nat, i = .int .i64 (k : Int) ∧ k ≤ np ∧ (∀ j x, j < k → l.peers[j]? = some x → adB x.1 = true) ∧ wq = wd) (fun i _ => np - (intOf i).toNat)
              case atStart => exact ⟨0, rfl, Nat.zero_le _, fun j _ hj => by omega, rfl⟩
              case round =>
                obtain ⟨k, rfl, hk, hall, rfl⟩ := hrel
                have HAL := Lib.hid hall
                clear hall
                have cv := (HLX.out _ (Below.refl _ _)).cv
                by_cases hlt : k < np
                · have hlt2 : k < l.peers.length := by rw [HNPL.out]; exact hlt
                  obtain ⟨x, hx⟩ : ∃ x, l.peers[k]? = some x := ⟨_, List.getElem?_eq_getElem hlt2⟩
                  obtain ⟨b, o, c, e, _, _, hr, _⟩ := (HPX.out _ (HBX.out _ (Below.refl _ _))).at hx
                  have c1 := pe_ad hr
                  have HX := Lib.hid (refaddr_any x.1)
                  injection e with e1 e2 e3
                  subst e1 e3
                  clear e2 hr hlt2
                  have b1 : (k : Int) < (np : Int) := by omega
                  have b2 : (0 : Int) ≤ (k : Int) := by omega
                  by_cases hbad : adB x.1 = false
                  · have hPf : Hid (P = false) := by unfold Hid; rw [← HP.out]; exact all_no (ok := fun x => adB x.1) hx hbad
                    rw [hbad] at HX
                    clear hbad hx
                    go_wp2_with (go_at_call 38; (with_reducible refine (HX.out _).mono ?_); rintro e wa ⟨rfl, rfl⟩)
                    go_ret
                    exact ⟨by rw [HB3E.out, HME.out, hAt.out, hPf.out]; rfl, HB3.out⟩
                  · have hgood : adB x.1 = true := by simpa using hbad
                    have hall : ∀ j y, j < k + 1 → l.peers[j]? = some y → adB y.1 = true := fun j y hj hy => by
                      rcases Nat.lt_or_ge j k with h | h
                      · exact HAL.out j y h hy
                      · obtain rfl : j = k := by omega
                        rw [hx] at hy
                        cases hy
                        exact hgood
                    have HA2 := Lib.hid hall
                    rw [hgood] at HX
                    clear hbad hgood hx HAL hall
                    have s2 : IntKind.i64.wrap ((k : Int) + 1) = (k : Int) + 1 := IntWalk.i64_in _ (by omega)
                    go_wp2_with (go_at_call 38; (with_reducible refine (HX.out _).mono ?_); rintro e wa ⟨rfl, rfl⟩)
                    exact ⟨⟨k + 1, by go_num, by omega, HA2.out, (by trivial)⟩, by simp [intOf]; omega⟩
                · obtain rfl : k = np := by omega
                  have hPt : Hid (P = true) := by
                    unfold Hid
                    rw [← HP.out]
                    exact all_yes fun j x hx => HAL.out j x (by have := (List.getElem?_eq_some_iff.1 hx).1; have := HNPL.out; omega) hx
                  go_wp2
                  go_ret
                  exact ⟨by rw [HB3E.out, HME.out, hAt.out, hPt.out]; rfl, HB3.out⟩
end Go.Proofs.Ytplcdjmidelboaa
