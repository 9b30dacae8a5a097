/- What is forgotten is not known, and all others are: the walk. -/
import Derived.Test.YtkcljbolopephaaTabKit
namespace Go.Proofs.Ytkcljbolopephaa.ForgLaw
set_option maxRecDepth 100000
open Go Go.RowKit Go.Sort

set_option maxHeartbeats 2000000 in
theorem walk_big (hT : Gives Try.prog 17 #[] (.bool true)) {w : World} {s p : Pe} {u v : Value} {S F : List Pe} (hS : Lies w u S) (hF : Lies w v F) (a : Int) (hb : bigB S F = true) :
    Calls Try.prog 6 #[.agg (tabA s p u v), .int .i64 a] w fun e w' => e = .returned (.bool true) ∧ Below w.heap.size w w' := by
  have B0 := (Below.refl w.heap.size w).alloc (Nat.le_refl _) (.cells (tabA s p u v) 28)
  have T0 := TB.new w s p u v
  have HB : Hid (∀ W, Below w.heap.size w W → Calls Try.prog 9 #[.agg (tabA s p u v)] W fun e w' => e = .returned (.bool true) ∧ Below W.heap.size W w') := fun W h => by have := big_any (s := s) (p := p) (hS.bel h) (hF.bel h); rwa [hb] at this
  have HT := Lib.hid hT
  clear hS hF hb hT
  go_enter Try.func6, Try.ntmps6
  go_upto_region 1 with (fail)
  generalize w.alloc _ = W at *
  generalize hg : w.heap.size = g at *
  go_wp2_with (first
    | go_big_skip
    | (refine p_midT rfl _ rfl g rfl T0 ?_)
    | (go_at_call 9; (with_reducible refine (HB.out _ B0).mono ?_); rintro e w1 ⟨rfl, k1⟩; have B1 := belTo hg B0 k1; clear k1)
    | (go_at_call 17; (with_reducible refine ((HT.out.calls _)).mono ?_); rintro e w2 ⟨rfl, k2⟩; have B2 := belTo hg B1 k2; clear k2))
  go_ret
  exact ⟨rfl, by (try rw [hg]); exact B2⟩
set_option maxHeartbeats 2000000 in
theorem walk_no (hT : Gives Try.prog 17 #[] (.bool true)) {w : World} {s p : Pe} {u v : Value} {S F : List Pe} (hS : Lies w u S) (hF : Lies w v F) (a : Int) (hb : bigB S F = false) (hI : isT s p S F = false) (hn : S.length ≤ 1000000) (hf : F.length ≤ 1000000) :
    Calls Try.prog 6 #[.agg (tabA s p u v), .int .i64 a] w fun e w' => e = .returned (.bool true) ∧ Below w.heap.size w w' := by
  have B0 := (Below.refl w.heap.size w).alloc (Nat.le_refl _) (.cells (tabA s p u v) 28)
  have T0 := TB.new w s p u v
  have HB : Hid (∀ W, Below w.heap.size w W → Calls Try.prog 9 #[.agg (tabA s p u v)] W fun e w' => e = .returned (.bool false) ∧ Below W.heap.size W w') := fun W h => by have := big_any (s := s) (p := p) (hS.bel h) (hF.bel h); rwa [hb] at this
  have HI : Hid (∀ W, Below w.heap.size w W → Calls Try.prog 25 #[.agg (tabA s p u v)] W fun e w' => e = .returned (.bool false) ∧ Below W.heap.size W w') := fun W h => by have := is_any (s := s) (p := p) (hS.bel h) (hF.bel h) hn hf; rwa [hI] at this
  have HT := Lib.hid hT
  clear hS hF hb hI hT hn hf
  go_enter Try.func6, Try.ntmps6
  go_upto_region 1 with (fail)
  generalize w.alloc _ = W at *
  generalize hg : w.heap.size = g at *
  go_wp2_with (first
    | go_big_skip
    | (refine p_midT rfl _ rfl g rfl T0 ?_)
    | (go_guarded; refine o_midT _ rfl g rfl T1 ?_; simp only [Act.put, List.setIfInBounds_toArray, List.set_cons_succ, List.set_cons_zero])
    | (go_at_call 9; (with_reducible refine (HB.out _ B0).mono ?_); rintro e w1 ⟨rfl, k1⟩; have B1 := belTo hg B0 k1; have T1 := T0.bel k1; clear k1)
    | (go_at_call 25; (with_reducible refine (HI.out _ B1).mono ?_); rintro e w3 ⟨rfl, k3⟩; have B3 := belTo hg B1 k3; clear k3)
    | (go_at_call 17; (with_reducible refine ((HT.out.calls _)).mono ?_); rintro e w2 ⟨rfl, k2⟩; have B2 := belTo hg B3 k2; clear k2))
  go_ret
  exact ⟨rfl, by (try rw [hg]); exact B2⟩
/-- what is known while the two rows are gone through -/
structure FgW (g g6 : Nat) (w wx : World) (s p p6 : Pe) (u v u6 v6 l m : Value) (S6 F6 K K2 : List Pe) : Prop where
  bel : Below g w wx
  t2 : TB wx g s p u v
  t6 : TB wx g6 s p6 u6 v6
  a6 : Lies wx u6 S6
  b6 : Lies wx v6 F6
  l : Lies wx l K
  m : Lies wx m K2
theorem FgW.bel2 {g g6 : Nat} {w wx wy : World} {s p p6 : Pe} {u v u6 v6 l m : Value} {S6 F6 K K2 : List Pe} (h : FgW g g6 w wx s p p6 u v u6 v6 l m S6 F6 K K2) (hg : w.heap.size = g) (k : Below wx.heap.size wx wy) : FgW g g6 w wy s p p6 u v u6 v6 l m S6 F6 K K2 :=
  ⟨belTo hg h.bel k, h.t2.bel k, h.t6.bel k, h.a6.bel k, h.b6.bel k, h.l.bel k, h.m.bel k⟩
set_option maxHeartbeats 8000000 in
theorem walk_yes (hT : Gives Try.prog 17 #[] (.bool true)) {w : World} {s p : Pe} {u v : Value} {S F : List Pe} (hS : Lies w u S) (hF : Lies w v F) (a : Int) (hb : bigB S F = false) (hI : isT s p S F = true) (hn : S.length ≤ 40) (hf : F.length ≤ 200) :
    Calls Try.prog 6 #[.agg (tabA s p u v), .int .i64 a] w fun e w' => e = .returned (.bool true) ∧ Below w.heap.size w w' := by
  have B0 := (Below.refl w.heap.size w).alloc (Nat.le_refl _) (.cells (tabA s p u v) 28)
  have T0 := TB.new w s p u v
  have hnf : S.length + F.length ≤ 900 := by omega
  have hdn : (delL a S).length ≤ 40 := Nat.le_trans (List.length_filter_le _ _) hn
  have hmf : (F.map (forP a)).length ≤ 200 := by rw [List.length_map]; exact hf
  have HB : Hid (∀ W, Below w.heap.size w W → Calls Try.prog 9 #[.agg (tabA s p u v)] W fun e w' => e = .returned (.bool false) ∧ Below W.heap.size W w') := fun W h => by have := big_any (s := s) (p := p) (hS.bel h) (hF.bel h); rwa [hb] at this
  have HI : Hid (∀ W, Below w.heap.size w W → Calls Try.prog 25 #[.agg (tabA s p u v)] W fun e w' => e = .returned (.bool true) ∧ Below W.heap.size W w') := fun W h => by have := is_any (s := s) (p := p) (hS.bel h) (hF.bel h) (by omega) (by omega); rwa [hI] at this
  have HK : Hid (∀ W, Below w.heap.size w W → Calls Try.prog 32 #[.agg (tabA s p u v)] W fun e w' => ∃ r, e = .returned r ∧ Lies w' r (knL s p S F) ∧ Below W.heap.size W w') := fun W h => known_any (s := s) (p := p) (hS.bel h) (hF.bel h) hnf
  have HF : Hid (∀ W, Below w.heap.size w W → Calls Try.prog 34 #[.agg (tabA s p u v), .int .i64 a] W fun e w' => ∃ r1 r2, e = .returned (.agg (tabA s (forP a p) r1 r2)) ∧ Lies w' r1 (delL a S) ∧ Lies w' r2 (F.map (forP a)) ∧ Below W.heap.size W w') := fun W h => forget_any (s := s) (p := p) a (hS.bel h) (hF.bel h) (by omega) (by omega)
  have hkn := kn_forget s p S F a
  have hk1 : (knL s p S F).length ≤ 1000 := Nat.le_trans (kn_le s p S F) (by omega)
  have HD := Lib.hid (del_del a S)
  have HM := Lib.hid (map_for a F)
  have HFF := Lib.hid (for_for a p)
  have HK2 : Hid (∀ (W : World) r1 r2, Lies W r1 (delL a S) → Lies W r2 (F.map (forP a)) → Calls Try.prog 32 #[.agg (tabA s (forP a p) r1 r2)] W fun e w' => ∃ r, e = .returned r ∧ Lies w' r ((knL s p S F).filter fun x => !decide (x.1 = a)) ∧ Below W.heap.size W w') := fun W r1 r2 h1 h2 => by
    have := known_any (s := s) (p := forP a p) h1 h2 (by omega)
    rwa [hkn] at this
  have HT := Lib.hid hT
  have es := eqP_self s
  have HN1 := Lib.hid hdn
  have HN2 := Lib.hid hmf
  clear hS hF hb hI hT hn hf hkn hnf hdn hmf
  generalize delL a S = S6 at *
  generalize F.map (forP a) = F6 at *
  generalize forP a p = p6 at *
  generalize knL s p S F = K at *
  generalize hk2 : (K.filter fun x => !decide (x.1 = a)) = K2 at *
  go_enter Try.func6, Try.ntmps6
  go_upto_region 1 with (fail)
  generalize w.alloc _ = W at *
  generalize hg : w.heap.size = g at *
  go_upto_region 5 with (first
    | go_big_skip
    | (refine p_midT rfl _ rfl g rfl T0 ?_)
    | (go_guarded; refine o_midT _ rfl g rfl T1 ?_; simp only [Act.put, List.setIfInBounds_toArray, List.set_cons_succ, List.set_cons_zero])
    | (refine p_midT rfl _ rfl g rfl T3 ?_)
    | (refine p_midT rfl _ rfl g rfl T4 ?_)
    | (go_at_call 9; (with_reducible refine (HB.out _ B0).mono ?_); rintro e w1 ⟨rfl, k1⟩; have B1 := belTo hg B0 k1; have T1 := T0.bel k1; clear k1)
    | (go_at_call 25; (with_reducible refine (HI.out _ B1).mono ?_); rintro e w3 ⟨rfl, k3⟩; have B3 := belTo hg B1 k3; have T3 := T1.bel k3; clear k3)
    | (go_at_call 32; (with_reducible refine (HK.out _ B3).mono ?_); rintro e w4 ⟨l, rfl, hl, k4⟩; have HL4 := Lib.hid hl; obtain ⟨la, lc, rfl⟩ := hl.form; clear hl; have B4 := belTo hg B3 k4; have T4 := T3.bel k4; clear k4)
    | (go_at_call 34; (with_reducible refine (HF.out _ B4).mono ?_); rintro e w5 ⟨u6, v6, rfl, h61, h62, k5⟩; have HA6 := Lib.hid h61; have HB6 := Lib.hid h62; have HO6 := Lib.hid (one_lies h61); have HO7 := Lib.hid (one_lies h62); have B5 := belTo hg B4 k5; have T5 := T4.bel k5; have HL5 := Lib.hid (HL4.out.bel k5); clear h61 h62 k5)
    | (refine p_storeT rfl rfl _ _ rfl rfl rfl HO6.out HO7.out ?_))
  (try simp only [Act.put])
  have k6 := (Below.refl w5.heap.size w5).alloc (Nat.le_refl _) (.cells (tabA s p6 u6 v6) 28)
  have T6 := TB.new w5 s p6 u6 v6
  have HG6 : Hid (Below g w (w5.alloc (.cells (tabA s p6 u6 v6) 28)) ∧ TB (w5.alloc (.cells (tabA s p6 u6 v6) 28)) g s p u v ∧ Lies (w5.alloc (.cells (tabA s p6 u6 v6) 28)) u6 S6 ∧ Lies (w5.alloc (.cells (tabA s p6 u6 v6) 28)) v6 F6 ∧ Lies (w5.alloc (.cells (tabA s p6 u6 v6) 28)) (.slice la K.length lc) K) := ⟨belTo hg B5 k6, T5.bel k6, HA6.out.bel k6, HB6.out.bel k6, HL5.out.bel k6⟩
  clear k6 B0 B1 B3 B4 B5 T0 T1 T3 T4 T5 HL4 HL5 HA6 HB6 HO6 HO7 HB HI HK HF
  generalize w5.heap.size = g6 at *
  generalize w5.alloc _ = W6 at *
  have HK26 := Lib.hid (HK2.out W6 u6 v6 HG6.out.2.2.1 HG6.out.2.2.2.1)
  clear HK2
  go_upto_region 8 with (first
    | (refine p_midT rfl _ rfl g6 rfl T6 ?_)
    | (go_at_call 32; (with_reducible refine HK26.out.mono ?_); rintro e w7 ⟨m, rfl, hm, k7⟩; have HM7 := Lib.hid hm; obtain ⟨ma, mc, rfl⟩ := hm.form; clear hm; have HW7 : Hid (FgW g g6 w w7 s p p6 u v u6 v6 (.slice la K.length lc) (.slice ma K2.length mc) S6 F6 K K2) := ⟨belTo hg HG6.out.1 k7, HG6.out.2.1.bel k7, T6.bel k7, HG6.out.2.2.1.bel k7, HG6.out.2.2.2.1.bel k7, HG6.out.2.2.2.2.bel k7, HM7.out⟩; clear k7))
  have HKK := Lib.hid hk2
  clear HG6 T6 HM7 HK26 hk2
  obtain ⟨n, hn⟩ : ∃ n, K.length = n := ⟨_, rfl⟩
  obtain ⟨n2, hn2⟩ : ∃ n, K2.length = n := ⟨_, rfl⟩
  rw [hn, hn2] at HW7
  rw [hn] at hk1 ⊢
  rw [hn2]
  have HN := Lib.hid hn
  have HN0 := Lib.hid hn2
  clear hn hn2
  go_loopw [8, 9] (fun c i wr => ∃ k : Nat, k ≤ n ∧ i = .int .i64 (k : Int) ∧ c = .int .i64 (cntA a K k : Int) ∧ FgW g g6 w wr s p p6 u v u6 v6 (.slice la n lc) (.slice ma n2 mc) S6 F6 K K2) (fun _ i _ => n - (intOf i).toNat)
  case atStart => exact ⟨0, Nat.zero_le _, rfl, rfl, HW7.out⟩
  case round =>
    clear HW7
    obtain ⟨k, hk, rfl, rfl, hW⟩ := hrel
    have HW := Lib.hid hW
    clear hW
    by_cases hlt : k < n
    · have hx : K[k]? = some (K.getD k (0, 0)) := by
        have : k < K.length := by have := HN.out; omega
        rw [List.getD_eq_getElem?_getD, List.getElem?_eq_getElem this]; rfl
      obtain ⟨b, o, c, e1, hc, hr, r1', hlb⟩ := HW.out.l.at hx
      simp only [Value.slice.injEq] at e1
      obtain ⟨rfl, e2, rfl⟩ := e1
      have HX := Lib.hid hx
      clear hx e2 hc hr hlb
      generalize K.getD k (0, 0) = x at *
      have c1 := pe_ad r1'
      clear r1'
      have b1 : (k : Int) < (n : Int) := by omega
      have b2 : (0 : Int) ≤ (k : Int) := by omega
      have s1 : IntKind.i64.wrap ((k : Int) + 1) = (k : Int) + 1 := IntWalk.i64_in _ (by omega)
      by_cases hxa : x.1 = a
      · have d1 : (x.1 == a) = true := by simpa using hxa
        have HC := Lib.hid (cnt_yes HX.out hxa)
        clear hxa
        generalize cntA a K k = q at *
        go_wp2
        exact ⟨⟨k + 1, by omega, by go_num, by rw [HC.out], HW.out⟩, by simp [intOf]; omega⟩
      · have d1 : (x.1 == a) = false := by simpa using hxa
        have hcn := cnt_no HX.out hxa
        rw [HKK.out] at hcn
        have HC := Lib.hid hcn
        have hql : cntA a K k < n2 := by have := HN0.out; obtain ⟨h, _⟩ := List.getElem?_eq_some_iff.1 hcn.2; omega
        have hq0 := cnt_le a K k
        obtain ⟨b', o', c', e1', _, _, r2', _⟩ := HW.out.m.at hcn.2
        simp only [Value.slice.injEq] at e1'
        obtain ⟨rfl, e2', rfl⟩ := e1'
        clear hcn hxa e2'
        generalize cntA a K k = q at *
        have c2 := pe_ad r2'
        clear r2'
        have e0 : decide ((n2 : Int) ≤ (q : Int)) = false := decide_eq_false (by omega)
        have e01 : decide (n2 ≤ q) = false := decide_eq_false (by omega)
        have e02 : ¬ n2 ≤ q := by omega
        have e3 : (x.1 != x.1) = false := by simp
        have b3 : (q : Int) < (n2 : Int) := by omega
        have b4 : (0 : Int) ≤ (q : Int) := by omega
        have s2 : IntKind.i64.wrap ((q : Int) + 1) = (q : Int) + 1 := IntWalk.i64_in _ (by omega)
        have e4 : cntA a K (k + 1) = q + 1 := HC.out.1
        have HC1 := Lib.hid e4
        clear e4 HC HX
        go_upto_region 11 with (fail)
        go_quiet (fail)
        generalize hD : World.drewN wr _ = w9
        have kD : Below wr.heap.size wr w9 := by rw [← hD]; exact bel_drewN (Below.refl _ _) _
        have HW9 := Lib.hid (HW.out.bel2 hg kD)
        clear kD
        clear hD
        go_wp2
        exact ⟨⟨k + 1, by omega, by go_num, by rw [HC1.out]; go_num, HW9.out⟩, by simp [intOf]; omega⟩
    · obtain rfl : k = n := by omega
      have hce : cntA a K k = n2 := by have h1 := HN.out; have h2 := HN0.out; rw [← h1, cnt_end, HKK.out, h2]
      rw [hce]
      clear hce hlt
      have he : ((n2 : Int) == (n2 : Int)) = true := by simp
      have hnk : ¬ (k : Int) < (k : Int) := by omega
      go_upto_region 14 with (fail)
      refine wp_region_held_drew (S := (fun w9 => FgW g g6 w w9 s p p6 u v u6 v6 (.slice la k lc) (.slice ma n2 mc) S6 F6 K K2)) (by kernel_rfl) ?_ (fun hHeld => ?_)
      · exact HW.out.bel2 hg (drew_bel wr)
      replace HW := Lib.hid (HW.out.bel2 hg (drew_bel wr))
      generalize World.drew wr = z0 at *
      refine wpAnyH_ready (rs := [0]) (by kernel_rfl) (by simp) ?_
      refine AllReadyH.cons rfl (fun K hK => ?_) ?_
      rotate_left
      · exact AllReadyH.nil
      go_simp
      go_wp2_with (go_at_call 17; (with_reducible refine (HT.out.calls _).mono ?_); rintro e z0 ⟨rfl, kk⟩); replace HW := Lib.hid (HW.out.bel2 hg kk); clear kk
      refine hK.out _ _ ?_ (fun hHeld => ?_)
      · exact HW.out
      clear hK K
      (try simp only [Act.put]); (try simp only [List.setIfInBounds_toArray]); (try simp only [List.set_cons_succ]); (try simp only [List.set_cons_zero])
      iterate 1
        (try dsimp only [List.getElem_toArray, List.getElem_cons_succ, List.getElem_cons_zero])
        (try simp only [Act.put]); (try simp only [List.setIfInBounds_toArray]); (try simp only [List.set_cons_succ]); (try simp only [List.set_cons_zero])
      refine wpAnyH_take (i := 1) (v := ?_) rfl (by kernel_rfl) (by kernel_rfl) (by kernel_rfl) (fun _ _ _ h => h) (Or.inl ⟨by rfl, ?_⟩) (by assumption) ?_
      rotate_left
      · intro w9 hSw
        (try dsimp only at hSw)
        go_simp
        (try with_reducible rfl)
      (try simp only [Act.put]); (try simp only [List.setIfInBounds_toArray]); (try simp only [List.set_cons_succ]); (try simp only [List.set_cons_zero])
      refine wpAnyH_take (i := 2) (v := ?_) rfl (by kernel_rfl) (by kernel_rfl) (by kernel_rfl) (fun _ _ _ h => h) (Or.inl ⟨by rfl, ?_⟩) (by assumption) ?_
      rotate_left
      · intro w9 hSw
        (try dsimp only at hSw)
        go_simp
        (try with_reducible rfl)
      (try simp only [Act.put]); (try simp only [List.setIfInBounds_toArray]); (try simp only [List.set_cons_succ]); (try simp only [List.set_cons_zero])
      refine wpAnyH_take (i := 3) (v := ?_) rfl (by kernel_rfl) (by kernel_rfl) (by kernel_rfl) (fun _ _ _ h => h) (Or.inl ⟨by rfl, ?_⟩) (by assumption) ?_
      rotate_left
      · intro w9 hSw
        (try dsimp only at hSw)
        go_simp
        (try with_reducible rfl)
      (try simp only [Act.put]); (try simp only [List.setIfInBounds_toArray]); (try simp only [List.set_cons_succ]); (try simp only [List.set_cons_zero])
      refine wpAnyH_take (i := 4) (v := ?_) rfl (by kernel_rfl) (by kernel_rfl) (by kernel_rfl) (fun _ _ _ h => h) (Or.inl ⟨by rfl, ?_⟩) (by assumption) ?_
      rotate_left
      · intro w9 hSw
        (try dsimp only at hSw)
        go_simp
        (try with_reducible rfl)
      (try simp only [Act.put]); (try simp only [List.setIfInBounds_toArray]); (try simp only [List.set_cons_succ]); (try simp only [List.set_cons_zero])
      refine wpAnyH_take (i := 5) (v := ?_) rfl (by kernel_rfl) (by kernel_rfl) (by kernel_rfl) (fun _ _ _ h => h) (Or.inl ⟨by rfl, ?_⟩) (by assumption) ?_
      rotate_left
      · intro w9 hSw
        (try dsimp only at hSw)
        go_simp
        (try with_reducible rfl)
      (try simp only [Act.put]); (try simp only [List.setIfInBounds_toArray]); (try simp only [List.set_cons_succ]); (try simp only [List.set_cons_zero])
      refine wpAnyH_take (i := 6) (v := ?_) rfl (by kernel_rfl) (by kernel_rfl) (by kernel_rfl) (fun _ _ _ h => h) (Or.inl ⟨by rfl, ?_⟩) (by assumption) ?_
      rotate_left
      · intro w9 hSw
        (try dsimp only at hSw)
        go_simp
        (try with_reducible rfl)
      (try simp only [Act.put]); (try simp only [List.setIfInBounds_toArray]); (try simp only [List.set_cons_succ]); (try simp only [List.set_cons_zero])
      refine wpAnyH_take (i := 7) (v := ?_) rfl (by kernel_rfl) (by kernel_rfl) (by kernel_rfl) (fun _ _ _ h => h) (Or.inl ⟨by rfl, ?_⟩) (by assumption) ?_
      rotate_left
      · intro w9 hSw
        (try dsimp only at hSw)
        go_simp
        (try with_reducible rfl)
      (try simp only [Act.put]); (try simp only [List.setIfInBounds_toArray]); (try simp only [List.set_cons_succ]); (try simp only [List.set_cons_zero])
      iterate 2
        (try dsimp only [List.getElem_toArray, List.getElem_cons_succ, List.getElem_cons_zero])
        (try simp only [Act.put]); (try simp only [List.setIfInBounds_toArray]); (try simp only [List.set_cons_succ]); (try simp only [List.set_cons_zero])
      refine wpAnyH_take (i := 8) (oi := { dst := some 65, op := Go.Op.load 28 (Go.Operand.tmp 6), type := 28, pos := "law.go:86", after := #[{ on := 7, ground := Go.Ground.guard }], guard := some (7, true) }) (v := .agg (tabA s p6 u6 v6)) rfl (by kernel_rfl) (by kernel_rfl) (by kernel_rfl) (fun _ _ _ h => h) (y_midT (by rfl) (.tmp 6) rfl g6 rfl (fun _ h => h.t6)) (by assumption) ?_
      (try simp only [Act.put]); (try simp only [List.setIfInBounds_toArray]); (try simp only [List.set_cons_succ]); (try simp only [List.set_cons_zero])
      iterate 1
        (try dsimp only [List.getElem_toArray, List.getElem_cons_succ, List.getElem_cons_zero])
        (try simp only [Act.put]); (try simp only [List.setIfInBounds_toArray]); (try simp only [List.set_cons_succ]); (try simp only [List.set_cons_zero])
      refine wpAnyH_take (i := 9) (v := ?_) rfl (by kernel_rfl) (by kernel_rfl) (by kernel_rfl) (fun _ _ _ h => h) (Or.inl ⟨by rfl, ?_⟩) (by assumption) ?_
      rotate_left
      · intro w9 hSw
        (try dsimp only at hSw)
        go_simp
        (try with_reducible rfl)
      (try simp only [Act.put]); (try simp only [List.setIfInBounds_toArray]); (try simp only [List.set_cons_succ]); (try simp only [List.set_cons_zero])
      iterate 2
        (try dsimp only [List.getElem_toArray, List.getElem_cons_succ, List.getElem_cons_zero])
        (try simp only [Act.put]); (try simp only [List.setIfInBounds_toArray]); (try simp only [List.set_cons_succ]); (try simp only [List.set_cons_zero])
      refine wpAnyH_take (i := 11) (oi := { dst := some 68, op := Go.Op.load 28 (Go.Operand.tmp 6), type := 28, pos := "law.go:86", after := #[{ on := 7, ground := Go.Ground.guard }], guard := some (7, true) }) (v := .agg (tabA s p6 u6 v6)) rfl (by kernel_rfl) (by kernel_rfl) (by kernel_rfl) (fun _ _ _ h => h) (y_midT (by rfl) (.tmp 6) rfl g6 rfl (fun _ h => h.t6)) (by assumption) ?_
      (try simp only [Act.put]); (try simp only [List.setIfInBounds_toArray]); (try simp only [List.set_cons_succ]); (try simp only [List.set_cons_zero])
      iterate 1
        (try dsimp only [List.getElem_toArray, List.getElem_cons_succ, List.getElem_cons_zero])
        (try simp only [Act.put]); (try simp only [List.setIfInBounds_toArray]); (try simp only [List.set_cons_succ]); (try simp only [List.set_cons_zero])
      refine wpAnyH_ready (rs := [10]) (by kernel_rfl) (by simp) ?_
      refine AllReadyH.cons rfl (fun K hK => ?_) ?_
      rotate_left
      · exact AllReadyH.nil
      go_simp
      go_wp2_with (go_at_call 34; (with_reducible refine (forget_any a HW.out.a6 HW.out.b6 (by have := HN1.out; omega) (by have := HN2.out; omega)).mono ?_); rintro e z10 ⟨r1, r2, rfl, h1, h2, kk⟩); replace HW := Lib.hid (HW.out.bel2 hg kk); rw [HD.out] at h1; rw [HM.out] at h2; clear kk
      refine hK.out _ _ ?_ (fun hHeld => ?_)
      · exact HW.out
      clear hK K
      (try simp only [Act.put]); (try simp only [List.setIfInBounds_toArray]); (try simp only [List.set_cons_succ]); (try simp only [List.set_cons_zero])
      iterate 1
        (try dsimp only [List.getElem_toArray, List.getElem_cons_succ, List.getElem_cons_zero])
        (try simp only [Act.put]); (try simp only [List.setIfInBounds_toArray]); (try simp only [List.set_cons_succ]); (try simp only [List.set_cons_zero])
      refine wpAnyH_ready (rs := [12]) (by kernel_rfl) (by simp) ?_
      refine AllReadyH.cons rfl (fun K hK => ?_) ?_
      rotate_left
      · exact AllReadyH.nil
      go_simp
      go_wp2_with (go_at_call 18; (with_reducible refine ((show Calls _ _ _ _ _ from by rw [HFF.out]; exact same_tab h1 h2 HW.out.a6 HW.out.b6 (by have := HN1.out; omega) (by have := HN2.out; omega))).mono ?_); rintro e z12 ⟨rfl, kk⟩); replace HW := Lib.hid (HW.out.bel2 hg kk); clear kk
      refine hK.out _ _ ?_ (fun hHeld => ?_)
      · exact HW.out
      clear hK K
      (try simp only [Act.put]); (try simp only [List.setIfInBounds_toArray]); (try simp only [List.set_cons_succ]); (try simp only [List.set_cons_zero])
      iterate 1
        (try dsimp only [List.getElem_toArray, List.getElem_cons_succ, List.getElem_cons_zero])
        (try simp only [Act.put]); (try simp only [List.setIfInBounds_toArray]); (try simp only [List.set_cons_succ]); (try simp only [List.set_cons_zero])
      refine wpAnyH_take (i := 13) (v := ?_) rfl (by kernel_rfl) (by kernel_rfl) (by kernel_rfl) (fun _ _ _ h => h) (Or.inl ⟨by rfl, ?_⟩) (by assumption) ?_
      rotate_left
      · intro w9 hSw
        (try dsimp only at hSw)
        go_simp
        (try with_reducible rfl)
      (try simp only [Act.put]); (try simp only [List.setIfInBounds_toArray]); (try simp only [List.set_cons_succ]); (try simp only [List.set_cons_zero])
      refine wpAnyH_take (i := 14) (v := ?_) rfl (by kernel_rfl) (by kernel_rfl) (by kernel_rfl) (fun _ _ _ h => h) (Or.inl ⟨by rfl, ?_⟩) (by assumption) ?_
      rotate_left
      · intro w9 hSw
        (try dsimp only at hSw)
        go_simp
        (try with_reducible rfl)
      (try simp only [Act.put]); (try simp only [List.setIfInBounds_toArray]); (try simp only [List.set_cons_succ]); (try simp only [List.set_cons_zero])
      refine wpAnyH_take (i := 15) (v := ?_) rfl (by kernel_rfl) (by kernel_rfl) (by kernel_rfl) (fun _ _ _ h => h) (Or.inl ⟨by rfl, ?_⟩) (by assumption) ?_
      rotate_left
      · intro w9 hSw
        (try dsimp only at hSw)
        go_simp
        (try with_reducible rfl)
      (try simp only [Act.put]); (try simp only [List.setIfInBounds_toArray]); (try simp only [List.set_cons_succ]); (try simp only [List.set_cons_zero])
      iterate 2
        (try dsimp only [List.getElem_toArray, List.getElem_cons_succ, List.getElem_cons_zero])
        (try simp only [Act.put]); (try simp only [List.setIfInBounds_toArray]); (try simp only [List.set_cons_succ]); (try simp only [List.set_cons_zero])
      refine wpAnyH_take (i := 16) (oi := { dst := some 73, op := Go.Op.load 25 (Go.Operand.tmp 72), type := 25, pos := "law.go:86", after := #[{ on := 15, ground := Go.Ground.data }, { on := 14, ground := Go.Ground.guard }], guard := some (14, true) }) (v := .agg (peA s)) rfl (by kernel_rfl) (by kernel_rfl) (by kernel_rfl) (fun _ _ _ h => h) (y_midP (by rfl) (.tmp 72) rfl g6 0 rfl s (fun _ h => h.t6.self)) (by assumption) ?_
      (try simp only [Act.put]); (try simp only [List.setIfInBounds_toArray]); (try simp only [List.set_cons_succ]); (try simp only [List.set_cons_zero])
      iterate 1
        (try dsimp only [List.getElem_toArray, List.getElem_cons_succ, List.getElem_cons_zero])
        (try simp only [Act.put]); (try simp only [List.setIfInBounds_toArray]); (try simp only [List.set_cons_succ]); (try simp only [List.set_cons_zero])
      refine wpAnyH_take (i := 17) (v := ?_) rfl (by kernel_rfl) (by kernel_rfl) (by kernel_rfl) (fun _ _ _ h => h) (Or.inl ⟨by rfl, ?_⟩) (by assumption) ?_
      rotate_left
      · intro w9 hSw
        (try dsimp only at hSw)
        go_simp
        (try with_reducible rfl)
      (try simp only [Act.put]); (try simp only [List.setIfInBounds_toArray]); (try simp only [List.set_cons_succ]); (try simp only [List.set_cons_zero])
      iterate 2
        (try dsimp only [List.getElem_toArray, List.getElem_cons_succ, List.getElem_cons_zero])
        (try simp only [Act.put]); (try simp only [List.setIfInBounds_toArray]); (try simp only [List.set_cons_succ]); (try simp only [List.set_cons_zero])
      refine wpAnyH_take (i := 18) (oi := { dst := some 75, op := Go.Op.load 25 (Go.Operand.tmp 74), type := 25, pos := "law.go:86", after := #[{ on := 17, ground := Go.Ground.data }, { on := 14, ground := Go.Ground.guard }], guard := some (14, true) }) (v := .agg (peA s)) rfl (by kernel_rfl) (by kernel_rfl) (by kernel_rfl) (fun _ _ _ h => h) (y_midP (by rfl) (.tmp 74) rfl g 0 rfl s (fun _ h => h.t2.self)) (by assumption) ?_
      (try simp only [Act.put]); (try simp only [List.setIfInBounds_toArray]); (try simp only [List.set_cons_succ]); (try simp only [List.set_cons_zero])
      iterate 1
        (try dsimp only [List.getElem_toArray, List.getElem_cons_succ, List.getElem_cons_zero])
        (try simp only [Act.put]); (try simp only [List.setIfInBounds_toArray]); (try simp only [List.set_cons_succ]); (try simp only [List.set_cons_zero])
      refine wpAnyH_take (i := 19) (oi := { dst := some 76, op := Go.Op.binOp Go.BinOp.eql 25 (Go.Operand.tmp 73) (Go.Operand.tmp 75) 25, type := 4, pos := "law.go:86", after := #[{ on := 16, ground := Go.Ground.data }, { on := 18, ground := Go.Ground.data }, { on := 14, ground := Go.Ground.guard }], guard := some (14, true) }) (v := .bool true) rfl (by kernel_rfl) (by kernel_rfl) (by kernel_rfl) (fun _ _ _ h => h) (y_eqlP (by rfl) (.tmp 73) (.tmp 75) rfl s s rfl rfl es) (by assumption) ?_
      (try simp only [Act.put]); (try simp only [List.setIfInBounds_toArray]); (try simp only [List.set_cons_succ]); (try simp only [List.set_cons_zero])
      iterate 1
        (try dsimp only [List.getElem_toArray, List.getElem_cons_succ, List.getElem_cons_zero])
        (try simp only [Act.put]); (try simp only [List.setIfInBounds_toArray]); (try simp only [List.set_cons_succ]); (try simp only [List.set_cons_zero])
      refine wpAnyH_take (i := 20) (v := ?_) rfl (by kernel_rfl) (by kernel_rfl) (by kernel_rfl) (fun _ _ _ h => h) (Or.inl ⟨by rfl, ?_⟩) (by assumption) ?_
      rotate_left
      · intro w9 hSw
        (try dsimp only at hSw)
        go_simp
        (try with_reducible rfl)
      (try simp only [Act.put]); (try simp only [List.setIfInBounds_toArray]); (try simp only [List.set_cons_succ]); (try simp only [List.set_cons_zero])
      refine wpAnyH_take (i := 21) (v := ?_) rfl (by kernel_rfl) (by kernel_rfl) (by kernel_rfl) (fun _ _ _ h => h) (Or.inl ⟨by rfl, ?_⟩) (by assumption) ?_
      rotate_left
      · intro w9 hSw
        (try dsimp only at hSw)
        go_simp
        (try with_reducible rfl)
      (try simp only [Act.put]); (try simp only [List.setIfInBounds_toArray]); (try simp only [List.set_cons_succ]); (try simp only [List.set_cons_zero])
      iterate 2
        (try dsimp only [List.getElem_toArray, List.getElem_cons_succ, List.getElem_cons_zero])
        (try simp only [Act.put]); (try simp only [List.setIfInBounds_toArray]); (try simp only [List.set_cons_succ]); (try simp only [List.set_cons_zero])
      refine wpAnyH_done (by kernel_rfl) ?_ _
      clear hHeld
      go_wp2
      go_ret
      exact ⟨rfl, by rw [hg]; exact HW.out.bel⟩
end Go.Proofs.Ytkcljbolopephaa.ForgLaw
