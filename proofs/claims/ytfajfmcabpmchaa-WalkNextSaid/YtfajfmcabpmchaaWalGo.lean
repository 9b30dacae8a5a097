/- A walk over tables. -/
import Derived.Test.YtfajfmcabpmchaaWalGoD
namespace Go.Proofs.Ytfajfmcabpmchaa
set_option maxRecDepth 100000
open Go Go.RowKit Go.Sort

set_option maxHeartbeats 8000000 in
theorem walk_good {w : World} {v : Value} {X : List Tv} (fr : Int) (id m : Nat) (x0 : Tv) (fp : Tv → Pe) (dn : Tv → Bool) (nx : Tv → Pe × Bool) (hX : Ins w X) (h64 : m ≤ 64) (hx0 : findV X fr = some x0) (hft : Fit fr) (hfn : ∀ x ∈ X, Fit (nx x).1.1)
    (hBy : ∀ W, Below w.heap.size w W → Calls Try.prog 27 #[v] W fun e w' => ByP W.heap.size X true e w' ∧ Below W.heap.size W w')
    (hD : ∀ x ∈ X, GivesW w 24 #[.agg (tvA x), idv id] (.tuple #[.agg (peA (fp x)), .bool (dn x)]))
    (hN : ∀ x ∈ X, GivesW w 25 #[.agg (tvA x), idv id, nilS] (.tuple #[.agg (peA (nx x).1), .bool (nx x).2])) :
    Calls Try.prog 10 #[v, .int .i64 fr, idv id, .int .i64 (m : Int)] w fun e w' => RouP w.heap.size (wkV X fp dn nx m x0 [fr]) e w' ∧ Below w.heap.size w w' := by
  have HX := Lib.hid hX
  have HFN := Lib.hid hfn
  have HBy := Lib.hid hBy
  have HD := Lib.hid hD
  have HN := Lib.hid hN
  have HX0 := Lib.hid hx0
  have HZ := Lib.hid zeroTab
  have hmem := findV_mem hx0
  have HMEM := Lib.hid hmem
  have hins := hX x0 hmem
  have ou := lies_one hins.1
  have ov := lies_one hins.2
  have B0 := ((Below.refl w.heap.size w).alloc (Nat.le_refl _) (.cells (row (dig 20 id)) 24)).alloc (by simp) (.cells (rtA nilS (0, 0)) 30)
  have I0 : At ((w.alloc (.cells (row (dig 20 id)) 24)).alloc (.cells (rtA nilS (0, 0)) 30)) w.heap.size id := (At.new w id).alloc _
  have R0 : RB ((w.alloc (.cells (row (dig 20 id)) 24)).alloc (.cells (rtA nilS (0, 0)) 30)) (w.heap.size + 1) nilS (0, 0) := by
    have := RB.new (w.alloc (.cells (row (dig 20 id)) 24)) nilS (0, 0)
    rwa [World.size_alloc] at this
  clear hX hfn hBy hD hN hx0 hmem hins
  have d1 : ¬ (m : Int) < 0 := by omega
  have d2 : ¬ (64 : Int) < (m : Int) := by omega
  have d3 : decide ((m : Int) < 0) = false := decide_eq_false d1
  have d4 : decide ((64 : Int) < (m : Int)) = false := decide_eq_false d2
  rw [show idv id = .agg (row (dig 20 id)) from rfl]
  go_enter Try.func10, Try.ntmps10
  go_upto_region 1 with (fail)
  rw [route_zero]
  generalize (w.alloc _).alloc _ = W at *
  generalize hg : w.heap.size = g at *
  have hcall := HBy.out W (hg ▸ B0)
  go_step3
  go_upto_region 2 with (go_at_call 27; (with_reducible refine hcall.mono ?_); rintro e w1 ⟨hP, k1⟩; obtain ⟨mb, rfl, M1, hmb⟩ := by_true hP)
  have lR := R0.lt
  have I1 := I0.below k1
  have R1 := R0.bel k1
  have B1 := belTo hg B0 k1
  have hlook := M1.look Try.underlying58 (HZ.out w1) hft
  have hmv : mapV X fr = some (.agg (tvA x0)) := by unfold mapV; rw [HX0.out]; rfl
  rw [hmv] at hlook
  have lM := M1.lt
  clear k1 hcall I0 R0 B0
  go_upto_region 3 with (refine p_storeT rfl rfl _ _ rfl rfl rfl ou ov ?_)
  (try simp only [Act.put])
  have T2 := TB.new w1 x0.t.s x0.t.p x0.u x0.v
  have K2 := (Below.refl w1.heap.size w1).alloc (Nat.le_refl _) (.cells (tvA x0) 43)
  have I2 := I1.below K2
  have R2 := R1.bel K2
  have M2 := M1.bel K2
  have B2 := belTo hg B1 K2
  clear hlook K2 I1 R1 M1 B1
  generalize hga : w1.heap.size = ga at *
  generalize w1.alloc _ = W2 at *
  go_upto_region 6 with (first
    | (refine p_buildR1 rfl _ rfl _ _ _ rfl ?_)
    | (refine p_storeRn (W2.heap.size + 1) (World.size_alloc ..) rfl rfl _ _ rfl rfl rfl rfl ?_))
  (try simp only [Act.put])
  have P0 := Lib.hid (WkW.made (fr := fr) B2 I2 R2 M2 T2 (by omega) (by omega))
  have hm0 := HMEM.out
  clear R2 I2 M2 B2 T2 HX0
  generalize hR : wkV X fp dn nx m x0 [fr] = R at *
  have HR := Lib.hid hR
  clear hR
  generalize hgr : W2.heap.size + 1 = gr at *
  generalize (W2.alloc (Obj.cells #[Value.int IntKind.i64 fr] _)).alloc _ = W4 at *
  generalize Value.slice (some ⟨W2.heap.size, 0, none⟩) 1 1 = h0 at *
  go_step3
  go_upto_region 6 with (fail)
  go_loopw [15, 16, 17, 18, 19, 20] (fun _ _ _ _ _ _ wr => GoR X fp dn nx R m g mb ga gr w id wr) (fun _ _ _ _ _ _ wr => m + 1 - lenAt gr wr)
  case atStart => exact GoR.mk m x0 h0 [fr] hm0 rfl P0.out HR.out
  case round =>
    clear P0 hm0
    obtain ⟨n, x, h, H, hxm, hnH, hP, hE⟩ := hrel
    have HE := Lib.hid hE
    have hxins := HX.out x hxm
    have HXI := Lib.hid hxins
    have HLW := Lib.hid hP.len
    have hc1 := HD.out x hxm wr (by rw [hg]; exact hP.bel)
    have HC2 := Lib.hid (HN.out x hxm)
    have hfx := HFN.out x hxm
    have T1 := hP.t
    have J1 := blk_range (show Blk wr g _ _ from hP.i)
    have HP := Lib.hid hP
    clear hP hE hxins
    go_upto_region 7 with (first
      | (refine p_midT rfl _ rfl ga rfl T1 ?_)
      | (refine p_midI rfl _ rfl g 0 rfl id J1 ?_)
      | (go_at_call 24; (with_reducible refine hc1.mono ?_); rintro e w5 ⟨rfl, k5⟩)
      | (refine p_storeP rfl rfl _ _ rfl (fp x) rfl rfl ?_))
    (try simp only [Act.put])
    have P5 := HP.out.bel2 hg k5
    have A5 := (Below.refl w5.heap.size w5).alloc (Nat.le_refl _) (.cells (peA (fp x)) 28)
    have E6 := PB.new w5 (fp x)
    have P6 := P5.bel2 hg A5
    clear k5 hc1 T1 J1 P5 A5 HP
    generalize hg5 : w5.heap.size = g5 at *
    generalize w5.alloc _ = W6 at *
    have hc2 := HC2.out W6 (by rw [hg]; exact P6.bel)
    have T1 := P6.t
    have J1 := blk_range (show Blk W6 g _ _ from P6.i)
    go_upto_region 8 with (first
      | (refine p_midT rfl _ rfl ga rfl T1 ?_)
      | (refine p_midI rfl _ rfl g 0 rfl id J1 ?_)
      | (go_at_call 25; (with_reducible refine hc2.mono ?_); rintro e w7 ⟨rfl, k7⟩)
      | (refine p_storeP rfl rfl _ _ rfl (nx x).1 rfl rfl ?_))
    (try simp only [Act.put])
    have P7 := P6.bel2 hg k7
    have E7 := E6.bel k7
    have A7 := (Below.refl w7.heap.size w7).alloc (Nat.le_refl _) (.cells (peA (nx x).1) 28)
    have N8 := PB.new w7 (nx x).1
    have P8 := P7.bel2 hg A7
    have E8 := E7.bel A7
    clear k7 hc2 T1 J1 P7 A7 P6 E6 E7 HC2
    generalize hg7 : w7.heap.size = g7 at *
    generalize w7.alloc _ = W8 at *
    have c7 := N8.A
    have hlook := P8.m.look Try.underlying58 (HZ.out W8) hfx
    obtain ⟨y, hy⟩ : ∃ y, y = (findV X (nx x).1.1).getD tv0 := ⟨_, rfl⟩
    have hyu : y.u.oneCell' = true ∧ y.v.oneCell' = true := by
      rw [hy]
      cases hf : findV X (nx x).1.1 with
      | none => exact ⟨rfl, rfl⟩
      | some z =>
        have hz := HX.out z (findV_mem hf)
        exact ⟨lies_one hz.1, lies_one hz.2⟩
    have hyv : (mapV X (nx x).1.1).getD (.agg (tvA tv0)) = .agg (tvA y) ∧ (mapV X (nx x).1.1).isSome = (findV X (nx x).1.1).isSome := by
      rw [hy]
      unfold mapV
      cases findV X (nx x).1.1 <;> exact ⟨rfl, rfl⟩
    rw [hyv.1, hyv.2] at hlook
    have HY := Lib.hid hy
    clear hyv hy
    obtain ⟨yu, yv⟩ := hyu
    generalize hhas : (findV X (nx x).1.1).isSome = has at *
    have HHAS := Lib.hid hhas
    clear hhas
    go_upto_region 9 with (refine p_storeT rfl rfl _ _ rfl rfl rfl yu yv ?_)
    (try simp only [Act.put])
    have A8 := (Below.refl W8.heap.size W8).alloc (Nat.le_refl _) (.cells (tvA y) 43)
    have P9 := P8.bel2 hg A8
    have E9 := E8.bel A8
    have N9 := N8.bel A8
    have Y9 := TB.new W8 y.t.s y.t.p y.u y.v
    have lq8 := P8.q.lt
    have OX : ∀ j, h.ownBlock = some j → j < W8.heap.size := fun j e => (P8.o.lt j e).2
    clear hlook c7 A8 P8 E8 N8
    generalize hg8 : W8.heap.size = g8 at *
    generalize W8.alloc _ = W9 at *
    obtain ⟨ha, hcap, rfl⟩ := Cr.own_form P9.o
    have HP9 := Lib.hid P9
    have HO8 := Lib.hid OX
    have q9 := P9.q.ch
    have F9 := E9.range
    have G9 := N9.A
    have RR := P9.r
    have QQ := P9.q
    have hlen := P9.len
    have lY := Y9.lt
    have lq := P9.q.lt
    have lo9 := P9.ord
    clear P9
    cases hdn : dn x
    · cases hnx : (nx x).2
      · have hR := wv_none (X := X) (fp := fp) hdn hnx n H
        rw [HE.out] at hR
        subst hR
        clear HE
        go_wp2_with (first
          | (refine p_buildR0 rfl rfl ?_)
          | (refine p_putR rfl _ _ rfl (g + 1) rfl rfl rfl RR ?_))
        (try rw [Exit.noGoto_ret])
        exact bodyPost_ret (results_R2 Try.results10 _ _ (g + 1) _ rfl rfl (RR.set nilS (0, 0))) rfl ⟨rou_bad HR.out, by rw [hg]; exact bel_setRow HP9.out.bel (by omega) _⟩
      · cases n with
        | zero =>
          have hR := wv_lim (X := X) (fp := fp) hdn hnx H
          rw [HE.out] at hR
          subst hR
          clear HE
          have b1 : (m : Int) < (H.length : Int) := by omega
          have b2 : decide ((m : Int) < (H.length : Int)) = true := decide_eq_true b1
          go_wp2_with (first
            | (refine p_buildR0 rfl rfl ?_)
            | (refine p_putR rfl _ _ rfl (g + 1) rfl rfl rfl RR ?_))
          (try rw [Exit.noGoto_ret])
          exact bodyPost_ret (results_R2 Try.results10 _ _ (g + 1) _ rfl rfl (RR.set nilS (0, 0))) rfl ⟨rou_bad HR.out, by rw [hg]; exact bel_setRow HP9.out.bel (by omega) _⟩
        | succ n =>
          have b1 : ¬ (m : Int) < (H.length : Int) := by omega
          have b2 : decide ((m : Int) < (H.length : Int)) = false := decide_eq_false b1
          cases has
          · have hf : findV X (nx x).1.1 = none := by
              have := HHAS.out
              rwa [Option.isSome_eq_false_iff, Option.isNone_iff_eq_none] at this
            have hR := wv_off (fp := fp) hdn hnx hf n H
            rw [HE.out] at hR
            subst hR
            clear HE hf
            go_wp2_with (first
              | (refine p_buildR0 rfl rfl ?_)
              | (refine p_putR rfl _ _ rfl (g + 1) rfl rfl rfl RR ?_))
            (try rw [Exit.noGoto_ret])
            exact bodyPost_ret (results_R2 Try.results10 _ _ (g + 1) _ rfl rfl (RR.set nilS (0, 0))) rfl ⟨rou_bad HR.out, by rw [hg]; exact bel_setRow HP9.out.bel (by omega) _⟩
          · have hf : findV X (nx x).1.1 = some y := by
              have h1 := HHAS.out
              have h2 := HY.out
              obtain ⟨z, hz⟩ := Option.isSome_iff_exists.1 h1
              rw [hz] at h2 ⊢
              rw [h2]; rfl
            have hmy := findV_mem hf
            have hR := wv_go (fp := fp) hdn hnx hf n H
            rw [HE.out] at hR
            have HR2 := Lib.hid hR
            have HMY := Lib.hid hmy
            clear HE hf hR hmy RR
            have P10 := HP9.out.bel2 hg ((Below.refl W9.heap.size W9).alloc (Nat.le_refl _) (.cells #[.int .i64 (nx x).1.1] 3))
            have own10 := P10.o
            have Y10 := Y9.bel ((Below.refl W9.heap.size W9).alloc (Nat.le_refl _) (.cells #[.int .i64 (nx x).1.1] 3))
            have lH : H.length ≤ 1000000 := by omega
            have lg9 : g + 2 ≤ W9.heap.size := by omega
            have HO10 := Lib.hid own10
            have HO9 := Lib.hid HO8.out
            have HP10 := Lib.hid P10
            clear own10 P10
            go_upto_region 18 with (first
              | (refine p_appI rfl _ _ rfl (g + 2) _ H rfl W9.heap.size rfl HO10.out rfl lH lg9 ?_; intro h2 w10 o10 k10' a10'; have k10 : (W9.alloc (.cells #[.int .i64 (nx x).1.1] 3)).grownBy w10 (Value.slice ha H.length hcap).ownBlock := k10'; have a10 : h2.ownBlock = (Value.slice ha H.length hcap).ownBlock ∨ h2.ownBlock = some (W9.alloc (.cells #[.int .i64 (nx x).1.1] 3)).heap.size := a10'; clear k10' a10'; have q10 : RB w10 gr _ (0, 0) := (k10.block gr (by rw [World.size_alloc]; omega) (fun e => HP10.out.ne.1 e.symm)).trans HP10.out.q; have y10 : TB w10 g8 y.t.s y.t.p y.u y.v := (k10.block g8 (by rw [World.size_alloc]; omega) (fun e => by have := HO9.out g8 e.symm; omega)).trans Y10)
              | (refine p_putRH rfl _ _ rfl gr rfl h2 rfl (own_one o10) q10 ?_))
            have hP11 := HP9.out.hop hg o10 k10 a10
            have y11 := tb_row y10 (rtA h2 (0, 0)) (show g8 ≠ gr by omega)
            have t11 := hP11.t
            clear q10 y10 k10 a10 o10
            have HP11 := Lib.hid hP11
            clear hP11
            generalize w10.setRow gr _ = W11 at *
            have hP12 := HP11.out.at_ y
            have HP12 := Lib.hid hP12
            have hl12 := hP12.len
            rw [List.length_append] at hl12
            have HL12 := Lib.hid hl12
            have HLEN := Lib.hid hlen
            clear hP12 hl12 hlen
            go_wp2_with (first
              | (refine p_midT rfl _ rfl g8 rfl y11 ?_)
              | (refine p_putT rfl _ _ rfl ga rfl rfl yu yv t11 ?_))
            exact ⟨GoR.mk n y h2 (H ++ [(nx x).1.1]) HMY.out (by rw [List.length_append]; simp only [List.length_cons, List.length_nil]; omega) HP12.out HR2.out.symm, by
              have h1 := HL12.out
              have h2 := HLW.out
              simp only [List.length_cons, List.length_nil] at h1
              rw [show lenAt gr (W11.setRow ga (tabA y.t.s y.t.p y.u y.v)) = H.length + (0 + 1) from h1, h2]
              omega⟩
    · have hR := wv_done (X := X) (fp := fp) (nx := nx) hdn n H
      rw [HE.out] at hR
      subst hR
      clear HE
      have RH := RR.row (rtA (.slice ha H.length hcap) (fp x)) (show g + 1 ≠ gr by omega)
      have QH := QQ.set (.slice ha H.length hcap) (fp x)
      go_wp2_with (first
        | (refine p_midP rfl _ rfl g5 0 rfl (fp x) F9 ?_)
        | (refine p_putRE rfl _ _ rfl gr rfl (fp x) rfl QQ ?_)
        | (refine p_midR rfl _ rfl gr rfl QH ?_)
        | (refine p_putR rfl _ _ rfl (g + 1) rfl rfl rfl RH ?_))
      rw [Exit.noGoto_ret]
      exact bodyPost_ret (results_R2 Try.results10 _ _ (g + 1) _ rfl rfl (RH.set _ _)) rfl ⟨rou_ok HR.out (by
        rw [hg]
        refine own_baseI (own_keep (own_keep HP9.out.o fun j hj => Go.setRow_other _ _ _ _ (fun e => HP9.out.ne.1 (by rw [hj, e]))) fun j hj => Go.setRow_other _ _ _ _ (fun e => ?_)) (show g ≤ g + 2 by omega)
        have := (HP9.out.o.lt j hj).1
        omega), by rw [hg]; exact bel_setRow (bel_setRow HP9.out.bel (by omega) _) (by omega) _⟩
end Go.Proofs.Ytfajfmcabpmchaa
