/- Tables are put into a map by their addresses. -/
import Derived.Test.YtfajfmcabpmchaaWalMem
namespace Go.Proofs.Ytfajfmcabpmchaa
set_option maxRecDepth 100000
open Go Go.RowKit Go.Sort

/-- the first i are right, and no two of them of one address -/
def okV (it : Tv → Bool) (X : List Tv) : Nat → Bool
  | 0 => true
  | i + 1 => okV it X i && (!(findV (X.take i) (X.getD i tv0).t.s.1).isSome && it (X.getD i tv0))
theorem okV_le (it : Tv → Bool) (X : List Tv) {i j : Nat} (h : i ≤ j) (hf : okV it X i = false) : okV it X j = false := by
  induction j with
  | zero => obtain rfl : i = 0 := by omega
            exact hf
  | succ j ih =>
    rcases Nat.lt_or_ge j i with h1 | h1
    · obtain rfl : i = j + 1 := by omega
      exact hf
    · rw [okV, ih h1]; rfl
theorem okV_T (X : List Tv) : ∀ n, n ≤ X.length → okV (fun x => tbB x.t) X n = okT (tabsOf X) n := by
  intro n
  induction n with
  | zero => intro _; rfl
  | succ n ih =>
    intro hn
    have e := tabsOf_getD (tab_at (show n < X.length by omega))
    rw [okV, okT, ih (by omega), e, tabsOf_take]
    unfold hasT
    rw [findV_T, Option.isSome_map]
/-- what the map tells -/
def mapV (X : List Tv) (a : Int) : Option Value := (findV X a).map fun x => .agg (tvA x)
theorem mapV_put {X : List Tv} {k : Nat} {x : Tv} (h : X[k]? = some x) (hno : (findV (X.take k) x.t.s.1).isSome = false) (a : Int) : mapV (X.take (k + 1)) a = putV (mapV (X.take k)) x.t.s.1 (.agg (tvA x)) a := by
  unfold mapV putV
  rw [findV_snoc h]
  by_cases e : a = x.t.s.1
  · subst e
    rw [Option.isSome_eq_false_iff, Option.isNone_iff_eq_none] at hno
    rw [hno, if_pos rfl, if_pos rfl]; rfl
  · rw [if_neg e, if_neg (fun h => e h.symm), Option.or_none]
/-- what is told of tables by their addresses -/
def ByP (B : Nat) (X : List Tv) (ok : Bool) (e : Ending) (w' : World) : Prop :=
  (ok = false ∧ e = .returned (.tuple #[.map none, .bool false])) ∨ (ok = true ∧ ∃ mb, e = .returned (.tuple #[.map (some mb), .bool true]) ∧ OwnsV w' mb X.length (mapV X) ∧ B ≤ mb)
set_option maxHeartbeats 4000000 in
theorem byAddr_core {w : World} {v : Value} {X : List Tv} (it : Tv → Bool) (hX : LiesT w v X) (hI : ∀ x ∈ X, GivesW w 17 #[.agg (tvA x)] (.bool (it x))) (hfit : ∀ x ∈ X, Fit x.t.s.1) (hn : X.length ≤ 1000000) :
    Calls Try.prog 27 #[v] w fun e w' => ByP w.heap.size X (decide (X.length ≤ 16) && okV it X X.length) e w' ∧ Below w.heap.size w w' := by
  obtain ⟨av, cv, rfl⟩ := hX.form
  have HX := Lib.hid hX
  have HI := Lib.hid hI
  have HF := Lib.hid hfit
  obtain ⟨n, hn'⟩ : ∃ n, n = X.length := ⟨_, rfl⟩
  rw [← hn'] at hn HX ⊢
  have HN := Lib.hid hn'
  clear hn' hX hI hfit
  have HZ := Lib.hid zeroTab
  by_cases h16 : n ≤ 16
  rotate_left
  · have e1 : decide (n ≤ 16) = false := decide_eq_false h16
    have b1 : (16 : Int) < (n : Int) := by omega
    rw [e1]
    go_enter Try.func27, Try.ntmps27
    go_wp2
    exact bodyPost_ret (results_tt Try.results27 _ _) rfl ⟨.inl ⟨rfl, rfl⟩, Below.refl _ _⟩
  have b1 : ¬ (16 : Int) < (n : Int) := by omega
  have hdec : decide (n ≤ 16) = true := decide_eq_true h16
  rw [hdec]
  clear hdec
  have M0 := OwnsV.made w
  have B0 := (Below.refl w.heap.size w).alloc (Nat.le_refl _) (.map #[] 0)
  go_enter Try.func27, Try.ntmps27
  have hmk := @run_makeMap Try.prog
  go_upto_region 4 with (fail)
  clear hmk
  generalize w.alloc _ = W at *
  generalize hg : w.heap.size = g at *
  have HM := Lib.hid M0
  have HB := Lib.hid B0
  clear M0 B0
  go_upto_region 5 with (fail)
  go_loopw [6, 7, 8, 15] (fun _ _ _ i wr => ∃ k : Nat, i = .int .i64 (k : Int) ∧ k ≤ n ∧ okV it X k = true ∧ OwnsV wr g k (mapV (X.take k)) ∧ Below g w wr) (fun _ _ _ i _ => n - (intOf i).toNat)
  case atStart => exact ⟨0, rfl, Nat.zero_le _, rfl, HM.out.ext (fun a => by rw [List.take_zero]; rfl), HB.out⟩
  case round =>
    clear HM HB
    obtain ⟨k, rfl, hk, hok, hM, hB⟩ := hrel
    have HOK := Lib.hid hok
    have HM := Lib.hid hM
    have HB := Lib.hid hB
    clear hok hM hB
    by_cases hlt : k < n
    · have hx : X[k]? = some (X.getD k tv0) := tab_at (by have := HN.out; omega)
      have hgd : (X.getD k tv0) ∈ X := List.mem_of_getElem? hx
      have hbad : (!(findV (X.take k) (X.getD k tv0).t.s.1).isSome && it (X.getD k tv0)) = false → okV it X n = false := fun h => by
        refine okV_le it X (show k + 1 ≤ n by omega) ?_
        rw [okV, h, Bool.and_false]
      have hgood : (!(findV (X.take k) (X.getD k tv0).t.s.1).isSome && it (X.getD k tv0)) = true → okV it X (k + 1) = true := fun h => by rw [okV, h, HOK.out]; rfl
      have hput := mapV_put hx
      obtain ⟨b, o, c, e1, hc, r0, hlb⟩ := (HX.out.bel (hg ▸ HB.out)).at hx
      simp only [Value.slice.injEq] at e1
      obtain ⟨rfl, en, rfl⟩ := e1
      clear en
      have hins := (HX.out.ins.bel (hg ▸ HB.out)).get hx
      have ou := lies_one hins.1
      have ov := lies_one hins.2
      have hI1 := HI.out _ hgd
      have hft := HF.out _ hgd
      obtain ⟨y, hy⟩ : ∃ y, y = (findV (X.take k) (X.getD k tv0).t.s.1).getD tv0 := ⟨_, rfl⟩
      have hyu : y.u.oneCell' = true ∧ y.v.oneCell' = true := by
        rw [hy]
        cases hf : findV (X.take k) (X.getD k tv0).t.s.1 with
        | none => exact ⟨rfl, rfl⟩
        | some z =>
          have hz := (HX.out.ins) z (List.mem_of_mem_take (findV_mem hf))
          exact ⟨lies_one hz.1, lies_one hz.2⟩
      have hyv : (mapV (X.take k) (X.getD k tv0).t.s.1).getD (.agg (tvA tv0)) = .agg (tvA y) ∧ (mapV (X.take k) (X.getD k tv0).t.s.1).isSome = (findV (X.take k) (X.getD k tv0).t.s.1).isSome := by
        rw [hy]
        unfold mapV
        cases findV (X.take k) (X.getD k tv0).t.s.1 <;> exact ⟨rfl, rfl⟩
      clear hy
      have bk : (k : Int) < (n : Int) := by omega
      have bz : (0 : Int) ≤ (k : Int) := by omega
      generalize (findV (X.take k) (X.getD k tv0).t.s.1).isSome = tw at *
      generalize hxx : X.getD k tv0 = x at *
      obtain ⟨yu, yv⟩ := hyu
      have s1 : IntKind.i64.wrap ((k : Int) + 1) = (k : Int) + 1 := IntWalk.i64_in _ (by omega)
      have HIN := Lib.hid hins
      have HY := Lib.hid hyv
      have HP := Lib.hid hput
      have HBAD := Lib.hid hbad
      have HGOOD := Lib.hid hgood
      have HI1 := Lib.hid hI1
      have HXX := Lib.hid hx
      clear hins hyv hput hbad hgood hI1 hx hxx hgd
      go_upto_region 7 with (first
        | (refine p_rowT rfl _ rfl b (o + k * 44) rfl x r0 ?_)
        | (refine p_storeT rfl rfl _ _ rfl rfl rfl ou ov ?_))
      (try simp only [Act.put])
      have T1 := TB.new wr x.t.s x.t.p x.u x.v
      have K1 := (Below.refl wr.heap.size wr).alloc (Nat.le_refl _) (.cells (tvA x) 43)
      have M1 := HM.out.alloc (.cells (tvA x) 43)
      clear r0
      generalize hg1 : wr.heap.size = g1 at *
      generalize wr.alloc _ = W1 at *
      have c1 := T1.sA
      have hlook := M1.look Try.underlying58 (HZ.out W1) hft
      rw [HY.out.1, HY.out.2] at hlook
      have HT1 := Lib.hid T1
      have HM1 := Lib.hid M1
      clear T1 M1
      go_upto_region 8 with (first
        | (refine p_storeT rfl rfl _ _ rfl rfl rfl yu yv ?_))
      have K2 := (Below.refl W1.heap.size W1).alloc (Nat.le_refl _) (.cells (tvA y) 43)
      have T2 := HT1.out.bel K2
      have M2 := HM1.out.bel K2
      have B1 := HB.out.trans (K1.mono (by have := HB.out.size; omega))
      have B2 := B1.trans (K2.mono (by have := B1.size; omega))
      have hcall := HI1.out (W1.alloc (.cells (tvA y) 43)) (by rw [hg]; exact B2)
      clear K2 hlook c1 B1
      generalize W1.alloc _ = W2 at *
      generalize W1.heap.size = g2 at *
      cases tw
      · cases hit : it x
        · have HE := Lib.hid (HBAD.out (by rw [hit]; rfl))
          rw [hit] at hcall
          clear HBAD HGOOD
          go_wp2_with (first
            | (go_guarded; refine o_midT _ rfl g1 rfl T2 ?_; simp only [Act.put, List.setIfInBounds_toArray, List.set_cons_succ, List.set_cons_zero])
            | (go_at_call 17; (with_reducible refine hcall.mono ?_); rintro e w3 ⟨rfl, k3⟩; have B3 := B2.trans (k3.mono (by have := B2.size; omega)); clear k3))
          exact bodyPost_ret (results_tt Try.results27 _ _) rfl ⟨.inl ⟨by rw [HE.out]; rfl, rfl⟩, by rw [hg]; exact B3⟩
        · have HE := Lib.hid (HGOOD.out (by rw [hit]; rfl))
          rw [hit] at hcall
          clear HBAD HGOOD
          go_upto_region 10 with (first
            | (go_guarded; refine o_midT _ rfl g1 rfl T2 ?_; simp only [Act.put, List.setIfInBounds_toArray, List.set_cons_succ, List.set_cons_zero])
            | (go_at_call 17; (with_reducible refine hcall.mono ?_); rintro e w3 ⟨rfl, k3⟩; have B3 := B2.trans (k3.mono (by have := B2.size; omega)); have T3 := T2.bel k3; have M3 := M2.bel k3; clear k3))
          obtain ⟨w4, hst, M4, k4⟩ := M3.store Try.underlying58 hft (.agg (tvA x)) (by omega)
          have c3 := T3.sA
          have hno : (mapV (X.take k) x.t.s.1).isSome = false := HY.out.2
          rw [hno, if_neg (by simp)] at M4
          have HM4 := Lib.hid (M4.ext (HP.out trivial))
          have HB4 : Hid (Below g w w4) := ⟨k4.os.trans B3.os, k4.tape.trans B3.tape, k4.output.trans B3.output, Nat.le_trans B3.size k4.size, fun i hi => (k4.block i (by have := B3.size; omega) (by simp; omega)).trans (B3.block i hi)⟩
          clear M4 hno hcall B2
          go_wp2_with (first
            | (refine p_midT rfl _ rfl g1 rfl T3 ?_))
          exact ⟨⟨k + 1, by go_num, by omega, HE.out, HM4.out, HB4.out⟩, by simp [intOf]; omega⟩
      · have HE := Lib.hid (HBAD.out rfl)
        clear HBAD HGOOD
        go_wp2
        exact bodyPost_ret (results_tt Try.results27 _ _) rfl ⟨.inl ⟨by rw [HE.out]; rfl, rfl⟩, by rw [hg]; exact B2⟩
    · obtain rfl : k = n := by omega
      have HE := Lib.hid HOK.out
      have e9 : X.take k = X := List.take_of_length_le (by have := HN.out; omega)
      have HM9 := Lib.hid (e9 ▸ HM.out)
      clear e9
      go_wp2
      exact bodyPost_ret (results_tt Try.results27 _ _) rfl ⟨.inr ⟨by rw [HE.out]; rfl, g, rfl, by rw [← HN.out]; exact HM9.out, by rw [hg]; exact Nat.le_refl _⟩, by rw [hg]; exact HB.out⟩
theorem byAddr_any {w : World} {v : Value} {X : List Tv} (hX : LiesT w v X) (hS : ∀ x ∈ X, x.t.S.length ≤ 1000000 ∧ x.t.F.length ≤ 1000000) (hfit : ∀ x ∈ X, Fit x.t.s.1) (hn : X.length ≤ 1000000) :
    Calls Try.prog 27 #[v] w fun e w' => ByP w.heap.size X (rgtT (tabsOf X)) e w' ∧ Below w.heap.size w w' := by
  have h := byAddr_core (fun x => tbB x.t) hX (fun x hx => fun _ hb => is_any ((hX.ins x hx).1.bel hb) ((hX.ins x hx).2.bel hb) (hS x hx).1 (hS x hx).2) hfit hn
  have e : (decide (X.length ≤ 16) && okV (fun x => tbB x.t) X X.length) = rgtT (tabsOf X) := by
    unfold rgtT
    rw [tabsOf_length, okV_T X _ (Nat.le_refl _)]
  rw [e] at h
  exact h
end Go.Proofs.Ytfajfmcabpmchaa
