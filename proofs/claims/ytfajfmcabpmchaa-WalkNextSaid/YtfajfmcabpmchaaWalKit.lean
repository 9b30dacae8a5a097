/- Routes and tables that are the same; tables that are too large; a peer's place by its address; rows of tables among the arguments. -/
import Derived.Test.YtfajfmcabpmchaaWalRow
import Derived.Test.YtfajfmcabpmchaaWalAny
import Derived.Test.YtfajfmcabpmchaaTabOpen
namespace Go.Proofs.Ytfajfmcabpmchaa
set_option maxRecDepth 100000
open Go Go.RowKit Go.Sort

set_option maxHeartbeats 1000000 in
theorem ints_self {w : World} {u v : Value} {A : List Int} (hA : Nums w u A) (hB : Nums w v A) (hl : A.length ≤ 1000000) :
    Calls Try.prog 33 #[u, v] w fun e w' => e = .returned (.bool true) ∧ Below w.heap.size w w' := by
  obtain ⟨n, hn⟩ : ∃ n, n = A.length := ⟨_, rfl⟩
  have HN := Lib.hid hn
  by_cases h0 : 0 < A.length
  · obtain ⟨b1, o1, c1, rfl, r1, l1⟩ := hA.some h0
    obtain ⟨b2, o2, c2, rfl, r2, l2⟩ := hB.some h0
    have HA := Lib.hid r1
    have HB := Lib.hid r2
    rw [← hn] at hl h0 ⊢
    clear hA hB hn r1 r2
    go_enter Try.func33, Try.ntmps33
    go_wp2
    go_loopw [5] (fun kv wr => ∃ p : Nat, p ≤ n ∧ kv = .int .i64 p ∧ Below w.heap.size w wr) (fun kv _ => n - (intOf kv).toNat)
    case atStart => exact ⟨0, by omega, rfl, Below.refl _ _⟩
    case round =>
      obtain ⟨p, hp, rfl, hBe⟩ := hrel
      have HBe := Lib.hid hBe
      clear hBe
      by_cases hlt : p < n
      · have d1 : wr.cell? ⟨b1, o1 + p, none⟩ = some (.int .i64 (A.getD p 0)) := nums_cell (range_bel HA.out HBe.out l1) (by have := HN.out; omega)
        have d2 : wr.cell? ⟨b2, o2 + p, none⟩ = some (.int .i64 (A.getD p 0)) := nums_cell (range_bel HB.out HBe.out l2) (by have := HN.out; omega)
        have HB2 := Lib.hid (step HBe.out (drew_bel wr))
        generalize A.getD p 0 = x at *
        go_wp2
        go_region
        go_wp2
        exact ⟨⟨p + 1, by omega, by go_num, HB2.out⟩, by simp [intOf]; omega⟩
      · obtain rfl : n = p := by omega
        go_wp2
        go_ret
        exact ⟨rfl, HBe.out⟩
  · obtain ⟨ua, uc, rfl⟩ := hA.form
    obtain ⟨va, vc, rfl⟩ := hB.form
    have hz : A.length = 0 := by omega
    rw [hz]
    go_enter Try.func33, Try.ntmps33
    go_wp2
    refine wp_loop_rounds 1 ?_
    rw [rounds_succ]
    go_wp2
    go_ret
    exact ⟨rfl, Below.refl _ _⟩


/-- two routes in blocks of their own -/
structure TwoR (w W : World) (h : Value) (e : Pe) (h' : Value) (e' : Pe) : Prop where
  bel : Below w.heap.size w W
  q : RB W w.heap.size h e
  q' : RB W (w.heap.size + 1) h' e'
theorem TwoR.made (w : World) (h : Value) (e : Pe) (h' : Value) (e' : Pe) : TwoR w ((w.alloc (.cells (rtA h e) 30)).alloc (.cells (rtA h' e') 30)) h e h' e' := by
  refine ⟨((Below.refl w.heap.size w).alloc (Nat.le_refl _) _).alloc (by simp) _, Blk.alloc (Blk.new ..) _, ?_⟩
  have := RB.new (w.alloc (.cells (rtA h e) 30)) h' e'
  rwa [World.size_alloc] at this
set_option maxHeartbeats 2000000 in
theorem same_route {w : World} {h h' : Value} {A : List Int} (e : Pe) (h1 : Nums w h A) (h2 : Nums w h' A) (hl : A.length ≤ 1000000) :
    Calls Try.prog 13 #[.agg (rtA h e), .agg (rtA h' e)] w fun r w' => r = .returned (.bool true) ∧ Below w.heap.size w w' := by
  have HX := TwoR.made w h e h' e
  have HI : Hid (∀ W, Below w.heap.size w W → Calls Try.prog 33 #[h, h'] W fun r w' => r = .returned (.bool true) ∧ Below W.heap.size W w') := fun W hb => ints_self (h1.bel hb) (h2.bel hb) hl
  obtain ⟨ua, uc, rfl⟩ := h1.form
  obtain ⟨va, vc, rfl⟩ := h2.form
  have es := eqP_self e
  clear h1 h2 hl
  go_enter Try.func13, Try.ntmps13
  go_upto_region 1 with (fail)
  generalize (w.alloc _).alloc _ = W at *
  generalize hg : w.heap.size = g at *
  have Q1 := HX.q
  have Q2 := HX.q'
  have B0 := HX.bel
  rw [hg] at Q1 Q2 B0
  clear HX
  have c1 := Q1.ch
  have c2 := Q2.ch
  go_wp2_with (first
    | (go_at_call 33; (with_reducible refine (HI.out _ (by with_reducible exact B0)).mono ?_); rintro r w1 ⟨rfl, k1⟩; have B1 := belTo hg B0 k1; have p1 := (Q1.bel k1).pe; have p2 := (Q2.bel k1).pe; clear k1)
    | (go_guarded; refine o_midP _ rfl g 1 rfl e p1 ?_; simp only [Act.put, List.setIfInBounds_toArray, List.set_cons_succ, List.set_cons_zero])
    | (go_guarded; refine o_midP _ rfl (g + 1) 1 rfl e p2 ?_; simp only [Act.put, List.setIfInBounds_toArray, List.set_cons_succ, List.set_cons_zero])
    | (go_guarded; refine o_eqlP _ _ rfl e e rfl rfl es ?_; simp only [Act.put, List.setIfInBounds_toArray, List.set_cons_succ, List.set_cons_zero]))
  go_ret
  exact ⟨rfl, by (try rw [hg]); exact B1⟩
set_option maxHeartbeats 2000000 in
theorem tables_self {w : World} {u v : Value} {X Y : List Tv} (hX : LiesT w u X) (hY : LiesT w v Y) (hxy : tabsOf X = tabsOf Y) (hl : X.length ≤ 1000000) (hs : ∀ x ∈ X, x.t.S.length ≤ 1000000 ∧ x.t.F.length ≤ 1000000) :
    Calls Try.prog 16 #[u, v] w fun r w' => r = .returned (.bool true) ∧ Below w.heap.size w w' := by
  have hly : Y.length = X.length := by rw [← tabsOf_length, ← tabsOf_length, hxy]
  obtain ⟨ua, uc, rfl⟩ := hX.form
  obtain ⟨va, vc, rfl⟩ := hY.form
  have HX := Lib.hid hX
  have HY := Lib.hid hY
  have HXY := Lib.hid hxy
  have HSZ := Lib.hid hs
  rw [hly] at HY ⊢
  obtain ⟨n, hn⟩ : ∃ n, n = X.length := ⟨_, rfl⟩
  have HLY : Hid (Y.length = n) := by rw [hn]; exact hly
  rw [← hn] at HX HY hl ⊢
  have HN := Lib.hid hn
  clear hly hn hX hY hxy hs
  generalize hg : w.heap.size = g at *
  go_enter Try.func16, Try.ntmps16
  go_upto_region 4 with (fail)
  go_loopw [5] (fun i wr => ∃ k : Nat, i = .int .i64 (k : Int) ∧ k ≤ n ∧ Below g w wr) (fun i _ => n - (intOf i).toNat)
  case atStart => exact ⟨0, rfl, Nat.zero_le _, Below.refl _ _⟩
  case round =>
    obtain ⟨k, rfl, hk, hB⟩ := hrel
    have HB := Lib.hid hB
    by_cases hlt : k < n
    · have hx := tab_at (X := X) (k := k) (by have := HN.out; omega)
      have hy := tab_at (X := Y) (k := k) (by have := HLY.out; omega)
      have hXr := HX.out.bel (hg ▸ hB)
      have hYr := HY.out.bel (hg ▸ hB)
      have ht : (X.getD k tv0).t = (Y.getD k tv0).t := by
        have h1 := tabsOf_getD hx
        have h2 := tabsOf_getD hy
        rw [HXY.out] at h1
        rw [← h1, h2]
      obtain ⟨b1, o1, c1, e1, hc1, r1, l1⟩ := hXr.at hx
      obtain ⟨b2, o2, c2, e2, hc2, r2, l2⟩ := hYr.at hy
      simp only [Value.slice.injEq] at e1 e2
      obtain ⟨rfl, en1, rfl⟩ := e1
      obtain ⟨rfl, en2, rfl⟩ := e2
      have hi1 := hXr.ins.get hx
      have hi2 := hYr.ins.get hy
      have hsz := HSZ.out _ (List.mem_of_getElem? hx)
      clear en1 en2 hx hy hXr hYr hB hc1 hc2
      generalize hxx : X.getD k tv0 = x at *
      generalize hyy : Y.getD k tv0 = y at *
      clear hxx hyy
      obtain ⟨tx, ux, vx⟩ := x
      obtain ⟨ty, uy, vy⟩ := y
      obtain rfl : tx = ty := ht
      have HS : GivesW wr 39 #[.agg (tabA tx.s tx.p ux vx), .agg (tabA tx.s tx.p uy vy)] (.bool true) := fun wx hb => same_tab (hi1.1.bel hb) (hi1.2.bel hb) (hi2.1.bel hb) (hi2.2.bel hb) hsz.1 hsz.2
      have bk : (k : Int) < (n : Int) := by omega
      have bz : (0 : Int) ≤ (k : Int) := by omega
      have s1 : IntKind.i64.wrap ((k : Int) + 1) = (k : Int) + 1 := IntWalk.i64_in _ (by omega)
      have HS2 := Lib.hid HS
      clear HS hi1 hi2 hsz l1 l2
      go_upto_region 6 with (fail)
      refine wp_region_quiet_below (by kernel_rfl) (by kernel_rfl) ?_
      repeat (first
        | go_big_quiet_skip
        | (go_big_quiet_want
           first
           | (first | (refine q_rowT _ rfl b1 (o1 + k * 44) rfl ⟨tx, ux, vx⟩ r1 ?_) | (refine q_rowT _ rfl b2 (o2 + k * 44) rfl ⟨tx, uy, vy⟩ r2 ?_)
              simp only [Act.put, List.setIfInBounds_toArray, List.set_cons_succ, List.set_cons_zero]
              go_big_quiet_on)
           | (go_big_quiet_op
              first | go_big_quiet_on | go_big_quiet_call (with_reducible exact HS2.out.grown _ _))))
      refine wpQuiet_nil ?_
      intro w2 hw'
      have hb2 := quiet_end hw'
      clear hw'
      have HB2 := Lib.hid (belTo hg HB.out hb2)
      clear hb2
      go_wp2
      exact ⟨⟨k + 1, by go_num, by omega, HB2.out⟩, by simp [intOf]; omega⟩
    · obtain rfl : k = n := by omega
      clear hB
      go_wp2
      go_ret
      exact ⟨rfl, by (try rw [hg]); exact HB.out⟩
/-- are tables too large -/
def bigX (X : List Tv) : Bool := decide (20 < X.length) || X.any fun x => bigB x.t.S x.t.F
theorem bigX_no {X : List Tv} (h : bigX X = false) : Smal X := by
  unfold bigX at h
  rw [Bool.or_eq_false_iff, decide_eq_false_iff_not, List.any_eq_false] at h
  refine ⟨by omega, fun x hx => ?_⟩
  have := h.2 x hx
  unfold bigB at this
  rw [Bool.or_eq_true, decide_eq_true_eq, decide_eq_true_eq] at this
  omega
set_option maxHeartbeats 2000000 in
theorem bigX_any {w : World} {v : Value} {X : List Tv} (hX : LiesT w v X) : Calls Try.prog 9 #[v] w fun e w' => e = .returned (.bool (bigX X)) ∧ Below w.heap.size w w' := by
  obtain ⟨av, cv, rfl⟩ := hX.form
  have HX := Lib.hid hX
  obtain ⟨n, hn⟩ : ∃ n, n = X.length := ⟨_, rfl⟩
  rw [← hn] at HX ⊢
  have HN := Lib.hid hn
  clear hn hX
  generalize hg : w.heap.size = g at *
  generalize hbx : bigX X = bx
  have HBX := Lib.hid hbx
  clear hbx
  by_cases h20 : n ≤ 20
  rotate_left
  · have b1 : ¬ (n : Int) ≤ 20 := by omega
    have b2 : decide ((n : Int) ≤ 20) = false := decide_eq_false b1
    have b3 : (0 : Int) < (n : Int) := by omega
    have b4 : (20 : Int) < (n : Int) := by omega
    have b5 : decide ((20 : Int) < (n : Int)) = true := decide_eq_true b4
    have b6 : decide ((0 : Int) < (n : Int)) = true := decide_eq_true b3
    have e1 : bx = true := by rw [← HBX.out]; unfold bigX; rw [decide_eq_true (by rw [← HN.out]; omega)]; rfl
    subst e1
    clear HBX h20
    go_enter Try.func9, Try.ntmps9
    go_upto_region 2 with (fail)
    refine wp_loop_rounds 1 ?_
    rw [rounds_succ]
    go_wp2
    go_ret
    exact ⟨rfl, by (try rw [hg]); exact Below.refl _ _⟩
  have hl : n ≤ 1000000 := by omega
  have b1 : (n : Int) ≤ 20 := by omega
  have b2 : decide ((n : Int) ≤ 20) = true := decide_eq_true b1
  have b4 : ¬ (20 : Int) < (n : Int) := by omega
  have b5 : decide ((20 : Int) < (n : Int)) = false := decide_eq_false b4
  go_enter Try.func9, Try.ntmps9
  go_upto_region 2 with (fail)
  go_loopw [3] (fun i wr => ∃ k : Nat, i = .int .i64 (k : Int) ∧ k ≤ n ∧ Hid (∀ (j : Nat) (y : Tv), j < k → X[j]? = some y → bigB y.t.S y.t.F = false) ∧ Below g w wr) (fun i _ => n - (intOf i).toNat)
  case atStart => exact ⟨0, rfl, Nat.zero_le _, fun j y hj => absurd hj (Nat.not_lt_zero _), Below.refl _ _⟩
  case round =>
    obtain ⟨k, rfl, hk, HNO, hB⟩ := hrel
    have HB := Lib.hid hB
    by_cases hlt : k < n
    · have hx := tab_at (X := X) (k := k) (by have := HN.out; omega)
      have hXr := HX.out.bel (hg ▸ hB)
      obtain ⟨b, o, c, e1, hc1, r1, l1⟩ := hXr.at hx
      simp only [Value.slice.injEq] at e1
      obtain ⟨rfl, en1, rfl⟩ := e1
      have hi1 := hXr.ins.get hx
      have HXX := Lib.hid hx
      have bk : (k : Int) < (n : Int) := by omega
      have bk2 : decide ((k : Int) < (n : Int)) = true := decide_eq_true bk
      have bz : (0 : Int) ≤ (k : Int) := by omega
      have s1 : IntKind.i64.wrap ((k : Int) + 1) = (k : Int) + 1 := IntWalk.i64_in _ (by omega)
      clear en1 hx hXr hB hc1
      generalize X.getD k tv0 = x at *
      have hcall := big_any (s := x.t.s) (p := x.t.p) hi1.1 hi1.2
      cases hbg : bigB x.t.S x.t.F
      · rw [hbg] at hcall
        have HNO2 : Hid (∀ (j : Nat) (y : Tv), j < k + 1 → X[j]? = some y → bigB y.t.S y.t.F = false) := fun j y hj hy => by
          rcases Nat.lt_or_ge j k with h | h
          · exact HNO.out j y h hy
          · obtain rfl : j = k := by omega
            rw [HXX.out, Option.some.injEq] at hy
            rw [← hy]; exact hbg
        clear hi1 hbg HNO
        go_wp2_with (first
          | (refine p_rowT rfl _ rfl b (o + k * 44) rfl x r1 ?_)
          | (go_at_call 26; (with_reducible refine hcall.mono ?_); rintro e w3 ⟨rfl, k3⟩; have HB3 := Lib.hid (belTo hg HB.out k3); clear k3))
        exact ⟨⟨k + 1, by go_num, by omega, HNO2, HB3.out⟩, by simp [intOf]; omega⟩
      · rw [hbg] at hcall
        have e1 : bx = true := by
          rw [← HBX.out]; unfold bigX
          rw [Bool.or_eq_true]
          exact .inr (List.any_eq_true.2 ⟨x, List.mem_of_getElem? HXX.out, hbg⟩)
        subst e1
        clear hi1 hbg HNO HBX
        go_wp2_with (first
          | (refine p_rowT rfl _ rfl b (o + k * 44) rfl x r1 ?_)
          | (go_at_call 26; (with_reducible refine hcall.mono ?_); rintro e w3 ⟨rfl, k3⟩; have HB3 := Lib.hid (belTo hg HB.out k3); clear k3))
        go_ret
        exact ⟨rfl, by (try rw [hg]); exact HB3.out⟩
    · obtain rfl : k = n := by omega
      have bk2 : decide ((k : Int) < (k : Int)) = false := decide_eq_false (by omega)
      have e1 : bx = false := by
        rw [← HBX.out]; unfold bigX
        rw [Bool.or_eq_false_iff, decide_eq_false_iff_not, List.any_eq_false]
        refine ⟨by rw [← HN.out]; omega, fun x hx => ?_⟩
        obtain ⟨j, hj⟩ := List.getElem?_of_mem hx
        rw [HNO.out j x (by have := (List.getElem?_eq_some_iff.1 hj).1; have := HN.out; omega) hj]; simp
      subst e1
      clear hB HNO HBX
      go_wp2
      go_ret
      exact ⟨rfl, by (try rw [hg]); exact HB.out⟩
/-! a peer's place by its address -/
theorem results_I2 {fn : Func} {c t : Tmp} (h : fn.results = #[.cell c 24, .tmp t]) (tmps : Array Value) (w : World) (g n : Nat) (x : Value)
    (hp : tmps.getD c undef = .pointer (some ⟨g, 0, none⟩)) (hx : tmps.getD t undef = x) (hg : At w g n) : (results fn tmps).run Try.prog w = .ok (.tuple #[idv n, x]) w := by
  have hp' : tmps[c]?.getD undef = .pointer (some ⟨g, 0, none⟩) := by simpa using hp
  have hx' : tmps[t]?.getD undef = x := by simpa using hx
  simp [results, h, hp', hx', asAddr, run_loadVar_row w g 24 24 (row (dig 20 n)) (0, 0) _ hg Try.underlying24 rfl (by rw [row_size, dig_length]; exact sizeId20)]
  rfl
set_option maxHeartbeats 2000000 in
theorem where_yes {w : World} {v : Value} {L : List Pe} (q : Nat) (hL : Lies w v L) (hC : Circ L) (hq : q < L.length) :
    Calls Try.prog 20 #[v, .int .i64 (ad L q)] w fun e w' => e = .returned (.tuple #[idv (pn L q), .bool true]) ∧ Below w.heap.size w w' := by
  obtain ⟨b, o, c, rfl, hc, hrg, hlb⟩ := hL.some (by omega)
  have hinj : ∀ j, j < L.length → ad L j = ad L q → j = q := fun j hj h => ad_inj hC hj hq h
  have hn16 := hC.1
  obtain ⟨n, hn⟩ : ∃ n, n = L.length := ⟨_, rfl⟩
  rw [← hn] at hn16 hinj hq hc ⊢
  have HINJ := Lib.hid hinj
  have HRG := Lib.hid hrg
  have HN := Lib.hid hn
  have B0 := (Below.refl w.heap.size w).alloc (Nat.le_refl _) (.cells (row (dig 20 0)) 24)
  have I0 := At.new w 0
  clear hn hrg hL hC hinj
  go_enter Try.func20, Try.ntmps20
  go_upto_region 1 with (fail)
  rw [row_zero]
  generalize w.alloc _ = W at *
  generalize hg : w.heap.size = g at *
  go_upto_region 2 with (fail)
  go_loopw [6] (fun i wr => ∃ k : Nat, i = .int .i64 (k : Int) ∧ k ≤ q ∧ wr = W) (fun i _ => n - (intOf i).toNat)
  case atStart => exact ⟨0, rfl, Nat.zero_le _, rfl⟩
  case round =>
    obtain ⟨k, rfl, hk, rfl⟩ := hrel
    have hx : L[k]? = some (L.getD k (0, 0)) := getD_at (by rw [← HN.out]; omega)
    have rp := range_bel (row_peer HRG.out hx) B0 hlb
    have c1 : wr.cell? ⟨b, o + k * 21, none⟩ = some (.int .i64 (ad L k)) := pe_ad rp
    have r2 : wr.rangeAt b (o + k * 21 + 1) (row (dig 20 (pn L k))).toList := pe_id rp
    have bk : (k : Int) < (n : Int) := by omega
    have bz : (0 : Int) ≤ (k : Int) := by omega
    have s1 : IntKind.i64.wrap ((k : Int) + 1) = (k : Int) + 1 := IntWalk.i64_in _ (by omega)
    clear hx rp
    by_cases he : k = q
    · subst he
      have hb : (ad L k == ad L k) = true := by simp
      generalize ad L k = a at *
      generalize hpq : pn L k = pq at *
      have HPQ := Lib.hid hpq
      clear hpq
      go_wp2_with (first
        | (refine p_midI rfl _ rfl b (o + k * 21 + 1) rfl pq r2 ?_)
        | (refine wpList_store_row rfl 24 _ _ rfl g (row (dig 20 pq)) rfl rfl 24 (row (dig 20 0)) I0 (by rw [row_size, dig_length]; exact sizeId20) (by rw [row_size, row_size, dig_length, dig_length]) (row_one _) ?_))
      exact bodyPost_ret (results_I2 Try.results20 _ _ g pq _ rfl rfl (Blk.setRow I0 _)) rfl ⟨by rw [HPQ.out]; rfl, by (try rw [hg]); exact bel_setRow B0 (Nat.le_refl _) _⟩
    · have hb : (ad L k == ad L q) = false := by simpa using fun h => he (HINJ.out k (by omega) h)
      generalize ad L k = a at *
      generalize ad L q = a2 at *
      go_wp2
      exact ⟨⟨k + 1, by go_num, by omega, trivial⟩, by simp [intOf]; omega⟩
end Go.Proofs.Ytfajfmcabpmchaa

namespace Go.Proofs.Ytfajfmcabpmchaa
set_option maxRecDepth 100000
open Go Go.ChangeShapes Go.WideShapes Go.ChangeAt Go.RowKit Go.Sort

theorem peers_one {H : Type} {enc : TypeId × Value → H} {W : World} {c0 : Value} {n : Nat} {D : DataW H} {Pl : List MemPlace} (h : DataW.trod enc Try.prog W 0 (fun _ => true) true n 37 [c0] = some (D, Pl)) : ∃ l, Lies W c0 l := by
  have hc : Try.prog.cellsOf 28 = 21 := by kernel_rfl
  rcases Deep.open_slice Try.underlying37 h with ⟨hcs, _⟩ | ⟨a, len, cap, m, n', D', Pl', hcs, _, hlc, hcm, hm, hx, hel⟩
  · rw [List.cons.injEq] at hcs
    exact ⟨[], .inl ⟨⟨_, hcs.1⟩, rfl⟩⟩
  · rw [List.cons.injEq] at hcs
    obtain rfl := hcs.1
    rw [if_pos rfl] at hm
    subst hm
    rw [hc] at hel
    rcases Nat.eq_zero_or_pos m with h0 | h0
    · subst h0
      obtain rfl : len = 0 := by omega
      exact ⟨[], .inl ⟨⟨_, rfl⟩, rfl⟩⟩
    · have hsp : a.spot = none := by
        obtain ⟨cs, g1, _⟩ := hel 0 h0
        obtain ⟨_, _, gc⟩ := World.cells?_some g1
        have := gc 0 (by omega)
        cases hcs : cs[0]? with
        | none =>
          obtain ⟨_, gl, _⟩ := World.cells?_some g1
          rw [List.getElem?_eq_none_iff] at hcs
          omega
        | some v0 =>
          rw [hcs] at this
          have := World.cell?_spot this
          simpa [Addr.add] using this
      have each : ∀ i, i < len → ∃ x : Pe, W.cells? 0 (a.add (i * 21)) 21 = some (peC x) := by
        intro i hi
        obtain ⟨cs, g1, g2⟩ := hel i (by omega)
        obtain ⟨x, rfl, _⟩ := peer_one (World.cells?_some g1).2.1 g2
        exact ⟨x, g1⟩
      obtain ⟨S, hS⟩ := Deep.choose_lt (α := Pe) each
      obtain ⟨b, o, sp⟩ := a
      obtain rfl : sp = none := hsp
      refine ⟨(List.range len).map S, .inr ⟨b, o, m, by simp, by simpa using hlc, range_flat _ _ fun j s hj => ?_⟩⟩
      simp only [List.getElem?_map, Option.map_eq_some_iff] at hj
      obtain ⟨i, hi, rfl⟩ := hj
      obtain ⟨hjl, hij⟩ := List.getElem?_eq_some_iff.1 hi
      rw [List.getElem_range] at hij
      rw [List.length_range] at hjl
      subst hij
      obtain ⟨_, gl, gc⟩ := World.cells?_some (hS j hjl)
      intro k u hk
      have hkc : k < 21 := by have := (List.getElem?_eq_some_iff.1 hk).1; rwa [peC_length] at this
      have := gc k hkc
      rw [hk, Addr.add_mid, Addr.add_mid] at this
      exact this
theorem peer_fit {H : Type} {enc : TypeId × Value → H} {W : World} {cs : List Value} {n : Nat} {D : DataW H} {Pl : List MemPlace} (hlen : cs.length = 21) (h : DataW.trod enc Try.prog W 0 (fun _ => true) true n 28 cs = some (D, Pl)) :
    ∃ x : Pe, cs = peC x ∧ Fit x.1 := by
  obtain ⟨xs, m, _, _, _, hl, hf⟩ := DataW.trod_struct Try.underlying28 h
  have e1 : Try.prog.cellsOf 3 = 1 := by kernel_rfl
  have hl2 : xs.length = 2 := hl
  match cs, hlen, xs, hl2 with
  | c0 :: r, hlen, [y0, y1], _ =>
    have t0 : DataW.trod enc Try.prog W 0 (fun _ => true) true m 3 (List.take (Try.prog.cellsOf 3) (c0 :: r)) = some y0 := hf 0 _ rfl
    have t1 : DataW.trod enc Try.prog W 0 (fun _ => true) true m 24 (List.take (Try.prog.cellsOf 24) r) = some y1 := hf 1 _ rfl
    rw [e1] at t0
    have hr : r.length = 20 := by simpa using hlen
    rw [cells23, List.take_of_length_le (by omega)] at t1
    obtain ⟨n0, h0, _, hw⟩ := DataW.trod_int Try.underlying3 t0
    obtain ⟨k, hk, rfl⟩ := id_cells hr t1
    simp only [List.take_succ_cons, List.take_zero, List.cons.injEq, and_true] at h0
    subst h0
    exact ⟨(n0, k), rfl, hw⟩
theorem tab_one {H : Type} {enc : TypeId × Value → H} {W : World} {L : List Value} {n : Nat} {D : DataW H} {Pl : List MemPlace} (hl : L.length = 44) (h : DataW.trod enc Try.prog W 0 (fun _ => true) true n 43 L = some (D, Pl)) :
    ∃ x : Tv, L = tvC x ∧ ((Lies W x.u x.t.S ∧ Lies W x.v x.t.F) ∧ Fit x.t.s.1) := by
  have e21 : Try.prog.cellsOf 28 = 21 := by kernel_rfl
  have e1 : Try.prog.cellsOf 37 = 1 := by kernel_rfl
  obtain ⟨xs, m, _, _, _, hxl, hf⟩ := DataW.trod_struct Try.underlying43 h
  have hl4 : xs.length = 4 := hxl
  match xs, hl4 with
  | [y0, y1, y2, y3], _ =>
    have t0 : DataW.trod enc Try.prog W 0 (fun _ => true) true m 28 (List.take (Try.prog.cellsOf 28) (List.drop 0 L)) = some y0 := hf 0 _ rfl
    have t1 : DataW.trod enc Try.prog W 0 (fun _ => true) true m 28 (List.take (Try.prog.cellsOf 28) (List.drop 21 L)) = some y1 := hf 1 _ rfl
    have t2 : DataW.trod enc Try.prog W 0 (fun _ => true) true m 37 (List.take (Try.prog.cellsOf 37) (List.drop 42 L)) = some y2 := hf 2 _ rfl
    have t3 : DataW.trod enc Try.prog W 0 (fun _ => true) true m 37 (List.take (Try.prog.cellsOf 37) (List.drop 43 L)) = some y3 := hf 3 _ rfl
    rw [e21, List.drop_zero] at t0
    rw [e21] at t1
    rw [e1, List.drop_eq_getElem_cons (by omega), List.take_succ_cons, List.take_zero] at t2 t3
    obtain ⟨s, hs, hsf⟩ := peer_fit (by rw [List.length_take]; omega) t0
    obtain ⟨q, hq, _⟩ := peer_one (by rw [List.length_take, List.length_drop]; omega) t1
    obtain ⟨S, hS⟩ := peers_one t2
    obtain ⟨F, hF⟩ := peers_one t3
    refine ⟨⟨⟨s, q, S, F⟩, L[42]'(by omega), L[43]'(by omega)⟩, ?_, ⟨hS, hF⟩, hsf⟩
    show L = peC s ++ (peC q ++ [L[42]'(by omega), L[43]'(by omega)])
    rw [← hs, ← hq]
    have h1 : L.drop 42 = [L[42]'(by omega), L[43]'(by omega)] := by
      rw [List.drop_eq_getElem_cons (by omega), List.drop_eq_getElem_cons (by omega), List.drop_of_length_le (by omega)]
    rw [← h1, show L.drop 42 = (L.drop 21).drop 21 by rw [List.drop_drop], List.take_append_drop, List.take_append_drop]
theorem range_flatV {w : World} {b : Nat} : ∀ (l : List Tv) (o : Nat), (∀ (i : Nat) x, l[i]? = some x → w.rangeAt b (o + i * 44) (tvC x)) → w.rangeAt b o (flatV l)
  | [], o, _ => fun j v hj => by simp [flatV] at hj
  | x :: l, o, h => fun j v hj => by
    have h0 := h 0 x rfl
    rcases Nat.lt_or_ge j 44 with h1 | h1
    · rw [flatV, List.getElem?_append_left (by rw [tabC_length]; exact h1)] at hj
      have := h0 j v hj
      rwa [Nat.zero_mul, Nat.add_zero] at this
    · rw [flatV, List.getElem?_append_right (by rw [tabC_length]; exact h1), tabC_length] at hj
      have := range_flatV l (o + 44) (fun i y hy => by
        have := h (i + 1) y hy
        rwa [show o + (i + 1) * 44 = o + 44 + i * 44 by omega] at this) (j - 44) v hj
      rwa [show o + 44 + (j - 44) = o + j by omega] at this
/-- tables among the arguments -/
theorem open_tabs {H : Type} {enc : TypeId × Value → H} {W : World} {r : Reach} {base : Nat} {v : Value} {d : DataW H} {p : List MemPlace} (hv : Value.okWide Try.prog W r base 22 v)
    (h : DataW.Trod enc Try.prog W 0 (fun _ => true) true 22 v d p) : ∃ X : List Tv, LiesT W v X ∧ ∀ x ∈ X, Fit x.t.s.1 := by
  haveI : Inhabited Tv := ⟨tv0⟩
  obtain ⟨l, hl⟩ := open_row (α := Tv) 22 43 44 (fun x => tvC x) (fun x => (Lies W x.u x.t.S ∧ Lies W x.v x.t.F) ∧ Fit x.t.s.1) Try.underlying22 (by kernel_rfl) (fun cs n D Pl hlen h => tab_one hlen h) (fun x => tabC_length _ _ _ _) hv h
  refine ⟨l, ?_⟩
  rcases hl with ⟨rfl, rfl⟩ | ⟨b, o, cap, rfl, hc, hj⟩
  · exact ⟨⟨.inl ⟨⟨_, rfl⟩, rfl⟩, fun x hx => (by cases hx)⟩, fun x hx => (by cases hx)⟩
  · refine ⟨⟨.inr ⟨b, o, cap, rfl, hc, range_flatV l o fun i x hx => (hj i x hx).1⟩, fun x hx => ?_⟩, fun x hx => ?_⟩
    · obtain ⟨i, hi, rfl⟩ := List.getElem_of_mem hx
      exact (hj i _ (List.getElem?_eq_getElem hi)).2.1
    · obtain ⟨i, hi, rfl⟩ := List.getElem_of_mem hx
      exact (hj i _ (List.getElem?_eq_getElem hi)).2.2
end Go.Proofs.Ytfajfmcabpmchaa
