/- The fingers of a peer. -/
import Derived.Test.YtmlejcfnnjnggaaDoorCirArc
import Derived.Test.YtmlejcfnnjnggaaDoorPow
namespace Go.Proofs.YtmlejcfnnjnggaaDoor
set_option maxRecDepth 100000
open Go Go.RowKit Go.Sort

def fingN (L : List Pe) (i k : Nat) : List Int := (List.range k).map fun m => ((ownN L ((pn L i + 2 ^ m) % M) : Nat) : Int)
theorem fingN_len (L : List Pe) (i k : Nat) : (fingN L i k).length = k := by unfold fingN; simp
theorem fingN_succ (L : List Pe) (i k : Nat) : fingN L i (k + 1) = fingN L i k ++ [((ownN L ((pn L i + 2 ^ k) % M) : Nat) : Int)] := by unfold fingN; rw [List.range_succ, List.map_append]; rfl
theorem own_form {w : World} {B e size n : Nat} {v : Value} {xs : List Value} (h : w.ownsRow B e size v n xs) : ∃ a c, v = .slice a n c := by
  rcases h.2 with ⟨h1, rfl⟩ | ⟨g, cap, cur, hv, _⟩
  · exact ⟨_, _, h1⟩
  · exact ⟨_, _, hv⟩
/-- one more number behind a row of the call's own -/
theorem app_int {W : World} {B n : Nat} {v : Value} {l : List Int} (h : W.ownsRow B 3 1 v n (ints l)) (x : Int) (hB : B ≤ W.heap.size) (hn : n ≤ 1000000) : ∃ v' w',
    (Builtin.append_ #[22, 22] 22 #[v, .slice (some ⟨W.heap.size, 0, none⟩) 1 1]).run Tryd.prog (W.alloc (.cells #[.int .i64 x] 3)) = .ok v' w' ∧
    w'.ownsRow B 3 1 v' (n + 1) (ints (l ++ [x])) ∧ (W.alloc (.cells #[.int .i64 x] 3)).grownBy w' v.ownBlock := by
  obtain ⟨i0, hi, hq⟩ := Option.map_eq_some_iff.1 infoN
  simp only [Prod.mk.injEq] at hq
  obtain ⟨q1, q2, q3⟩ := hq
  have hb := Blk.new W #[.int .i64 x] 3
  obtain ⟨v', w', hr, h2, h3, _, h5⟩ := run_append_own_at (P := Tryd.prog) (W.alloc (.cells #[.int .i64 x] 3)) B 22 22 3 i0 _ 1 8 Tryd.underlying22 hi q1 q2 q3 rfl (by omega) v n (ints l) (h.alloc _) ⟨W.heap.size, 0, none⟩ 1 1 (ints [x]) rfl
    (fun j u hj => by
      rw [Addr.add_mid, Nat.zero_add, hb.cell]
      simpa [ints] using hj) (fun u hu => by simp [ints] at hu; subst hu; rfl) (by unfold maxLen; omega) (by omega) (by simp; omega)
  refine ⟨v', w', hr, ?_, h3⟩
  rw [← ints_snoc]
  exact h2
theorem o_app {o : Oper} {a : Act} {w w' : World} {K : Act → World → Prop} {Q : Exit → Act → World → Prop} (s x : Operand)
    (ho : o.op = .call { callee := .builtin .append, args := #[s, x], argTypes := #[22, 22] }) (ht : o.type = 22) (v v' u : Value) (hs : a.eval s = v) (hx : a.eval x = u)
    (hr : (Builtin.append_ #[22, 22] 22 #[v, u]).run Tryd.prog w = .ok v' w') (h : K (a.put o.dst v') w') : o.wp Tryd.prog a w K Q := by
  unfold Oper.wp execOp
  simp only [ho, ht, resolve, invoke, builtin, Sem.run_bind, Sem.run_pure, Result.andThen_ok, List.map_toArray, List.map_cons, List.map_nil, hs, hx, hr]
  exact h
theorem range_kept {w w' : World} {g o : Nat} {cs : List Value} {own : Option Nat} (h : w.rangeAt g o cs) (k : w.grownBy w' own) (hg : g < w.heap.size) (hne : own ≠ some g) : w'.rangeAt g o cs := fun j v hv => by
  have hc := h j v hv
  exact (World.cell?_of_block (a := ⟨g, o + j, none⟩) (k.block g hg (fun e => hne e.symm))).trans hc
theorem Fingers_no {w : World} {v : Value} {L : List Pe} (i : Int) (hL : Lies w v L) (hw : Wf L) (hn : L.length ≤ 1000000) (hp : plB L i = false) :
    Calls Tryd.prog 18 #[v, .int .i64 i] w fun e w' => e = .returned (.tuple #[.slice none 0 0, .int .i64 1]) ∧ Below w.heap.size w w' := by
  obtain ⟨a, c, rfl⟩ := hL.form
  have hI := isPlace_any i hL hw hn
  rw [hp] at hI
  have HI := Lib.hid hI
  clear hL hw hn hI hp
  generalize L.length = n at *
  go_enter Tryd.func18, Tryd.ntmps18
  go_wp2_with (go_at_call 41; (with_reducible refine HI.out.mono ?_); rintro e w1 ⟨rfl, hb⟩)
  go_ret2
  exact ⟨rfl, hb⟩
/-- what a round leaves -/
structure Fing (w0 W : World) (v : Value) (q : Nat) (l : List Int) : Prop where
  own : W.ownsRow w0.heap.size 3 1 v q (ints l)
  bel : Below w0.heap.size w0 W
set_option maxHeartbeats 4000000 in
theorem Fingers_yes {w : World} {v : Value} {L : List Pe} (i : Nat) (hL : Lies w v L) (hw : Wf L) (hC : Circ L) (hi : i < L.length) :
    Calls Tryd.prog 18 #[v, .int .i64 (i : Int)] w fun e w' => ∃ u, e = .returned (.tuple #[u, .int .i64 0]) ∧ Row w.heap.size w' u (fingN L i 160) ∧ Below w.heap.size w w' := by
  obtain ⟨b, o, c, e0, hc, hr, hb0⟩ := hL.some hC.pos.1
  subst e0
  have hI := isPlace_any (i : Int) hL hw hC.pos.2
  have e1 : plB L (i : Int) = true := by
    unfold plB
    rw [isB_yes hC]
    simp; omega
  rw [e1] at hI
  have HI := Lib.hid hI
  have hn0 := hC.pos
  have HR : Hid (∀ w1, Below w.heap.size w w1 → w1.rangeAt b (o + i * 21 + 1) (row (dig 20 (pn L i))).toList) := fun w1 hb => range_bel (pe_id (row_peer hr (at_get hi))) hb hb0
  have HO : Hid (∀ q w1, Below w.heap.size w w1 → Calls Tryd.prog 39 #[.slice (some ⟨b, o, none⟩) L.length c, idv (pn L i + 2 ^ q)] w1 fun e w' => e = .returned (.int .i64 ((ownN L ((pn L i + 2 ^ q) % M) : Nat) : Int)) ∧ Below w1.heap.size w1 w') := fun q w1 hb => by
    rw [← idv_mod]
    exact owner_any _ (hL.bel hb) hC.rise hw (Nat.mod_lt _ M_pos) hn0.1 hn0.2
  have HS : Hid (∀ k, fingN L i k ++ [((ownN L ((pn L i + 2 ^ k) % M) : Nat) : Int)] = fingN L i (k + 1)) := fun k => (fingN_succ L i k).symm
  have HCL : Hid (∀ k, (fingN L i k).length = k) := fingN_len L i
  have HC0 : Hid (fingN L i 0 = []) := rfl
  clear hL hw hI hC hr e1 hc
  generalize hov : (fun q => ownN L ((pn L i + 2 ^ q) % M)) = ov at *
  have HOV : Hid (∀ q, ownN L ((pn L i + 2 ^ q) % M) = ov q) := fun q => by rw [← hov]
  clear hov
  have HO : Hid (∀ q w1, Below w.heap.size w w1 → Calls Tryd.prog 39 #[.slice (some ⟨b, o, none⟩) L.length c, idv (pn L i + 2 ^ q)] w1 fun e w' => e = .returned (.int .i64 ((ov q : Nat) : Int)) ∧ Below w1.heap.size w1 w') := fun q w1 hb => by
    rw [← HOV.out q]; exact HO.out q w1 hb
  have HS2 : Hid (∀ k, fingN L i k ++ [((ov k : Nat) : Int)] = fingN L i (k + 1)) := fun k => by rw [← HOV.out k]; exact HS.out k
  clear HOV
  generalize fingN L i = fp at *
  generalize pn L i = x at *
  generalize L.length = n at *
  go_enter Tryd.func18, Tryd.ntmps18
  go_wp2_with (go_at_call 41; (with_reducible refine HI.out.mono ?_); rintro e w1 ⟨rfl, hb⟩)
  have HB1 := Lib.hid hb
  clear hb HI
  go_loopw [6, 14] (fun v k wr => ∃ q : Nat, q ≤ 160 ∧ k = .int .i64 (q : Int) ∧ Fing w wr v q (fp q)) (fun _ k _ => 160 - (intOf k).toNat)
  case atStart => exact ⟨0, by omega, rfl, by rw [HC0.out]; exact ⟨World.ownsRow_nil _ _ _ _, HB1.out⟩⟩
  case round =>
    obtain ⟨q, hq, rfl, hF⟩ := hrel
    have HF := Lib.hid hF
    clear hF
    by_cases hlt : q < 160
    · obtain ⟨fa, fc, hv⟩ := own_form HF.out.own
      subst hv
      have HP := Lib.hid (fun w1 => power_yes q w1 hlt)
      go_upto_region 8 with (first
        | (go_at_call 24; (with_reducible refine (HP.out _).mono ?_); rintro e w2 ⟨rfl, hb2⟩)
        | (refine wpList_store_new rfl rfl _ _ rfl (2 ^ q) rfl rfl ?_))
      (try simp only [Act.put])
      have B2 : Below wr.heap.size wr (w2.alloc (.cells (row (dig 20 (2 ^ q))) 32)) := hb2.alloc hb2.size _
      have I2 := At.new w2 (2 ^ q)
      have g2 : wr.heap.size ≤ w2.heap.size := hb2.size
      generalize hW : w2.alloc _ = W at *
      have hgl : w2.heap.size < W.heap.size := by rw [← hW, World.size_alloc]; omega
      clear hW hb2 HP
      generalize w2.heap.size = g at *
      have BW := HF.out.bel.trans (B2.mono HF.out.bel.size)
      have OW := own_bel HF.out.own B2
      have r1 := HR.out W BW
      have r2 : W.rangeAt g 0 (row (dig 20 (2 ^ q))).toList := blk_range I2
      have hne : (Value.slice fa q fc).ownBlock ≠ some g := fun e => by have := (HF.out.own.lt g e).2; omega
      have HN := Lib.hid hne
      clear B2 I2 g2 hne HF
      have hdrew : Below W.heap.size W W.drew := drew_bel W
      have HPl := Lib.hid (fun w1 => plus_any x (2 ^ q) w1)
      refine wp_region_held_drew (S := (fun w9 => w9.rangeAt b (o + i * 21 + 1) (row (dig 20 x)).toList ∧ w9.rangeAt g 0 (row (dig 20 (2 ^ q))).toList)) (by kernel_rfl) ?_ (fun hHeld => ?_)
      · exact ⟨r1, r2⟩
      have hX : Below W.heap.size W W.drew := drew_bel W
      generalize W.drew = W1 at *
      refine wpAnyH_take (i := 0) (v := ?_) rfl (by kernel_rfl) (by kernel_rfl) (by kernel_rfl) (fun _ _ _ h => h) (Or.inl ⟨by rfl, ?_⟩) (by assumption) ?_
      rotate_left
      · intro w9 hSw
        (try dsimp only at hSw)
        go_simp
        (try with_reducible rfl)
      (try simp only [Act.put]); (try simp only [List.setIfInBounds_toArray]); (try simp only [List.set_cons_succ]); (try simp only [List.set_cons_zero])
      refine wpAnyH_take (i := 1) (v := ?_) rfl (by kernel_rfl) (by kernel_rfl) (by kernel_rfl) (fun _ _ _ h => h) (Or.inl ⟨by rfl, ?_⟩) (by assumption) ?_
      rotate_left
      · intro w9 hSw
        (try dsimp only at hSw)
        go_simp
        (try with_reducible rfl)
      (try simp only [Act.put]); (try simp only [List.setIfInBounds_toArray]); (try simp only [List.set_cons_succ]); (try simp only [List.set_cons_zero])
      refine wpAnyH_take (i := 2) (v := ?_) rfl (by kernel_rfl) (by kernel_rfl) (by kernel_rfl) (fun _ _ _ h => h) (Or.inl ⟨by rfl, ?_⟩) (by assumption) ?_
      rotate_left
      · intro w9 hSw
        (try dsimp only at hSw)
        go_simp
        (try with_reducible rfl)
      (try simp only [Act.put]); (try simp only [List.setIfInBounds_toArray]); (try simp only [List.set_cons_succ]); (try simp only [List.set_cons_zero])
      refine wpAnyH_take (i := 3) (v := ?_) rfl (by kernel_rfl) (by kernel_rfl) (by kernel_rfl) (fun _ _ _ h => h) (Or.inl ⟨by rfl, ?_⟩) (by assumption) ?_
      rotate_left
      · intro w9 hSw
        (try dsimp only at hSw)
        go_simp
        (try with_reducible rfl)
      (try simp only [Act.put]); (try simp only [List.setIfInBounds_toArray]); (try simp only [List.set_cons_succ]); (try simp only [List.set_cons_zero])
      refine wpAnyH_take (i := 4) (v := ?_) rfl (by kernel_rfl) (by kernel_rfl) (by kernel_rfl) (fun _ _ _ h => h) (Or.inl ⟨by rfl, ?_⟩) (by assumption) ?_
      rotate_left
      · intro w9 hSw
        (try dsimp only at hSw)
        go_simp
        (try with_reducible rfl)
      (try simp only [Act.put]); (try simp only [List.setIfInBounds_toArray]); (try simp only [List.set_cons_succ]); (try simp only [List.set_cons_zero])
      refine wpAnyH_take (i := 5) (v := ?_) rfl (by kernel_rfl) (by kernel_rfl) (by kernel_rfl) (fun _ _ _ h => h) (Or.inl ⟨by rfl, ?_⟩) (by assumption) ?_
      rotate_left
      · intro w9 hSw
        (try dsimp only at hSw)
        go_simp
        (try with_reducible rfl)
      (try simp only [Act.put]); (try simp only [List.setIfInBounds_toArray]); (try simp only [List.set_cons_succ]); (try simp only [List.set_cons_zero])
      iterate 6
        (try dsimp only [List.getElem_toArray, List.getElem_cons_succ, List.getElem_cons_zero])
        (try simp only [Act.put]); (try simp only [List.setIfInBounds_toArray]); (try simp only [List.set_cons_succ]); (try simp only [List.set_cons_zero])
      refine wpAnyH_take (i := 6) (oi := { dst := some 28, op := .load 32 (.tmp 27), type := 32, pos := "circle.go:114", after := #[{ on := 5, ground := .data }], guard := none }) (v := idv x) rfl (by kernel_rfl) (by kernel_rfl) (by kernel_rfl) (fun _ _ _ h => h) (y_midI (by rfl) (.tmp 27) rfl b (o + i * 21 + 1) rfl x (fun _ h => h.1)) (by assumption) ?_
      (try simp only [Act.put]); (try simp only [List.setIfInBounds_toArray]); (try simp only [List.set_cons_succ]); (try simp only [List.set_cons_zero])
      refine wpAnyH_take (i := 7) (oi := { dst := some 29, op := .load 32 (.tmp 8), type := 32, pos := "circle.go:114", after := #[], guard := none }) (v := idv (2 ^ q)) rfl (by kernel_rfl) (by kernel_rfl) (by kernel_rfl) (fun _ _ _ h => h) (y_midI (by rfl) (.tmp 8) rfl g 0 rfl (2 ^ q) (fun _ h => h.2)) (by assumption) ?_
      (try simp only [Act.put]); (try simp only [List.setIfInBounds_toArray]); (try simp only [List.set_cons_succ]); (try simp only [List.set_cons_zero])
      refine wpAnyH_ready (rs := [8]) (by kernel_rfl) (by simp) ?_
      refine AllReadyH.cons rfl (fun K hK => ?_) ?_
      rotate_left
      · exact AllReadyH.nil
      go_simp
      go_wp2_with (go_at_call 25; (with_reducible refine (HPl.out _).mono ?_); rintro e w3 ⟨rfl, hb3⟩; have hX3 := step hX hb3)
      refine hK.out _ _ ?_ (fun hHeld => ?_)
      · exact ⟨HR.out _ (BW.trans (hX3.mono BW.size)), range_bel r2 hX3 hgl⟩
      clear hK K
      (try simp only [Act.put]); (try simp only [List.setIfInBounds_toArray]); (try simp only [List.set_cons_succ]); (try simp only [List.set_cons_zero])
      refine wpAnyH_ready (rs := [9]) (by kernel_rfl) (by simp) ?_
      refine AllReadyH.cons rfl (fun K hK => ?_) ?_
      rotate_left
      · exact AllReadyH.nil
      go_simp
      go_wp2_with (go_at_call 39; (with_reducible refine (HO.out q _ (BW.trans (hX3.mono BW.size))).mono ?_); rintro e w4 ⟨rfl, hb4⟩; have hX4 := step hX3 hb4)
      refine hK.out _ _ ?_ (fun hHeld => ?_)
      · exact ⟨HR.out _ (BW.trans (hX4.mono BW.size)), range_bel r2 hX4 hgl⟩
      clear hK K
      (try simp only [Act.put]); (try simp only [List.setIfInBounds_toArray]); (try simp only [List.set_cons_succ]); (try simp only [List.set_cons_zero])
      have OW4 := own_bel OW hX4
      have BW4 := BW.trans (hX4.mono BW.size)
      obtain ⟨v', w6, hrun, hO6, hG6⟩ := app_int OW4 ((ov q : Nat) : Int) BW4.size (by omega)
      have BW5 := BW4.alloc BW4.size (.cells #[.int .i64 ((ov q : Nat) : Int)] 3)
      have B6 : Below w.heap.size w w6 := BW5.grown hG6 (by simp; have := BW4.size; omega) (fun k hk => (OW4.lt k hk).1)
      refine wpAnyH_ready (rs := [10]) (by kernel_rfl) (by simp) ?_
      refine AllReadyH.cons rfl (fun K hK => ?_) ?_
      rotate_left
      · exact AllReadyH.nil
      go_simp
      skip
      refine hK.out _ _ ?_ (fun hHeld => ?_)
      · exact ⟨HR.out _ BW5, range_bel r2 (hX4.alloc hX4.size _) hgl⟩
      clear hK K
      (try simp only [Act.put]); (try simp only [List.setIfInBounds_toArray]); (try simp only [List.set_cons_succ]); (try simp only [List.set_cons_zero])
      refine wpAnyH_ready (rs := [11]) (by kernel_rfl) (by simp) ?_
      refine AllReadyH.cons rfl (fun K hK => ?_) ?_
      rotate_left
      · exact AllReadyH.nil
      rw [if_pos (by rfl)]
      refine o_app _ _ rfl rfl _ v' _ rfl rfl hrun ?_
      refine hK.out _ _ ?_ (fun hHeld => ?_)
      · exact ⟨HR.out _ B6, range_kept (range_bel r2 (hX4.alloc hX4.size (.cells #[.int .i64 ((ov q : Nat) : Int)] 3)) hgl) hG6 (by rw [World.size_alloc]; have := hX4.size; omega) HN.out⟩
      clear hK K
      (try simp only [Act.put]); (try simp only [List.setIfInBounds_toArray]); (try simp only [List.set_cons_succ]); (try simp only [List.set_cons_zero])
      refine wpAnyH_take (i := 12) (v := ?_) rfl (by kernel_rfl) (by kernel_rfl) (by kernel_rfl) (fun _ _ _ h => h) (Or.inl ⟨by rfl, ?_⟩) (by assumption) ?_
      rotate_left
      · intro w9 hSw
        (try dsimp only at hSw)
        go_simp
        (try with_reducible rfl)
      (try simp only [Act.put]); (try simp only [List.setIfInBounds_toArray]); (try simp only [List.set_cons_succ]); (try simp only [List.set_cons_zero])
      iterate 4
        (try dsimp only [List.getElem_toArray, List.getElem_cons_succ, List.getElem_cons_zero])
        (try simp only [Act.put]); (try simp only [List.setIfInBounds_toArray]); (try simp only [List.set_cons_succ]); (try simp only [List.set_cons_zero])
      refine wpAnyH_done (by kernel_rfl) ?_ _
      have FIN : Fing w w6 v' (q + 1) (fp (q + 1)) := ⟨by rw [← HS2.out]; exact hO6, B6⟩
      have HFIN := Lib.hid FIN
      clear hHeld hX hX3 hX4 OW OW4 BW BW4 BW5 B6 hG6 hO6 hrun r1 r2 HPl hb3 hb4 FIN hgl HN hdrew
      go_wp2
      exact ⟨⟨q + 1, by omega, by go_num, HFIN.out⟩, by simp [intOf]; omega⟩
    · obtain rfl : q = 160 := by omega
      go_wp2
      go_ret2
      refine ⟨_, rfl, ?_, HF.out.bel⟩
      unfold Row
      rw [HCL.out]
      exact HF.out.own
end Go.Proofs.YtmlejcfnnjnggaaDoor
