/- A table is right, or not, and tells just this first, nearest and last peer, and these known ones: the walk. -/
import Derived.Test.YtkcljbolopephaaTabKit
namespace Go.Proofs.Ytkcljbolopephaa.TellLaw
set_option maxRecDepth 100000
open Go Go.RowKit Go.Sort

/-- a table, a peer and a place in blocks of their own -/
structure BoxI (w W : World) (s p : Pe) (u v : Value) (x : Pe) (id : Nat) : Prop where
  bel : Below w.heap.size w W
  t : TB W w.heap.size s p u v
  x : PB W (w.heap.size + 1) x
  i : At W (w.heap.size + 2) id
theorem BoxI.made (w : World) (s p : Pe) (u v : Value) (x : Pe) (id : Nat) : BoxI w (((w.alloc (.cells (tabA s p u v) 28)).alloc (.cells (peA x) 25)).alloc (.cells (row (dig 20 id)) 23)) s p u v x id := by
  refine ⟨(((Below.refl w.heap.size w).alloc (Nat.le_refl _) _).alloc (by simp) _).alloc (by simp; omega) _, Blk.alloc (Blk.alloc (Blk.new ..) _) _, ?_, ?_⟩
  · have := Blk.alloc (PB.new (w.alloc (.cells (tabA s p u v) 28)) x) (.cells (row (dig 20 id)) 23)
    rwa [World.size_alloc] at this
  · have := At.new ((w.alloc (.cells (tabA s p u v) 28)).alloc (.cells (peA x) 25)) id
    rwa [World.size_alloc, World.size_alloc] at this
set_option maxHeartbeats 2000000 in
theorem walk_out {w : World} {s p x : Pe} {u v z : Value} {S F : List Pe} {A : List Int} (id : Nat) (a : Int) (hS : Lies w u S) (hF : Lies w v F) (hA : Nums w z A) (hb : bigB S F = true ∨ bigB S F = false ∧ 100 < A.length) :
    Calls Try.prog 4 #[.agg (tabA s p u v), .agg (peA x), idv id, z, .int .i64 a] w fun e w' => e = .returned (.bool true) ∧ Below w.heap.size w w' := by
  have HX := BoxI.made w s p u v x id
  have B0 := HX.bel
  have T0 := HX.t
  have HB : Hid (∀ W, Below w.heap.size w W → Calls Try.prog 9 #[.agg (tabA s p u v)] W fun e w' => e = .returned (.bool (bigB S F)) ∧ Below W.heap.size W w') := fun W h => big_any (s := s) (p := p) (hS.bel h) (hF.bel h)
  obtain ⟨za, zc, rfl⟩ := hA.form
  clear HX
  rw [show idv id = .agg (row (dig 20 id)) from rfl]
  rcases hb with hb | ⟨hb, hl⟩
  · rw [hb] at HB
    clear hS hF hb hA
    generalize A.length = m at *
    go_enter Try.func4, Try.ntmps4
    go_upto_region 1 with (fail)
    generalize ((w.alloc _).alloc _).alloc _ = W at *
    generalize hg : w.heap.size = g at *
    go_wp2_with (first
      | go_big_skip
      | (refine p_midT rfl _ rfl g rfl T0 ?_)
      | (go_at_call 9; (with_reducible refine (HB.out _ B0).mono ?_); rintro e w1 ⟨rfl, k1⟩; have B1 := belTo hg B0 k1; clear k1))
    go_ret
    exact ⟨rfl, by (try rw [hg]); exact B1⟩
  · rw [hb] at HB
    clear hS hF hb hA
    generalize A.length = m at *
    have d1 : decide ((100 : Int) < (m : Int)) = true := decide_eq_true (by omega)
    go_enter Try.func4, Try.ntmps4
    go_upto_region 1 with (fail)
    generalize ((w.alloc _).alloc _).alloc _ = W at *
    generalize hg : w.heap.size = g at *
    go_wp2_with (first
      | go_big_skip
      | (refine p_midT rfl _ rfl g rfl T0 ?_)
      | (go_at_call 9; (with_reducible refine (HB.out _ B0).mono ?_); rintro e w1 ⟨rfl, k1⟩; have B1 := belTo hg B0 k1; clear k1))
    go_ret
    exact ⟨rfl, by (try rw [hg]); exact B1⟩
/-- what is known behind all four -/
structure TlW (g ga gb gc gd : Nat) (w wx : World) (s p x q f : Pe) (u v : Value) : Prop where
  bel : Below g w wx
  t : TB wx g s p u v
  x : PB wx (g + 1) x
  pa : PB wx ga q
  pb : PB wx gb q
  pc : PB wx gc f
  pd : PB wx gd f
theorem TlW.bel2 {g ga gb gc gd : Nat} {w wx wy : World} {s p x q f : Pe} {u v : Value} (h : TlW g ga gb gc gd w wx s p x q f u v) (hg : w.heap.size = g) (k : Below wx.heap.size wx wy) : TlW g ga gb gc gd w wy s p x q f u v :=
  ⟨belTo hg h.bel k, h.t.bel k, h.x.bel k, h.pa.bel k, h.pb.bel k, h.pc.bel k, h.pd.bel k⟩
/-- one answer of two calls -/
abbrev Both (B : Nat) (w : World) (f h : FuncId) (args : Array Value) (v : Value) : Prop := (∀ W, Below B w W → Calls Try.prog f args W fun e w' => e = .returned v ∧ Below W.heap.size W w') ∧ ∀ W, Below B w W → Calls Try.prog h args W fun e w' => e = .returned v ∧ Below W.heap.size W w'
set_option maxHeartbeats 16000000 in
theorem walk_core (hT : Gives Try.prog 17 #[] (.bool true)) {w : World} {s p x q f f1 p3 : Pe} {u v : Value} {K FS FF : List Pe} (za : Option Addr) (m zc : Nat) (id : Nat) (a : Int) (ok dn it cl : Bool) (hm : m ≤ 100)
    (hB : ∀ W, Below w.heap.size w W → Calls Try.prog 9 #[.agg (tabA s p u v)] W fun e w' => e = .returned (.bool false) ∧ Below W.heap.size W w')
    (hN : Both w.heap.size w 21 22 #[.agg (tabA s p u v), idv id, .slice za m zc] (.tuple #[.agg (peA q), .bool ok])) (hD : Both w.heap.size w 23 24 #[.agg (tabA s p u v), idv id] (.tuple #[.agg (peA f), .bool dn]))
    (hI : Both w.heap.size w 25 26 #[.agg (tabA s p u v)] (.bool it)) (hF : Both w.heap.size w 27 28 #[.agg (tabA s p u v)] (.agg (peA f1))) (hC : Both w.heap.size w 29 30 #[.agg (tabA s p u v), .agg (peA x)] (.bool cl))
    (hKA : ∀ W, Below w.heap.size w W → Calls Try.prog 32 #[.agg (tabA s p u v)] W fun e w' => ∃ r, e = .returned r ∧ Lies w' r K ∧ Below W.heap.size W w') (hKB : ∀ W, Below w.heap.size w W → Calls Try.prog 33 #[.agg (tabA s p u v)] W fun e w' => ∃ r, e = .returned r ∧ Lies w' r K ∧ Below W.heap.size W w')
    (hGA : ∀ W, Below w.heap.size w W → Calls Try.prog 34 #[.agg (tabA s p u v), .int .i64 a] W fun e w' => ∃ r1 r2, e = .returned (.agg (tabA s p3 r1 r2)) ∧ Lies w' r1 FS ∧ Lies w' r2 FF ∧ Below W.heap.size W w') (hGB : ∀ W, Below w.heap.size w W → Calls Try.prog 35 #[.agg (tabA s p u v), .int .i64 a] W fun e w' => ∃ r1 r2, e = .returned (.agg (tabA s p3 r1 r2)) ∧ Lies w' r1 FS ∧ Lies w' r2 FF ∧ Below W.heap.size W w')
    (hk : K.length ≤ 1000000) (hfs : FS.length ≤ 1000000) (hff : FF.length ≤ 1000000) :
    Calls Try.prog 4 #[.agg (tabA s p u v), .agg (peA x), idv id, .slice za m zc, .int .i64 a] w fun e w' => e = .returned (.bool true) ∧ Below w.heap.size w w' := by
  have HX := BoxI.made w s p u v x id
  have B0 := HX.bel
  have T0 := HX.t
  have X0 := HX.x
  have I0 := HX.i
  have HT := Lib.hid hT
  have HB := Lib.hid hB
  have HN := Lib.hid hN
  have HD := Lib.hid hD
  have HI := Lib.hid hI
  have HF := Lib.hid hF
  have HC := Lib.hid hC
  have HKA := Lib.hid hKA
  have HKB := Lib.hid hKB
  have HGA := Lib.hid hGA
  have HGB := Lib.hid hGB
  have HK := Lib.hid hk
  have HFS := Lib.hid hfs
  have HFF := Lib.hid hff
  have eq := eqP_self q
  have ef := eqP_self f
  have e1 := eqP_self f1
  have ok1 : (ok == ok) = true := by simp
  have dn1 : (dn == dn) = true := by simp
  have it1 : (it == it) = true := by simp
  have cl1 : (cl == cl) = true := by simp
  have d1 : decide ((100 : Int) < (m : Int)) = false := decide_eq_false (by omega)
  clear hT hB hN hD hI hF hC hKA hKB hGA hGB hk hfs hff HX hm
  rw [show idv id = .agg (row (dig 20 id)) from rfl]
  go_enter Try.func4, Try.ntmps4
  go_upto_region 1 with (fail)
  generalize ((w.alloc _).alloc _).alloc _ = W at *
  generalize hg : w.heap.size = g at *
  go_upto_region 4 with (first
    | go_big_skip
    | (refine p_midT rfl _ rfl g rfl T0 ?_)
    | (go_at_call 9; (with_reducible refine (HB.out _ B0).mono ?_); rintro e w0 ⟨rfl, k0⟩; have B1 := belTo hg B0 k0; have T1 := T0.bel k0; have X1 := X0.bel k0; have I1 := I0.below k0; clear k0)
    | (refine p_midT rfl _ rfl g rfl T1 ?_)
    | (refine p_load rfl _ rfl _ rfl id I1 ?_)
    | (go_at_call 21; (with_reducible refine (HN.out.1 _ B1).mono ?_); rintro e v1 ⟨rfl, k9⟩; have kk := step k9 ((Below.refl v1.heap.size v1).alloc (Nat.le_refl _) (.cells (peA q) 25)); have B2 := belTo hg B1 kk; have T2 := T1.bel kk; have X2 := X1.bel kk; have I2 := I1.below kk; have P0_2 := PB.new v1 q; clear k9 kk)
    | (refine p_storeP rfl rfl _ _ rfl q rfl rfl ?_))
  (try simp only [Act.put])
  clear B1 T1 X1 I1  B0 T0 X0 I0 d1
  generalize v1.heap.size = ga at *
  generalize v1.alloc _ = V1 at *
  go_upto_region 5 with (first
    | (refine p_midT rfl _ rfl g rfl T2 ?_)
    | (refine p_load rfl _ rfl _ rfl id I2 ?_)
    | (go_at_call 22; (with_reducible refine (HN.out.2 _ B2).mono ?_); rintro e v2 ⟨rfl, k9⟩; have kk := step k9 ((Below.refl v2.heap.size v2).alloc (Nat.le_refl _) (.cells (peA q) 25)); have B3 := belTo hg B2 kk; have T3 := T2.bel kk; have X3 := X2.bel kk; have I3 := I2.below kk; have P1_3 := PB.new v2 q; have P0_3 := P0_2.bel kk; clear k9 kk)
    | (refine p_storeP rfl rfl _ _ rfl q rfl rfl ?_))
  (try simp only [Act.put])
  clear B2 T2 X2 I2 P0_2
  generalize v2.heap.size = gb at *
  generalize v2.alloc _ = V2 at *
  go_upto_region 6 with (first
    | (refine p_midT rfl _ rfl g rfl T3 ?_)
    | (refine p_load rfl _ rfl _ rfl id I3 ?_)
    | (go_at_call 23; (with_reducible refine (HD.out.1 _ B3).mono ?_); rintro e v3 ⟨rfl, k9⟩; have kk := step k9 ((Below.refl v3.heap.size v3).alloc (Nat.le_refl _) (.cells (peA f) 25)); have B4 := belTo hg B3 kk; have T4 := T3.bel kk; have X4 := X3.bel kk; have I4 := I3.below kk; have P2_4 := PB.new v3 f; have P0_4 := P0_3.bel kk; have P1_4 := P1_3.bel kk; clear k9 kk)
    | (refine p_storeP rfl rfl _ _ rfl f rfl rfl ?_))
  (try simp only [Act.put])
  clear B3 T3 X3 I3 P0_3 P1_3
  generalize v3.heap.size = gc at *
  generalize v3.alloc _ = V3 at *
  go_upto_region 7 with (first
    | (refine p_midT rfl _ rfl g rfl T4 ?_)
    | (refine p_load rfl _ rfl _ rfl id I4 ?_)
    | (go_at_call 24; (with_reducible refine (HD.out.2 _ B4).mono ?_); rintro e v4 ⟨rfl, k9⟩; have kk := step k9 ((Below.refl v4.heap.size v4).alloc (Nat.le_refl _) (.cells (peA f) 25)); have B5 := belTo hg B4 kk; have T5 := T4.bel kk; have X5 := X4.bel kk; have I5 := I4.below kk; have P3_5 := PB.new v4 f; have P0_5 := P0_4.bel kk; have P1_5 := P1_4.bel kk; have P2_5 := P2_4.bel kk; clear k9 kk)
    | (refine p_storeP rfl rfl _ _ rfl f rfl rfl ?_))
  (try simp only [Act.put])
  clear B4 T4 X4 I4 P0_4 P1_4 P2_4
  generalize v4.heap.size = gd at *
  generalize v4.alloc _ = V4 at *
  have HW : Hid (TlW g ga gb gc gd w V4 s p x q f u v) := ⟨B5, T5, X5, P0_5, P1_5, P2_5, P3_5⟩
  clear B5 T5 X5 I5 P0_5 P1_5 P2_5 P3_5
  refine wp_region_held_drew (S := (fun w9 => TlW g ga gb gc gd w w9 s p x q f u v)) (by kernel_rfl) ?_ (fun hHeld => ?_)
  · exact HW.out.bel2 hg (drew_bel V4)
  replace HW := Lib.hid (HW.out.bel2 hg (drew_bel V4))
  generalize World.drew V4 = y0 at *
  refine wpAnyH_ready (rs := [0]) (by kernel_rfl) (by simp) ?_
  refine AllReadyH.cons rfl (fun K hK => ?_) ?_
  rotate_left
  · exact AllReadyH.nil
  go_simp
  go_wp2_with (go_at_call 17; (with_reducible refine (HT.out.calls _).mono ?_); rintro e z0 ⟨rfl, kk⟩); replace HW := Lib.hid (HW.out.bel2 hg kk); clear kk
  refine hK.out _ _ ?_ (fun hHeld => ?_)
  · exact HW.out
  clear hK K
  (try simp only [Act.put]); (try simp only [List.setIfInBounds_toArray]); (try simp only [List.set_cons_succ]); (try simp only [List.set_cons_zero])
  iterate 1
    (try dsimp only [List.getElem_toArray, List.getElem_cons_succ, List.getElem_cons_zero])
    (try simp only [Act.put]); (try simp only [List.setIfInBounds_toArray]); (try simp only [List.set_cons_succ]); (try simp only [List.set_cons_zero])
  refine wpAnyH_take (i := 1) (v := ?_) rfl (by kernel_rfl) (by kernel_rfl) (by kernel_rfl) (fun _ _ _ h => h) (Or.inl ⟨by rfl, ?_⟩) (by assumption) ?_
  rotate_left
  · intro w9 hSw
    (try dsimp only at hSw)
    go_simp
    (try with_reducible rfl)
  (try simp only [Act.put]); (try simp only [List.setIfInBounds_toArray]); (try simp only [List.set_cons_succ]); (try simp only [List.set_cons_zero])
  iterate 1
    (try dsimp only [List.getElem_toArray, List.getElem_cons_succ, List.getElem_cons_zero])
    (try simp only [Act.put]); (try simp only [List.setIfInBounds_toArray]); (try simp only [List.set_cons_succ]); (try simp only [List.set_cons_zero])
  refine wpAnyH_take (i := 2) (oi := { dst := some 54, op := Go.Op.load 28 (Go.Operand.tmp 5), type := 28, pos := "law.go:55", after := #[{ on := 1, ground := Go.Ground.guard }], guard := some (1, true) }) (v := .agg (tabA s p u v)) rfl (by kernel_rfl) (by kernel_rfl) (by kernel_rfl) (fun _ _ _ h => h) (y_midT (by rfl) (.tmp 5) rfl g rfl (fun _ h => h.t)) (by assumption) ?_
  (try simp only [Act.put]); (try simp only [List.setIfInBounds_toArray]); (try simp only [List.set_cons_succ]); (try simp only [List.set_cons_zero])
  iterate 1
    (try dsimp only [List.getElem_toArray, List.getElem_cons_succ, List.getElem_cons_zero])
    (try simp only [Act.put]); (try simp only [List.setIfInBounds_toArray]); (try simp only [List.set_cons_succ]); (try simp only [List.set_cons_zero])
  refine wpAnyH_take (i := 4) (oi := { dst := some 56, op := Go.Op.load 28 (Go.Operand.tmp 5), type := 28, pos := "law.go:55", after := #[{ on := 1, ground := Go.Ground.guard }], guard := some (1, true) }) (v := .agg (tabA s p u v)) rfl (by kernel_rfl) (by kernel_rfl) (by kernel_rfl) (fun _ _ _ h => h) (y_midT (by rfl) (.tmp 5) rfl g rfl (fun _ h => h.t)) (by assumption) ?_
  (try simp only [Act.put]); (try simp only [List.setIfInBounds_toArray]); (try simp only [List.set_cons_succ]); (try simp only [List.set_cons_zero])
  iterate 1
    (try dsimp only [List.getElem_toArray, List.getElem_cons_succ, List.getElem_cons_zero])
    (try simp only [Act.put]); (try simp only [List.setIfInBounds_toArray]); (try simp only [List.set_cons_succ]); (try simp only [List.set_cons_zero])
  refine wpAnyH_ready (rs := [3]) (by kernel_rfl) (by simp) ?_
  refine AllReadyH.cons rfl (fun K hK => ?_) ?_
  rotate_left
  · exact AllReadyH.nil
  go_simp
  go_wp2_with (go_at_call 25; (with_reducible refine (HI.out.1 _ HW.out.bel).mono ?_); rintro e z3 ⟨rfl, kk⟩); replace HW := Lib.hid (HW.out.bel2 hg kk); clear kk
  refine hK.out _ _ ?_ (fun hHeld => ?_)
  · exact HW.out
  clear hK K
  (try simp only [Act.put]); (try simp only [List.setIfInBounds_toArray]); (try simp only [List.set_cons_succ]); (try simp only [List.set_cons_zero])
  iterate 1
    (try dsimp only [List.getElem_toArray, List.getElem_cons_succ, List.getElem_cons_zero])
    (try simp only [Act.put]); (try simp only [List.setIfInBounds_toArray]); (try simp only [List.set_cons_succ]); (try simp only [List.set_cons_zero])
  refine wpAnyH_ready (rs := [5]) (by kernel_rfl) (by simp) ?_
  refine AllReadyH.cons rfl (fun K hK => ?_) ?_
  rotate_left
  · exact AllReadyH.nil
  go_simp
  go_wp2_with (go_at_call 26; (with_reducible refine (HI.out.2 _ HW.out.bel).mono ?_); rintro e z5 ⟨rfl, kk⟩); replace HW := Lib.hid (HW.out.bel2 hg kk); clear kk
  refine hK.out _ _ ?_ (fun hHeld => ?_)
  · exact HW.out
  clear hK K
  (try simp only [Act.put]); (try simp only [List.setIfInBounds_toArray]); (try simp only [List.set_cons_succ]); (try simp only [List.set_cons_zero])
  iterate 1
    (try dsimp only [List.getElem_toArray, List.getElem_cons_succ, List.getElem_cons_zero])
    (try simp only [Act.put]); (try simp only [List.setIfInBounds_toArray]); (try simp only [List.set_cons_succ]); (try simp only [List.set_cons_zero])
  refine wpAnyH_take (i := 6) (v := ?_) rfl (by kernel_rfl) (by kernel_rfl) (by kernel_rfl) (fun _ _ _ h => h) (Or.inl ⟨by rfl, ?_⟩) (by assumption) ?_
  rotate_left
  · intro w9 hSw
    (try dsimp only at hSw)
    go_simp
    (try with_reducible rfl)
  (try simp only [Act.put]); (try simp only [List.setIfInBounds_toArray]); (try simp only [List.set_cons_succ]); (try simp only [List.set_cons_zero])
  iterate 1
    (try dsimp only [List.getElem_toArray, List.getElem_cons_succ, List.getElem_cons_zero])
    (try simp only [Act.put]); (try simp only [List.setIfInBounds_toArray]); (try simp only [List.set_cons_succ]); (try simp only [List.set_cons_zero])
  refine wpAnyH_take (i := 7) (v := ?_) rfl (by kernel_rfl) (by kernel_rfl) (by kernel_rfl) (fun _ _ _ h => h) (Or.inl ⟨by rfl, ?_⟩) (by assumption) ?_
  rotate_left
  · intro w9 hSw
    (try dsimp only at hSw)
    go_simp
    (try with_reducible rfl)
  (try simp only [Act.put]); (try simp only [List.setIfInBounds_toArray]); (try simp only [List.set_cons_succ]); (try simp only [List.set_cons_zero])
  iterate 1
    (try dsimp only [List.getElem_toArray, List.getElem_cons_succ, List.getElem_cons_zero])
    (try simp only [Act.put]); (try simp only [List.setIfInBounds_toArray]); (try simp only [List.set_cons_succ]); (try simp only [List.set_cons_zero])
  refine wpAnyH_take (i := 8) (v := ?_) rfl (by kernel_rfl) (by kernel_rfl) (by kernel_rfl) (fun _ _ _ h => h) (Or.inl ⟨by rfl, ?_⟩) (by assumption) ?_
  rotate_left
  · intro w9 hSw
    (try dsimp only at hSw)
    go_simp
    (try with_reducible rfl)
  (try simp only [Act.put]); (try simp only [List.setIfInBounds_toArray]); (try simp only [List.set_cons_succ]); (try simp only [List.set_cons_zero])
  iterate 1
    (try dsimp only [List.getElem_toArray, List.getElem_cons_succ, List.getElem_cons_zero])
    (try simp only [Act.put]); (try simp only [List.setIfInBounds_toArray]); (try simp only [List.set_cons_succ]); (try simp only [List.set_cons_zero])
  refine wpAnyH_take (i := 9) (oi := { dst := some 61, op := Go.Op.load 28 (Go.Operand.tmp 5), type := 28, pos := "law.go:55", after := #[{ on := 8, ground := Go.Ground.guard }], guard := some (8, true) }) (v := .agg (tabA s p u v)) rfl (by kernel_rfl) (by kernel_rfl) (by kernel_rfl) (fun _ _ _ h => h) (y_midT (by rfl) (.tmp 5) rfl g rfl (fun _ h => h.t)) (by assumption) ?_
  (try simp only [Act.put]); (try simp only [List.setIfInBounds_toArray]); (try simp only [List.set_cons_succ]); (try simp only [List.set_cons_zero])
  iterate 1
    (try dsimp only [List.getElem_toArray, List.getElem_cons_succ, List.getElem_cons_zero])
    (try simp only [Act.put]); (try simp only [List.setIfInBounds_toArray]); (try simp only [List.set_cons_succ]); (try simp only [List.set_cons_zero])
  refine wpAnyH_take (i := 11) (oi := { dst := some 63, op := Go.Op.load 28 (Go.Operand.tmp 5), type := 28, pos := "law.go:55", after := #[{ on := 8, ground := Go.Ground.guard }], guard := some (8, true) }) (v := .agg (tabA s p u v)) rfl (by kernel_rfl) (by kernel_rfl) (by kernel_rfl) (fun _ _ _ h => h) (y_midT (by rfl) (.tmp 5) rfl g rfl (fun _ h => h.t)) (by assumption) ?_
  (try simp only [Act.put]); (try simp only [List.setIfInBounds_toArray]); (try simp only [List.set_cons_succ]); (try simp only [List.set_cons_zero])
  iterate 1
    (try dsimp only [List.getElem_toArray, List.getElem_cons_succ, List.getElem_cons_zero])
    (try simp only [Act.put]); (try simp only [List.setIfInBounds_toArray]); (try simp only [List.set_cons_succ]); (try simp only [List.set_cons_zero])
  refine wpAnyH_ready (rs := [10]) (by kernel_rfl) (by simp) ?_
  refine AllReadyH.cons rfl (fun K hK => ?_) ?_
  rotate_left
  · exact AllReadyH.nil
  go_simp
  go_wp2_with (go_at_call 27; (with_reducible refine (HF.out.1 _ HW.out.bel).mono ?_); rintro e z10 ⟨rfl, kk⟩); replace HW := Lib.hid (HW.out.bel2 hg kk); clear kk
  refine hK.out _ _ ?_ (fun hHeld => ?_)
  · exact HW.out
  clear hK K
  (try simp only [Act.put]); (try simp only [List.setIfInBounds_toArray]); (try simp only [List.set_cons_succ]); (try simp only [List.set_cons_zero])
  iterate 1
    (try dsimp only [List.getElem_toArray, List.getElem_cons_succ, List.getElem_cons_zero])
    (try simp only [Act.put]); (try simp only [List.setIfInBounds_toArray]); (try simp only [List.set_cons_succ]); (try simp only [List.set_cons_zero])
  refine wpAnyH_ready (rs := [12]) (by kernel_rfl) (by simp) ?_
  refine AllReadyH.cons rfl (fun K hK => ?_) ?_
  rotate_left
  · exact AllReadyH.nil
  go_simp
  go_wp2_with (go_at_call 28; (with_reducible refine (HF.out.2 _ HW.out.bel).mono ?_); rintro e z12 ⟨rfl, kk⟩); replace HW := Lib.hid (HW.out.bel2 hg kk); clear kk
  refine hK.out _ _ ?_ (fun hHeld => ?_)
  · exact HW.out
  clear hK K
  (try simp only [Act.put]); (try simp only [List.setIfInBounds_toArray]); (try simp only [List.set_cons_succ]); (try simp only [List.set_cons_zero])
  iterate 1
    (try dsimp only [List.getElem_toArray, List.getElem_cons_succ, List.getElem_cons_zero])
    (try simp only [Act.put]); (try simp only [List.setIfInBounds_toArray]); (try simp only [List.set_cons_succ]); (try simp only [List.set_cons_zero])
  refine wpAnyH_take (i := 13) (oi := { dst := some 65, op := Go.Op.binOp Go.BinOp.eql 25 (Go.Operand.tmp 62) (Go.Operand.tmp 64) 25, type := 4, pos := "law.go:55", after := #[{ on := 10, ground := Go.Ground.data }, { on := 12, ground := Go.Ground.data }, { on := 8, ground := Go.Ground.guard }], guard := some (8, true) }) (v := .bool true) rfl (by kernel_rfl) (by kernel_rfl) (by kernel_rfl) (fun _ _ _ h => h) (y_eqlP (by rfl) (.tmp 62) (.tmp 64) rfl f1 f1 rfl rfl e1) (by assumption) ?_
  (try simp only [Act.put]); (try simp only [List.setIfInBounds_toArray]); (try simp only [List.set_cons_succ]); (try simp only [List.set_cons_zero])
  iterate 1
    (try dsimp only [List.getElem_toArray, List.getElem_cons_succ, List.getElem_cons_zero])
    (try simp only [Act.put]); (try simp only [List.setIfInBounds_toArray]); (try simp only [List.set_cons_succ]); (try simp only [List.set_cons_zero])
  refine wpAnyH_take (i := 14) (v := ?_) rfl (by kernel_rfl) (by kernel_rfl) (by kernel_rfl) (fun _ _ _ h => h) (Or.inl ⟨by rfl, ?_⟩) (by assumption) ?_
  rotate_left
  · intro w9 hSw
    (try dsimp only at hSw)
    go_simp
    (try with_reducible rfl)
  (try simp only [Act.put]); (try simp only [List.setIfInBounds_toArray]); (try simp only [List.set_cons_succ]); (try simp only [List.set_cons_zero])
  iterate 1
    (try dsimp only [List.getElem_toArray, List.getElem_cons_succ, List.getElem_cons_zero])
    (try simp only [Act.put]); (try simp only [List.setIfInBounds_toArray]); (try simp only [List.set_cons_succ]); (try simp only [List.set_cons_zero])
  refine wpAnyH_take (i := 15) (v := ?_) rfl (by kernel_rfl) (by kernel_rfl) (by kernel_rfl) (fun _ _ _ h => h) (Or.inl ⟨by rfl, ?_⟩) (by assumption) ?_
  rotate_left
  · intro w9 hSw
    (try dsimp only at hSw)
    go_simp
    (try with_reducible rfl)
  (try simp only [Act.put]); (try simp only [List.setIfInBounds_toArray]); (try simp only [List.set_cons_succ]); (try simp only [List.set_cons_zero])
  iterate 1
    (try dsimp only [List.getElem_toArray, List.getElem_cons_succ, List.getElem_cons_zero])
    (try simp only [Act.put]); (try simp only [List.setIfInBounds_toArray]); (try simp only [List.set_cons_succ]); (try simp only [List.set_cons_zero])
  refine wpAnyH_take (i := 16) (oi := { dst := some 68, op := Go.Op.load 28 (Go.Operand.tmp 5), type := 28, pos := "law.go:55", after := #[{ on := 15, ground := Go.Ground.guard }], guard := some (15, true) }) (v := .agg (tabA s p u v)) rfl (by kernel_rfl) (by kernel_rfl) (by kernel_rfl) (fun _ _ _ h => h) (y_midT (by rfl) (.tmp 5) rfl g rfl (fun _ h => h.t)) (by assumption) ?_
  (try simp only [Act.put]); (try simp only [List.setIfInBounds_toArray]); (try simp only [List.set_cons_succ]); (try simp only [List.set_cons_zero])
  iterate 1
    (try dsimp only [List.getElem_toArray, List.getElem_cons_succ, List.getElem_cons_zero])
    (try simp only [Act.put]); (try simp only [List.setIfInBounds_toArray]); (try simp only [List.set_cons_succ]); (try simp only [List.set_cons_zero])
  refine wpAnyH_take (i := 17) (oi := { dst := some 69, op := Go.Op.load 25 (Go.Operand.tmp 6), type := 25, pos := "law.go:55", after := #[{ on := 15, ground := Go.Ground.guard }], guard := some (15, true) }) (v := .agg (peA x)) rfl (by kernel_rfl) (by kernel_rfl) (by kernel_rfl) (fun _ _ _ h => h) (y_midP (by rfl) (.tmp 6) rfl (g + 1) 0 rfl x (fun _ h => h.x.range)) (by assumption) ?_
  (try simp only [Act.put]); (try simp only [List.setIfInBounds_toArray]); (try simp only [List.set_cons_succ]); (try simp only [List.set_cons_zero])
  iterate 1
    (try dsimp only [List.getElem_toArray, List.getElem_cons_succ, List.getElem_cons_zero])
    (try simp only [Act.put]); (try simp only [List.setIfInBounds_toArray]); (try simp only [List.set_cons_succ]); (try simp only [List.set_cons_zero])
  refine wpAnyH_take (i := 19) (oi := { dst := some 71, op := Go.Op.load 28 (Go.Operand.tmp 5), type := 28, pos := "law.go:55", after := #[{ on := 15, ground := Go.Ground.guard }], guard := some (15, true) }) (v := .agg (tabA s p u v)) rfl (by kernel_rfl) (by kernel_rfl) (by kernel_rfl) (fun _ _ _ h => h) (y_midT (by rfl) (.tmp 5) rfl g rfl (fun _ h => h.t)) (by assumption) ?_
  (try simp only [Act.put]); (try simp only [List.setIfInBounds_toArray]); (try simp only [List.set_cons_succ]); (try simp only [List.set_cons_zero])
  iterate 1
    (try dsimp only [List.getElem_toArray, List.getElem_cons_succ, List.getElem_cons_zero])
    (try simp only [Act.put]); (try simp only [List.setIfInBounds_toArray]); (try simp only [List.set_cons_succ]); (try simp only [List.set_cons_zero])
  refine wpAnyH_take (i := 20) (oi := { dst := some 72, op := Go.Op.load 25 (Go.Operand.tmp 6), type := 25, pos := "law.go:55", after := #[{ on := 15, ground := Go.Ground.guard }], guard := some (15, true) }) (v := .agg (peA x)) rfl (by kernel_rfl) (by kernel_rfl) (by kernel_rfl) (fun _ _ _ h => h) (y_midP (by rfl) (.tmp 6) rfl (g + 1) 0 rfl x (fun _ h => h.x.range)) (by assumption) ?_
  (try simp only [Act.put]); (try simp only [List.setIfInBounds_toArray]); (try simp only [List.set_cons_succ]); (try simp only [List.set_cons_zero])
  iterate 1
    (try dsimp only [List.getElem_toArray, List.getElem_cons_succ, List.getElem_cons_zero])
    (try simp only [Act.put]); (try simp only [List.setIfInBounds_toArray]); (try simp only [List.set_cons_succ]); (try simp only [List.set_cons_zero])
  refine wpAnyH_ready (rs := [18]) (by kernel_rfl) (by simp) ?_
  refine AllReadyH.cons rfl (fun K hK => ?_) ?_
  rotate_left
  · exact AllReadyH.nil
  go_simp
  go_wp2_with (go_at_call 29; (with_reducible refine (HC.out.1 _ HW.out.bel).mono ?_); rintro e z18 ⟨rfl, kk⟩); replace HW := Lib.hid (HW.out.bel2 hg kk); clear kk
  refine hK.out _ _ ?_ (fun hHeld => ?_)
  · exact HW.out
  clear hK K
  (try simp only [Act.put]); (try simp only [List.setIfInBounds_toArray]); (try simp only [List.set_cons_succ]); (try simp only [List.set_cons_zero])
  iterate 1
    (try dsimp only [List.getElem_toArray, List.getElem_cons_succ, List.getElem_cons_zero])
    (try simp only [Act.put]); (try simp only [List.setIfInBounds_toArray]); (try simp only [List.set_cons_succ]); (try simp only [List.set_cons_zero])
  refine wpAnyH_ready (rs := [21]) (by kernel_rfl) (by simp) ?_
  refine AllReadyH.cons rfl (fun K hK => ?_) ?_
  rotate_left
  · exact AllReadyH.nil
  go_simp
  go_wp2_with (go_at_call 30; (with_reducible refine (HC.out.2 _ HW.out.bel).mono ?_); rintro e z21 ⟨rfl, kk⟩); replace HW := Lib.hid (HW.out.bel2 hg kk); clear kk
  refine hK.out _ _ ?_ (fun hHeld => ?_)
  · exact HW.out
  clear hK K
  (try simp only [Act.put]); (try simp only [List.setIfInBounds_toArray]); (try simp only [List.set_cons_succ]); (try simp only [List.set_cons_zero])
  iterate 1
    (try dsimp only [List.getElem_toArray, List.getElem_cons_succ, List.getElem_cons_zero])
    (try simp only [Act.put]); (try simp only [List.setIfInBounds_toArray]); (try simp only [List.set_cons_succ]); (try simp only [List.set_cons_zero])
  refine wpAnyH_take (i := 22) (v := ?_) rfl (by kernel_rfl) (by kernel_rfl) (by kernel_rfl) (fun _ _ _ h => h) (Or.inl ⟨by rfl, ?_⟩) (by assumption) ?_
  rotate_left
  · intro w9 hSw
    (try dsimp only at hSw)
    go_simp
    (try with_reducible rfl)
  (try simp only [Act.put]); (try simp only [List.setIfInBounds_toArray]); (try simp only [List.set_cons_succ]); (try simp only [List.set_cons_zero])
  iterate 1
    (try dsimp only [List.getElem_toArray, List.getElem_cons_succ, List.getElem_cons_zero])
    (try simp only [Act.put]); (try simp only [List.setIfInBounds_toArray]); (try simp only [List.set_cons_succ]); (try simp only [List.set_cons_zero])
  refine wpAnyH_take (i := 23) (v := ?_) rfl (by kernel_rfl) (by kernel_rfl) (by kernel_rfl) (fun _ _ _ h => h) (Or.inl ⟨by rfl, ?_⟩) (by assumption) ?_
  rotate_left
  · intro w9 hSw
    (try dsimp only at hSw)
    go_simp
    (try with_reducible rfl)
  (try simp only [Act.put]); (try simp only [List.setIfInBounds_toArray]); (try simp only [List.set_cons_succ]); (try simp only [List.set_cons_zero])
  iterate 1
    (try dsimp only [List.getElem_toArray, List.getElem_cons_succ, List.getElem_cons_zero])
    (try simp only [Act.put]); (try simp only [List.setIfInBounds_toArray]); (try simp only [List.set_cons_succ]); (try simp only [List.set_cons_zero])
  refine wpAnyH_take (i := 24) (v := ?_) rfl (by kernel_rfl) (by kernel_rfl) (by kernel_rfl) (fun _ _ _ h => h) (Or.inl ⟨by rfl, ?_⟩) (by assumption) ?_
  rotate_left
  · intro w9 hSw
    (try dsimp only at hSw)
    go_simp
    (try with_reducible rfl)
  (try simp only [Act.put]); (try simp only [List.setIfInBounds_toArray]); (try simp only [List.set_cons_succ]); (try simp only [List.set_cons_zero])
  iterate 1
    (try dsimp only [List.getElem_toArray, List.getElem_cons_succ, List.getElem_cons_zero])
    (try simp only [Act.put]); (try simp only [List.setIfInBounds_toArray]); (try simp only [List.set_cons_succ]); (try simp only [List.set_cons_zero])
  refine wpAnyH_take (i := 25) (oi := { dst := some 77, op := Go.Op.load 25 (Go.Operand.tmp 11), type := 25, pos := "law.go:55", after := #[{ on := 24, ground := Go.Ground.guard }], guard := some (24, true) }) (v := .agg (peA q)) rfl (by kernel_rfl) (by kernel_rfl) (by kernel_rfl) (fun _ _ _ h => h) (y_midP (by rfl) (.tmp 11) rfl ga 0 rfl q (fun _ h => h.pa.range)) (by assumption) ?_
  (try simp only [Act.put]); (try simp only [List.setIfInBounds_toArray]); (try simp only [List.set_cons_succ]); (try simp only [List.set_cons_zero])
  iterate 1
    (try dsimp only [List.getElem_toArray, List.getElem_cons_succ, List.getElem_cons_zero])
    (try simp only [Act.put]); (try simp only [List.setIfInBounds_toArray]); (try simp only [List.set_cons_succ]); (try simp only [List.set_cons_zero])
  refine wpAnyH_take (i := 26) (oi := { dst := some 78, op := Go.Op.load 25 (Go.Operand.tmp 13), type := 25, pos := "law.go:55", after := #[{ on := 24, ground := Go.Ground.guard }], guard := some (24, true) }) (v := .agg (peA q)) rfl (by kernel_rfl) (by kernel_rfl) (by kernel_rfl) (fun _ _ _ h => h) (y_midP (by rfl) (.tmp 13) rfl gb 0 rfl q (fun _ h => h.pb.range)) (by assumption) ?_
  (try simp only [Act.put]); (try simp only [List.setIfInBounds_toArray]); (try simp only [List.set_cons_succ]); (try simp only [List.set_cons_zero])
  iterate 1
    (try dsimp only [List.getElem_toArray, List.getElem_cons_succ, List.getElem_cons_zero])
    (try simp only [Act.put]); (try simp only [List.setIfInBounds_toArray]); (try simp only [List.set_cons_succ]); (try simp only [List.set_cons_zero])
  refine wpAnyH_take (i := 27) (oi := { dst := some 79, op := Go.Op.binOp Go.BinOp.eql 25 (Go.Operand.tmp 77) (Go.Operand.tmp 78) 25, type := 4, pos := "law.go:55", after := #[{ on := 25, ground := Go.Ground.data }, { on := 26, ground := Go.Ground.data }, { on := 24, ground := Go.Ground.guard }], guard := some (24, true) }) (v := .bool true) rfl (by kernel_rfl) (by kernel_rfl) (by kernel_rfl) (fun _ _ _ h => h) (y_eqlP (by rfl) (.tmp 77) (.tmp 78) rfl q q rfl rfl eq) (by assumption) ?_
  (try simp only [Act.put]); (try simp only [List.setIfInBounds_toArray]); (try simp only [List.set_cons_succ]); (try simp only [List.set_cons_zero])
  iterate 1
    (try dsimp only [List.getElem_toArray, List.getElem_cons_succ, List.getElem_cons_zero])
    (try simp only [Act.put]); (try simp only [List.setIfInBounds_toArray]); (try simp only [List.set_cons_succ]); (try simp only [List.set_cons_zero])
  refine wpAnyH_take (i := 28) (v := ?_) rfl (by kernel_rfl) (by kernel_rfl) (by kernel_rfl) (fun _ _ _ h => h) (Or.inl ⟨by rfl, ?_⟩) (by assumption) ?_
  rotate_left
  · intro w9 hSw
    (try dsimp only at hSw)
    go_simp
    (try with_reducible rfl)
  (try simp only [Act.put]); (try simp only [List.setIfInBounds_toArray]); (try simp only [List.set_cons_succ]); (try simp only [List.set_cons_zero])
  iterate 1
    (try dsimp only [List.getElem_toArray, List.getElem_cons_succ, List.getElem_cons_zero])
    (try simp only [Act.put]); (try simp only [List.setIfInBounds_toArray]); (try simp only [List.set_cons_succ]); (try simp only [List.set_cons_zero])
  refine wpAnyH_take (i := 29) (v := ?_) rfl (by kernel_rfl) (by kernel_rfl) (by kernel_rfl) (fun _ _ _ h => h) (Or.inl ⟨by rfl, ?_⟩) (by assumption) ?_
  rotate_left
  · intro w9 hSw
    (try dsimp only at hSw)
    go_simp
    (try with_reducible rfl)
  (try simp only [Act.put]); (try simp only [List.setIfInBounds_toArray]); (try simp only [List.set_cons_succ]); (try simp only [List.set_cons_zero])
  iterate 1
    (try dsimp only [List.getElem_toArray, List.getElem_cons_succ, List.getElem_cons_zero])
    (try simp only [Act.put]); (try simp only [List.setIfInBounds_toArray]); (try simp only [List.set_cons_succ]); (try simp only [List.set_cons_zero])
  refine wpAnyH_take (i := 30) (v := ?_) rfl (by kernel_rfl) (by kernel_rfl) (by kernel_rfl) (fun _ _ _ h => h) (Or.inl ⟨by rfl, ?_⟩) (by assumption) ?_
  rotate_left
  · intro w9 hSw
    (try dsimp only at hSw)
    go_simp
    (try with_reducible rfl)
  (try simp only [Act.put]); (try simp only [List.setIfInBounds_toArray]); (try simp only [List.set_cons_succ]); (try simp only [List.set_cons_zero])
  iterate 1
    (try dsimp only [List.getElem_toArray, List.getElem_cons_succ, List.getElem_cons_zero])
    (try simp only [Act.put]); (try simp only [List.setIfInBounds_toArray]); (try simp only [List.set_cons_succ]); (try simp only [List.set_cons_zero])
  refine wpAnyH_take (i := 31) (v := ?_) rfl (by kernel_rfl) (by kernel_rfl) (by kernel_rfl) (fun _ _ _ h => h) (Or.inl ⟨by rfl, ?_⟩) (by assumption) ?_
  rotate_left
  · intro w9 hSw
    (try dsimp only at hSw)
    go_simp
    (try with_reducible rfl)
  (try simp only [Act.put]); (try simp only [List.setIfInBounds_toArray]); (try simp only [List.set_cons_succ]); (try simp only [List.set_cons_zero])
  iterate 1
    (try dsimp only [List.getElem_toArray, List.getElem_cons_succ, List.getElem_cons_zero])
    (try simp only [Act.put]); (try simp only [List.setIfInBounds_toArray]); (try simp only [List.set_cons_succ]); (try simp only [List.set_cons_zero])
  refine wpAnyH_take (i := 32) (v := ?_) rfl (by kernel_rfl) (by kernel_rfl) (by kernel_rfl) (fun _ _ _ h => h) (Or.inl ⟨by rfl, ?_⟩) (by assumption) ?_
  rotate_left
  · intro w9 hSw
    (try dsimp only at hSw)
    go_simp
    (try with_reducible rfl)
  (try simp only [Act.put]); (try simp only [List.setIfInBounds_toArray]); (try simp only [List.set_cons_succ]); (try simp only [List.set_cons_zero])
  iterate 1
    (try dsimp only [List.getElem_toArray, List.getElem_cons_succ, List.getElem_cons_zero])
    (try simp only [Act.put]); (try simp only [List.setIfInBounds_toArray]); (try simp only [List.set_cons_succ]); (try simp only [List.set_cons_zero])
  refine wpAnyH_take (i := 33) (v := ?_) rfl (by kernel_rfl) (by kernel_rfl) (by kernel_rfl) (fun _ _ _ h => h) (Or.inl ⟨by rfl, ?_⟩) (by assumption) ?_
  rotate_left
  · intro w9 hSw
    (try dsimp only at hSw)
    go_simp
    (try with_reducible rfl)
  (try simp only [Act.put]); (try simp only [List.setIfInBounds_toArray]); (try simp only [List.set_cons_succ]); (try simp only [List.set_cons_zero])
  iterate 1
    (try dsimp only [List.getElem_toArray, List.getElem_cons_succ, List.getElem_cons_zero])
    (try simp only [Act.put]); (try simp only [List.setIfInBounds_toArray]); (try simp only [List.set_cons_succ]); (try simp only [List.set_cons_zero])
  refine wpAnyH_take (i := 34) (v := ?_) rfl (by kernel_rfl) (by kernel_rfl) (by kernel_rfl) (fun _ _ _ h => h) (Or.inl ⟨by rfl, ?_⟩) (by assumption) ?_
  rotate_left
  · intro w9 hSw
    (try dsimp only at hSw)
    go_simp
    (try with_reducible rfl)
  (try simp only [Act.put]); (try simp only [List.setIfInBounds_toArray]); (try simp only [List.set_cons_succ]); (try simp only [List.set_cons_zero])
  iterate 1
    (try dsimp only [List.getElem_toArray, List.getElem_cons_succ, List.getElem_cons_zero])
    (try simp only [Act.put]); (try simp only [List.setIfInBounds_toArray]); (try simp only [List.set_cons_succ]); (try simp only [List.set_cons_zero])
  refine wpAnyH_take (i := 35) (oi := { dst := some 87, op := Go.Op.load 25 (Go.Operand.tmp 15), type := 25, pos := "law.go:55", after := #[{ on := 34, ground := Go.Ground.guard }], guard := some (34, true) }) (v := .agg (peA f)) rfl (by kernel_rfl) (by kernel_rfl) (by kernel_rfl) (fun _ _ _ h => h) (y_midP (by rfl) (.tmp 15) rfl gc 0 rfl f (fun _ h => h.pc.range)) (by assumption) ?_
  (try simp only [Act.put]); (try simp only [List.setIfInBounds_toArray]); (try simp only [List.set_cons_succ]); (try simp only [List.set_cons_zero])
  iterate 1
    (try dsimp only [List.getElem_toArray, List.getElem_cons_succ, List.getElem_cons_zero])
    (try simp only [Act.put]); (try simp only [List.setIfInBounds_toArray]); (try simp only [List.set_cons_succ]); (try simp only [List.set_cons_zero])
  refine wpAnyH_take (i := 36) (oi := { dst := some 88, op := Go.Op.load 25 (Go.Operand.tmp 17), type := 25, pos := "law.go:55", after := #[{ on := 34, ground := Go.Ground.guard }], guard := some (34, true) }) (v := .agg (peA f)) rfl (by kernel_rfl) (by kernel_rfl) (by kernel_rfl) (fun _ _ _ h => h) (y_midP (by rfl) (.tmp 17) rfl gd 0 rfl f (fun _ h => h.pd.range)) (by assumption) ?_
  (try simp only [Act.put]); (try simp only [List.setIfInBounds_toArray]); (try simp only [List.set_cons_succ]); (try simp only [List.set_cons_zero])
  iterate 1
    (try dsimp only [List.getElem_toArray, List.getElem_cons_succ, List.getElem_cons_zero])
    (try simp only [Act.put]); (try simp only [List.setIfInBounds_toArray]); (try simp only [List.set_cons_succ]); (try simp only [List.set_cons_zero])
  refine wpAnyH_take (i := 37) (oi := { dst := some 89, op := Go.Op.binOp Go.BinOp.eql 25 (Go.Operand.tmp 87) (Go.Operand.tmp 88) 25, type := 4, pos := "law.go:55", after := #[{ on := 35, ground := Go.Ground.data }, { on := 36, ground := Go.Ground.data }, { on := 34, ground := Go.Ground.guard }], guard := some (34, true) }) (v := .bool true) rfl (by kernel_rfl) (by kernel_rfl) (by kernel_rfl) (fun _ _ _ h => h) (y_eqlP (by rfl) (.tmp 87) (.tmp 88) rfl f f rfl rfl ef) (by assumption) ?_
  (try simp only [Act.put]); (try simp only [List.setIfInBounds_toArray]); (try simp only [List.set_cons_succ]); (try simp only [List.set_cons_zero])
  iterate 1
    (try dsimp only [List.getElem_toArray, List.getElem_cons_succ, List.getElem_cons_zero])
    (try simp only [Act.put]); (try simp only [List.setIfInBounds_toArray]); (try simp only [List.set_cons_succ]); (try simp only [List.set_cons_zero])
  refine wpAnyH_take (i := 38) (v := ?_) rfl (by kernel_rfl) (by kernel_rfl) (by kernel_rfl) (fun _ _ _ h => h) (Or.inl ⟨by rfl, ?_⟩) (by assumption) ?_
  rotate_left
  · intro w9 hSw
    (try dsimp only at hSw)
    go_simp
    (try with_reducible rfl)
  (try simp only [Act.put]); (try simp only [List.setIfInBounds_toArray]); (try simp only [List.set_cons_succ]); (try simp only [List.set_cons_zero])
  iterate 1
    (try dsimp only [List.getElem_toArray, List.getElem_cons_succ, List.getElem_cons_zero])
    (try simp only [Act.put]); (try simp only [List.setIfInBounds_toArray]); (try simp only [List.set_cons_succ]); (try simp only [List.set_cons_zero])
  refine wpAnyH_take (i := 39) (v := ?_) rfl (by kernel_rfl) (by kernel_rfl) (by kernel_rfl) (fun _ _ _ h => h) (Or.inl ⟨by rfl, ?_⟩) (by assumption) ?_
  rotate_left
  · intro w9 hSw
    (try dsimp only at hSw)
    go_simp
    (try with_reducible rfl)
  (try simp only [Act.put]); (try simp only [List.setIfInBounds_toArray]); (try simp only [List.set_cons_succ]); (try simp only [List.set_cons_zero])
  iterate 1
    (try dsimp only [List.getElem_toArray, List.getElem_cons_succ, List.getElem_cons_zero])
    (try simp only [Act.put]); (try simp only [List.setIfInBounds_toArray]); (try simp only [List.set_cons_succ]); (try simp only [List.set_cons_zero])
  refine wpAnyH_take (i := 40) (v := ?_) rfl (by kernel_rfl) (by kernel_rfl) (by kernel_rfl) (fun _ _ _ h => h) (Or.inl ⟨by rfl, ?_⟩) (by assumption) ?_
  rotate_left
  · intro w9 hSw
    (try dsimp only at hSw)
    go_simp
    (try with_reducible rfl)
  (try simp only [Act.put]); (try simp only [List.setIfInBounds_toArray]); (try simp only [List.set_cons_succ]); (try simp only [List.set_cons_zero])
  iterate 1
    (try dsimp only [List.getElem_toArray, List.getElem_cons_succ, List.getElem_cons_zero])
    (try simp only [Act.put]); (try simp only [List.setIfInBounds_toArray]); (try simp only [List.set_cons_succ]); (try simp only [List.set_cons_zero])
  refine wpAnyH_take (i := 41) (v := ?_) rfl (by kernel_rfl) (by kernel_rfl) (by kernel_rfl) (fun _ _ _ h => h) (Or.inl ⟨by rfl, ?_⟩) (by assumption) ?_
  rotate_left
  · intro w9 hSw
    (try dsimp only at hSw)
    go_simp
    (try with_reducible rfl)
  (try simp only [Act.put]); (try simp only [List.setIfInBounds_toArray]); (try simp only [List.set_cons_succ]); (try simp only [List.set_cons_zero])
  iterate 1
    (try dsimp only [List.getElem_toArray, List.getElem_cons_succ, List.getElem_cons_zero])
    (try simp only [Act.put]); (try simp only [List.setIfInBounds_toArray]); (try simp only [List.set_cons_succ]); (try simp only [List.set_cons_zero])
  refine wpAnyH_take (i := 42) (v := ?_) rfl (by kernel_rfl) (by kernel_rfl) (by kernel_rfl) (fun _ _ _ h => h) (Or.inl ⟨by rfl, ?_⟩) (by assumption) ?_
  rotate_left
  · intro w9 hSw
    (try dsimp only at hSw)
    go_simp
    (try with_reducible rfl)
  (try simp only [Act.put]); (try simp only [List.setIfInBounds_toArray]); (try simp only [List.set_cons_succ]); (try simp only [List.set_cons_zero])
  iterate 1
    (try dsimp only [List.getElem_toArray, List.getElem_cons_succ, List.getElem_cons_zero])
    (try simp only [Act.put]); (try simp only [List.setIfInBounds_toArray]); (try simp only [List.set_cons_succ]); (try simp only [List.set_cons_zero])
  refine wpAnyH_take (i := 43) (v := ?_) rfl (by kernel_rfl) (by kernel_rfl) (by kernel_rfl) (fun _ _ _ h => h) (Or.inl ⟨by rfl, ?_⟩) (by assumption) ?_
  rotate_left
  · intro w9 hSw
    (try dsimp only at hSw)
    go_simp
    (try with_reducible rfl)
  (try simp only [Act.put]); (try simp only [List.setIfInBounds_toArray]); (try simp only [List.set_cons_succ]); (try simp only [List.set_cons_zero])
  iterate 1
    (try dsimp only [List.getElem_toArray, List.getElem_cons_succ, List.getElem_cons_zero])
    (try simp only [Act.put]); (try simp only [List.setIfInBounds_toArray]); (try simp only [List.set_cons_succ]); (try simp only [List.set_cons_zero])
  refine wpAnyH_take (i := 44) (v := ?_) rfl (by kernel_rfl) (by kernel_rfl) (by kernel_rfl) (fun _ _ _ h => h) (Or.inl ⟨by rfl, ?_⟩) (by assumption) ?_
  rotate_left
  · intro w9 hSw
    (try dsimp only at hSw)
    go_simp
    (try with_reducible rfl)
  (try simp only [Act.put]); (try simp only [List.setIfInBounds_toArray]); (try simp only [List.set_cons_succ]); (try simp only [List.set_cons_zero])
  iterate 1
    (try dsimp only [List.getElem_toArray, List.getElem_cons_succ, List.getElem_cons_zero])
    (try simp only [Act.put]); (try simp only [List.setIfInBounds_toArray]); (try simp only [List.set_cons_succ]); (try simp only [List.set_cons_zero])
  refine wpAnyH_take (i := 45) (oi := { dst := some 97, op := Go.Op.load 28 (Go.Operand.tmp 5), type := 28, pos := "law.go:55", after := #[{ on := 44, ground := Go.Ground.guard }], guard := some (44, true) }) (v := .agg (tabA s p u v)) rfl (by kernel_rfl) (by kernel_rfl) (by kernel_rfl) (fun _ _ _ h => h) (y_midT (by rfl) (.tmp 5) rfl g rfl (fun _ h => h.t)) (by assumption) ?_
  (try simp only [Act.put]); (try simp only [List.setIfInBounds_toArray]); (try simp only [List.set_cons_succ]); (try simp only [List.set_cons_zero])
  iterate 1
    (try dsimp only [List.getElem_toArray, List.getElem_cons_succ, List.getElem_cons_zero])
    (try simp only [Act.put]); (try simp only [List.setIfInBounds_toArray]); (try simp only [List.set_cons_succ]); (try simp only [List.set_cons_zero])
  refine wpAnyH_take (i := 47) (oi := { dst := some 99, op := Go.Op.load 28 (Go.Operand.tmp 5), type := 28, pos := "law.go:55", after := #[{ on := 44, ground := Go.Ground.guard }], guard := some (44, true) }) (v := .agg (tabA s p u v)) rfl (by kernel_rfl) (by kernel_rfl) (by kernel_rfl) (fun _ _ _ h => h) (y_midT (by rfl) (.tmp 5) rfl g rfl (fun _ h => h.t)) (by assumption) ?_
  (try simp only [Act.put]); (try simp only [List.setIfInBounds_toArray]); (try simp only [List.set_cons_succ]); (try simp only [List.set_cons_zero])
  iterate 1
    (try dsimp only [List.getElem_toArray, List.getElem_cons_succ, List.getElem_cons_zero])
    (try simp only [Act.put]); (try simp only [List.setIfInBounds_toArray]); (try simp only [List.set_cons_succ]); (try simp only [List.set_cons_zero])
  refine wpAnyH_ready (rs := [46]) (by kernel_rfl) (by simp) ?_
  refine AllReadyH.cons rfl (fun K hK => ?_) ?_
  rotate_left
  · exact AllReadyH.nil
  go_simp
  go_wp2_with (go_at_call 32; (with_reducible refine (HKA.out _ HW.out.bel).mono ?_); rintro e z46 ⟨ka, rfl, hl, kk⟩); replace HW := Lib.hid (HW.out.bel2 hg kk); have HL1 := Lib.hid hl; clear hl; clear kk
  refine hK.out _ _ ?_ (fun hHeld => ?_)
  · exact HW.out
  clear hK K
  (try simp only [Act.put]); (try simp only [List.setIfInBounds_toArray]); (try simp only [List.set_cons_succ]); (try simp only [List.set_cons_zero])
  iterate 1
    (try dsimp only [List.getElem_toArray, List.getElem_cons_succ, List.getElem_cons_zero])
    (try simp only [Act.put]); (try simp only [List.setIfInBounds_toArray]); (try simp only [List.set_cons_succ]); (try simp only [List.set_cons_zero])
  refine wpAnyH_ready (rs := [48]) (by kernel_rfl) (by simp) ?_
  refine AllReadyH.cons rfl (fun K hK => ?_) ?_
  rotate_left
  · exact AllReadyH.nil
  go_simp
  go_wp2_with (go_at_call 33; (with_reducible refine (HKB.out _ HW.out.bel).mono ?_); rintro e z48 ⟨kb, rfl, hl, kk⟩); replace HW := Lib.hid (HW.out.bel2 hg kk); have HL2 := Lib.hid hl; replace HL1 := Lib.hid (HL1.out.bel kk); clear hl; clear kk
  refine hK.out _ _ ?_ (fun hHeld => ?_)
  · exact HW.out
  clear hK K
  (try simp only [Act.put]); (try simp only [List.setIfInBounds_toArray]); (try simp only [List.set_cons_succ]); (try simp only [List.set_cons_zero])
  iterate 1
    (try dsimp only [List.getElem_toArray, List.getElem_cons_succ, List.getElem_cons_zero])
    (try simp only [Act.put]); (try simp only [List.setIfInBounds_toArray]); (try simp only [List.set_cons_succ]); (try simp only [List.set_cons_zero])
  refine wpAnyH_ready (rs := [49]) (by kernel_rfl) (by simp) ?_
  refine AllReadyH.cons rfl (fun K hK => ?_) ?_
  rotate_left
  · exact AllReadyH.nil
  go_simp
  go_wp2_with (go_at_call 31; (with_reducible refine (same_self HL1.out HL2.out HK.out).mono ?_); rintro e z49 ⟨rfl, kk⟩); replace HW := Lib.hid (HW.out.bel2 hg kk); clear kk
  refine hK.out _ _ ?_ (fun hHeld => ?_)
  · exact HW.out
  clear hK K
  (try simp only [Act.put]); (try simp only [List.setIfInBounds_toArray]); (try simp only [List.set_cons_succ]); (try simp only [List.set_cons_zero])
  iterate 1
    (try dsimp only [List.getElem_toArray, List.getElem_cons_succ, List.getElem_cons_zero])
    (try simp only [Act.put]); (try simp only [List.setIfInBounds_toArray]); (try simp only [List.set_cons_succ]); (try simp only [List.set_cons_zero])
  refine wpAnyH_take (i := 50) (v := ?_) rfl (by kernel_rfl) (by kernel_rfl) (by kernel_rfl) (fun _ _ _ h => h) (Or.inl ⟨by rfl, ?_⟩) (by assumption) ?_
  rotate_left
  · intro w9 hSw
    (try dsimp only at hSw)
    go_simp
    (try with_reducible rfl)
  (try simp only [Act.put]); (try simp only [List.setIfInBounds_toArray]); (try simp only [List.set_cons_succ]); (try simp only [List.set_cons_zero])
  iterate 1
    (try dsimp only [List.getElem_toArray, List.getElem_cons_succ, List.getElem_cons_zero])
    (try simp only [Act.put]); (try simp only [List.setIfInBounds_toArray]); (try simp only [List.set_cons_succ]); (try simp only [List.set_cons_zero])
  refine wpAnyH_take (i := 51) (v := ?_) rfl (by kernel_rfl) (by kernel_rfl) (by kernel_rfl) (fun _ _ _ h => h) (Or.inl ⟨by rfl, ?_⟩) (by assumption) ?_
  rotate_left
  · intro w9 hSw
    (try dsimp only at hSw)
    go_simp
    (try with_reducible rfl)
  (try simp only [Act.put]); (try simp only [List.setIfInBounds_toArray]); (try simp only [List.set_cons_succ]); (try simp only [List.set_cons_zero])
  iterate 1
    (try dsimp only [List.getElem_toArray, List.getElem_cons_succ, List.getElem_cons_zero])
    (try simp only [Act.put]); (try simp only [List.setIfInBounds_toArray]); (try simp only [List.set_cons_succ]); (try simp only [List.set_cons_zero])
  refine wpAnyH_take (i := 52) (oi := { dst := some 104, op := Go.Op.load 28 (Go.Operand.tmp 5), type := 28, pos := "law.go:55", after := #[{ on := 51, ground := Go.Ground.guard }], guard := some (51, true) }) (v := .agg (tabA s p u v)) rfl (by kernel_rfl) (by kernel_rfl) (by kernel_rfl) (fun _ _ _ h => h) (y_midT (by rfl) (.tmp 5) rfl g rfl (fun _ h => h.t)) (by assumption) ?_
  (try simp only [Act.put]); (try simp only [List.setIfInBounds_toArray]); (try simp only [List.set_cons_succ]); (try simp only [List.set_cons_zero])
  iterate 1
    (try dsimp only [List.getElem_toArray, List.getElem_cons_succ, List.getElem_cons_zero])
    (try simp only [Act.put]); (try simp only [List.setIfInBounds_toArray]); (try simp only [List.set_cons_succ]); (try simp only [List.set_cons_zero])
  refine wpAnyH_take (i := 53) (v := ?_) rfl (by kernel_rfl) (by kernel_rfl) (by kernel_rfl) (fun _ _ _ h => h) (Or.inl ⟨by rfl, ?_⟩) (by assumption) ?_
  rotate_left
  · intro w9 hSw
    (try dsimp only at hSw)
    go_simp
    (try with_reducible rfl)
  (try simp only [Act.put]); (try simp only [List.setIfInBounds_toArray]); (try simp only [List.set_cons_succ]); (try simp only [List.set_cons_zero])
  iterate 1
    (try dsimp only [List.getElem_toArray, List.getElem_cons_succ, List.getElem_cons_zero])
    (try simp only [Act.put]); (try simp only [List.setIfInBounds_toArray]); (try simp only [List.set_cons_succ]); (try simp only [List.set_cons_zero])
  refine wpAnyH_take (i := 55) (oi := { dst := some 107, op := Go.Op.load 28 (Go.Operand.tmp 5), type := 28, pos := "law.go:55", after := #[{ on := 51, ground := Go.Ground.guard }], guard := some (51, true) }) (v := .agg (tabA s p u v)) rfl (by kernel_rfl) (by kernel_rfl) (by kernel_rfl) (fun _ _ _ h => h) (y_midT (by rfl) (.tmp 5) rfl g rfl (fun _ h => h.t)) (by assumption) ?_
  (try simp only [Act.put]); (try simp only [List.setIfInBounds_toArray]); (try simp only [List.set_cons_succ]); (try simp only [List.set_cons_zero])
  iterate 1
    (try dsimp only [List.getElem_toArray, List.getElem_cons_succ, List.getElem_cons_zero])
    (try simp only [Act.put]); (try simp only [List.setIfInBounds_toArray]); (try simp only [List.set_cons_succ]); (try simp only [List.set_cons_zero])
  refine wpAnyH_take (i := 56) (v := ?_) rfl (by kernel_rfl) (by kernel_rfl) (by kernel_rfl) (fun _ _ _ h => h) (Or.inl ⟨by rfl, ?_⟩) (by assumption) ?_
  rotate_left
  · intro w9 hSw
    (try dsimp only at hSw)
    go_simp
    (try with_reducible rfl)
  (try simp only [Act.put]); (try simp only [List.setIfInBounds_toArray]); (try simp only [List.set_cons_succ]); (try simp only [List.set_cons_zero])
  iterate 1
    (try dsimp only [List.getElem_toArray, List.getElem_cons_succ, List.getElem_cons_zero])
    (try simp only [Act.put]); (try simp only [List.setIfInBounds_toArray]); (try simp only [List.set_cons_succ]); (try simp only [List.set_cons_zero])
  refine wpAnyH_ready (rs := [54]) (by kernel_rfl) (by simp) ?_
  refine AllReadyH.cons rfl (fun K hK => ?_) ?_
  rotate_left
  · exact AllReadyH.nil
  go_simp
  go_wp2_with (go_at_call 34; (with_reducible refine (HGA.out _ HW.out.bel).mono ?_); rintro e z54 ⟨r1, r2, rfl, l1, l2, kk⟩); replace HW := Lib.hid (HW.out.bel2 hg kk); have HM1 := Lib.hid l1; have HM2 := Lib.hid l2; clear l1 l2; clear kk
  refine hK.out _ _ ?_ (fun hHeld => ?_)
  · exact HW.out
  clear hK K
  (try simp only [Act.put]); (try simp only [List.setIfInBounds_toArray]); (try simp only [List.set_cons_succ]); (try simp only [List.set_cons_zero])
  iterate 1
    (try dsimp only [List.getElem_toArray, List.getElem_cons_succ, List.getElem_cons_zero])
    (try simp only [Act.put]); (try simp only [List.setIfInBounds_toArray]); (try simp only [List.set_cons_succ]); (try simp only [List.set_cons_zero])
  refine wpAnyH_ready (rs := [57]) (by kernel_rfl) (by simp) ?_
  refine AllReadyH.cons rfl (fun K hK => ?_) ?_
  rotate_left
  · exact AllReadyH.nil
  go_simp
  go_wp2_with (go_at_call 35; (with_reducible refine (HGB.out _ HW.out.bel).mono ?_); rintro e z57 ⟨r3, r4, rfl, l1, l2, kk⟩); replace HW := Lib.hid (HW.out.bel2 hg kk); have HM3 := Lib.hid l1; have HM4 := Lib.hid l2; replace HM1 := Lib.hid (HM1.out.bel kk); replace HM2 := Lib.hid (HM2.out.bel kk); clear l1 l2; clear kk
  refine hK.out _ _ ?_ (fun hHeld => ?_)
  · exact HW.out
  clear hK K
  (try simp only [Act.put]); (try simp only [List.setIfInBounds_toArray]); (try simp only [List.set_cons_succ]); (try simp only [List.set_cons_zero])
  iterate 1
    (try dsimp only [List.getElem_toArray, List.getElem_cons_succ, List.getElem_cons_zero])
    (try simp only [Act.put]); (try simp only [List.setIfInBounds_toArray]); (try simp only [List.set_cons_succ]); (try simp only [List.set_cons_zero])
  refine wpAnyH_ready (rs := [58]) (by kernel_rfl) (by simp) ?_
  refine AllReadyH.cons rfl (fun K hK => ?_) ?_
  rotate_left
  · exact AllReadyH.nil
  go_simp
  go_wp2_with (go_at_call 18; (with_reducible refine (same_tab HM1.out HM2.out HM3.out HM4.out HFS.out HFF.out).mono ?_); rintro e z58 ⟨rfl, kk⟩); replace HW := Lib.hid (HW.out.bel2 hg kk); clear kk
  refine hK.out _ _ ?_ (fun hHeld => ?_)
  · exact HW.out
  clear hK K
  (try simp only [Act.put]); (try simp only [List.setIfInBounds_toArray]); (try simp only [List.set_cons_succ]); (try simp only [List.set_cons_zero])
  iterate 1
    (try dsimp only [List.getElem_toArray, List.getElem_cons_succ, List.getElem_cons_zero])
    (try simp only [Act.put]); (try simp only [List.setIfInBounds_toArray]); (try simp only [List.set_cons_succ]); (try simp only [List.set_cons_zero])
  refine wpAnyH_take (i := 59) (v := ?_) rfl (by kernel_rfl) (by kernel_rfl) (by kernel_rfl) (fun _ _ _ h => h) (Or.inl ⟨by rfl, ?_⟩) (by assumption) ?_
  rotate_left
  · intro w9 hSw
    (try dsimp only at hSw)
    go_simp
    (try with_reducible rfl)
  (try simp only [Act.put]); (try simp only [List.setIfInBounds_toArray]); (try simp only [List.set_cons_succ]); (try simp only [List.set_cons_zero])
  iterate 1
    (try dsimp only [List.getElem_toArray, List.getElem_cons_succ, List.getElem_cons_zero])
    (try simp only [Act.put]); (try simp only [List.setIfInBounds_toArray]); (try simp only [List.set_cons_succ]); (try simp only [List.set_cons_zero])
  refine wpAnyH_take (i := 60) (v := ?_) rfl (by kernel_rfl) (by kernel_rfl) (by kernel_rfl) (fun _ _ _ h => h) (Or.inl ⟨by rfl, ?_⟩) (by assumption) ?_
  rotate_left
  · intro w9 hSw
    (try dsimp only at hSw)
    go_simp
    (try with_reducible rfl)
  (try simp only [Act.put]); (try simp only [List.setIfInBounds_toArray]); (try simp only [List.set_cons_succ]); (try simp only [List.set_cons_zero])
  iterate 1
    (try dsimp only [List.getElem_toArray, List.getElem_cons_succ, List.getElem_cons_zero])
    (try simp only [Act.put]); (try simp only [List.setIfInBounds_toArray]); (try simp only [List.set_cons_succ]); (try simp only [List.set_cons_zero])
  refine wpAnyH_done (by kernel_rfl) ?_ _
  clear hHeld
  go_wp2
  go_ret
  exact ⟨rfl, by (try rw [hg]); exact HW.out.bel⟩
end Go.Proofs.Ytkcljbolopephaa.TellLaw
