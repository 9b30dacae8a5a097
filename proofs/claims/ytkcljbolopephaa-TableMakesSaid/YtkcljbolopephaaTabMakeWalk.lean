/- A peer has just this new table, or none; peers are adopted, learned, and pointed to just so, or refused: the walk. -/
import Derived.Test.YtkcljbolopephaaTabKit
namespace Go.Proofs.Ytkcljbolopephaa.MakeLaw
set_option maxRecDepth 100000
open Go Go.RowKit Go.Sort

set_option maxHeartbeats 2000000 in
theorem walk_out {w : World} {s p x : Pe} {u v : Value} {S F : List Pe} (za : Option Addr) (m zc : Nat) (r k : Int) (hS : Lies w u S) (hF : Lies w v F) (hb : bigB S F = true ∨ bigB S F = false ∧ 40 < m) :
    Calls Try.prog 3 #[.agg (tabA s p u v), .agg (peA x), .slice za m zc, .int .i64 r, .int .i64 k] w fun e w' => e = .returned (.bool true) ∧ Below w.heap.size w w' := by
  have HX := Box2.made w s p u v x
  have B0 := HX.bel
  have T0 := HX.tb
  have HB : Hid (∀ W, Below w.heap.size w W → Calls Try.prog 9 #[.agg (tabA s p u v)] W fun e w' => e = .returned (.bool (bigB S F)) ∧ Below W.heap.size W w') := fun W h => big_any (s := s) (p := p) (hS.bel h) (hF.bel h)
  clear HX
  rcases hb with hb | ⟨hb, hl⟩
  · rw [hb] at HB
    clear hS hF hb
    go_enter Try.func3, Try.ntmps3
    go_upto_region 1 with (fail)
    generalize (w.alloc _).alloc _ = W at *
    generalize hg : w.heap.size = g at *
    go_wp2_with (first
      | go_big_skip
      | (refine p_midT rfl _ rfl g rfl T0 ?_)
      | (go_at_call 9; (with_reducible refine (HB.out _ B0).mono ?_); rintro e w1 ⟨rfl, k1⟩; have B1 := belTo hg B0 k1; clear k1))
    go_ret
    exact ⟨rfl, by (try rw [hg]); exact B1⟩
  · rw [hb] at HB
    clear hS hF hb
    have d1 : decide ((40 : Int) < (m : Int)) = true := decide_eq_true (by omega)
    go_enter Try.func3, Try.ntmps3
    go_upto_region 1 with (fail)
    generalize (w.alloc _).alloc _ = W at *
    generalize hg : w.heap.size = g at *
    go_wp2_with (first
      | go_big_skip
      | (refine p_midT rfl _ rfl g rfl T0 ?_)
      | (go_at_call 9; (with_reducible refine (HB.out _ B0).mono ?_); rintro e w1 ⟨rfl, k1⟩; have B1 := belTo hg B0 k1; clear k1))
    go_ret
    exact ⟨rfl, by (try rw [hg]); exact B1⟩
/-- a table in a block of its own, with its rows -/
structure TL (w : World) (g : Nat) (s p : Pe) (u v : Value) (S F : List Pe) : Prop where
  t : TB w g s p u v
  a : Lies w u S
  b : Lies w v F
theorem TL.bel {w w' : World} {g : Nat} {s p : Pe} {u v : Value} {S F : List Pe} (h : TL w g s p u v S F) (k : Below w.heap.size w w') : TL w' g s p u v S F := ⟨h.t.bel k, h.a.bel k, h.b.bel k⟩
theorem TL.new {w : World} {s p : Pe} {u v : Value} {S F : List Pe} (h1 : Lies w u S) (h2 : Lies w v F) : TL (w.alloc (.cells (tabA s p u v) 28)) w.heap.size s p u v S F :=
  ⟨TB.new w s p u v, h1.bel ((Below.refl w.heap.size w).alloc (Nat.le_refl _) _), h2.bel ((Below.refl w.heap.size w).alloc (Nat.le_refl _) _)⟩
/-- a call answers a table, and more -/
abbrev AnsT (f : FuncId) (args : Array Value) (W : World) (s p : Pe) (S F : List Pe) (more : List Value) : Prop :=
  Calls Try.prog f args W fun e w' => ∃ r1 r2, e = .returned (.tuple (.agg (tabA s p r1 r2) :: more).toArray) ∧ Lies w' r1 S ∧ Lies w' r2 F ∧ Below W.heap.size W w'
abbrev AnsT1 (f : FuncId) (args : Array Value) (W : World) (s p : Pe) (S F : List Pe) : Prop :=
  Calls Try.prog f args W fun e w' => ∃ r1 r2, e = .returned (.agg (tabA s p r1 r2)) ∧ Lies w' r1 S ∧ Lies w' r2 F ∧ Below W.heap.size W w'
/-- what is known behind all -/
structure MkW (g go gn gm ga gb gc gd : Nat) (w wx : World) (s p x sn pn sa pa sq pq : Pe) (u v ou ov nu nv mu mv au av bu bv cu cv du dv : Value) (S F NS NF AS AF QS QF : List Pe) : Prop where
  bel : Below g w wx
  x : PB wx (g + 1) x
  t0 : TL wx g s p u v S F
  t1 : TL wx go s p ou ov S F
  t2 : TL wx gn sn pn nu nv NS NF
  t3 : TL wx gm sn pn mu mv NS NF
  t4 : TL wx ga sa pa au av AS AF
  t5 : TL wx gb sa pa bu bv AS AF
  t6 : TL wx gc sq pq cu cv QS QF
  t7 : TL wx gd sq pq du dv QS QF
theorem MkW.bel2 {g go gn gm ga gb gc gd : Nat} {w wx wy : World} {s p x sn pn sa pa sq pq : Pe} {u v ou ov nu nv mu mv au av bu bv cu cv du dv : Value} {S F NS NF AS AF QS QF : List Pe} (h : MkW g go gn gm ga gb gc gd w wx s p x sn pn sa pa sq pq u v ou ov nu nv mu mv au av bu bv cu cv du dv S F NS NF AS AF QS QF) (hg : w.heap.size = g) (k : Below wx.heap.size wx wy) : MkW g go gn gm ga gb gc gd w wy s p x sn pn sa pa sq pq u v ou ov nu nv mu mv au av bu bv cu cv du dv S F NS NF AS AF QS QF :=
  ⟨belTo hg h.bel k, h.x.bel k, h.t0.bel k, h.t1.bel k, h.t2.bel k, h.t3.bel k, h.t4.bel k, h.t5.bel k, h.t6.bel k, h.t7.bel k⟩
set_option maxHeartbeats 16000000 in
theorem walk_core (hT : Gives Try.prog 17 #[] (.bool true)) {w : World} {s p x sn pn sa pa sq pq sl : Pe} {u v : Value} {S F NS NF AS AF QS QF : List Pe} (za : Option Addr) (m zc : Nat) (r k en ea eq nx : Int) (hm : m ≤ 40)
    (hS : Lies w u S) (hF : Lies w v F)
    (hB : ∀ W, Below w.heap.size w W → Calls Try.prog 9 #[.agg (tabA s p u v)] W fun e w' => e = .returned (.bool false) ∧ Below W.heap.size W w')
    (hO : ∀ W, Below w.heap.size w W → AnsT1 10 #[.agg (tabA s p u v)] W s p S F)
    (hNA : ∀ W, AnsT 11 #[.agg (peA x)] W sn pn NS NF [.int .i64 en]) (hNB : ∀ W, AnsT 12 #[.agg (peA x)] W sn pn NS NF [.int .i64 en])
    (hAA : ∀ W, Below w.heap.size w W → AnsT 13 #[.agg (tabA s p u v), .agg (peA x), .slice za m zc, .int .i64 r] W sa pa AS AF [.int .i64 ea])
    (hAB : ∀ W r1 r2, Below w.heap.size w W → Lies W r1 S → Lies W r2 F → AnsT 14 #[.agg (tabA s p r1 r2), .agg (peA x), .slice za m zc, .int .i64 r] W sa pa AS AF [.int .i64 ea])
    (hPA : ∀ W, Below w.heap.size w W → AnsT 15 #[.agg (tabA s p u v), .int .i64 k, .agg (peA x)] W sq pq QS QF [.int .i64 nx, .int .i64 eq])
    (hPB : ∀ W r1 r2, Lies W r1 S → Lies W r2 F → AnsT 16 #[.agg (tabA s p r1 r2), .int .i64 k, .agg (peA x)] W sq pq QS QF [.int .i64 nx, .int .i64 eq])
    (hLA : ∀ W, Below w.heap.size w W → AnsT1 19 #[.agg (tabA s p u v), .agg (peA x)] W s sl S F)
    (hLB : ∀ W r1 r2, Lies W r1 S → Lies W r2 F → AnsT1 20 #[.agg (tabA s p r1 r2), .agg (peA x)] W s sl S F)
    (n1 : S.length ≤ 1000000) (n2 : F.length ≤ 1000000) (n3 : NS.length ≤ 1000000) (n4 : NF.length ≤ 1000000) (n5 : AS.length ≤ 1000000) (n6 : AF.length ≤ 1000000) (n7 : QS.length ≤ 1000000) (n8 : QF.length ≤ 1000000) :
    Calls Try.prog 3 #[.agg (tabA s p u v), .agg (peA x), .slice za m zc, .int .i64 r, .int .i64 k] w fun e w' => e = .returned (.bool true) ∧ Below w.heap.size w w' := by
  have HX := Box2.made w s p u v x
  have B0 := HX.bel
  have X0 := Lib.hid HX.pb
  have T0_0 : Hid (TL _ _ s p u v S F) := Lib.hid ⟨HX.tb, hS.bel B0, hF.bel B0⟩
  have HT := Lib.hid hT
  have HB := Lib.hid hB
  have HO := Lib.hid hO
  have HNA := Lib.hid hNA
  have HNB := Lib.hid hNB
  have HAA := Lib.hid hAA
  have HAB := Lib.hid hAB
  have HPA := Lib.hid hPA
  have HPB := Lib.hid hPB
  have HLA := Lib.hid hLA
  have HLB := Lib.hid hLB
  have N1 := Lib.hid n1
  have N2 := Lib.hid n2
  have N3 := Lib.hid n3
  have N4 := Lib.hid n4
  have N5 := Lib.hid n5
  have N6 := Lib.hid n6
  have N7 := Lib.hid n7
  have N8 := Lib.hid n8
  have en1 : (en == en) = true := by simp
  have ea1 : (ea == ea) = true := by simp
  have eq1 : (eq == eq) = true := by simp
  have nx1 : (nx == nx) = true := by simp
  have d1 : decide ((40 : Int) < (m : Int)) = false := decide_eq_false (by omega)
  clear hT hS hF hB hO hNA hNB hAA hAB hPA hPB hLA hLB n1 n2 n3 n4 n5 n6 n7 n8 HX hm
  go_enter Try.func3, Try.ntmps3
  go_upto_region 1 with (fail)
  generalize (w.alloc _).alloc _ = W at *
  generalize hg : w.heap.size = g at *
  go_upto_region 4 with (first
    | go_big_skip
    | (refine p_midT rfl _ rfl g rfl T0_0.out.t ?_)
    | (go_at_call 9; (with_reducible refine (HB.out _ B0).mono ?_); rintro e w0 ⟨rfl, k0⟩; have B1 := belTo hg B0 k0; have T0_1 := Lib.hid (T0_0.out.bel k0); have X1 := Lib.hid (X0.out.bel k0); clear k0)
    | (refine p_midT rfl _ rfl g rfl T0_1.out.t ?_)
    | (refine p_midP rfl _ rfl (g + 1) 0 rfl x X1.out.range ?_)
    | (go_at_call 10; (with_reducible refine (HO.out _ B1).mono ?_); rintro e v1 ⟨ou, ov, rfl, l1, l2, k9⟩; have kk := step k9 ((Below.refl v1.heap.size v1).alloc (Nat.le_refl _) (.cells (tabA s p ou ov) 28)); have B2 := belTo hg B1 kk; have X2 := Lib.hid (X1.out.bel kk); have T0_2 := Lib.hid (T0_1.out.bel kk); have T1_2 := Lib.hid (TL.new (s := s) (p := p) l1 l2); have E1 := Lib.hid (one_lies l1); have E2 := Lib.hid (one_lies l2); clear k9 kk l1 l2)
    | (refine p_storeT rfl rfl _ _ rfl rfl rfl E1.out E2.out ?_))
  (try simp only [Act.put])
  clear E1 E2 B1 X1 T0_1 B0 X0 T0_0 d1
  generalize v1.heap.size = go at *
  generalize v1.alloc _ = V1 at *
  go_upto_region 5 with (first
    | (refine p_midT rfl _ rfl g rfl T0_2.out.t ?_)
    | (refine p_midT rfl _ rfl go rfl T1_2.out.t ?_)
    | (refine p_midP rfl _ rfl (g + 1) 0 rfl x X2.out.range ?_)
    | (go_at_call 11; (with_reducible refine (HNA.out _).mono ?_); rintro e v2 ⟨nu, nv, rfl, l1, l2, k9⟩; have kk := step k9 ((Below.refl v2.heap.size v2).alloc (Nat.le_refl _) (.cells (tabA sn pn nu nv) 28)); have B3 := belTo hg B2 kk; have X3 := Lib.hid (X2.out.bel kk); have T0_3 := Lib.hid (T0_2.out.bel kk); have T1_3 := Lib.hid (T1_2.out.bel kk); have T2_3 := Lib.hid (TL.new (s := sn) (p := pn) l1 l2); have E1 := Lib.hid (one_lies l1); have E2 := Lib.hid (one_lies l2); clear k9 kk l1 l2)
    | (refine p_storeT rfl rfl _ _ rfl rfl rfl E1.out E2.out ?_))
  (try simp only [Act.put])
  clear E1 E2 B2 X2 T0_2 T1_2
  generalize v2.heap.size = gn at *
  generalize v2.alloc _ = V2 at *
  go_upto_region 6 with (first
    | (refine p_midT rfl _ rfl g rfl T0_3.out.t ?_)
    | (refine p_midT rfl _ rfl go rfl T1_3.out.t ?_)
    | (refine p_midP rfl _ rfl (g + 1) 0 rfl x X3.out.range ?_)
    | (go_at_call 12; (with_reducible refine (HNB.out _).mono ?_); rintro e v3 ⟨mu, mv, rfl, l1, l2, k9⟩; have kk := step k9 ((Below.refl v3.heap.size v3).alloc (Nat.le_refl _) (.cells (tabA sn pn mu mv) 28)); have B4 := belTo hg B3 kk; have X4 := Lib.hid (X3.out.bel kk); have T0_4 := Lib.hid (T0_3.out.bel kk); have T1_4 := Lib.hid (T1_3.out.bel kk); have T2_4 := Lib.hid (T2_3.out.bel kk); have T3_4 := Lib.hid (TL.new (s := sn) (p := pn) l1 l2); have E1 := Lib.hid (one_lies l1); have E2 := Lib.hid (one_lies l2); clear k9 kk l1 l2)
    | (refine p_storeT rfl rfl _ _ rfl rfl rfl E1.out E2.out ?_))
  (try simp only [Act.put])
  clear E1 E2 B3 X3 T0_3 T1_3 T2_3
  generalize v3.heap.size = gm at *
  generalize v3.alloc _ = V3 at *
  go_upto_region 7 with (first
    | (refine p_midT rfl _ rfl g rfl T0_4.out.t ?_)
    | (refine p_midT rfl _ rfl go rfl T1_4.out.t ?_)
    | (refine p_midP rfl _ rfl (g + 1) 0 rfl x X4.out.range ?_)
    | (go_at_call 13; (with_reducible refine (HAA.out _ B4).mono ?_); rintro e v4 ⟨au, av, rfl, l1, l2, k9⟩; have kk := step k9 ((Below.refl v4.heap.size v4).alloc (Nat.le_refl _) (.cells (tabA sa pa au av) 28)); have B5 := belTo hg B4 kk; have X5 := Lib.hid (X4.out.bel kk); have T0_5 := Lib.hid (T0_4.out.bel kk); have T1_5 := Lib.hid (T1_4.out.bel kk); have T2_5 := Lib.hid (T2_4.out.bel kk); have T3_5 := Lib.hid (T3_4.out.bel kk); have T4_5 := Lib.hid (TL.new (s := sa) (p := pa) l1 l2); have E1 := Lib.hid (one_lies l1); have E2 := Lib.hid (one_lies l2); clear k9 kk l1 l2)
    | (refine p_storeT rfl rfl _ _ rfl rfl rfl E1.out E2.out ?_))
  (try simp only [Act.put])
  clear E1 E2 B4 X4 T0_4 T1_4 T2_4 T3_4
  generalize v4.heap.size = ga at *
  generalize v4.alloc _ = V4 at *
  go_upto_region 8 with (first
    | (refine p_midT rfl _ rfl g rfl T0_5.out.t ?_)
    | (refine p_midT rfl _ rfl go rfl T1_5.out.t ?_)
    | (refine p_midP rfl _ rfl (g + 1) 0 rfl x X5.out.range ?_)
    | (go_at_call 14; (with_reducible refine (HAB.out _ _ _ B5 T1_5.out.a T1_5.out.b).mono ?_); rintro e v5 ⟨bu, bv, rfl, l1, l2, k9⟩; have kk := step k9 ((Below.refl v5.heap.size v5).alloc (Nat.le_refl _) (.cells (tabA sa pa bu bv) 28)); have B6 := belTo hg B5 kk; have X6 := Lib.hid (X5.out.bel kk); have T0_6 := Lib.hid (T0_5.out.bel kk); have T1_6 := Lib.hid (T1_5.out.bel kk); have T2_6 := Lib.hid (T2_5.out.bel kk); have T3_6 := Lib.hid (T3_5.out.bel kk); have T4_6 := Lib.hid (T4_5.out.bel kk); have T5_6 := Lib.hid (TL.new (s := sa) (p := pa) l1 l2); have E1 := Lib.hid (one_lies l1); have E2 := Lib.hid (one_lies l2); clear k9 kk l1 l2)
    | (refine p_storeT rfl rfl _ _ rfl rfl rfl E1.out E2.out ?_))
  (try simp only [Act.put])
  clear E1 E2 B5 X5 T0_5 T1_5 T2_5 T3_5 T4_5
  generalize v5.heap.size = gb at *
  generalize v5.alloc _ = V5 at *
  go_upto_region 9 with (first
    | (refine p_midT rfl _ rfl g rfl T0_6.out.t ?_)
    | (refine p_midT rfl _ rfl go rfl T1_6.out.t ?_)
    | (refine p_midP rfl _ rfl (g + 1) 0 rfl x X6.out.range ?_)
    | (go_at_call 15; (with_reducible refine (HPA.out _ B6).mono ?_); rintro e v6 ⟨cu, cv, rfl, l1, l2, k9⟩; have kk := step k9 ((Below.refl v6.heap.size v6).alloc (Nat.le_refl _) (.cells (tabA sq pq cu cv) 28)); have B7 := belTo hg B6 kk; have X7 := Lib.hid (X6.out.bel kk); have T0_7 := Lib.hid (T0_6.out.bel kk); have T1_7 := Lib.hid (T1_6.out.bel kk); have T2_7 := Lib.hid (T2_6.out.bel kk); have T3_7 := Lib.hid (T3_6.out.bel kk); have T4_7 := Lib.hid (T4_6.out.bel kk); have T5_7 := Lib.hid (T5_6.out.bel kk); have T6_7 := Lib.hid (TL.new (s := sq) (p := pq) l1 l2); have E1 := Lib.hid (one_lies l1); have E2 := Lib.hid (one_lies l2); clear k9 kk l1 l2)
    | (refine p_storeT rfl rfl _ _ rfl rfl rfl E1.out E2.out ?_))
  (try simp only [Act.put])
  clear E1 E2 B6 X6 T0_6 T1_6 T2_6 T3_6 T4_6 T5_6
  generalize v6.heap.size = gc at *
  generalize v6.alloc _ = V6 at *
  go_upto_region 10 with (first
    | (refine p_midT rfl _ rfl g rfl T0_7.out.t ?_)
    | (refine p_midT rfl _ rfl go rfl T1_7.out.t ?_)
    | (refine p_midP rfl _ rfl (g + 1) 0 rfl x X7.out.range ?_)
    | (go_at_call 16; (with_reducible refine (HPB.out _ _ _ T1_7.out.a T1_7.out.b).mono ?_); rintro e v7 ⟨du, dv, rfl, l1, l2, k9⟩; have kk := step k9 ((Below.refl v7.heap.size v7).alloc (Nat.le_refl _) (.cells (tabA sq pq du dv) 28)); have B8 := belTo hg B7 kk; have X8 := Lib.hid (X7.out.bel kk); have T0_8 := Lib.hid (T0_7.out.bel kk); have T1_8 := Lib.hid (T1_7.out.bel kk); have T2_8 := Lib.hid (T2_7.out.bel kk); have T3_8 := Lib.hid (T3_7.out.bel kk); have T4_8 := Lib.hid (T4_7.out.bel kk); have T5_8 := Lib.hid (T5_7.out.bel kk); have T6_8 := Lib.hid (T6_7.out.bel kk); have T7_8 := Lib.hid (TL.new (s := sq) (p := pq) l1 l2); have E1 := Lib.hid (one_lies l1); have E2 := Lib.hid (one_lies l2); clear k9 kk l1 l2)
    | (refine p_storeT rfl rfl _ _ rfl rfl rfl E1.out E2.out ?_))
  (try simp only [Act.put])
  clear E1 E2 B7 X7 T0_7 T1_7 T2_7 T3_7 T4_7 T5_7 T6_7
  generalize v7.heap.size = gd at *
  generalize v7.alloc _ = V7 at *
  have HW : Hid (MkW g go gn gm ga gb gc gd w V7 s p x sn pn sa pa sq pq u v ou ov nu nv mu mv au av bu bv cu cv du dv S F NS NF AS AF QS QF) := ⟨B8, X8.out, T0_8.out, T1_8.out, T2_8.out, T3_8.out, T4_8.out, T5_8.out, T6_8.out, T7_8.out⟩
  clear B8 X8 T0_8 T1_8 T2_8 T3_8 T4_8 T5_8 T6_8 T7_8
  refine wp_region_held_drew (S := (fun w9 => MkW g go gn gm ga gb gc gd w w9 s p x sn pn sa pa sq pq u v ou ov nu nv mu mv au av bu bv cu cv du dv S F NS NF AS AF QS QF)) (by kernel_rfl) ?_ (fun hHeld => ?_)
  · exact HW.out.bel2 hg (drew_bel V7)
  replace HW := Lib.hid (HW.out.bel2 hg (drew_bel V7))
  generalize World.drew V7 = y0 at *
  refine wpAnyH_ready (rs := [0]) (by kernel_rfl) (by simp) ?_
  refine AllReadyH.cons rfl (fun K hK => ?_) ?_
  rotate_left
  · exact AllReadyH.nil
  go_simp
  go_wp2_with (go_at_call 17; (with_reducible refine (HT.out.calls _).mono ?_); rintro e z0 ⟨rfl, kk⟩); replace HW := Lib.hid (HW.out.bel2 hg kk); clear kk
  refine hK.out _ _ ?_ (fun hHeld => ?_)
  · exact HW.out
  clear hK K
  (try simp only [Act.put]); (try simp only [List.setIfInBounds_toArray]); (try simp only [List.set_cons_succ]); (try simp only [List.set_cons_zero])
  iterate 1
    (try dsimp only [List.getElem_toArray, List.getElem_cons_succ, List.getElem_cons_zero])
    (try simp only [Act.put]); (try simp only [List.setIfInBounds_toArray]); (try simp only [List.set_cons_succ]); (try simp only [List.set_cons_zero])
  refine wpAnyH_take (i := 1) (v := ?_) rfl (by kernel_rfl) (by kernel_rfl) (by kernel_rfl) (fun _ _ _ h => h) (Or.inl ⟨by rfl, ?_⟩) (by assumption) ?_
  rotate_left
  · intro w9 hSw
    (try dsimp only at hSw)
    go_simp
    (try with_reducible rfl)
  (try simp only [Act.put]); (try simp only [List.setIfInBounds_toArray]); (try simp only [List.set_cons_succ]); (try simp only [List.set_cons_zero])
  iterate 1
    (try dsimp only [List.getElem_toArray, List.getElem_cons_succ, List.getElem_cons_zero])
    (try simp only [Act.put]); (try simp only [List.setIfInBounds_toArray]); (try simp only [List.set_cons_succ]); (try simp only [List.set_cons_zero])
  refine wpAnyH_take (i := 2) (oi := { dst := some 79, op := Go.Op.load 28 (Go.Operand.tmp 12), type := 28, pos := "law.go:43", after := #[{ on := 1, ground := Go.Ground.guard }], guard := some (1, true) }) (v := .agg (tabA sn pn nu nv)) rfl (by kernel_rfl) (by kernel_rfl) (by kernel_rfl) (fun _ _ _ h => h) (y_midT (by rfl) (.tmp 12) rfl gn rfl (fun _ h => h.t2.t)) (by assumption) ?_
  (try simp only [Act.put]); (try simp only [List.setIfInBounds_toArray]); (try simp only [List.set_cons_succ]); (try simp only [List.set_cons_zero])
  iterate 1
    (try dsimp only [List.getElem_toArray, List.getElem_cons_succ, List.getElem_cons_zero])
    (try simp only [Act.put]); (try simp only [List.setIfInBounds_toArray]); (try simp only [List.set_cons_succ]); (try simp only [List.set_cons_zero])
  refine wpAnyH_take (i := 3) (oi := { dst := some 80, op := Go.Op.load 28 (Go.Operand.tmp 14), type := 28, pos := "law.go:43", after := #[{ on := 1, ground := Go.Ground.guard }], guard := some (1, true) }) (v := .agg (tabA sn pn mu mv)) rfl (by kernel_rfl) (by kernel_rfl) (by kernel_rfl) (fun _ _ _ h => h) (y_midT (by rfl) (.tmp 14) rfl gm rfl (fun _ h => h.t3.t)) (by assumption) ?_
  (try simp only [Act.put]); (try simp only [List.setIfInBounds_toArray]); (try simp only [List.set_cons_succ]); (try simp only [List.set_cons_zero])
  iterate 1
    (try dsimp only [List.getElem_toArray, List.getElem_cons_succ, List.getElem_cons_zero])
    (try simp only [Act.put]); (try simp only [List.setIfInBounds_toArray]); (try simp only [List.set_cons_succ]); (try simp only [List.set_cons_zero])
  refine wpAnyH_ready (rs := [4]) (by kernel_rfl) (by simp) ?_
  refine AllReadyH.cons rfl (fun K hK => ?_) ?_
  rotate_left
  · exact AllReadyH.nil
  go_simp
  go_wp2_with (go_at_call 18; (with_reducible refine (same_tab HW.out.t2.a HW.out.t2.b HW.out.t3.a HW.out.t3.b N3.out N4.out).mono ?_); rintro e z4 ⟨rfl, kk⟩); replace HW := Lib.hid (HW.out.bel2 hg kk); clear kk
  refine hK.out _ _ ?_ (fun hHeld => ?_)
  · exact HW.out
  clear hK K
  (try simp only [Act.put]); (try simp only [List.setIfInBounds_toArray]); (try simp only [List.set_cons_succ]); (try simp only [List.set_cons_zero])
  iterate 1
    (try dsimp only [List.getElem_toArray, List.getElem_cons_succ, List.getElem_cons_zero])
    (try simp only [Act.put]); (try simp only [List.setIfInBounds_toArray]); (try simp only [List.set_cons_succ]); (try simp only [List.set_cons_zero])
  refine wpAnyH_take (i := 5) (v := ?_) rfl (by kernel_rfl) (by kernel_rfl) (by kernel_rfl) (fun _ _ _ h => h) (Or.inl ⟨by rfl, ?_⟩) (by assumption) ?_
  rotate_left
  · intro w9 hSw
    (try dsimp only at hSw)
    go_simp
    (try with_reducible rfl)
  (try simp only [Act.put]); (try simp only [List.setIfInBounds_toArray]); (try simp only [List.set_cons_succ]); (try simp only [List.set_cons_zero])
  iterate 1
    (try dsimp only [List.getElem_toArray, List.getElem_cons_succ, List.getElem_cons_zero])
    (try simp only [Act.put]); (try simp only [List.setIfInBounds_toArray]); (try simp only [List.set_cons_succ]); (try simp only [List.set_cons_zero])
  refine wpAnyH_take (i := 6) (v := ?_) rfl (by kernel_rfl) (by kernel_rfl) (by kernel_rfl) (fun _ _ _ h => h) (Or.inl ⟨by rfl, ?_⟩) (by assumption) ?_
  rotate_left
  · intro w9 hSw
    (try dsimp only at hSw)
    go_simp
    (try with_reducible rfl)
  (try simp only [Act.put]); (try simp only [List.setIfInBounds_toArray]); (try simp only [List.set_cons_succ]); (try simp only [List.set_cons_zero])
  iterate 1
    (try dsimp only [List.getElem_toArray, List.getElem_cons_succ, List.getElem_cons_zero])
    (try simp only [Act.put]); (try simp only [List.setIfInBounds_toArray]); (try simp only [List.set_cons_succ]); (try simp only [List.set_cons_zero])
  refine wpAnyH_take (i := 7) (v := ?_) rfl (by kernel_rfl) (by kernel_rfl) (by kernel_rfl) (fun _ _ _ h => h) (Or.inl ⟨by rfl, ?_⟩) (by assumption) ?_
  rotate_left
  · intro w9 hSw
    (try dsimp only at hSw)
    go_simp
    (try with_reducible rfl)
  (try simp only [Act.put]); (try simp only [List.setIfInBounds_toArray]); (try simp only [List.set_cons_succ]); (try simp only [List.set_cons_zero])
  iterate 1
    (try dsimp only [List.getElem_toArray, List.getElem_cons_succ, List.getElem_cons_zero])
    (try simp only [Act.put]); (try simp only [List.setIfInBounds_toArray]); (try simp only [List.set_cons_succ]); (try simp only [List.set_cons_zero])
  refine wpAnyH_take (i := 8) (v := ?_) rfl (by kernel_rfl) (by kernel_rfl) (by kernel_rfl) (fun _ _ _ h => h) (Or.inl ⟨by rfl, ?_⟩) (by assumption) ?_
  rotate_left
  · intro w9 hSw
    (try dsimp only at hSw)
    go_simp
    (try with_reducible rfl)
  (try simp only [Act.put]); (try simp only [List.setIfInBounds_toArray]); (try simp only [List.set_cons_succ]); (try simp only [List.set_cons_zero])
  iterate 1
    (try dsimp only [List.getElem_toArray, List.getElem_cons_succ, List.getElem_cons_zero])
    (try simp only [Act.put]); (try simp only [List.setIfInBounds_toArray]); (try simp only [List.set_cons_succ]); (try simp only [List.set_cons_zero])
  refine wpAnyH_take (i := 9) (v := ?_) rfl (by kernel_rfl) (by kernel_rfl) (by kernel_rfl) (fun _ _ _ h => h) (Or.inl ⟨by rfl, ?_⟩) (by assumption) ?_
  rotate_left
  · intro w9 hSw
    (try dsimp only at hSw)
    go_simp
    (try with_reducible rfl)
  (try simp only [Act.put]); (try simp only [List.setIfInBounds_toArray]); (try simp only [List.set_cons_succ]); (try simp only [List.set_cons_zero])
  iterate 1
    (try dsimp only [List.getElem_toArray, List.getElem_cons_succ, List.getElem_cons_zero])
    (try simp only [Act.put]); (try simp only [List.setIfInBounds_toArray]); (try simp only [List.set_cons_succ]); (try simp only [List.set_cons_zero])
  refine wpAnyH_take (i := 10) (v := ?_) rfl (by kernel_rfl) (by kernel_rfl) (by kernel_rfl) (fun _ _ _ h => h) (Or.inl ⟨by rfl, ?_⟩) (by assumption) ?_
  rotate_left
  · intro w9 hSw
    (try dsimp only at hSw)
    go_simp
    (try with_reducible rfl)
  (try simp only [Act.put]); (try simp only [List.setIfInBounds_toArray]); (try simp only [List.set_cons_succ]); (try simp only [List.set_cons_zero])
  iterate 1
    (try dsimp only [List.getElem_toArray, List.getElem_cons_succ, List.getElem_cons_zero])
    (try simp only [Act.put]); (try simp only [List.setIfInBounds_toArray]); (try simp only [List.set_cons_succ]); (try simp only [List.set_cons_zero])
  refine wpAnyH_take (i := 11) (v := ?_) rfl (by kernel_rfl) (by kernel_rfl) (by kernel_rfl) (fun _ _ _ h => h) (Or.inl ⟨by rfl, ?_⟩) (by assumption) ?_
  rotate_left
  · intro w9 hSw
    (try dsimp only at hSw)
    go_simp
    (try with_reducible rfl)
  (try simp only [Act.put]); (try simp only [List.setIfInBounds_toArray]); (try simp only [List.set_cons_succ]); (try simp only [List.set_cons_zero])
  iterate 1
    (try dsimp only [List.getElem_toArray, List.getElem_cons_succ, List.getElem_cons_zero])
    (try simp only [Act.put]); (try simp only [List.setIfInBounds_toArray]); (try simp only [List.set_cons_succ]); (try simp only [List.set_cons_zero])
  refine wpAnyH_take (i := 12) (oi := { dst := some 89, op := Go.Op.load 28 (Go.Operand.tmp 16), type := 28, pos := "law.go:43", after := #[{ on := 11, ground := Go.Ground.guard }], guard := some (11, true) }) (v := .agg (tabA sa pa au av)) rfl (by kernel_rfl) (by kernel_rfl) (by kernel_rfl) (fun _ _ _ h => h) (y_midT (by rfl) (.tmp 16) rfl ga rfl (fun _ h => h.t4.t)) (by assumption) ?_
  (try simp only [Act.put]); (try simp only [List.setIfInBounds_toArray]); (try simp only [List.set_cons_succ]); (try simp only [List.set_cons_zero])
  iterate 1
    (try dsimp only [List.getElem_toArray, List.getElem_cons_succ, List.getElem_cons_zero])
    (try simp only [Act.put]); (try simp only [List.setIfInBounds_toArray]); (try simp only [List.set_cons_succ]); (try simp only [List.set_cons_zero])
  refine wpAnyH_take (i := 13) (oi := { dst := some 90, op := Go.Op.load 28 (Go.Operand.tmp 18), type := 28, pos := "law.go:43", after := #[{ on := 11, ground := Go.Ground.guard }], guard := some (11, true) }) (v := .agg (tabA sa pa bu bv)) rfl (by kernel_rfl) (by kernel_rfl) (by kernel_rfl) (fun _ _ _ h => h) (y_midT (by rfl) (.tmp 18) rfl gb rfl (fun _ h => h.t5.t)) (by assumption) ?_
  (try simp only [Act.put]); (try simp only [List.setIfInBounds_toArray]); (try simp only [List.set_cons_succ]); (try simp only [List.set_cons_zero])
  iterate 1
    (try dsimp only [List.getElem_toArray, List.getElem_cons_succ, List.getElem_cons_zero])
    (try simp only [Act.put]); (try simp only [List.setIfInBounds_toArray]); (try simp only [List.set_cons_succ]); (try simp only [List.set_cons_zero])
  refine wpAnyH_ready (rs := [14]) (by kernel_rfl) (by simp) ?_
  refine AllReadyH.cons rfl (fun K hK => ?_) ?_
  rotate_left
  · exact AllReadyH.nil
  go_simp
  go_wp2_with (go_at_call 18; (with_reducible refine (same_tab HW.out.t4.a HW.out.t4.b HW.out.t5.a HW.out.t5.b N5.out N6.out).mono ?_); rintro e z14 ⟨rfl, kk⟩); replace HW := Lib.hid (HW.out.bel2 hg kk); clear kk
  refine hK.out _ _ ?_ (fun hHeld => ?_)
  · exact HW.out
  clear hK K
  (try simp only [Act.put]); (try simp only [List.setIfInBounds_toArray]); (try simp only [List.set_cons_succ]); (try simp only [List.set_cons_zero])
  iterate 1
    (try dsimp only [List.getElem_toArray, List.getElem_cons_succ, List.getElem_cons_zero])
    (try simp only [Act.put]); (try simp only [List.setIfInBounds_toArray]); (try simp only [List.set_cons_succ]); (try simp only [List.set_cons_zero])
  refine wpAnyH_take (i := 15) (v := ?_) rfl (by kernel_rfl) (by kernel_rfl) (by kernel_rfl) (fun _ _ _ h => h) (Or.inl ⟨by rfl, ?_⟩) (by assumption) ?_
  rotate_left
  · intro w9 hSw
    (try dsimp only at hSw)
    go_simp
    (try with_reducible rfl)
  (try simp only [Act.put]); (try simp only [List.setIfInBounds_toArray]); (try simp only [List.set_cons_succ]); (try simp only [List.set_cons_zero])
  iterate 1
    (try dsimp only [List.getElem_toArray, List.getElem_cons_succ, List.getElem_cons_zero])
    (try simp only [Act.put]); (try simp only [List.setIfInBounds_toArray]); (try simp only [List.set_cons_succ]); (try simp only [List.set_cons_zero])
  refine wpAnyH_take (i := 16) (v := ?_) rfl (by kernel_rfl) (by kernel_rfl) (by kernel_rfl) (fun _ _ _ h => h) (Or.inl ⟨by rfl, ?_⟩) (by assumption) ?_
  rotate_left
  · intro w9 hSw
    (try dsimp only at hSw)
    go_simp
    (try with_reducible rfl)
  (try simp only [Act.put]); (try simp only [List.setIfInBounds_toArray]); (try simp only [List.set_cons_succ]); (try simp only [List.set_cons_zero])
  iterate 1
    (try dsimp only [List.getElem_toArray, List.getElem_cons_succ, List.getElem_cons_zero])
    (try simp only [Act.put]); (try simp only [List.setIfInBounds_toArray]); (try simp only [List.set_cons_succ]); (try simp only [List.set_cons_zero])
  refine wpAnyH_take (i := 17) (v := ?_) rfl (by kernel_rfl) (by kernel_rfl) (by kernel_rfl) (fun _ _ _ h => h) (Or.inl ⟨by rfl, ?_⟩) (by assumption) ?_
  rotate_left
  · intro w9 hSw
    (try dsimp only at hSw)
    go_simp
    (try with_reducible rfl)
  (try simp only [Act.put]); (try simp only [List.setIfInBounds_toArray]); (try simp only [List.set_cons_succ]); (try simp only [List.set_cons_zero])
  iterate 1
    (try dsimp only [List.getElem_toArray, List.getElem_cons_succ, List.getElem_cons_zero])
    (try simp only [Act.put]); (try simp only [List.setIfInBounds_toArray]); (try simp only [List.set_cons_succ]); (try simp only [List.set_cons_zero])
  refine wpAnyH_take (i := 18) (v := ?_) rfl (by kernel_rfl) (by kernel_rfl) (by kernel_rfl) (fun _ _ _ h => h) (Or.inl ⟨by rfl, ?_⟩) (by assumption) ?_
  rotate_left
  · intro w9 hSw
    (try dsimp only at hSw)
    go_simp
    (try with_reducible rfl)
  (try simp only [Act.put]); (try simp only [List.setIfInBounds_toArray]); (try simp only [List.set_cons_succ]); (try simp only [List.set_cons_zero])
  iterate 1
    (try dsimp only [List.getElem_toArray, List.getElem_cons_succ, List.getElem_cons_zero])
    (try simp only [Act.put]); (try simp only [List.setIfInBounds_toArray]); (try simp only [List.set_cons_succ]); (try simp only [List.set_cons_zero])
  refine wpAnyH_take (i := 19) (v := ?_) rfl (by kernel_rfl) (by kernel_rfl) (by kernel_rfl) (fun _ _ _ h => h) (Or.inl ⟨by rfl, ?_⟩) (by assumption) ?_
  rotate_left
  · intro w9 hSw
    (try dsimp only at hSw)
    go_simp
    (try with_reducible rfl)
  (try simp only [Act.put]); (try simp only [List.setIfInBounds_toArray]); (try simp only [List.set_cons_succ]); (try simp only [List.set_cons_zero])
  iterate 1
    (try dsimp only [List.getElem_toArray, List.getElem_cons_succ, List.getElem_cons_zero])
    (try simp only [Act.put]); (try simp only [List.setIfInBounds_toArray]); (try simp only [List.set_cons_succ]); (try simp only [List.set_cons_zero])
  refine wpAnyH_take (i := 20) (v := ?_) rfl (by kernel_rfl) (by kernel_rfl) (by kernel_rfl) (fun _ _ _ h => h) (Or.inl ⟨by rfl, ?_⟩) (by assumption) ?_
  rotate_left
  · intro w9 hSw
    (try dsimp only at hSw)
    go_simp
    (try with_reducible rfl)
  (try simp only [Act.put]); (try simp only [List.setIfInBounds_toArray]); (try simp only [List.set_cons_succ]); (try simp only [List.set_cons_zero])
  iterate 1
    (try dsimp only [List.getElem_toArray, List.getElem_cons_succ, List.getElem_cons_zero])
    (try simp only [Act.put]); (try simp only [List.setIfInBounds_toArray]); (try simp only [List.set_cons_succ]); (try simp only [List.set_cons_zero])
  refine wpAnyH_take (i := 21) (v := ?_) rfl (by kernel_rfl) (by kernel_rfl) (by kernel_rfl) (fun _ _ _ h => h) (Or.inl ⟨by rfl, ?_⟩) (by assumption) ?_
  rotate_left
  · intro w9 hSw
    (try dsimp only at hSw)
    go_simp
    (try with_reducible rfl)
  (try simp only [Act.put]); (try simp only [List.setIfInBounds_toArray]); (try simp only [List.set_cons_succ]); (try simp only [List.set_cons_zero])
  iterate 1
    (try dsimp only [List.getElem_toArray, List.getElem_cons_succ, List.getElem_cons_zero])
    (try simp only [Act.put]); (try simp only [List.setIfInBounds_toArray]); (try simp only [List.set_cons_succ]); (try simp only [List.set_cons_zero])
  refine wpAnyH_take (i := 22) (oi := { dst := some 99, op := Go.Op.load 28 (Go.Operand.tmp 20), type := 28, pos := "law.go:43", after := #[{ on := 21, ground := Go.Ground.guard }], guard := some (21, true) }) (v := .agg (tabA sq pq cu cv)) rfl (by kernel_rfl) (by kernel_rfl) (by kernel_rfl) (fun _ _ _ h => h) (y_midT (by rfl) (.tmp 20) rfl gc rfl (fun _ h => h.t6.t)) (by assumption) ?_
  (try simp only [Act.put]); (try simp only [List.setIfInBounds_toArray]); (try simp only [List.set_cons_succ]); (try simp only [List.set_cons_zero])
  iterate 1
    (try dsimp only [List.getElem_toArray, List.getElem_cons_succ, List.getElem_cons_zero])
    (try simp only [Act.put]); (try simp only [List.setIfInBounds_toArray]); (try simp only [List.set_cons_succ]); (try simp only [List.set_cons_zero])
  refine wpAnyH_take (i := 23) (oi := { dst := some 100, op := Go.Op.load 28 (Go.Operand.tmp 23), type := 28, pos := "law.go:43", after := #[{ on := 21, ground := Go.Ground.guard }], guard := some (21, true) }) (v := .agg (tabA sq pq du dv)) rfl (by kernel_rfl) (by kernel_rfl) (by kernel_rfl) (fun _ _ _ h => h) (y_midT (by rfl) (.tmp 23) rfl gd rfl (fun _ h => h.t7.t)) (by assumption) ?_
  (try simp only [Act.put]); (try simp only [List.setIfInBounds_toArray]); (try simp only [List.set_cons_succ]); (try simp only [List.set_cons_zero])
  iterate 1
    (try dsimp only [List.getElem_toArray, List.getElem_cons_succ, List.getElem_cons_zero])
    (try simp only [Act.put]); (try simp only [List.setIfInBounds_toArray]); (try simp only [List.set_cons_succ]); (try simp only [List.set_cons_zero])
  refine wpAnyH_ready (rs := [24]) (by kernel_rfl) (by simp) ?_
  refine AllReadyH.cons rfl (fun K hK => ?_) ?_
  rotate_left
  · exact AllReadyH.nil
  go_simp
  go_wp2_with (go_at_call 18; (with_reducible refine (same_tab HW.out.t6.a HW.out.t6.b HW.out.t7.a HW.out.t7.b N7.out N8.out).mono ?_); rintro e z24 ⟨rfl, kk⟩); replace HW := Lib.hid (HW.out.bel2 hg kk); clear kk
  refine hK.out _ _ ?_ (fun hHeld => ?_)
  · exact HW.out
  clear hK K
  (try simp only [Act.put]); (try simp only [List.setIfInBounds_toArray]); (try simp only [List.set_cons_succ]); (try simp only [List.set_cons_zero])
  iterate 1
    (try dsimp only [List.getElem_toArray, List.getElem_cons_succ, List.getElem_cons_zero])
    (try simp only [Act.put]); (try simp only [List.setIfInBounds_toArray]); (try simp only [List.set_cons_succ]); (try simp only [List.set_cons_zero])
  refine wpAnyH_take (i := 25) (v := ?_) rfl (by kernel_rfl) (by kernel_rfl) (by kernel_rfl) (fun _ _ _ h => h) (Or.inl ⟨by rfl, ?_⟩) (by assumption) ?_
  rotate_left
  · intro w9 hSw
    (try dsimp only at hSw)
    go_simp
    (try with_reducible rfl)
  (try simp only [Act.put]); (try simp only [List.setIfInBounds_toArray]); (try simp only [List.set_cons_succ]); (try simp only [List.set_cons_zero])
  iterate 1
    (try dsimp only [List.getElem_toArray, List.getElem_cons_succ, List.getElem_cons_zero])
    (try simp only [Act.put]); (try simp only [List.setIfInBounds_toArray]); (try simp only [List.set_cons_succ]); (try simp only [List.set_cons_zero])
  refine wpAnyH_take (i := 26) (v := ?_) rfl (by kernel_rfl) (by kernel_rfl) (by kernel_rfl) (fun _ _ _ h => h) (Or.inl ⟨by rfl, ?_⟩) (by assumption) ?_
  rotate_left
  · intro w9 hSw
    (try dsimp only at hSw)
    go_simp
    (try with_reducible rfl)
  (try simp only [Act.put]); (try simp only [List.setIfInBounds_toArray]); (try simp only [List.set_cons_succ]); (try simp only [List.set_cons_zero])
  iterate 1
    (try dsimp only [List.getElem_toArray, List.getElem_cons_succ, List.getElem_cons_zero])
    (try simp only [Act.put]); (try simp only [List.setIfInBounds_toArray]); (try simp only [List.set_cons_succ]); (try simp only [List.set_cons_zero])
  refine wpAnyH_take (i := 27) (v := ?_) rfl (by kernel_rfl) (by kernel_rfl) (by kernel_rfl) (fun _ _ _ h => h) (Or.inl ⟨by rfl, ?_⟩) (by assumption) ?_
  rotate_left
  · intro w9 hSw
    (try dsimp only at hSw)
    go_simp
    (try with_reducible rfl)
  (try simp only [Act.put]); (try simp only [List.setIfInBounds_toArray]); (try simp only [List.set_cons_succ]); (try simp only [List.set_cons_zero])
  iterate 1
    (try dsimp only [List.getElem_toArray, List.getElem_cons_succ, List.getElem_cons_zero])
    (try simp only [Act.put]); (try simp only [List.setIfInBounds_toArray]); (try simp only [List.set_cons_succ]); (try simp only [List.set_cons_zero])
  refine wpAnyH_take (i := 28) (v := ?_) rfl (by kernel_rfl) (by kernel_rfl) (by kernel_rfl) (fun _ _ _ h => h) (Or.inl ⟨by rfl, ?_⟩) (by assumption) ?_
  rotate_left
  · intro w9 hSw
    (try dsimp only at hSw)
    go_simp
    (try with_reducible rfl)
  (try simp only [Act.put]); (try simp only [List.setIfInBounds_toArray]); (try simp only [List.set_cons_succ]); (try simp only [List.set_cons_zero])
  iterate 1
    (try dsimp only [List.getElem_toArray, List.getElem_cons_succ, List.getElem_cons_zero])
    (try simp only [Act.put]); (try simp only [List.setIfInBounds_toArray]); (try simp only [List.set_cons_succ]); (try simp only [List.set_cons_zero])
  refine wpAnyH_take (i := 29) (v := ?_) rfl (by kernel_rfl) (by kernel_rfl) (by kernel_rfl) (fun _ _ _ h => h) (Or.inl ⟨by rfl, ?_⟩) (by assumption) ?_
  rotate_left
  · intro w9 hSw
    (try dsimp only at hSw)
    go_simp
    (try with_reducible rfl)
  (try simp only [Act.put]); (try simp only [List.setIfInBounds_toArray]); (try simp only [List.set_cons_succ]); (try simp only [List.set_cons_zero])
  iterate 1
    (try dsimp only [List.getElem_toArray, List.getElem_cons_succ, List.getElem_cons_zero])
    (try simp only [Act.put]); (try simp only [List.setIfInBounds_toArray]); (try simp only [List.set_cons_succ]); (try simp only [List.set_cons_zero])
  refine wpAnyH_take (i := 30) (v := ?_) rfl (by kernel_rfl) (by kernel_rfl) (by kernel_rfl) (fun _ _ _ h => h) (Or.inl ⟨by rfl, ?_⟩) (by assumption) ?_
  rotate_left
  · intro w9 hSw
    (try dsimp only at hSw)
    go_simp
    (try with_reducible rfl)
  (try simp only [Act.put]); (try simp only [List.setIfInBounds_toArray]); (try simp only [List.set_cons_succ]); (try simp only [List.set_cons_zero])
  iterate 1
    (try dsimp only [List.getElem_toArray, List.getElem_cons_succ, List.getElem_cons_zero])
    (try simp only [Act.put]); (try simp only [List.setIfInBounds_toArray]); (try simp only [List.set_cons_succ]); (try simp only [List.set_cons_zero])
  refine wpAnyH_take (i := 31) (v := ?_) rfl (by kernel_rfl) (by kernel_rfl) (by kernel_rfl) (fun _ _ _ h => h) (Or.inl ⟨by rfl, ?_⟩) (by assumption) ?_
  rotate_left
  · intro w9 hSw
    (try dsimp only at hSw)
    go_simp
    (try with_reducible rfl)
  (try simp only [Act.put]); (try simp only [List.setIfInBounds_toArray]); (try simp only [List.set_cons_succ]); (try simp only [List.set_cons_zero])
  iterate 1
    (try dsimp only [List.getElem_toArray, List.getElem_cons_succ, List.getElem_cons_zero])
    (try simp only [Act.put]); (try simp only [List.setIfInBounds_toArray]); (try simp only [List.set_cons_succ]); (try simp only [List.set_cons_zero])
  refine wpAnyH_take (i := 32) (v := ?_) rfl (by kernel_rfl) (by kernel_rfl) (by kernel_rfl) (fun _ _ _ h => h) (Or.inl ⟨by rfl, ?_⟩) (by assumption) ?_
  rotate_left
  · intro w9 hSw
    (try dsimp only at hSw)
    go_simp
    (try with_reducible rfl)
  (try simp only [Act.put]); (try simp only [List.setIfInBounds_toArray]); (try simp only [List.set_cons_succ]); (try simp only [List.set_cons_zero])
  iterate 1
    (try dsimp only [List.getElem_toArray, List.getElem_cons_succ, List.getElem_cons_zero])
    (try simp only [Act.put]); (try simp only [List.setIfInBounds_toArray]); (try simp only [List.set_cons_succ]); (try simp only [List.set_cons_zero])
  refine wpAnyH_take (i := 33) (v := ?_) rfl (by kernel_rfl) (by kernel_rfl) (by kernel_rfl) (fun _ _ _ h => h) (Or.inl ⟨by rfl, ?_⟩) (by assumption) ?_
  rotate_left
  · intro w9 hSw
    (try dsimp only at hSw)
    go_simp
    (try with_reducible rfl)
  (try simp only [Act.put]); (try simp only [List.setIfInBounds_toArray]); (try simp only [List.set_cons_succ]); (try simp only [List.set_cons_zero])
  iterate 1
    (try dsimp only [List.getElem_toArray, List.getElem_cons_succ, List.getElem_cons_zero])
    (try simp only [Act.put]); (try simp only [List.setIfInBounds_toArray]); (try simp only [List.set_cons_succ]); (try simp only [List.set_cons_zero])
  refine wpAnyH_take (i := 34) (v := ?_) rfl (by kernel_rfl) (by kernel_rfl) (by kernel_rfl) (fun _ _ _ h => h) (Or.inl ⟨by rfl, ?_⟩) (by assumption) ?_
  rotate_left
  · intro w9 hSw
    (try dsimp only at hSw)
    go_simp
    (try with_reducible rfl)
  (try simp only [Act.put]); (try simp only [List.setIfInBounds_toArray]); (try simp only [List.set_cons_succ]); (try simp only [List.set_cons_zero])
  iterate 1
    (try dsimp only [List.getElem_toArray, List.getElem_cons_succ, List.getElem_cons_zero])
    (try simp only [Act.put]); (try simp only [List.setIfInBounds_toArray]); (try simp only [List.set_cons_succ]); (try simp only [List.set_cons_zero])
  refine wpAnyH_take (i := 35) (v := ?_) rfl (by kernel_rfl) (by kernel_rfl) (by kernel_rfl) (fun _ _ _ h => h) (Or.inl ⟨by rfl, ?_⟩) (by assumption) ?_
  rotate_left
  · intro w9 hSw
    (try dsimp only at hSw)
    go_simp
    (try with_reducible rfl)
  (try simp only [Act.put]); (try simp only [List.setIfInBounds_toArray]); (try simp only [List.set_cons_succ]); (try simp only [List.set_cons_zero])
  iterate 1
    (try dsimp only [List.getElem_toArray, List.getElem_cons_succ, List.getElem_cons_zero])
    (try simp only [Act.put]); (try simp only [List.setIfInBounds_toArray]); (try simp only [List.set_cons_succ]); (try simp only [List.set_cons_zero])
  refine wpAnyH_take (i := 36) (v := ?_) rfl (by kernel_rfl) (by kernel_rfl) (by kernel_rfl) (fun _ _ _ h => h) (Or.inl ⟨by rfl, ?_⟩) (by assumption) ?_
  rotate_left
  · intro w9 hSw
    (try dsimp only at hSw)
    go_simp
    (try with_reducible rfl)
  (try simp only [Act.put]); (try simp only [List.setIfInBounds_toArray]); (try simp only [List.set_cons_succ]); (try simp only [List.set_cons_zero])
  iterate 1
    (try dsimp only [List.getElem_toArray, List.getElem_cons_succ, List.getElem_cons_zero])
    (try simp only [Act.put]); (try simp only [List.setIfInBounds_toArray]); (try simp only [List.set_cons_succ]); (try simp only [List.set_cons_zero])
  refine wpAnyH_take (i := 37) (oi := { dst := some 114, op := Go.Op.load 28 (Go.Operand.tmp 5), type := 28, pos := "law.go:43", after := #[{ on := 36, ground := Go.Ground.guard }], guard := some (36, true) }) (v := .agg (tabA s p u v)) rfl (by kernel_rfl) (by kernel_rfl) (by kernel_rfl) (fun _ _ _ h => h) (y_midT (by rfl) (.tmp 5) rfl g rfl (fun _ h => h.t0.t)) (by assumption) ?_
  (try simp only [Act.put]); (try simp only [List.setIfInBounds_toArray]); (try simp only [List.set_cons_succ]); (try simp only [List.set_cons_zero])
  iterate 1
    (try dsimp only [List.getElem_toArray, List.getElem_cons_succ, List.getElem_cons_zero])
    (try simp only [Act.put]); (try simp only [List.setIfInBounds_toArray]); (try simp only [List.set_cons_succ]); (try simp only [List.set_cons_zero])
  refine wpAnyH_take (i := 38) (oi := { dst := some 115, op := Go.Op.load 25 (Go.Operand.tmp 6), type := 25, pos := "law.go:43", after := #[{ on := 36, ground := Go.Ground.guard }], guard := some (36, true) }) (v := .agg (peA x)) rfl (by kernel_rfl) (by kernel_rfl) (by kernel_rfl) (fun _ _ _ h => h) (y_midP (by rfl) (.tmp 6) rfl (g + 1) 0 rfl x (fun _ h => h.x.range)) (by assumption) ?_
  (try simp only [Act.put]); (try simp only [List.setIfInBounds_toArray]); (try simp only [List.set_cons_succ]); (try simp only [List.set_cons_zero])
  iterate 1
    (try dsimp only [List.getElem_toArray, List.getElem_cons_succ, List.getElem_cons_zero])
    (try simp only [Act.put]); (try simp only [List.setIfInBounds_toArray]); (try simp only [List.set_cons_succ]); (try simp only [List.set_cons_zero])
  refine wpAnyH_take (i := 40) (oi := { dst := some 117, op := Go.Op.load 28 (Go.Operand.tmp 11), type := 28, pos := "law.go:43", after := #[{ on := 36, ground := Go.Ground.guard }], guard := some (36, true) }) (v := .agg (tabA s p ou ov)) rfl (by kernel_rfl) (by kernel_rfl) (by kernel_rfl) (fun _ _ _ h => h) (y_midT (by rfl) (.tmp 11) rfl go rfl (fun _ h => h.t1.t)) (by assumption) ?_
  (try simp only [Act.put]); (try simp only [List.setIfInBounds_toArray]); (try simp only [List.set_cons_succ]); (try simp only [List.set_cons_zero])
  iterate 1
    (try dsimp only [List.getElem_toArray, List.getElem_cons_succ, List.getElem_cons_zero])
    (try simp only [Act.put]); (try simp only [List.setIfInBounds_toArray]); (try simp only [List.set_cons_succ]); (try simp only [List.set_cons_zero])
  refine wpAnyH_take (i := 41) (oi := { dst := some 118, op := Go.Op.load 25 (Go.Operand.tmp 6), type := 25, pos := "law.go:43", after := #[{ on := 36, ground := Go.Ground.guard }], guard := some (36, true) }) (v := .agg (peA x)) rfl (by kernel_rfl) (by kernel_rfl) (by kernel_rfl) (fun _ _ _ h => h) (y_midP (by rfl) (.tmp 6) rfl (g + 1) 0 rfl x (fun _ h => h.x.range)) (by assumption) ?_
  (try simp only [Act.put]); (try simp only [List.setIfInBounds_toArray]); (try simp only [List.set_cons_succ]); (try simp only [List.set_cons_zero])
  iterate 1
    (try dsimp only [List.getElem_toArray, List.getElem_cons_succ, List.getElem_cons_zero])
    (try simp only [Act.put]); (try simp only [List.setIfInBounds_toArray]); (try simp only [List.set_cons_succ]); (try simp only [List.set_cons_zero])
  refine wpAnyH_ready (rs := [39]) (by kernel_rfl) (by simp) ?_
  refine AllReadyH.cons rfl (fun K hK => ?_) ?_
  rotate_left
  · exact AllReadyH.nil
  go_simp
  go_wp2_with (go_at_call 19; (with_reducible refine (HLA.out _ HW.out.bel).mono ?_); rintro e z39 ⟨l1, l2, rfl, h1, h2, kk⟩); replace HW := Lib.hid (HW.out.bel2 hg kk); have HM1 := Lib.hid h1; have HM2 := Lib.hid h2; clear h1 h2; clear kk
  refine hK.out _ _ ?_ (fun hHeld => ?_)
  · exact HW.out
  clear hK K
  (try simp only [Act.put]); (try simp only [List.setIfInBounds_toArray]); (try simp only [List.set_cons_succ]); (try simp only [List.set_cons_zero])
  iterate 1
    (try dsimp only [List.getElem_toArray, List.getElem_cons_succ, List.getElem_cons_zero])
    (try simp only [Act.put]); (try simp only [List.setIfInBounds_toArray]); (try simp only [List.set_cons_succ]); (try simp only [List.set_cons_zero])
  refine wpAnyH_ready (rs := [42]) (by kernel_rfl) (by simp) ?_
  refine AllReadyH.cons rfl (fun K hK => ?_) ?_
  rotate_left
  · exact AllReadyH.nil
  go_simp
  go_wp2_with (go_at_call 20; (with_reducible refine (HLB.out _ _ _ HW.out.t1.a HW.out.t1.b).mono ?_); rintro e z42 ⟨l3, l4, rfl, h1, h2, kk⟩); replace HW := Lib.hid (HW.out.bel2 hg kk); have HM3 := Lib.hid h1; have HM4 := Lib.hid h2; replace HM1 := Lib.hid (HM1.out.bel kk); replace HM2 := Lib.hid (HM2.out.bel kk); clear h1 h2; clear kk
  refine hK.out _ _ ?_ (fun hHeld => ?_)
  · exact HW.out
  clear hK K
  (try simp only [Act.put]); (try simp only [List.setIfInBounds_toArray]); (try simp only [List.set_cons_succ]); (try simp only [List.set_cons_zero])
  iterate 1
    (try dsimp only [List.getElem_toArray, List.getElem_cons_succ, List.getElem_cons_zero])
    (try simp only [Act.put]); (try simp only [List.setIfInBounds_toArray]); (try simp only [List.set_cons_succ]); (try simp only [List.set_cons_zero])
  refine wpAnyH_ready (rs := [43]) (by kernel_rfl) (by simp) ?_
  refine AllReadyH.cons rfl (fun K hK => ?_) ?_
  rotate_left
  · exact AllReadyH.nil
  go_simp
  go_wp2_with (go_at_call 18; (with_reducible refine (same_tab HM1.out HM2.out HM3.out HM4.out N1.out N2.out).mono ?_); rintro e z43 ⟨rfl, kk⟩); replace HW := Lib.hid (HW.out.bel2 hg kk); clear kk
  refine hK.out _ _ ?_ (fun hHeld => ?_)
  · exact HW.out
  clear hK K
  (try simp only [Act.put]); (try simp only [List.setIfInBounds_toArray]); (try simp only [List.set_cons_succ]); (try simp only [List.set_cons_zero])
  iterate 1
    (try dsimp only [List.getElem_toArray, List.getElem_cons_succ, List.getElem_cons_zero])
    (try simp only [Act.put]); (try simp only [List.setIfInBounds_toArray]); (try simp only [List.set_cons_succ]); (try simp only [List.set_cons_zero])
  refine wpAnyH_take (i := 44) (v := ?_) rfl (by kernel_rfl) (by kernel_rfl) (by kernel_rfl) (fun _ _ _ h => h) (Or.inl ⟨by rfl, ?_⟩) (by assumption) ?_
  rotate_left
  · intro w9 hSw
    (try dsimp only at hSw)
    go_simp
    (try with_reducible rfl)
  (try simp only [Act.put]); (try simp only [List.setIfInBounds_toArray]); (try simp only [List.set_cons_succ]); (try simp only [List.set_cons_zero])
  iterate 1
    (try dsimp only [List.getElem_toArray, List.getElem_cons_succ, List.getElem_cons_zero])
    (try simp only [Act.put]); (try simp only [List.setIfInBounds_toArray]); (try simp only [List.set_cons_succ]); (try simp only [List.set_cons_zero])
  refine wpAnyH_take (i := 45) (v := ?_) rfl (by kernel_rfl) (by kernel_rfl) (by kernel_rfl) (fun _ _ _ h => h) (Or.inl ⟨by rfl, ?_⟩) (by assumption) ?_
  rotate_left
  · intro w9 hSw
    (try dsimp only at hSw)
    go_simp
    (try with_reducible rfl)
  (try simp only [Act.put]); (try simp only [List.setIfInBounds_toArray]); (try simp only [List.set_cons_succ]); (try simp only [List.set_cons_zero])
  iterate 1
    (try dsimp only [List.getElem_toArray, List.getElem_cons_succ, List.getElem_cons_zero])
    (try simp only [Act.put]); (try simp only [List.setIfInBounds_toArray]); (try simp only [List.set_cons_succ]); (try simp only [List.set_cons_zero])
  refine wpAnyH_take (i := 46) (oi := { dst := some 123, op := Go.Op.load 28 (Go.Operand.tmp 5), type := 28, pos := "law.go:43", after := #[{ on := 45, ground := Go.Ground.guard }], guard := some (45, true) }) (v := .agg (tabA s p u v)) rfl (by kernel_rfl) (by kernel_rfl) (by kernel_rfl) (fun _ _ _ h => h) (y_midT (by rfl) (.tmp 5) rfl g rfl (fun _ h => h.t0.t)) (by assumption) ?_
  (try simp only [Act.put]); (try simp only [List.setIfInBounds_toArray]); (try simp only [List.set_cons_succ]); (try simp only [List.set_cons_zero])
  iterate 1
    (try dsimp only [List.getElem_toArray, List.getElem_cons_succ, List.getElem_cons_zero])
    (try simp only [Act.put]); (try simp only [List.setIfInBounds_toArray]); (try simp only [List.set_cons_succ]); (try simp only [List.set_cons_zero])
  refine wpAnyH_take (i := 47) (oi := { dst := some 124, op := Go.Op.load 28 (Go.Operand.tmp 11), type := 28, pos := "law.go:43", after := #[{ on := 45, ground := Go.Ground.guard }], guard := some (45, true) }) (v := .agg (tabA s p ou ov)) rfl (by kernel_rfl) (by kernel_rfl) (by kernel_rfl) (fun _ _ _ h => h) (y_midT (by rfl) (.tmp 11) rfl go rfl (fun _ h => h.t1.t)) (by assumption) ?_
  (try simp only [Act.put]); (try simp only [List.setIfInBounds_toArray]); (try simp only [List.set_cons_succ]); (try simp only [List.set_cons_zero])
  iterate 1
    (try dsimp only [List.getElem_toArray, List.getElem_cons_succ, List.getElem_cons_zero])
    (try simp only [Act.put]); (try simp only [List.setIfInBounds_toArray]); (try simp only [List.set_cons_succ]); (try simp only [List.set_cons_zero])
  refine wpAnyH_ready (rs := [48]) (by kernel_rfl) (by simp) ?_
  refine AllReadyH.cons rfl (fun K hK => ?_) ?_
  rotate_left
  · exact AllReadyH.nil
  go_simp
  go_wp2_with (go_at_call 18; (with_reducible refine (same_tab HW.out.t0.a HW.out.t0.b HW.out.t1.a HW.out.t1.b N1.out N2.out).mono ?_); rintro e z48 ⟨rfl, kk⟩); replace HW := Lib.hid (HW.out.bel2 hg kk); clear kk
  refine hK.out _ _ ?_ (fun hHeld => ?_)
  · exact HW.out
  clear hK K
  (try simp only [Act.put]); (try simp only [List.setIfInBounds_toArray]); (try simp only [List.set_cons_succ]); (try simp only [List.set_cons_zero])
  iterate 1
    (try dsimp only [List.getElem_toArray, List.getElem_cons_succ, List.getElem_cons_zero])
    (try simp only [Act.put]); (try simp only [List.setIfInBounds_toArray]); (try simp only [List.set_cons_succ]); (try simp only [List.set_cons_zero])
  refine wpAnyH_take (i := 49) (v := ?_) rfl (by kernel_rfl) (by kernel_rfl) (by kernel_rfl) (fun _ _ _ h => h) (Or.inl ⟨by rfl, ?_⟩) (by assumption) ?_
  rotate_left
  · intro w9 hSw
    (try dsimp only at hSw)
    go_simp
    (try with_reducible rfl)
  (try simp only [Act.put]); (try simp only [List.setIfInBounds_toArray]); (try simp only [List.set_cons_succ]); (try simp only [List.set_cons_zero])
  iterate 1
    (try dsimp only [List.getElem_toArray, List.getElem_cons_succ, List.getElem_cons_zero])
    (try simp only [Act.put]); (try simp only [List.setIfInBounds_toArray]); (try simp only [List.set_cons_succ]); (try simp only [List.set_cons_zero])
  refine wpAnyH_take (i := 50) (v := ?_) rfl (by kernel_rfl) (by kernel_rfl) (by kernel_rfl) (fun _ _ _ h => h) (Or.inl ⟨by rfl, ?_⟩) (by assumption) ?_
  rotate_left
  · intro w9 hSw
    (try dsimp only at hSw)
    go_simp
    (try with_reducible rfl)
  (try simp only [Act.put]); (try simp only [List.setIfInBounds_toArray]); (try simp only [List.set_cons_succ]); (try simp only [List.set_cons_zero])
  iterate 1
    (try dsimp only [List.getElem_toArray, List.getElem_cons_succ, List.getElem_cons_zero])
    (try simp only [Act.put]); (try simp only [List.setIfInBounds_toArray]); (try simp only [List.set_cons_succ]); (try simp only [List.set_cons_zero])
  refine wpAnyH_done (by kernel_rfl) ?_ _
  clear hHeld
  go_wp2
  go_ret
  exact ⟨rfl, by (try rw [hg]); exact HW.out.bel⟩
end Go.Proofs.Ytkcljbolopephaa.MakeLaw
