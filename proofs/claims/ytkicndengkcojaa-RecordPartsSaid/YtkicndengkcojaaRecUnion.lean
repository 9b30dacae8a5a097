/- Two records joined: Union. -/
import Derived.Test.YtkicndengkcojaaRecWith3
namespace Go.Proofs.Ytkicndengkcojaa
set_option maxRecDepth 100000
open Go Go.RowKit Go.Sort

def mayB (k : Int) : Bool := k == 1 || k == 5
theorem mayUnite_any (r : Rc) (u : Value) : Gives Try.prog 72 #[.agg (recC r u)] (.bool (mayB r.kind)) := by
  intro w
  obtain ⟨kind, L, nl, nb, mark⟩ := r
  by_cases h1 : kind = 1
  · subst h1
    go_enter Try.func72, Try.ntmps72
    simp only [recC]
    go_upto_region 1 with (fail)
    have A0 := Blk.new w #[.int .i64 1, u, .int .i64 nl, .int .u64 (nb : Int), .int .u64 (mark : Int)] 27
    have B0 := (Below.refl w.heap.size w).alloc (Nat.le_refl _) (.cells #[.int .i64 1, u, .int .i64 nl, .int .u64 (nb : Int), .int .u64 (mark : Int)] 27)
    generalize w.alloc _ = W at *
    have c0 : W.cell? ⟨w.heap.size, 0, none⟩ = some (.int .i64 1) := A0.cell 0
    go_wp2
    go_ret
    exact ⟨rfl, B0⟩
  · have hd : (kind == 1) = false := by simpa using h1
    go_enter Try.func72, Try.ntmps72
    simp only [recC]
    go_upto_region 1 with (fail)
    have A0 := Blk.new w #[.int .i64 kind, u, .int .i64 nl, .int .u64 (nb : Int), .int .u64 (mark : Int)] 27
    have B0 := (Below.refl w.heap.size w).alloc (Nat.le_refl _) (.cells #[.int .i64 kind, u, .int .i64 nl, .int .u64 (nb : Int), .int .u64 (mark : Int)] 27)
    generalize w.alloc _ = W at *
    have c0 : W.cell? ⟨w.heap.size, 0, none⟩ = some (.int .i64 kind) := A0.cell 0
    go_wp2
    go_ret
    exact ⟨ret_bool (by simp [mayB, hd]), B0⟩
theorem p_loadL2 {ops : Array Oper} {rest : List Oper} {o : Oper} {a : Act} {w : World} {Q : Exit → Act → World → Prop} (hgd : o.guard = none) (x : Operand) (ho : o.op = .load 25 x)
    (g : Nat) (hx : a.eval x = .pointer (some ⟨g, 0, none⟩)) (n : Int) (b : Nat) (hg : Blk w g (labc n b) 25)
    (h : wpList Try.prog ops Q rest (a.put o.dst (.agg #[.int .i64 n, .int .u64 (b : Int)])) w) : wpList Try.prog ops Q (o :: rest) a w := p_loadL hgd x ho g hx n b hg h
theorem leaf_any (al : Option Addr) (m c : Nat) (n : Int) (b : Nat) (L : List It) : Gives Try.prog 67 #[.slice al m c, .agg (labc n b)] (.agg (recC (leafR L n b) (.slice al m c))) := by
  intro w
  have h0 : Hid ((w.alloc (.cells (labc n b) 25)).alloc (.cells (recC zeroR (.slice none 0 0)) 27) = (w.alloc (.cells (labc n b) 25)).alloc (.cells (recC zeroR (.slice none 0 0)) 27)) := rfl
  have A0 := (Blk.new w (labc n b) 25).alloc (.cells (recC zeroR (.slice none 0 0)) 27)
  have Z0 := Blk.new (w.alloc (.cells (labc n b) 25)) (recC zeroR (.slice none 0 0)) 27
  rw [World.size_alloc] at Z0
  have B0 := ((Below.refl w.heap.size w).alloc (Nat.le_refl _) (.cells (labc n b) 25)).alloc (by simp) (.cells (recC zeroR (.slice none 0 0)) 27)
  clear h0
  go_enter Try.func67, Try.ntmps67
  go_upto_region 1 with (fail)
  rw [zero_rec]
  generalize (w.alloc _).alloc _ = W at *
  go_wp2_with (first
    | (refine p_loadL2 rfl _ rfl _ rfl n b A0 ?_)
    | (refine p_storeR rfl _ _ rfl (w.heap.size + 1) rfl (leafR L n b) (.slice al m c) rfl rfl zeroR (.slice none 0 0) Z0 ?_))
  exact bodyPost_ret (results_rec1 Try.results67 _ _ (w.heap.size + 1) (leafR L n b) (.slice al m c) rfl (Z0.setRow _)) rfl ⟨rfl, bel_setRow B0 (by omega) _⟩

def unionE (a b : Rc) : Nat := if isR a = false then 1 else if isR b = false then 1 else if riseB (a.items ++ b.items) = false then 1 else if mayB a.kind = false then 13 else if mayB b.kind = false then 13 else if 16 < a.items.length + b.items.length then 12 else 0
def unionV (a b : Rc) : Rc := if unionE a b = 0 then leafR (a.items ++ b.items) b.nl b.nb else zeroR
theorem midL2 {ops : Array Oper} {rest : List Oper} {o : Oper} {a : Act} {w : World} {Q : Exit → Act → World → Prop} (hgd : o.guard = none) (x : Operand) (ho : o.op = .load 25 x)
    (g : Nat) (hx : a.eval x = .pointer (some ⟨g, 2, none⟩)) (r : Rc) (u : Value) (hg : Blk w g (recC r u) 27)
    (h : wpList Try.prog ops Q rest (a.put o.dst (.agg (labc r.nl r.nb))) w) : wpList Try.prog ops Q (o :: rest) a w := p_midL hgd x ho g hx r u hg h

set_option maxHeartbeats 2000000 in
theorem unionc_a {r q : Rc} {a a' : Option Addr} {c c' : Nat} {w : World} {g j : Nat} (hg : Blk w g (recC r (.slice a r.items.length c)) 27) (hj : Blk w j (recC q (.slice a' q.items.length c')) 27) (hT : Told w (.slice a r.items.length c) r.items) (hT' : Told w (.slice a' q.items.length c') q.items) (hW : r.Wf) (hW' : q.Wf) (hl : r.items.length ≤ 1000000) (hl' : q.items.length ≤ 1000000) (hr : isR r = false) :
    Calls Try.prog 70 #[.pointer (some ⟨g, 0, none⟩), .pointer (some ⟨j, 0, none⟩)] w fun e w' => e = Pan 1 ∧ Below w.heap.size w w' := by
  go_enter Try.func70, Try.ntmps70
  go_upto_region 1 with (fail)
  rw [zero_rec]
  have Z0 := Blk.new w (recC zeroR (.slice none 0 0)) 27
  have B0 := (Below.refl w.heap.size w).alloc (Nat.le_refl _) (.cells (recC zeroR (.slice none 0 0)) 27)
  replace hg := hg.below B0 hg.lt
  replace hj := hj.below B0 hj.lt
  replace hT := hT.bel B0
  replace hT' := hT'.bel B0
  generalize w.alloc _ = W at *
  have HI := Lib.hid (is_any hT hW hl)
  have HJ := Lib.hid (fun w5 (hb : Below W.heap.size W w5) => is_any (hT'.bel hb) hW' hl')
  rw [hr] at HI
  clear hT hT' hW hW' hl hl' hr HJ
  go_wp2_with (first
    | (refine p_loadR rfl _ rfl g rfl r _ hg ?_)
    | (go_at_call 15; (with_reducible refine HI.out.mono ?_); rintro e w1 ⟨rfl, hb1⟩)
    | (go_at_call 34; (with_reducible refine (refuse_1 _).mono ?_); rintro e w2 ⟨he, rfl⟩; rw [pan_eq] at he; subst he))
  exact ⟨rfl, rfl, rstep B0 (by assumption)⟩

set_option maxHeartbeats 2000000 in
theorem unionc_b {r q : Rc} {a a' : Option Addr} {c c' : Nat} {w : World} {g j : Nat} (hg : Blk w g (recC r (.slice a r.items.length c)) 27) (hj : Blk w j (recC q (.slice a' q.items.length c')) 27) (hT : Told w (.slice a r.items.length c) r.items) (hT' : Told w (.slice a' q.items.length c') q.items) (hW : r.Wf) (hW' : q.Wf) (hl : r.items.length ≤ 1000000) (hl' : q.items.length ≤ 1000000) (hr : isR r = true) (hq : isR q = false) :
    Calls Try.prog 70 #[.pointer (some ⟨g, 0, none⟩), .pointer (some ⟨j, 0, none⟩)] w fun e w' => e = Pan 1 ∧ Below w.heap.size w w' := by
  go_enter Try.func70, Try.ntmps70
  go_upto_region 1 with (fail)
  rw [zero_rec]
  have Z0 := Blk.new w (recC zeroR (.slice none 0 0)) 27
  have B0 := (Below.refl w.heap.size w).alloc (Nat.le_refl _) (.cells (recC zeroR (.slice none 0 0)) 27)
  replace hg := hg.below B0 hg.lt
  replace hj := hj.below B0 hj.lt
  replace hT := hT.bel B0
  replace hT' := hT'.bel B0
  generalize w.alloc _ = W at *
  have HI := Lib.hid (is_any hT hW hl)
  have HJ := Lib.hid (fun w5 (hb : Below W.heap.size W w5) => is_any (hT'.bel hb) hW' hl')
  rw [hr] at HI
  rw [hq] at HJ
  clear hT hT' hW hW' hl hl' hr hq
  go_wp2_with (first
    | (refine p_loadR rfl _ rfl g rfl r _ hg ?_)
    | (go_at_call 15; (with_reducible refine HI.out.mono ?_); rintro e w1 ⟨rfl, hb1⟩; have hj1 := hj.below hb1 hj.lt)
    | (go_guarded; refine o_loadR _ rfl j rfl q _ hj1 ?_)
    | (go_at_call 15; (with_reducible refine (HJ.out _ hb1).mono ?_); rintro e w2 ⟨rfl, hb2⟩)
    | (go_at_call 34; (with_reducible refine (refuse_1 _).mono ?_); rintro e w3 ⟨he, rfl⟩; rw [pan_eq] at he; subst he))
  exact ⟨rfl, rfl, rstep B0 (rstep hb1 hb2)⟩

set_option maxHeartbeats 2000000 in
theorem unionc_rise {r q : Rc} {a a' : Option Addr} {c c' : Nat} {w : World} {g j : Nat} (hg : Blk w g (recC r (.slice a r.items.length c)) 27) (hj : Blk w j (recC q (.slice a' q.items.length c')) 27) (hT : Told w (.slice a r.items.length c) r.items) (hT' : Told w (.slice a' q.items.length c') q.items) (hW : r.Wf) (hW' : q.Wf) (hl : r.items.length ≤ 1000000) (hl' : q.items.length ≤ 1000000) (hr : isR r = true) (hq : isR q = true) (_h40 : r.items.length + q.items.length ≤ 40) (hs : riseB (r.items ++ q.items) = false) :
    Calls Try.prog 70 #[.pointer (some ⟨g, 0, none⟩), .pointer (some ⟨j, 0, none⟩)] w fun e w' => e = Pan 1 ∧ Below w.heap.size w w' := by
  go_enter Try.func70, Try.ntmps70
  go_upto_region 1 with (fail)
  rw [zero_rec]
  have Z0 := Blk.new w (recC zeroR (.slice none 0 0)) 27
  have B0 := (Below.refl w.heap.size w).alloc (Nat.le_refl _) (.cells (recC zeroR (.slice none 0 0)) 27)
  replace hg := hg.below B0 hg.lt
  replace hj := hj.below B0 hj.lt
  replace hT := hT.bel B0
  replace hT' := hT'.bel B0
  generalize w.alloc _ = W at *
  have HI := Lib.hid (is_any hT hW hl)
  have HJ := Lib.hid (fun w5 (hb : Below W.heap.size W w5) => is_any (hT'.bel hb) hW' hl')
  obtain ⟨K, hK⟩ : ∃ K, K = r.items ++ q.items := ⟨_, rfl⟩
  have HLL : Hid (K.length = r.items.length + q.items.length) := by rw [hK]; exact List.length_append
  have HKK := Lib.hid hK
  rw [← hK] at hs
  rw [hr] at HI
  rw [hq] at HJ
  clear hr hq
  go_upto_region 2 with (first
    | (refine p_loadR rfl _ rfl g rfl r _ hg ?_)
    | (go_at_call 15; (with_reducible refine HI.out.mono ?_); rintro e w1 ⟨rfl, hb1⟩; have hj1 := hj.below hb1 hj.lt)
    | (go_guarded; refine o_loadR _ rfl j rfl q _ hj1 ?_)
    | (go_at_call 15; (with_reducible refine (HJ.out _ hb1).mono ?_); rintro e w2 ⟨rfl, hb2⟩)
    | (go_at_call 34; (with_reducible refine (pass_1 _).mono ?_); rintro e w3 ⟨rfl, rfl⟩))
  have hb12 := rstep hb1 hb2
  have hg2 := hg.below hb12 hg.lt
  have hj2 := hj.below hb12 hj.lt
  have Z2 := Z0.below hb12 Z0.lt
  have B2 := rstep B0 hb12
  have T1 := hT.bel hb12
  have T2 := hT'.bel hb12
  clear hT hT' hW hW' HI HJ hb1 hb2 hb12 hj1 hg hj Z0 B0
  have c1 : w2.cell? ⟨g, 1, none⟩ = some (.slice a r.items.length c) := hg2.cell 1
  have c2 : w2.cell? ⟨j, 1, none⟩ = some (.slice a' q.items.length c') := hj2.cell 1
  have b5 : Below w2.heap.size w2 (w2.alloc (.cells #[.slice a r.items.length c, .slice a' q.items.length c'] 22)) := (Below.refl _ _).alloc (Nat.le_refl _) _
  have HC := (concat2 (Blk.new w2 #[.slice a r.items.length c, .slice a' q.items.length c'] 22) (T1.bel b5) (T2.bel b5) (by omega))
  rw [← hK] at HC
  replace HC := Lib.hid HC
  clear hK
  have HX := Lib.hid (And.intro (hg2.below b5 hg2.lt) (And.intro (hj2.below b5 hj2.lt) (And.intro (Z2.below b5 Z2.lt) (rstep B2 b5))))
  clear b5 T1 T2 hg2 hj2 Z2 B2
  go_upto_region 3 with (go_at_call 57; (with_reducible refine HC.out.mono ?_); rintro e w4 ⟨v3, rfl, hT4, hb4⟩; obtain ⟨a3, q3, rfl⟩ := told_shape hT4)
  have hg4 := HX.out.1.below hb4 HX.out.1.lt
  have hj4 := HX.out.2.1.below hb4 HX.out.2.1.lt
  have Z4 := HX.out.2.2.1.below hb4 HX.out.2.2.1.lt
  have B4 := rstep HX.out.2.2.2 hb4
  clear c1 c2 HC HX hb4
  have HRI := Lib.hid (rise_any hT4 (by rw [HLL.out]; omega))
  rw [hs] at HRI
  clear hs
  go_wp2_with (first
    | (go_at_call 71; (with_reducible refine HRI.out.mono ?_); rintro e w5 ⟨rfl, hb5⟩)
    | (go_at_call 34; (with_reducible refine (refuse_1 _).mono ?_); rintro e w6 ⟨he, rfl⟩; rw [pan_eq] at he; subst he))
  exact ⟨rfl, rfl, rstep B4 (by assumption)⟩

set_option maxHeartbeats 2000000 in
theorem unionc_ma {r q : Rc} {a a' : Option Addr} {c c' : Nat} {w : World} {g j : Nat} (hg : Blk w g (recC r (.slice a r.items.length c)) 27) (hj : Blk w j (recC q (.slice a' q.items.length c')) 27) (hT : Told w (.slice a r.items.length c) r.items) (hT' : Told w (.slice a' q.items.length c') q.items) (hW : r.Wf) (hW' : q.Wf) (hl : r.items.length ≤ 1000000) (hl' : q.items.length ≤ 1000000) (hr : isR r = true) (hq : isR q = true) (_h40 : r.items.length + q.items.length ≤ 40) (hs : riseB (r.items ++ q.items) = true) (hm : mayB r.kind = false) :
    Calls Try.prog 70 #[.pointer (some ⟨g, 0, none⟩), .pointer (some ⟨j, 0, none⟩)] w fun e w' => e = Pan 13 ∧ Below w.heap.size w w' := by
  go_enter Try.func70, Try.ntmps70
  go_upto_region 1 with (fail)
  rw [zero_rec]
  have Z0 := Blk.new w (recC zeroR (.slice none 0 0)) 27
  have B0 := (Below.refl w.heap.size w).alloc (Nat.le_refl _) (.cells (recC zeroR (.slice none 0 0)) 27)
  replace hg := hg.below B0 hg.lt
  replace hj := hj.below B0 hj.lt
  replace hT := hT.bel B0
  replace hT' := hT'.bel B0
  generalize w.alloc _ = W at *
  have HI := Lib.hid (is_any hT hW hl)
  have HJ := Lib.hid (fun w5 (hb : Below W.heap.size W w5) => is_any (hT'.bel hb) hW' hl')
  obtain ⟨K, hK⟩ : ∃ K, K = r.items ++ q.items := ⟨_, rfl⟩
  have HLL : Hid (K.length = r.items.length + q.items.length) := by rw [hK]; exact List.length_append
  have HKK := Lib.hid hK
  rw [← hK] at hs
  rw [hr] at HI
  rw [hq] at HJ
  clear hr hq
  go_upto_region 2 with (first
    | (refine p_loadR rfl _ rfl g rfl r _ hg ?_)
    | (go_at_call 15; (with_reducible refine HI.out.mono ?_); rintro e w1 ⟨rfl, hb1⟩; have hj1 := hj.below hb1 hj.lt)
    | (go_guarded; refine o_loadR _ rfl j rfl q _ hj1 ?_)
    | (go_at_call 15; (with_reducible refine (HJ.out _ hb1).mono ?_); rintro e w2 ⟨rfl, hb2⟩)
    | (go_at_call 34; (with_reducible refine (pass_1 _).mono ?_); rintro e w3 ⟨rfl, rfl⟩))
  have hb12 := rstep hb1 hb2
  have hg2 := hg.below hb12 hg.lt
  have hj2 := hj.below hb12 hj.lt
  have Z2 := Z0.below hb12 Z0.lt
  have B2 := rstep B0 hb12
  have T1 := hT.bel hb12
  have T2 := hT'.bel hb12
  clear hT hT' hW hW' HI HJ hb1 hb2 hb12 hj1 hg hj Z0 B0
  have c1 : w2.cell? ⟨g, 1, none⟩ = some (.slice a r.items.length c) := hg2.cell 1
  have c2 : w2.cell? ⟨j, 1, none⟩ = some (.slice a' q.items.length c') := hj2.cell 1
  have b5 : Below w2.heap.size w2 (w2.alloc (.cells #[.slice a r.items.length c, .slice a' q.items.length c'] 22)) := (Below.refl _ _).alloc (Nat.le_refl _) _
  have HC := (concat2 (Blk.new w2 #[.slice a r.items.length c, .slice a' q.items.length c'] 22) (T1.bel b5) (T2.bel b5) (by omega))
  rw [← hK] at HC
  replace HC := Lib.hid HC
  clear hK
  have HX := Lib.hid (And.intro (hg2.below b5 hg2.lt) (And.intro (hj2.below b5 hj2.lt) (And.intro (Z2.below b5 Z2.lt) (rstep B2 b5))))
  clear b5 T1 T2 hg2 hj2 Z2 B2
  go_upto_region 3 with (go_at_call 57; (with_reducible refine HC.out.mono ?_); rintro e w4 ⟨v3, rfl, hT4, hb4⟩; obtain ⟨a3, q3, rfl⟩ := told_shape hT4)
  have hg4 := HX.out.1.below hb4 HX.out.1.lt
  have hj4 := HX.out.2.1.below hb4 HX.out.2.1.lt
  have Z4 := HX.out.2.2.1.below hb4 HX.out.2.2.1.lt
  have B4 := rstep HX.out.2.2.2 hb4
  clear c1 c2 HC HX hb4
  have HRI := Lib.hid (rise_any hT4 (by rw [HLL.out]; omega))
  rw [hs] at HRI
  clear hs
  go_upto_region 4 with (first
    | (go_at_call 71; (with_reducible refine HRI.out.mono ?_); rintro e w5 ⟨rfl, hb5⟩)
    | (go_at_call 34; (with_reducible refine (pass_1 _).mono ?_); rintro e w6 ⟨rfl, rfl⟩))
  have hg5 := hg4.below hb5 hg4.lt
  have hj5 := hj4.below hb5 hj4.lt
  have Z5 := Z4.below hb5 Z4.lt
  have B5 := rstep B4 hb5
  have T5 := hT4.bel hb5
  clear hb5 HRI hg4 hj4 Z4 B4 hT4
  have HM := hm ▸ mayUnite_any r (.slice a r.items.length c)
  clear hm
  go_wp2_with (first
    | (refine p_loadR rfl _ rfl g rfl r _ hg5 ?_)
    | (go_at_call 72; (with_reducible refine (HM.calls _).mono ?_); rintro e w6 ⟨rfl, hb6⟩)
    | (go_at_call 34; (with_reducible refine (refuse_13 _).mono ?_); rintro e w6 ⟨he, rfl⟩; rw [pan_eq] at he; subst he))
  exact ⟨rfl, rfl, rstep B5 (by assumption)⟩

set_option maxHeartbeats 2000000 in
theorem unionc_mb {r q : Rc} {a a' : Option Addr} {c c' : Nat} {w : World} {g j : Nat} (hg : Blk w g (recC r (.slice a r.items.length c)) 27) (hj : Blk w j (recC q (.slice a' q.items.length c')) 27) (hT : Told w (.slice a r.items.length c) r.items) (hT' : Told w (.slice a' q.items.length c') q.items) (hW : r.Wf) (hW' : q.Wf) (hl : r.items.length ≤ 1000000) (hl' : q.items.length ≤ 1000000) (hr : isR r = true) (hq : isR q = true) (_h40 : r.items.length + q.items.length ≤ 40) (hs : riseB (r.items ++ q.items) = true) (hm : mayB r.kind = true) (hm2 : mayB q.kind = false) :
    Calls Try.prog 70 #[.pointer (some ⟨g, 0, none⟩), .pointer (some ⟨j, 0, none⟩)] w fun e w' => e = Pan 13 ∧ Below w.heap.size w w' := by
  go_enter Try.func70, Try.ntmps70
  go_upto_region 1 with (fail)
  rw [zero_rec]
  have Z0 := Blk.new w (recC zeroR (.slice none 0 0)) 27
  have B0 := (Below.refl w.heap.size w).alloc (Nat.le_refl _) (.cells (recC zeroR (.slice none 0 0)) 27)
  replace hg := hg.below B0 hg.lt
  replace hj := hj.below B0 hj.lt
  replace hT := hT.bel B0
  replace hT' := hT'.bel B0
  generalize w.alloc _ = W at *
  have HI := Lib.hid (is_any hT hW hl)
  have HJ := Lib.hid (fun w5 (hb : Below W.heap.size W w5) => is_any (hT'.bel hb) hW' hl')
  obtain ⟨K, hK⟩ : ∃ K, K = r.items ++ q.items := ⟨_, rfl⟩
  have HLL : Hid (K.length = r.items.length + q.items.length) := by rw [hK]; exact List.length_append
  have HKK := Lib.hid hK
  rw [← hK] at hs
  rw [hr] at HI
  rw [hq] at HJ
  clear hr hq
  go_upto_region 2 with (first
    | (refine p_loadR rfl _ rfl g rfl r _ hg ?_)
    | (go_at_call 15; (with_reducible refine HI.out.mono ?_); rintro e w1 ⟨rfl, hb1⟩; have hj1 := hj.below hb1 hj.lt)
    | (go_guarded; refine o_loadR _ rfl j rfl q _ hj1 ?_)
    | (go_at_call 15; (with_reducible refine (HJ.out _ hb1).mono ?_); rintro e w2 ⟨rfl, hb2⟩)
    | (go_at_call 34; (with_reducible refine (pass_1 _).mono ?_); rintro e w3 ⟨rfl, rfl⟩))
  have hb12 := rstep hb1 hb2
  have hg2 := hg.below hb12 hg.lt
  have hj2 := hj.below hb12 hj.lt
  have Z2 := Z0.below hb12 Z0.lt
  have B2 := rstep B0 hb12
  have T1 := hT.bel hb12
  have T2 := hT'.bel hb12
  clear hT hT' hW hW' HI HJ hb1 hb2 hb12 hj1 hg hj Z0 B0
  have c1 : w2.cell? ⟨g, 1, none⟩ = some (.slice a r.items.length c) := hg2.cell 1
  have c2 : w2.cell? ⟨j, 1, none⟩ = some (.slice a' q.items.length c') := hj2.cell 1
  have b5 : Below w2.heap.size w2 (w2.alloc (.cells #[.slice a r.items.length c, .slice a' q.items.length c'] 22)) := (Below.refl _ _).alloc (Nat.le_refl _) _
  have HC := (concat2 (Blk.new w2 #[.slice a r.items.length c, .slice a' q.items.length c'] 22) (T1.bel b5) (T2.bel b5) (by omega))
  rw [← hK] at HC
  replace HC := Lib.hid HC
  clear hK
  have HX := Lib.hid (And.intro (hg2.below b5 hg2.lt) (And.intro (hj2.below b5 hj2.lt) (And.intro (Z2.below b5 Z2.lt) (rstep B2 b5))))
  clear b5 T1 T2 hg2 hj2 Z2 B2
  go_upto_region 3 with (go_at_call 57; (with_reducible refine HC.out.mono ?_); rintro e w4 ⟨v3, rfl, hT4, hb4⟩; obtain ⟨a3, q3, rfl⟩ := told_shape hT4)
  have hg4 := HX.out.1.below hb4 HX.out.1.lt
  have hj4 := HX.out.2.1.below hb4 HX.out.2.1.lt
  have Z4 := HX.out.2.2.1.below hb4 HX.out.2.2.1.lt
  have B4 := rstep HX.out.2.2.2 hb4
  clear c1 c2 HC HX hb4
  have HRI := Lib.hid (rise_any hT4 (by rw [HLL.out]; omega))
  rw [hs] at HRI
  clear hs
  go_upto_region 4 with (first
    | (go_at_call 71; (with_reducible refine HRI.out.mono ?_); rintro e w5 ⟨rfl, hb5⟩)
    | (go_at_call 34; (with_reducible refine (pass_1 _).mono ?_); rintro e w6 ⟨rfl, rfl⟩))
  have hg5 := hg4.below hb5 hg4.lt
  have hj5 := hj4.below hb5 hj4.lt
  have Z5 := Z4.below hb5 Z4.lt
  have B5 := rstep B4 hb5
  have T5 := hT4.bel hb5
  clear hb5 HRI hg4 hj4 Z4 B4 hT4
  have HM := hm ▸ mayUnite_any r (.slice a r.items.length c)
  have HM2 := hm2 ▸ mayUnite_any q (.slice a' q.items.length c')
  clear hm hm2
  go_wp2_with (first
    | (refine p_loadR rfl _ rfl g rfl r _ hg5 ?_)
    | (go_at_call 72; (with_reducible refine (HM.calls _).mono ?_); rintro e w6 ⟨rfl, hb6⟩; have hj6 := hj5.below hb6 hj5.lt)
    | (go_guarded; refine o_loadR _ rfl j rfl q _ hj6 ?_)
    | (go_at_call 72; (with_reducible refine (HM2.calls _).mono ?_); rintro e w7 ⟨rfl, hb7⟩)
    | (go_at_call 34; (with_reducible refine (refuse_13 _).mono ?_); rintro e w8 ⟨he, rfl⟩; rw [pan_eq] at he; subst he))
  exact ⟨rfl, rfl, rstep B5 (rstep hb6 hb7)⟩

set_option maxHeartbeats 2000000 in
theorem unionc_full {r q : Rc} {a a' : Option Addr} {c c' : Nat} {w : World} {g j : Nat} (hg : Blk w g (recC r (.slice a r.items.length c)) 27) (hj : Blk w j (recC q (.slice a' q.items.length c')) 27) (hT : Told w (.slice a r.items.length c) r.items) (hT' : Told w (.slice a' q.items.length c') q.items) (hW : r.Wf) (hW' : q.Wf) (hl : r.items.length ≤ 1000000) (hl' : q.items.length ≤ 1000000) (hr : isR r = true) (hq : isR q = true) (_h40 : r.items.length + q.items.length ≤ 40) (hs : riseB (r.items ++ q.items) = true) (hm : mayB r.kind = true) (hm2 : mayB q.kind = true) (hf : 16 < r.items.length + q.items.length) :
    Calls Try.prog 70 #[.pointer (some ⟨g, 0, none⟩), .pointer (some ⟨j, 0, none⟩)] w fun e w' => e = Pan 12 ∧ Below w.heap.size w w' := by
  go_enter Try.func70, Try.ntmps70
  go_upto_region 1 with (fail)
  rw [zero_rec]
  have Z0 := Blk.new w (recC zeroR (.slice none 0 0)) 27
  have B0 := (Below.refl w.heap.size w).alloc (Nat.le_refl _) (.cells (recC zeroR (.slice none 0 0)) 27)
  replace hg := hg.below B0 hg.lt
  replace hj := hj.below B0 hj.lt
  replace hT := hT.bel B0
  replace hT' := hT'.bel B0
  generalize w.alloc _ = W at *
  have HI := Lib.hid (is_any hT hW hl)
  have HJ := Lib.hid (fun w5 (hb : Below W.heap.size W w5) => is_any (hT'.bel hb) hW' hl')
  obtain ⟨K, hK⟩ : ∃ K, K = r.items ++ q.items := ⟨_, rfl⟩
  have HLL : Hid (K.length = r.items.length + q.items.length) := by rw [hK]; exact List.length_append
  have HKK := Lib.hid hK
  rw [← hK] at hs
  rw [hr] at HI
  rw [hq] at HJ
  clear hr hq
  go_upto_region 2 with (first
    | (refine p_loadR rfl _ rfl g rfl r _ hg ?_)
    | (go_at_call 15; (with_reducible refine HI.out.mono ?_); rintro e w1 ⟨rfl, hb1⟩; have hj1 := hj.below hb1 hj.lt)
    | (go_guarded; refine o_loadR _ rfl j rfl q _ hj1 ?_)
    | (go_at_call 15; (with_reducible refine (HJ.out _ hb1).mono ?_); rintro e w2 ⟨rfl, hb2⟩)
    | (go_at_call 34; (with_reducible refine (pass_1 _).mono ?_); rintro e w3 ⟨rfl, rfl⟩))
  have hb12 := rstep hb1 hb2
  have hg2 := hg.below hb12 hg.lt
  have hj2 := hj.below hb12 hj.lt
  have Z2 := Z0.below hb12 Z0.lt
  have B2 := rstep B0 hb12
  have T1 := hT.bel hb12
  have T2 := hT'.bel hb12
  clear hT hT' hW hW' HI HJ hb1 hb2 hb12 hj1 hg hj Z0 B0
  have c1 : w2.cell? ⟨g, 1, none⟩ = some (.slice a r.items.length c) := hg2.cell 1
  have c2 : w2.cell? ⟨j, 1, none⟩ = some (.slice a' q.items.length c') := hj2.cell 1
  have b5 : Below w2.heap.size w2 (w2.alloc (.cells #[.slice a r.items.length c, .slice a' q.items.length c'] 22)) := (Below.refl _ _).alloc (Nat.le_refl _) _
  have HC := (concat2 (Blk.new w2 #[.slice a r.items.length c, .slice a' q.items.length c'] 22) (T1.bel b5) (T2.bel b5) (by omega))
  rw [← hK] at HC
  replace HC := Lib.hid HC
  clear hK
  have HX := Lib.hid (And.intro (hg2.below b5 hg2.lt) (And.intro (hj2.below b5 hj2.lt) (And.intro (Z2.below b5 Z2.lt) (rstep B2 b5))))
  clear b5 T1 T2 hg2 hj2 Z2 B2
  go_upto_region 3 with (go_at_call 57; (with_reducible refine HC.out.mono ?_); rintro e w4 ⟨v3, rfl, hT4, hb4⟩; obtain ⟨a3, q3, rfl⟩ := told_shape hT4)
  have hg4 := HX.out.1.below hb4 HX.out.1.lt
  have hj4 := HX.out.2.1.below hb4 HX.out.2.1.lt
  have Z4 := HX.out.2.2.1.below hb4 HX.out.2.2.1.lt
  have B4 := rstep HX.out.2.2.2 hb4
  clear c1 c2 HC HX hb4
  have HRI := Lib.hid (rise_any hT4 (by rw [HLL.out]; omega))
  rw [hs] at HRI
  clear hs
  go_upto_region 4 with (first
    | (go_at_call 71; (with_reducible refine HRI.out.mono ?_); rintro e w5 ⟨rfl, hb5⟩)
    | (go_at_call 34; (with_reducible refine (pass_1 _).mono ?_); rintro e w6 ⟨rfl, rfl⟩))
  have hg5 := hg4.below hb5 hg4.lt
  have hj5 := hj4.below hb5 hj4.lt
  have Z5 := Z4.below hb5 Z4.lt
  have B5 := rstep B4 hb5
  have T5 := hT4.bel hb5
  clear hb5 HRI hg4 hj4 Z4 B4 hT4
  have HM := hm ▸ mayUnite_any r (.slice a r.items.length c)
  have HM2 := hm2 ▸ mayUnite_any q (.slice a' q.items.length c')
  clear hm hm2
  go_upto_region 5 with (first
    | (refine p_loadR rfl _ rfl g rfl r _ hg5 ?_)
    | (go_at_call 72; (with_reducible refine (HM.calls _).mono ?_); rintro e w6 ⟨rfl, hb6⟩; have hj6 := hj5.below hb6 hj5.lt)
    | (go_guarded; refine o_loadR _ rfl j rfl q _ hj6 ?_)
    | (go_at_call 72; (with_reducible refine (HM2.calls _).mono ?_); rintro e w7 ⟨rfl, hb7⟩)
    | (go_at_call 34; (with_reducible refine (pass_13 _).mono ?_); rintro e w8 ⟨rfl, rfl⟩))
  have hb67 := rstep hb6 hb7
  have hj7 := hj5.below hb67 hj5.lt
  have Z7 := Z5.below hb67 Z5.lt
  have B7 := rstep B5 hb67
  have T7 := T5.bel hb67
  clear hb6 hb7 hb67 hj6 hg5 hj5 Z5 B5 T5 HM HM2
  have hd2 : decide (16 < (K.length : Int)) = true := decide_eq_true (by rw [HLL.out]; omega)
  clear hf
  generalize K.length = m at *
  go_wp2_with (go_at_call 34; (with_reducible refine (refuse_12 _).mono ?_); rintro e w8 ⟨he, rfl⟩; rw [pan_eq] at he; subst he)
  exact ⟨rfl, rfl, B7⟩

set_option maxHeartbeats 2000000 in
theorem unionc_ok {r q : Rc} {a a' : Option Addr} {c c' : Nat} {w : World} {g j : Nat} (hg : Blk w g (recC r (.slice a r.items.length c)) 27) (hj : Blk w j (recC q (.slice a' q.items.length c')) 27) (hT : Told w (.slice a r.items.length c) r.items) (hT' : Told w (.slice a' q.items.length c') q.items) (hW : r.Wf) (hW' : q.Wf) (hl : r.items.length ≤ 1000000) (hl' : q.items.length ≤ 1000000) (hr : isR r = true) (hq : isR q = true) (_h40 : r.items.length + q.items.length ≤ 40) (hs : riseB (r.items ++ q.items) = true) (hm : mayB r.kind = true) (hm2 : mayB q.kind = true) (hf : r.items.length + q.items.length ≤ 16) :
    Calls Try.prog 70 #[.pointer (some ⟨g, 0, none⟩), .pointer (some ⟨j, 0, none⟩)] w fun e w' => ∃ u, e = .returned (.agg (recC (leafR (r.items ++ q.items) q.nl q.nb) u)) ∧ Told w' u (r.items ++ q.items) ∧ Below w.heap.size w w' := by
  go_enter Try.func70, Try.ntmps70
  go_upto_region 1 with (fail)
  rw [zero_rec]
  have Z0 := Blk.new w (recC zeroR (.slice none 0 0)) 27
  have B0 := (Below.refl w.heap.size w).alloc (Nat.le_refl _) (.cells (recC zeroR (.slice none 0 0)) 27)
  replace hg := hg.below B0 hg.lt
  replace hj := hj.below B0 hj.lt
  replace hT := hT.bel B0
  replace hT' := hT'.bel B0
  generalize w.alloc _ = W at *
  have HI := Lib.hid (is_any hT hW hl)
  have HJ := Lib.hid (fun w5 (hb : Below W.heap.size W w5) => is_any (hT'.bel hb) hW' hl')
  obtain ⟨K, hK⟩ : ∃ K, K = r.items ++ q.items := ⟨_, rfl⟩
  have HLL : Hid (K.length = r.items.length + q.items.length) := by rw [hK]; exact List.length_append
  have HKK := Lib.hid hK
  rw [← hK] at hs
  rw [hr] at HI
  rw [hq] at HJ
  clear hr hq
  go_upto_region 2 with (first
    | (refine p_loadR rfl _ rfl g rfl r _ hg ?_)
    | (go_at_call 15; (with_reducible refine HI.out.mono ?_); rintro e w1 ⟨rfl, hb1⟩; have hj1 := hj.below hb1 hj.lt)
    | (go_guarded; refine o_loadR _ rfl j rfl q _ hj1 ?_)
    | (go_at_call 15; (with_reducible refine (HJ.out _ hb1).mono ?_); rintro e w2 ⟨rfl, hb2⟩)
    | (go_at_call 34; (with_reducible refine (pass_1 _).mono ?_); rintro e w3 ⟨rfl, rfl⟩))
  have hb12 := rstep hb1 hb2
  have hg2 := hg.below hb12 hg.lt
  have hj2 := hj.below hb12 hj.lt
  have Z2 := Z0.below hb12 Z0.lt
  have B2 := rstep B0 hb12
  have T1 := hT.bel hb12
  have T2 := hT'.bel hb12
  clear hT hT' hW hW' HI HJ hb1 hb2 hb12 hj1 hg hj Z0 B0
  have c1 : w2.cell? ⟨g, 1, none⟩ = some (.slice a r.items.length c) := hg2.cell 1
  have c2 : w2.cell? ⟨j, 1, none⟩ = some (.slice a' q.items.length c') := hj2.cell 1
  have b5 : Below w2.heap.size w2 (w2.alloc (.cells #[.slice a r.items.length c, .slice a' q.items.length c'] 22)) := (Below.refl _ _).alloc (Nat.le_refl _) _
  have HC := (concat2 (Blk.new w2 #[.slice a r.items.length c, .slice a' q.items.length c'] 22) (T1.bel b5) (T2.bel b5) (by omega))
  rw [← hK] at HC
  replace HC := Lib.hid HC
  clear hK
  have HX := Lib.hid (And.intro (hg2.below b5 hg2.lt) (And.intro (hj2.below b5 hj2.lt) (And.intro (Z2.below b5 Z2.lt) (rstep B2 b5))))
  clear b5 T1 T2 hg2 hj2 Z2 B2
  go_upto_region 3 with (go_at_call 57; (with_reducible refine HC.out.mono ?_); rintro e w4 ⟨v3, rfl, hT4, hb4⟩; obtain ⟨a3, q3, rfl⟩ := told_shape hT4)
  have hg4 := HX.out.1.below hb4 HX.out.1.lt
  have hj4 := HX.out.2.1.below hb4 HX.out.2.1.lt
  have Z4 := HX.out.2.2.1.below hb4 HX.out.2.2.1.lt
  have B4 := rstep HX.out.2.2.2 hb4
  clear c1 c2 HC HX hb4
  have HRI := Lib.hid (rise_any hT4 (by rw [HLL.out]; omega))
  rw [hs] at HRI
  clear hs
  go_upto_region 4 with (first
    | (go_at_call 71; (with_reducible refine HRI.out.mono ?_); rintro e w5 ⟨rfl, hb5⟩)
    | (go_at_call 34; (with_reducible refine (pass_1 _).mono ?_); rintro e w6 ⟨rfl, rfl⟩))
  have hg5 := hg4.below hb5 hg4.lt
  have hj5 := hj4.below hb5 hj4.lt
  have Z5 := Z4.below hb5 Z4.lt
  have B5 := rstep B4 hb5
  have T5 := hT4.bel hb5
  clear hb5 HRI hg4 hj4 Z4 B4 hT4
  have HM := hm ▸ mayUnite_any r (.slice a r.items.length c)
  have HM2 := hm2 ▸ mayUnite_any q (.slice a' q.items.length c')
  clear hm hm2
  go_upto_region 5 with (first
    | (refine p_loadR rfl _ rfl g rfl r _ hg5 ?_)
    | (go_at_call 72; (with_reducible refine (HM.calls _).mono ?_); rintro e w6 ⟨rfl, hb6⟩; have hj6 := hj5.below hb6 hj5.lt)
    | (go_guarded; refine o_loadR _ rfl j rfl q _ hj6 ?_)
    | (go_at_call 72; (with_reducible refine (HM2.calls _).mono ?_); rintro e w7 ⟨rfl, hb7⟩)
    | (go_at_call 34; (with_reducible refine (pass_13 _).mono ?_); rintro e w8 ⟨rfl, rfl⟩))
  have hb67 := rstep hb6 hb7
  have hj7 := hj5.below hb67 hj5.lt
  have Z7 := Z5.below hb67 Z5.lt
  have B7 := rstep B5 hb67
  have T7 := T5.bel hb67
  clear hb6 hb7 hb67 hj6 hg5 hj5 Z5 B5 T5 HM HM2
  have hd2 : decide (16 < (K.length : Int)) = false := decide_eq_false (by rw [HLL.out]; omega)
  have HLF := leaf_any a3 K.length q3 q.nl q.nb K
  clear hf
  have HT7 := Lib.hid T7
  clear T7
  generalize K.length = m at *
  go_wp2_with (first
    | (go_at_call 34; (with_reducible refine (pass_12 _).mono ?_); rintro e w8 ⟨rfl, rfl⟩)
    | (refine midL2 rfl _ rfl j rfl q _ hj7 ?_)
    | (go_at_call 67; (with_reducible refine (HLF.calls _).mono ?_); rintro e w9 ⟨rfl, hb9⟩; have Z9 := Z7.below hb9 Z7.lt)
    | (refine p_storeR rfl _ _ rfl w.heap.size rfl (leafR K q.nl q.nb) (.slice a3 m q3) rfl rfl zeroR (.slice none 0 0) Z9 ?_))
  exact bodyPost_ret (results_rec1 Try.results70 _ _ w.heap.size _ _ rfl (Z9.setRow _)) rfl ⟨_, rfl, by rw [← HKK.out]; exact told_setRow (HT7.out.bel hb9) Z9 (noIt_rec _ _) _, bel_setRow (rstep B7 hb9) (Nat.le_refl _) _⟩

theorem unionc_any {r q : Rc} {u v : Value} {w : World} {g j : Nat} (hg : Blk w g (recC r u) 27) (hj : Blk w j (recC q v) 27) (hT : Told w u r.items) (hT' : Told w v q.items) (hW : r.Wf) (hW' : q.Wf) (hl : r.items.length ≤ 40) (hl' : q.items.length ≤ 40) :
    Calls Try.prog 43 #[.func (.func 70) #[] #[.pointer (some ⟨g, 0, none⟩), .pointer (some ⟨j, 0, none⟩)]] w (TellsR w (unionV r q) (unionE r q)) := by
  obtain ⟨a, c, rfl⟩ := told_shape hT
  obtain ⟨a', c', rfl⟩ := told_shape hT'
  have no : ∀ n : Nat, n ≠ 0 → unionE r q = n → (∀ w1, Below w.heap.size w w1 → Calls Try.prog 70 #[.pointer (some ⟨g, 0, none⟩), .pointer (some ⟨j, 0, none⟩)] w1 fun e w' => e = Pan n ∧ Below w1.heap.size w1 w') →
      Calls Try.prog 43 #[.func (.func 70) #[] #[.pointer (some ⟨g, 0, none⟩), .pointer (some ⟨j, 0, none⟩)]] w (TellsR w (unionV r q) (unionE r q)) := by
    intro n h0 hE h
    have hV : unionV r q = zeroR := by unfold unionV; rw [hE, if_neg h0]
    rw [hE, hV]
    refine (guardUnion_no _ n w h).mono ?_
    rintro e w' ⟨he, hK⟩
    exact ⟨_, he, told_nil _, hK⟩
  cases hr : isR r
  · exact no 1 (by decide) (by simp [unionE, hr]) fun w1 hb => unionc_a (hg.below hb hg.lt) (hj.below hb hj.lt) (hT.bel hb) (hT'.bel hb) hW hW' (by omega) (by omega) hr
  cases hq : isR q
  · exact no 1 (by decide) (by simp [unionE, hr, hq]) fun w1 hb => unionc_b (hg.below hb hg.lt) (hj.below hb hj.lt) (hT.bel hb) (hT'.bel hb) hW hW' (by omega) (by omega) hr hq
  have h40 : r.items.length + q.items.length ≤ 40 := by
    have := (isR_iff.1 hr).len
    have := (isR_iff.1 hq).len
    omega
  cases hs : riseB (r.items ++ q.items)
  · exact no 1 (by decide) (by simp [unionE, hr, hq, hs]) fun w1 hb => unionc_rise (hg.below hb hg.lt) (hj.below hb hj.lt) (hT.bel hb) (hT'.bel hb) hW hW' (by omega) (by omega) hr hq h40 hs
  cases hm : mayB r.kind
  · exact no 13 (by decide) (by simp [unionE, hr, hq, hs, hm]) fun w1 hb => unionc_ma (hg.below hb hg.lt) (hj.below hb hj.lt) (hT.bel hb) (hT'.bel hb) hW hW' (by omega) (by omega) hr hq h40 hs hm
  cases hm2 : mayB q.kind
  · exact no 13 (by decide) (by simp [unionE, hr, hq, hs, hm, hm2]) fun w1 hb => unionc_mb (hg.below hb hg.lt) (hj.below hb hj.lt) (hT.bel hb) (hT'.bel hb) hW hW' (by omega) (by omega) hr hq h40 hs hm hm2
  by_cases hf : 16 < r.items.length + q.items.length
  · exact no 12 (by decide) (by simp [unionE, hr, hq, hs, hm, hm2, hf]) fun w1 hb => unionc_full (hg.below hb hg.lt) (hj.below hb hj.lt) (hT.bel hb) (hT'.bel hb) hW hW' (by omega) (by omega) hr hq h40 hs hm hm2 hf
  · have hE : unionE r q = 0 := by simp [unionE, hr, hq, hs, hm, hm2, hf]
    have hV : unionV r q = leafR (r.items ++ q.items) q.nl q.nb := by unfold unionV; rw [hE, if_pos rfl]
    rw [hE, hV]
    exact guardUnion_ok _ _ w fun w1 hb => unionc_ok (hg.below hb hg.lt) (hj.below hb hj.lt) (hT.bel hb) (hT'.bel hb) hW hW' (by omega) (by omega) hr hq h40 hs hm hm2 (by omega)
set_option maxHeartbeats 1000000 in
theorem union_any {r q : Rc} {u v : Value} {w : World} (hT : Told w u r.items) (hT' : Told w v q.items) (hW : r.Wf) (hW' : q.Wf) (hl : r.items.length ≤ 40) (hl' : q.items.length ≤ 40) :
    Calls Try.prog 27 #[.agg (recC r u), .agg (recC q v)] w (TellsR w (unionV r q) (unionE r q)) := by
  have hmf : ∀ (fn : Fn) (first cap : Array Value) (w : World), (Instr.makeFunc fn first cap).run Try.prog w = .ok (.func fn first cap) w := fun _ _ _ _ => rfl
  obtain ⟨w1, h1⟩ : ∃ w1, w1 = w.alloc (.cells (recC r u) 27) := ⟨_, rfl⟩
  obtain ⟨w2, h2⟩ : ∃ w2, w2 = w1.alloc (.cells (recC q v) 27) := ⟨_, rfl⟩
  obtain ⟨w4, h4⟩ : ∃ w4, w4 = w2.alloc (.cells (recC zeroR (.slice none 0 0)) 27) := ⟨_, rfl⟩
  have s1 : w1.heap.size = w.heap.size + 1 := by rw [h1]; simp
  have s2 : w2.heap.size = w.heap.size + 2 := by rw [h2]; simp [s1]
  have b1 : Below w.heap.size w w1 := h1 ▸ (Below.refl _ _).alloc (Nat.le_refl _) _
  have b2 : Below w.heap.size w w2 := h2 ▸ b1.alloc b1.size _
  have b4 : Below w.heap.size w w4 := h4 ▸ b2.alloc b2.size _
  have hg : Blk w4 w.heap.size (recC r u) 27 := by
    rw [h4, h2]; exact ((h1 ▸ Blk.new w _ _ : Blk w1 w.heap.size (recC r u) 27).alloc _).alloc _
  have hk : Blk w4 (w.heap.size + 1) (recC q v) 27 := by
    rw [h4]; exact ((s1 ▸ (h2 ▸ Blk.new w1 _ _ : Blk w2 w1.heap.size (recC q v) 27) : Blk w2 (w.heap.size + 1) (recC q v) 27).alloc _)
  have hz : Blk w4 (w.heap.size + 2) (recC zeroR (.slice none 0 0)) 27 := s2 ▸ (h4 ▸ Blk.new w2 _ _ : Blk w4 w2.heap.size (recC zeroR (.slice none 0 0)) 27)
  have hW4 : ((w.alloc (.cells #[.int .i64 r.kind, u, .int .i64 r.nl, .int .u64 (r.nb : Int), .int .u64 (r.mark : Int)] 27)).alloc (.cells #[.int .i64 q.kind, v, .int .i64 q.nl, .int .u64 (q.nb : Int), .int .u64 (q.mark : Int)] 27)).alloc (.cells (recC zeroR (.slice none 0 0)) 27) = w4 := by rw [h4, h2, h1]; rfl
  have HG := Lib.hid (unionc_any hg hk (hT.bel b4) (hT'.bel b4) hW hW' hl hl')
  have HZ := Lib.hid hz
  have HB := Lib.hid b4
  clear hT hT' hW hW' hl hl' h1 h2 h4 s1 s2 b1 b2 b4 hg hk hz
  generalize unionV r q = V at *
  generalize unionE r q = E at *
  go_enter Try.func27, Try.ntmps27
  simp only [recC]
  go_upto_region 1 with (fail)
  rw [zero_rec, hW4]
  clear hW4
  go_wp2_with (first
    | (go_at_call 43; (with_reducible refine HG.out.mono ?_); rintro e w5 ⟨u2, rfl, hT5, hb5⟩; have Z5 := HZ.out.below hb5 HZ.out.lt; have hone := told_one hT5)
    | (refine p_storeR rfl _ _ rfl (w.heap.size + 2) rfl V u2 rfl hone zeroR (.slice none 0 0) Z5 ?_))
  exact bodyPost_ret (results_rec2 Try.results27 _ _ (w.heap.size + 2) V u2 _ rfl rfl (Z5.setRow _)) rfl ⟨u2, rfl, told_setRow hT5 Z5 (noIt_rec _ _) _, bel_setRow (HB.out.trans (hb5.mono HB.out.size)) (by omega) _⟩
end Go.Proofs.Ytkicndengkcojaa
