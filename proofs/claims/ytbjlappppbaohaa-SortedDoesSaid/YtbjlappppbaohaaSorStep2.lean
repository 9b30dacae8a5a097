/- One of a script, answered by both maps: ranges and ends. -/
import Derived.Test.YtbjlappppbaohaaSorStep
namespace Go.Proofs.Ytbjlappppbaohaa
open Go Go.RowKit Go.Sort
section
variable {B : Nat} {w0 : World} {g h : Nat} {L : List It}

theorem p_loadA {ops : Array Oper} {rest : List Oper} {o : Oper} {a : Act} {w : World} {Q : Exit → Act → World → Prop} (hgd : o.guard = none) (x : Operand) (ho : o.op = .load 46 x)
    (g : Nat) (hx : a.eval x = .pointer (some ⟨g, 0, none⟩)) (k : Nat) (s : ByteArray) (hg : Blk w g (itC k s) 46)
    (h : wpList Try.prog ops Q rest (a.put o.dst (.agg (itC k s))) w) : wpList Try.prog ops Q (o :: rest) a w :=
  wpList_load_row hgd 46 x ho g hx 46 _ (0, 0) _ hg Try.underlying46 rfl sizeA h
theorem nil_same (w : World) : Calls Try.prog 19 #[.slice none 0 0, .slice none 0 0] w fun e w' => e = .returned (.bool true) ∧ Below w.heap.size w w' := by
  have := src_same (w := w) (u := .slice none 0 0) (v := .slice none 0 0) (n := 0) (m := 0) (L := []) (K := []) ⟨rfl, .inl ⟨rfl, rfl⟩⟩ ⟨rfl, .inl ⟨rfl, rfl⟩⟩ (by omega)
  rwa [decide_eq_true rfl] at this

set_option maxRecDepth 100000 in
set_option maxHeartbeats 4000000 in
theorem step_range (w : World) (t : Two B w0 w g h L L) (key : Nat) (val : ByteArray) (hi : Nat) (most : Int) (hms : most ≤ 9223372036854775807) :
    Calls Try.prog 10 #[.pointer (some ⟨g, 0, none⟩), .pointer (some ⟨h, 0, none⟩), .agg #[.int .i64 3, .int .u64 (key : Int), .string val, .int .u64 (hi : Int), .int .i64 most]] w (StepP B w0 g h L.length) := by
  have t1 := t.box ⟨3, key, val, hi, most⟩
  clear t
  go_enter Try.func10, Try.ntmps10
  go_upto_region 1 with (fail)
  have T1 : Hid (TwoB B w0 (w.alloc (.cells #[.int .i64 3, .int .u64 (key : Int), .string val, .int .u64 (hi : Int), .int .i64 most] 33)) g h L L w.heap.size ⟨3, key, val, hi, most⟩) := t1
  clear t1
  generalize w.alloc _ = W at *
  generalize w.heap.size = q at *
  obtain ⟨c0, c1, _, c3, c4⟩ := T1.out.cells
  by_cases hlh : hi < key
  · have HP := Lib.hid (range_back g key hi most hlh)
    have HQ := Lib.hid (refrange_back h key hi most hlh)
    go_wp2_with (first
      | (go_at_call 16; (with_reducible refine (HP.out _).mono ?_); rintro e w2 ⟨rfl, rfl⟩)
      | (go_at_call 26; (with_reducible refine (HQ.out _).mono ?_); rintro e w2 ⟨rfl, rfl⟩)
      | (go_at_call 19; (with_reducible refine (nil_same _).mono ?_); rintro e w3 ⟨rfl, b3⟩))
    go_ret
    exact StepP.mk (T1.out.bel b3).two (by omega)
  rcases Int.lt_or_le most 0 with hm | hm
  · have HP := Lib.hid (range_neg g key hi most hlh hm)
    have HQ := Lib.hid (refrange_neg h key hi most hlh hm)
    go_wp2_with (first
      | (go_at_call 16; (with_reducible refine (HP.out _).mono ?_); rintro e w2 ⟨rfl, rfl⟩)
      | (go_at_call 26; (with_reducible refine (HQ.out _).mono ?_); rintro e w2 ⟨rfl, rfl⟩)
      | (go_at_call 19; (with_reducible refine (nil_same _).mono ?_); rintro e w3 ⟨rfl, b3⟩))
    go_ret
    exact StepP.mk (T1.out.bel b3).two (by omega)
  · obtain ⟨m, rfl⟩ := Int.eq_ofNat_of_zero_le hm
    have HP := Lib.hid (t_range T1.out key hi m hlh)
    go_upto_region 16 with (go_at_call 16; (with_reducible refine HP.out.mono ?_); rintro e w2 ⟨a1, n1, d1, rfl, s2, hn1, b2⟩; have T2 := Lib.hid (T1.out.bel b2); have S2 := Lib.hid s2; clear b2 s2)
    obtain ⟨c0, c1, _, c3, c4⟩ := T2.out.cells
    have HQ := Lib.hid (t_rrange T2.out key hi m hlh (by omega))
    go_upto_region 17 with (go_at_call 26; (with_reducible refine HQ.out.mono ?_); rintro e w3 ⟨a2, n2, d2, rfl, s3, _, b3⟩; have T3 := Lib.hid (T2.out.bel b3); have S3 := Lib.hid s3; have S2' := Lib.hid (S2.out.bel b3); clear b3 s3)
    have HS : Hid (Calls Try.prog 19 #[.slice a1 n1 d1, .slice a2 n2 d2] w3 fun e w' => e = .returned (.bool true) ∧ Below w3.heap.size w3 w') := by
      have := src_same S2'.out S3.out hn1
      rwa [decide_eq_true rfl] at this
    clear HP HQ c0 c1 c3 c4
    go_wp2_with (go_at_call 19; (with_reducible refine HS.out.mono ?_); rintro e w4 ⟨rfl, b4⟩)
    go_ret
    exact StepP.mk (T3.out.bel b4).two (by omega)

set_option maxRecDepth 100000 in
set_option maxHeartbeats 4000000 in
theorem step_ends (w : World) (t : Two B w0 w g h L L) (kind : Int) (key : Nat) (val : ByteArray) (hi : Nat) (most : Int) (h0 : kind ≠ 0) (h1 : kind ≠ 1) (h2 : kind ≠ 2) (h3 : kind ≠ 3) :
    Calls Try.prog 10 #[.pointer (some ⟨g, 0, none⟩), .pointer (some ⟨h, 0, none⟩), .agg #[.int .i64 kind, .int .u64 (key : Int), .string val, .int .u64 (hi : Int), .int .i64 most]] w (StepP B w0 g h L.length) := by
  have t1 := t.box ⟨kind, key, val, hi, most⟩
  clear t
  go_enter Try.func10, Try.ntmps10
  go_upto_region 1 with (fail)
  have T1 : Hid (TwoB B w0 (w.alloc (.cells #[.int .i64 kind, .int .u64 (key : Int), .string val, .int .u64 (hi : Int), .int .i64 most] 33)) g h L L w.heap.size ⟨kind, key, val, hi, most⟩) := t1
  clear t1
  generalize w.alloc _ = W at *
  generalize w.heap.size = q at *
  obtain ⟨c0, _, _, _, _⟩ := T1.out.cells
  have z0 : (kind == 0) = false := by simpa using h0
  have z1 : (kind == 1) = false := by simpa using h1
  have z2 : (kind == 2) = false := by simpa using h2
  have z3 : (kind == 3) = false := by simpa using h3
  have HA := Lib.hid (t_min T1.out)
  go_upto_region 19 with (first
    | (go_at_call 20; (with_reducible refine HA.out.mono ?_); rintro e w2 ⟨rfl, b2⟩)
    | (refine p_storeA rfl _ _ rfl w2.heap.size rfl (minL L).1 (minL L).2 rfl #[.int .u64 0, .string ⟨#[]⟩] rfl (Blk.new _ _ _) ?_))
  have m2 := made w2 (minL L).1 (minL L).2 #[.int .u64 0, .string ⟨#[]⟩]
  have T2 := Lib.hid ((T1.out.bel b2).bel m2.bel)
  have A2 := m2.blk
  clear m2 b2 HA c0
  generalize World.setRow _ _ _ = V2 at *
  generalize w2.heap.size = g2 at *
  have HB := Lib.hid (t_rmin T2.out)
  go_upto_region 20 with (first
    | (go_at_call 27; (with_reducible refine HB.out.mono ?_); rintro e w3 ⟨rfl, b3⟩)
    | (refine p_storeA rfl _ _ rfl w3.heap.size rfl (minL L).1 (minL L).2 rfl #[.int .u64 0, .string ⟨#[]⟩] rfl (Blk.new _ _ _) ?_))
  have m3 := made w3 (minL L).1 (minL L).2 #[.int .u64 0, .string ⟨#[]⟩]
  have T3 := Lib.hid ((T2.out.bel b3).bel m3.bel)
  replace A2 := (A2.below b3 A2.lt)
  replace A2 := (A2.below m3.bel A2.lt)
  have A3 := m3.blk
  clear m3 b3 HB
  generalize World.setRow _ _ _ = V3 at *
  generalize w3.heap.size = g3 at *
  have HC := Lib.hid (t_max T3.out)
  go_upto_region 21 with (first
    | (go_at_call 21; (with_reducible refine HC.out.mono ?_); rintro e w4 ⟨rfl, b4⟩)
    | (refine p_storeA rfl _ _ rfl w4.heap.size rfl (maxL L).1 (maxL L).2 rfl #[.int .u64 0, .string ⟨#[]⟩] rfl (Blk.new _ _ _) ?_))
  have m4 := made w4 (maxL L).1 (maxL L).2 #[.int .u64 0, .string ⟨#[]⟩]
  have T4 := Lib.hid ((T3.out.bel b4).bel m4.bel)
  replace A2 := (A2.below b4 A2.lt)
  replace A2 := (A2.below m4.bel A2.lt)
  replace A3 := (A3.below b4 A3.lt)
  replace A3 := (A3.below m4.bel A3.lt)
  have A4 := m4.blk
  clear m4 b4 HC
  generalize World.setRow _ _ _ = V4 at *
  generalize w4.heap.size = g4 at *
  have HD := Lib.hid (t_rmax T4.out)
  go_upto_region 22 with (first
    | (go_at_call 28; (with_reducible refine HD.out.mono ?_); rintro e w5 ⟨rfl, b5⟩)
    | (refine p_storeA rfl _ _ rfl w5.heap.size rfl (maxL L).1 (maxL L).2 rfl #[.int .u64 0, .string ⟨#[]⟩] rfl (Blk.new _ _ _) ?_))
  have m5 := made w5 (maxL L).1 (maxL L).2 #[.int .u64 0, .string ⟨#[]⟩]
  have T5 := Lib.hid ((T4.out.bel b5).bel m5.bel)
  replace A2 := (A2.below b5 A2.lt)
  replace A2 := (A2.below m5.bel A2.lt)
  replace A3 := (A3.below b5 A3.lt)
  replace A3 := (A3.below m5.bel A3.lt)
  replace A4 := (A4.below b5 A4.lt)
  replace A4 := (A4.below m5.bel A4.lt)
  have A5 := m5.blk
  clear m5 b5 HD
  generalize World.setRow _ _ _ = V5 at *
  generalize w5.heap.size = g5 at *
  have he := eqI_self (minL L)
  have he2 := eqI_self (maxL L)
  generalize minL L = x at *
  generalize maxL L = y at *
  generalize decide (0 < L.length) = d at *
  have zd : (d == d) = true := by simp
  go_wp2_with (first
    | (go_guarded; refine o_loadA _ rfl _ rfl y.1 y.2 (by first | with_reducible exact A4 | with_reducible exact A5) ?_; simp only [Act.put, List.setIfInBounds_toArray, List.set_cons_succ, List.set_cons_zero])
    | (go_guarded; refine o_eqlI _ _ rfl y y rfl rfl he2 ?_; simp only [Act.put, List.setIfInBounds_toArray, List.set_cons_succ, List.set_cons_zero])
    | (refine p_loadA rfl _ rfl _ rfl x.1 x.2 (by first | with_reducible exact A2 | with_reducible exact A3) ?_)
    | (refine p_eqlI rfl _ _ rfl x x rfl rfl he ?_))
  go_ret
  exact StepP.mk T5.out.two (by omega)
end
/-- each step -/
theorem step_any {B : Nat} {w0 : World} {g h : Nat} {L : List It} (w : World) (t : Two B w0 w g h L L) (hl : L.length + 1 ≤ 1000000) (s : Stp) (hs : s.wf) :
    Calls Try.prog 10 #[.pointer (some ⟨g, 0, none⟩), .pointer (some ⟨h, 0, none⟩), .agg (stpC s)] w (StepP B w0 g h L.length) := by
  obtain ⟨kind, key, val, hi, most⟩ := s
  obtain ⟨h1, h2, h3, h4⟩ := hs
  by_cases k0 : kind = 0
  · subst k0; exact step_put w t hl key val hi most h1
  by_cases k1 : kind = 1
  · subst k1; exact step_drop w t key val hi most
  by_cases k2 : kind = 2
  · subst k2; exact step_get w t key val hi most
  by_cases k3 : kind = 3
  · subst k3; exact step_range w t key val hi most h4
  exact step_ends w t kind key val hi most k0 k1 k2 k3
end Go.Proofs.Ytbjlappppbaohaa
