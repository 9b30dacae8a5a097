/- RecordParts: for every two records and label the call returns true: halved, and joined, records are just these, or refused; they stay. No condition. -/
import Derived.Test.YtkicndengkcojaaRecHalv4
import Derived.Test.YtkicndengkcojaaRecRefHalv3
import Derived.Test.YtkicndengkcojaaRecOpen
import Derived.Test.YtkicndengkcojaaRecRec
namespace Go.Proofs.Ytkicndengkcojaa.RecPartsLaw
set_option maxRecDepth 100000
open Go Go.ChangeShapes Go.WideShapes Go.ChangeAt Go.RowKit Go.Sort
open Go.ChangeMaps (open_string shut_string)

theorem cov_len (L : List It) (n : Int) (b : Nat) : (covL L n b).length ≤ L.length := those_le _ _
theorem halvesA_len {r : Rc} (hl : r.items.length ≤ 40) (n : Int) (b : Nat) : (halvesA r n b).items.length ≤ 1000000 := by
  unfold halvesA
  split
  · show (covL r.items _ _).length ≤ 1000000
    have := cov_len r.items (n.toNat + 1 : Nat) (chB n.toNat b 0)
    omega
  · show ([] : List It).length ≤ 1000000
    decide
theorem halvesB_len {r : Rc} (hl : r.items.length ≤ 40) (n : Int) (b : Nat) : (halvesB r n b).items.length ≤ 1000000 := by
  unfold halvesB
  split
  · show (covL r.items _ _).length ≤ 1000000
    have := cov_len r.items (n.toNat + 1 : Nat) (chB n.toNat b 1)
    omega
  · show ([] : List It).length ≤ 1000000
    decide
theorem unionV_len {r q : Rc} (hl : r.items.length ≤ 40) (hl2 : q.items.length ≤ 40) : (unionV r q).items.length ≤ 1000000 := by
  unfold unionV
  split
  · show (r.items ++ q.items).length ≤ 1000000
    rw [List.length_append]
    omega
  · show ([] : List It).length ≤ 1000000
    decide
theorem two_blk (w : World) (VA : Rc) (u : Value) : Blk (((w.alloc (.cells (recC zeroR (.slice none 0 0)) 27)).alloc (.cells (recC zeroR (.slice none 0 0)) 27)).setRow w.heap.size (recC VA u)) (w.heap.size + 1) (recC zeroR (.slice none 0 0)) 27 := by
  have h := Blk.new (w.alloc (.cells (recC zeroR (.slice none 0 0)) 27)) (recC zeroR (.slice none 0 0)) 27
  rw [World.size_alloc] at h
  exact h.setRow_other _ _ (by omega)
/-- two records handed back and laid into blocks of their own -/
theorem recs_new {w : World} {r q : Rc} {u v : Value} (T : Told w u r.items) (S : Told w v q.items) :
    Blk ((((w.alloc (.cells (recC zeroR (.slice none 0 0)) 27)).alloc (.cells (recC zeroR (.slice none 0 0)) 27)).setRow w.heap.size (recC r u)).setRow (w.heap.size + 1) (recC q v)) w.heap.size (recC r u) 27 ∧
    Blk ((((w.alloc (.cells (recC zeroR (.slice none 0 0)) 27)).alloc (.cells (recC zeroR (.slice none 0 0)) 27)).setRow w.heap.size (recC r u)).setRow (w.heap.size + 1) (recC q v)) (w.heap.size + 1) (recC q v) 27 ∧
    Told ((((w.alloc (.cells (recC zeroR (.slice none 0 0)) 27)).alloc (.cells (recC zeroR (.slice none 0 0)) 27)).setRow w.heap.size (recC r u)).setRow (w.heap.size + 1) (recC q v)) u r.items ∧
    Told ((((w.alloc (.cells (recC zeroR (.slice none 0 0)) 27)).alloc (.cells (recC zeroR (.slice none 0 0)) 27)).setRow w.heap.size (recC r u)).setRow (w.heap.size + 1) (recC q v)) v q.items ∧
    Below w.heap.size w ((((w.alloc (.cells (recC zeroR (.slice none 0 0)) 27)).alloc (.cells (recC zeroR (.slice none 0 0)) 27)).setRow w.heap.size (recC r u)).setRow (w.heap.size + 1) (recC q v)) := by
  have Z := (Blk.new w (recC zeroR (.slice none 0 0)) 27).alloc (.cells (recC zeroR (.slice none 0 0)) 27)
  have B := bel_setRow (bel_setRow (((Below.refl w.heap.size w).alloc (Nat.le_refl _) (.cells (recC zeroR (.slice none 0 0)) 27)).alloc (by simp) (.cells (recC zeroR (.slice none 0 0)) 27)) (Nat.le_refl _) (recC r u)) (show w.heap.size ≤ w.heap.size + 1 by omega) (recC q v)
  exact ⟨(Z.setRow _).setRow_other _ _ (by omega), (two_blk w r u).setRow _, T.bel B, S.bel B, B⟩
/-- the arguments, in blocks of their own -/
theorem boxes (r q : Rc) (u v : Value) (n : Int) (b : Nat) (w : World) : ∃ V, V = ((w.alloc (.cells (recC r u) 27)).alloc (.cells (recC q v) 27)).alloc (.cells (labc n b) 25) ∧
    Blk V w.heap.size (recC r u) 27 ∧ Blk V (w.heap.size + 1) (recC q v) 27 ∧ Blk V (w.heap.size + 2) (labc n b) 25 ∧ Below w.heap.size w V := by
  refine ⟨_, rfl, ((Blk.new _ _ _).alloc _).alloc _, ?_, ?_, (((Below.refl w.heap.size w).alloc (Nat.le_refl _) _).alloc (by simp) _).alloc (by simp; omega) _⟩
  · have h := (Blk.new (w.alloc (.cells (recC r u) 27)) (recC q v) 27).alloc (.cells (labc n b) 25)
    rwa [World.size_alloc] at h
  · have h := Blk.new ((w.alloc (.cells (recC r u) 27)).alloc (.cells (recC q v) 27)) (labc n b) 25
    rwa [World.size_alloc, World.size_alloc] at h

/-- nothing is asked -/
theorem let_go {r q : Rc} {u v : Value} {w : World} (n : Int) (b : Nat) (hT : Told w u r.items) (hT' : Told w v q.items) (h : bigB r = true ∨ (bigB r = false ∧ bigB q = true)) :
    Calls Try.prog 5 #[.agg (recC r u), .agg (recC q v), .agg (labc n b)] w fun e w' => e = .returned (.bool true) ∧ Below w.heap.size w w' := by
  obtain ⟨V, hV, A0, Q0, L0, B0⟩ := boxes r q u v n b w
  have HB := big_any (hT.bel B0)
  have S0 := hT'.bel B0
  rcases h with h | ⟨h, h'⟩
  all_goals
    rw [h] at HB
    clear h
    go_enter Try.func5, Try.ntmps5
    go_upto_region 1 with (fail)
    first
      | rw [← hV]
      | (simp only [recC] at hV; simp only [recC]; rw [← hV])
    clear hV L0
  · go_upto_region 2 with (first
      | (go_guarded; with_reducible (show wpList _ _ _ _ _ _))
      | (refine p_loadR rfl _ rfl w.heap.size rfl r u A0 ?_)
      | (go_at_call 9; (with_reducible refine HB.mono ?_); rintro e w1 ⟨rfl, hb1⟩))
    go_wp2
    go_ret
    exact ⟨rfl, rstep B0 hb1⟩
  · have HB2 : ∀ W, Told W v q.items → Calls Try.prog 9 #[.agg (recC q v)] W fun e w' => e = .returned (.bool true) ∧ Below W.heap.size W w' := fun W hT => by
      have h := big_any hT
      rw [h'] at h
      exact h
    clear h'
    go_upto_region 2 with (first
      | (go_guarded; with_reducible (show wpList _ _ _ _ _ _))
      | (refine p_loadR rfl _ rfl w.heap.size rfl r u A0 ?_)
      | (go_at_call 9; (with_reducible refine HB.mono ?_); rintro e w1 ⟨rfl, hb1⟩; have Q1 := Q0.below hb1 Q0.lt; have S1 := S0.bel hb1)
      | (go_guarded; refine o_loadR _ rfl (w.heap.size + 1) rfl q v Q1 ?_)
      | (go_at_call 9; (with_reducible refine (HB2 _ S1).mono ?_); rintro e w2 ⟨rfl, hb2⟩))
    go_wp2
    go_ret
    exact ⟨rfl, rstep B0 (rstep hb1 hb2)⟩

set_option maxHeartbeats 4000000 in
theorem core {r q : Rc} {u v : Value} {w : World} (n : Int) (b : Nat) (hn : -9223372036854775808 ≤ n ∧ n ≤ 9223372036854775807) (hb8 : b < 18446744073709551616) (hT : Told w u r.items) (hT' : Told w v q.items) (hW : r.Wf) (hW' : q.Wf) (hb : bigB r = false) (hb' : bigB q = false) :
    Calls Try.prog 5 #[.agg (recC r u), .agg (recC q v), .agg (labc n b)] w fun e w' => e = .returned (.bool true) ∧ Below w.heap.size w w' := by
  obtain ⟨V, hV, A0, Q0, L0, B0⟩ := boxes r q u v n b w
  have T0 := hT.bel B0
  have S0 := hT'.bel B0
  have hl4 := big_no hb
  have hl5 := big_no hb'
  have hl : r.items.length ≤ 1000000 := by omega
  have HB := big_any T0
  rw [hb] at HB
  have HB2 : ∀ W, Told W v q.items → Calls Try.prog 9 #[.agg (recC q v)] W fun e w' => e = .returned (.bool false) ∧ Below W.heap.size W w' := fun W hT => by
    have h := big_any hT
    rw [hb'] at h
    exact h
  have HO : ∀ W, Told W u r.items → Calls Try.prog 18 #[.agg (recC r u)] W fun e w' => ∃ v, e = .returned (.agg (recC r v)) ∧ Told w' v r.items ∧ Below W.heap.size W w' := fun W hT => own_rec hT hl
  have HP : ∀ W, Told W u r.items → Calls Try.prog 25 #[.agg (recC r u), .agg (labc n b)] W (TellsH W (halvesA r n b) (halvesB r n b) (halvesE r n b)) := fun W hT => halves_any hT hW hl hn hb8
  have HQ : ∀ W z, Told W z r.items → Calls Try.prog 26 #[.agg (recC r z), .agg (labc n b)] W (TellsH W (halvesA r n b) (halvesB r n b) (halvesE r n b)) := fun W z hT => refhalves_any hT hW hl hb8
  have HU : ∀ W, Told W u r.items → Told W v q.items → Calls Try.prog 27 #[.agg (recC r u), .agg (recC q v)] W (TellsR W (unionV r q) (unionE r q)) := fun W hT hT' => union_any hT hT' hW hW' hl4 hl5
  have HX : ∀ W z, Told W z r.items → Told W v q.items → Calls Try.prog 28 #[.agg (recC r z), .agg (recC q v)] W (TellsR W (unionV r q) (unionE r q)) := fun W z hT hT' => refunion_any hT hT' hW hW' hl4 hl5
  have HAl := halvesA_len hl4 n b
  have HBl := halvesB_len hl4 n b
  have HUl := unionV_len hl4 hl5
  generalize halvesA r n b = VA at *
  generalize halvesB r n b = VB at *
  generalize halvesE r n b = E at *
  generalize unionV r q = VU at *
  generalize unionE r q = G at *
  have HR : Gives Try.prog 14 #[] (.bool true) := recorded_any
  clear hT hT' hb hb' hW hW' hl4 hl5 hn hb8
  go_enter Try.func5, Try.ntmps5
  go_upto_region 1 with (fail)
  first
    | rw [← hV]
    | (simp only [recC] at hV; simp only [recC]; rw [← hV])
  clear hV
  go_upto_region 3 with (first
    | (go_guarded; with_reducible (show wpList _ _ _ _ _ _))
    | (refine p_loadR rfl _ rfl w.heap.size rfl r u A0 ?_)
    | (go_at_call 9; (with_reducible refine HB.mono ?_); rintro e w1 ⟨rfl, hb1⟩; have Q1 := Q0.below hb1 Q0.lt; have S1 := S0.bel hb1)
    | (go_guarded; refine o_loadR _ rfl (w.heap.size + 1) rfl q v Q1 ?_)
    | (go_at_call 9; (with_reducible refine (HB2 _ S1).mono ?_); rintro e w2 ⟨rfl, hb2⟩))
  replace hb1 := rstep hb1 hb2
  clear hb2 Q1 S1
  replace A0 := A0.below hb1 A0.lt
  replace Q0 := Q0.below hb1 Q0.lt
  replace L0 := L0.below hb1 L0.lt
  replace T0 := T0.bel hb1
  replace S0 := S0.bel hb1
  replace B0 := rstep B0 hb1
  clear hb1 HB HB2
  go_upto_region 4 with (first
    | (refine p_loadR rfl _ rfl w.heap.size rfl r u A0 ?_)
    | (go_at_call 18; (with_reducible refine (HO _ T0).mono ?_); rintro e w7 ⟨u7, rfl, t7, hb1⟩)
    | (refine p_storeR rfl _ _ rfl w7.heap.size rfl r u7 rfl (told_one t7) zeroR (.slice none 0 0) (Blk.new _ _ _) ?_))
  obtain ⟨A7, T7, b7⟩ := rec_new t7
  replace b7 := rstep hb1 b7
  replace A0 := A0.below b7 A0.lt
  replace Q0 := Q0.below b7 Q0.lt
  replace L0 := L0.below b7 L0.lt
  replace T0 := T0.bel b7
  replace S0 := S0.bel b7
  replace B0 := rstep B0 b7
  clear hb1 t7 b7 HO
  generalize w7.heap.size = g7 at *
  generalize (w7.alloc _).setRow _ _ = W7 at *
  go_upto_region 5 with (first
    | (refine p_loadR rfl _ rfl w.heap.size rfl r u A0 ?_)
    | (refine p_loadL rfl _ rfl (w.heap.size + 2) rfl n b L0 ?_)
    | (go_at_call 25; (with_reducible refine (HP _ T0).mono ?_); rintro e w8 ⟨u8, u9, rfl, t8, t9, hb1⟩; have o8 := told_one t8; have o9 := told_one t9)
    | (refine p_storeR rfl _ _ rfl w8.heap.size rfl VA u8 rfl o8 zeroR (.slice none 0 0) ((Blk.new _ _ _).alloc _) ?_)
    | (refine p_storeR rfl _ _ rfl (w8.heap.size + 1) rfl VB u9 rfl o9 zeroR (.slice none 0 0) (two_blk w8 VA u8) ?_))
  obtain ⟨A8, A9, T8, T9, b8⟩ := recs_new t8 t9
  replace b8 := rstep hb1 b8
  replace A0 := A0.below b8 A0.lt
  replace Q0 := Q0.below b8 Q0.lt
  replace L0 := L0.below b8 L0.lt
  replace A7 := A7.below b8 A7.lt
  replace T0 := T0.bel b8
  replace S0 := S0.bel b8
  replace T7 := T7.bel b8
  replace B0 := rstep B0 b8
  try rw [zero_rec]
  have e8 : w8.heap.size + 1 = w8.heap.size + 1 := rfl
  clear hb1 t8 t9 b8 o8 o9 e8 HP
  generalize w8.heap.size = g8 at *
  generalize (((w8.alloc _).alloc _).setRow _ _).setRow _ _ = W8 at *
  go_upto_region 6 with (first
    | (refine p_loadR rfl _ rfl g7 rfl r u7 A7 ?_)
    | (refine p_loadL rfl _ rfl (w.heap.size + 2) rfl n b L0 ?_)
    | (go_at_call 26; (with_reducible refine (HQ _ _ T7).mono ?_); rintro e w11 ⟨u11, u12, rfl, t11, t12, hb1⟩; have o11 := told_one t11; have o12 := told_one t12)
    | (refine p_storeR rfl _ _ rfl w11.heap.size rfl VA u11 rfl o11 zeroR (.slice none 0 0) ((Blk.new _ _ _).alloc _) ?_)
    | (refine p_storeR rfl _ _ rfl (w11.heap.size + 1) rfl VB u12 rfl o12 zeroR (.slice none 0 0) (two_blk w11 VA u11) ?_))
  obtain ⟨A11, A12, T11, T12, b11⟩ := recs_new t11 t12
  replace b11 := rstep hb1 b11
  replace A0 := A0.below b11 A0.lt
  replace Q0 := Q0.below b11 Q0.lt
  replace L0 := L0.below b11 L0.lt
  replace A7 := A7.below b11 A7.lt
  replace A8 := A8.below b11 A8.lt
  replace A9 := A9.below b11 A9.lt
  replace T0 := T0.bel b11
  replace S0 := S0.bel b11
  replace T7 := T7.bel b11
  replace T8 := T8.bel b11
  replace T9 := T9.bel b11
  replace B0 := rstep B0 b11
  try rw [zero_rec]
  have e11 : w11.heap.size + 1 = w11.heap.size + 1 := rfl
  clear hb1 t11 t12 b11 o11 o12 e11 HQ
  generalize w11.heap.size = g11 at *
  generalize (((w11.alloc _).alloc _).setRow _ _).setRow _ _ = W11 at *
  go_upto_region 7 with (first
    | (refine p_loadR rfl _ rfl w.heap.size rfl r u A0 ?_)
    | (refine p_loadR rfl _ rfl (w.heap.size + 1) rfl q v Q0 ?_)
    | (go_at_call 27; (with_reducible refine (HU _ T0 S0).mono ?_); rintro e w14 ⟨u14, rfl, t14, hb1⟩)
    | (refine p_storeR rfl _ _ rfl w14.heap.size rfl VU u14 rfl (told_one t14) zeroR (.slice none 0 0) (Blk.new _ _ _) ?_))
  obtain ⟨A14, T14, b14⟩ := rec_new t14
  replace b14 := rstep hb1 b14
  replace A0 := A0.below b14 A0.lt
  replace Q0 := Q0.below b14 Q0.lt
  replace L0 := L0.below b14 L0.lt
  replace A7 := A7.below b14 A7.lt
  replace A8 := A8.below b14 A8.lt
  replace A9 := A9.below b14 A9.lt
  replace A11 := A11.below b14 A11.lt
  replace A12 := A12.below b14 A12.lt
  replace T0 := T0.bel b14
  replace S0 := S0.bel b14
  replace T7 := T7.bel b14
  replace T8 := T8.bel b14
  replace T9 := T9.bel b14
  replace T11 := T11.bel b14
  replace T12 := T12.bel b14
  replace B0 := rstep B0 b14
  clear hb1 t14 b14 HU
  generalize w14.heap.size = g14 at *
  generalize (w14.alloc _).setRow _ _ = W14 at *
  go_upto_region 8 with (first
    | (refine p_loadR rfl _ rfl g7 rfl r u7 A7 ?_)
    | (refine p_loadR rfl _ rfl (w.heap.size + 1) rfl q v Q0 ?_)
    | (go_at_call 28; (with_reducible refine (HX _ _ T7 S0).mono ?_); rintro e w16 ⟨u16, rfl, t16, hb1⟩)
    | (refine p_storeR rfl _ _ rfl w16.heap.size rfl VU u16 rfl (told_one t16) zeroR (.slice none 0 0) (Blk.new _ _ _) ?_))
  obtain ⟨A16, T16, b16⟩ := rec_new t16
  replace b16 := rstep hb1 b16
  replace A0 := A0.below b16 A0.lt
  replace Q0 := Q0.below b16 Q0.lt
  replace L0 := L0.below b16 L0.lt
  replace A7 := A7.below b16 A7.lt
  replace A8 := A8.below b16 A8.lt
  replace A9 := A9.below b16 A9.lt
  replace A11 := A11.below b16 A11.lt
  replace A12 := A12.below b16 A12.lt
  replace A14 := A14.below b16 A14.lt
  replace T0 := T0.bel b16
  replace S0 := S0.bel b16
  replace T7 := T7.bel b16
  replace T8 := T8.bel b16
  replace T9 := T9.bel b16
  replace T11 := T11.bel b16
  replace T12 := T12.bel b16
  replace T14 := T14.bel b16
  replace B0 := rstep B0 b16
  clear hb1 t16 b16 HX
  generalize w16.heap.size = g16 at *
  generalize (w16.alloc _).setRow _ _ = W16 at *
  have HS1 : ∀ W, Told W u8 VA.items → Told W u11 VA.items → Calls Try.prog 17 #[.agg (recC VA u8), .agg (recC VA u11)] W fun e w' => e = .returned (.bool true) ∧ Below W.heap.size W w' := fun W h1 h2 => by
    have h := same_rec h1 h2 HAl
    rw [sameR_self] at h
    exact h
  have HS2 : ∀ W, Told W u9 VB.items → Told W u12 VB.items → Calls Try.prog 17 #[.agg (recC VB u9), .agg (recC VB u12)] W fun e w' => e = .returned (.bool true) ∧ Below W.heap.size W w' := fun W h1 h2 => by
    have h := same_rec h1 h2 HBl
    rw [sameR_self] at h
    exact h
  have HS3 : ∀ W, Told W u14 VU.items → Told W u16 VU.items → Calls Try.prog 17 #[.agg (recC VU u14), .agg (recC VU u16)] W fun e w' => e = .returned (.bool true) ∧ Below W.heap.size W w' := fun W h1 h2 => by
    have h := same_rec h1 h2 HUl
    rw [sameR_self] at h
    exact h
  have HS4 : ∀ W, Told W u r.items → Told W u7 r.items → Calls Try.prog 17 #[.agg (recC r u), .agg (recC r u7)] W fun e w' => e = .returned (.bool true) ∧ Below W.heap.size W w' := fun W h1 h2 => by
    have h := same_rec h1 h2 hl
    rw [sameR_self] at h
    exact h
  have q3 : ((E : Int) == (E : Int)) = true := by simp
  have q4 : ((G : Int) == (G : Int)) = true := by simp
  clear HAl HBl HUl hl
  have B9 := Lib.hid B0
  clear B0
  go_wp2_with (first
    | (go_guarded; with_reducible (show wpList _ _ _ _ _ _))
    | (go_at_call 14; (with_reducible refine (HR.calls _).mono ?_); rintro e w17 ⟨rfl, hb1⟩; have A8x := A8.below hb1 A8.lt; have T8x := T8.bel hb1; have A11x := A11.below hb1 A11.lt; have T11x := T11.bel hb1)
    | (go_guarded; rename_i K0 hK0; refine o_loadR _ rfl g8 rfl VA u8 A8x ?_; refine hK0 _ _ ?_; simp only [Act.put, List.setIfInBounds_toArray, List.set_cons_succ, List.set_cons_zero])
    | (go_guarded; refine o_loadR _ rfl g11 rfl VA u11 A11x ?_)
    | (go_at_call 17; (with_reducible refine (HS1 _ T8x T11x).mono ?_); rintro e w18 ⟨rfl, hb2⟩; have c2 := rstep hb1 hb2; have A9x := A9.below c2 A9.lt; have T9x := T9.bel c2; have A12x := A12.below c2 A12.lt; have T12x := T12.bel c2)
    | (go_guarded; rename_i K0 hK0; refine o_loadR _ rfl (g8 + 1) rfl VB u9 A9x ?_; refine hK0 _ _ ?_; simp only [Act.put, List.setIfInBounds_toArray, List.set_cons_succ, List.set_cons_zero])
    | (go_guarded; refine o_loadR _ rfl (g11 + 1) rfl VB u12 A12x ?_)
    | (go_at_call 17; (with_reducible refine (HS2 _ T9x T12x).mono ?_); rintro e w19 ⟨rfl, hb3⟩; have c3 := rstep c2 hb3; have A14x := A14.below c3 A14.lt; have T14x := T14.bel c3; have A16x := A16.below c3 A16.lt; have T16x := T16.bel c3)
    | (go_guarded; rename_i K0 hK0; refine o_loadR _ rfl g14 rfl VU u14 A14x ?_; refine hK0 _ _ ?_; simp only [Act.put, List.setIfInBounds_toArray, List.set_cons_succ, List.set_cons_zero])
    | (go_guarded; refine o_loadR _ rfl g16 rfl VU u16 A16x ?_)
    | (go_at_call 17; (with_reducible refine (HS3 _ T14x T16x).mono ?_); rintro e w20 ⟨rfl, hb4⟩; have c4 := rstep c3 hb4; have A0x := A0.below c4 A0.lt; have T0x := T0.bel c4; have A7x := A7.below c4 A7.lt; have T7x := T7.bel c4)
    | (go_guarded; rename_i K0 hK0; refine o_loadR _ rfl w.heap.size rfl r u A0x ?_; refine hK0 _ _ ?_; simp only [Act.put, List.setIfInBounds_toArray, List.set_cons_succ, List.set_cons_zero])
    | (go_guarded; refine o_loadR _ rfl g7 rfl r u7 A7x ?_)
    | (go_at_call 17; (with_reducible refine (HS4 _ T0x T7x).mono ?_); rintro e w21 ⟨rfl, hb5⟩; have c5 := rstep c4 hb5))
  go_ret
  exact ⟨rfl, rstep B9.out c5⟩
theorem walk {r : Rc} {u : Value} {w : World} (hT : Told w u r.items) (hW : r.Wf) {q : Rc} {v : Value} (hT' : Told w v q.items) (hW' : q.Wf) (n : Int) (b : Nat) (ok : (-9223372036854775808 ≤ n ∧ n ≤ 9223372036854775807) ∧ b < 18446744073709551616) :
    Calls Try.prog 5 #[.agg (recC r u), .agg (recC q v), .agg (labc n b)] w fun e w' => e = .returned (.bool true) ∧ Below w.heap.size w w' := by
  cases hb : bigB r
  · cases hb' : bigB q
    · exact core n b ok.1 ok.2 hT hT' hW hW' hb hb'
    · exact let_go n b hT hT' (.inr ⟨hb, hb'⟩)
  · exact let_go n b hT hT' (.inl hb)
set_option maxRecDepth 100000 in
theorem lifted (os : Os) (started : os.Started) (H : Type) (enc : TypeId × Value → H) :
    ReturnsInHanded {} Try.checked os 5 .any (Rows.recordPartsSpec.pre6 enc Try.prog Try.f5 Rows.recordPartsRow.domain false) (Rows.recordPartsSpec.post enc Try.prog Try.f5 false true false false) := by
  refine returnsInHanded_of_change (C := Try.checked) own started (by kernel_rfl) Try.func5
    (ChangeSpec.witness6 (enc := enc) (C := Try.checked) false ⟨#[], #[.agg #[.int .i64 0, .slice none 0 0, .int .i64 0, .int .u64 0, .int .u64 0], .agg #[.int .i64 0, .slice none 0 0, .int .i64 0, .int .u64 0, .int .u64 0], .agg #[.int .i64 0, .int .u64 0]], []⟩ 8 (by kernel_rfl) (by kernel_rfl) (by kernel_rfl) (by kernel_rfl)) ?_
  intro W base args ds gs before hval0 hW hcnd _
  have hval : ∀ (j : Nat) t v, Try.f5.params[j]? = some t → args[j]? = some v → Value.okWide Try.prog W .any base t v := hval0
  have hW' := hW
  obtain ⟨p, q, hA0, hV, rfl, hfz, hnd⟩ := hW
  have hA : DataW.TrodAll enc Try.prog W 0 (fun _ => true) true Try.f5.params.toList args.toList ds p := hA0
  rw [Try.params5] at hA hval
  obtain ⟨v0, vs0, d0, ds0, p0, q0, hargs, rfl, rfl, h0, r0⟩ := trodAll_cons hA
  obtain ⟨v1, vs1, d1, ds1, p1, q1, rfl, rfl, rfl, h1, r1⟩ := trodAll_cons r0
  obtain ⟨v2, vs2, d2, ds2, p2, q2, rfl, rfl, rfl, h2, r2⟩ := trodAll_cons r1
  obtain ⟨rfl, rfl, rfl⟩ := trodAll_nil r2
  obtain rfl : args = #[v0, v1, v2] := by cases args; simp_all
  obtain ⟨rfl, rfl⟩ := trodVars_none hV
  have k0 := h0
  have lt0 : ∀ x ∈ p0, x.block < W.heap.size := by obtain ⟨m, hm⟩ := k0; exact DataW.trod_lt m _ _ _ hm
  obtain ⟨R0, u0, wf0, rfl, tl0⟩ := open_rec (hval 0 27 v0 rfl rfl) h0
  have k1 := h1
  have lt1 : ∀ x ∈ p1, x.block < W.heap.size := by obtain ⟨m, hm⟩ := k1; exact DataW.trod_lt m _ _ _ hm
  obtain ⟨R1, u1, wf1, rfl, tl1⟩ := open_rec (hval 1 27 v1 rfl rfl) h1
  have k2 := h2
  have lt2 : ∀ x ∈ p2, x.block < W.heap.size := by obtain ⟨m, hm⟩ := k2; exact DataW.trod_lt m _ _ _ hm
  obtain ⟨n2, b2, ok2, rfl⟩ := open_label (hval 2 25 v2 rfl rfl) h2
  clear hA0 hval0
  refine (walk tl0 wf0 tl1 wf1 n2 b2 ok2).mono fun e W' ⟨he, bel⟩ => ?_
  subst he
  exact ⟨_, rfl, _, _, _, [], _, [], hW', trodAll_mk1 (shut_bool Try.underlying4 _), (trodAll_cons_mk (Below.trod laidOut (by kernel_rfl) (of_decide_eq_true (by kernel_rfl)) k0 bel lt0) (trodAll_cons_mk (Below.trod laidOut (by kernel_rfl) (of_decide_eq_true (by kernel_rfl)) k1 bel lt1) (trodAll_cons_mk (Below.trod laidOut (by kernel_rfl) (of_decide_eq_true (by kernel_rfl)) k2 bel lt2) trodAll_mk0))), rfl, bel.frame _, fun h => by cases h⟩

theorem proved : Rows.RecordPartsSaid :=
  OpenClaim.holds_of_wide 5 Try.f5 rfl rfl rfl rfl rfl rfl rfl ⟨rfl, rfl, rfl, rfl, rfl⟩ rfl rfl rfl rfl rfl (by kernel_rfl) Try.func5 (by kernel_rfl)
    (of_decide_eq_true (by kernel_rfl)) (by unfold Func.isWrapper; first | (rw [if_pos (by decide +kernel)]; kernel_rfl) | (rw [if_neg (by decide +kernel)]; exact ⟨rfl, rfl⟩))
    (fun os started H enc _ => lifted os started H enc)
end Go.Proofs.Ytkicndengkcojaa.RecPartsLaw
