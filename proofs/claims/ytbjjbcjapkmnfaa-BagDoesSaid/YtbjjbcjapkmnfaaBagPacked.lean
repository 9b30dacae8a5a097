/- The document's rows of layer 9 hold. -/
import Derived.Test.YtbjjbcjapkmnfaaBagEq
import Derived.Lib.Hide
import Derived.Deep.Cut
namespace Go.Proofs.Ytbjjbcjapkmnfaa
open Go Go.RowKit

abbrev mX : Ml := ⟨1, 2, ⟨#[97]⟩⟩
abbrev mY : Ml := ⟨2, 1, ⟨#[98]⟩⟩
/-- two messages in blocks of their own, side by side, and a bag -/
structure Pk (B : Nat) (w0 w : World) (g q : Nat) (K : List Ml) : Prop where
  has : HasB B w0 w g 2 K
  x : Blk w q (mlC mX) 33
  y : Blk w (q + 1) (mlC mY) 33
theorem Pk.bel {B g q : Nat} {w0 w w' : World} {K : List Ml} (h : Pk B w0 w g q K) (hb : Below w.heap.size w w') : Pk B w0 w' g q K := ⟨h.has.bel hb, h.x.below hb h.x.lt, h.y.below hb h.y.lt⟩
theorem Pk.step {B g q : Nat} {w0 w w' : World} {K K' : List Ml} (h : Pk B w0 w g q K) (hH : HasB B w0 w' g 2 K') (hF : Fr w w') : Pk B w0 w' g q K' := ⟨hH, hF _ _ _ (by decide) h.x, hF _ _ _ (by decide) h.y⟩
/-- .. and one that was told -/
theorem Blk.fr {w w' : World} {q : Nat} {m : Ml} (h : Blk w q (mlC m) 33) (hF : Fr w w') : Blk w' q (mlC m) 33 := hF _ _ _ (by decide) h
theorem pk_put1 {B g q : Nat} {w0 w : World} (h : Pk B w0 w g q []) : Calls Try.prog 13 #[.pointer (some ⟨g, 0, none⟩), .agg (mlC mX)] w fun e w' => e = .returned (.int .i64 0) ∧ Pk B w0 w' g q [mX] := by
  refine (hb_put h.has mX).mono ?_
  rintro e w' ⟨rfl, h1, h2⟩
  exact ⟨rfl, h.step h1 h2⟩
theorem pk_put2 {B g q : Nat} {w0 w : World} (h : Pk B w0 w g q [mX]) : Calls Try.prog 13 #[.pointer (some ⟨g, 0, none⟩), .agg (mlC mY)] w fun e w' => e = .returned (.int .i64 0) ∧ Pk B w0 w' g q [mX, mY] := by
  refine (hb_put h.has mY).mono ?_
  rintro e w' ⟨rfl, h1, h2⟩
  exact ⟨rfl, h.step h1 h2⟩
theorem pk_put3 {B g q : Nat} {w0 w : World} (h : Pk B w0 w g q [mX, mY]) : Calls Try.prog 13 #[.pointer (some ⟨g, 0, none⟩), .agg (mlC mX)] w fun e w' => e = .returned (.int .i64 12) ∧ Pk B w0 w' g q [mX, mY] := by
  refine (hb_put h.has mX).mono ?_
  rintro e w' ⟨rfl, h1, h2⟩
  exact ⟨rfl, h.step h1 h2⟩
theorem pk_take {B g q : Nat} {w0 w : World} (h : Pk B w0 w g q [mX, mY]) : Calls Try.prog 14 #[.pointer (some ⟨g, 0, none⟩), .int .i64 0] w fun e w' => e = .returned (.tuple #[.agg (mlC mX), .int .i64 0]) ∧ Pk B w0 w' g q [mY] := by
  refine (hb_take h.has 0).mono ?_
  rintro e w' ⟨rfl, h1, h2⟩
  exact ⟨rfl, h.step h1 h2⟩
theorem pk_at {B g q : Nat} {w0 w : World} (h : Pk B w0 w g q [mY]) : Calls Try.prog 15 #[.pointer (some ⟨g, 0, none⟩), .int .i64 0] w fun e w' => e = .returned (.tuple #[.agg (mlC mY), .int .i64 0]) ∧ Pk B w0 w' g q [mY] ∧ Below w.heap.size w w' := by
  refine (hb_at h.has 0).mono ?_
  rintro e w' ⟨rfl, h1⟩
  exact ⟨rfl, h.bel h1, h1⟩
theorem pk_size {B g q : Nat} {w0 w : World} (h : Pk B w0 w g q [mY]) : Calls Try.prog 11 #[.pointer (some ⟨g, 0, none⟩)] w fun e w' => e = .returned (.int .i64 1) ∧ w = w' := hb_size h.has
theorem pk_to {B g q : Nat} {w0 w : World} (h : Pk B w0 w g q [mY]) : Calls Try.prog 17 #[.pointer (some ⟨g, 0, none⟩), .int .i64 1] w fun e w' => ∃ s c, e = .returned (.slice s 1 c) ∧ IsI w' (.slice s 1 c) [0] ∧ Below w.heap.size w w' := hb_to h.has 1

set_option maxRecDepth 100000 in
set_option maxHeartbeats 4000000 in
theorem packed_any (w : World) : Calls Try.prog 12 #[] w fun e w' => e = .returned (.bool true) ∧ Below w.heap.size w w' := by
  have HW : Hid (Calls Try.prog 8 #[.int .i64 2] w fun e w' => e = .returned (.tuple #[.pointer (some ⟨w.heap.size + 1, 0, none⟩), .int .i64 0]) ∧ HasB w.heap.size w w' (w.heap.size + 1) 2 []) := hb_new (M := 2) (by decide) (by decide) w
  go_enter Try.func12, Try.ntmps12
  go_upto_region 4 with (go_at_call 8; (with_reducible refine HW.out.mono ?_); rintro e w1 ⟨rfl, h1⟩; have H1 := Lib.hid h1; clear h1)
  go_upto_region 6 with (fail)
  have p1 : Pk w.heap.size w ((w1.alloc (.cells #[.int .i64 1, .int .i64 2, .string ⟨#[97]⟩] 33)).alloc (.cells #[.int .i64 2, .int .i64 1, .string ⟨#[98]⟩] 33)) (w.heap.size + 1) w1.heap.size [] := by
    have e1 := (Below.refl w1.heap.size w1).alloc (Nat.le_refl _) (.cells #[.int .i64 1, .int .i64 2, .string ⟨#[97]⟩] 33)
    have e2 := e1.alloc (by simp) (.cells #[.int .i64 2, .int .i64 1, .string ⟨#[98]⟩] 33)
    have x0 := (Blk.new w1 #[.int .i64 1, .int .i64 2, .string ⟨#[97]⟩] 33).alloc (.cells #[.int .i64 2, .int .i64 1, .string ⟨#[98]⟩] 33)
    have y0 := Blk.new (w1.alloc (.cells #[.int .i64 1, .int .i64 2, .string ⟨#[97]⟩] 33)) #[.int .i64 2, .int .i64 1, .string ⟨#[98]⟩] 33
    rw [World.size_alloc] at y0
    exact ⟨H1.out.bel e2, x0, y0⟩
  clear HW H1
  generalize w1.heap.size = q at *
  generalize ((w1.alloc (.cells #[.int .i64 1, .int .i64 2, .string ⟨#[97]⟩] 33)).alloc (.cells #[.int .i64 2, .int .i64 1, .string ⟨#[98]⟩] 33)) = W1 at *
  have P1 := Lib.hid p1
  clear p1
  have C1 := Lib.hid (pk_put1 P1.out)
  go_upto_region 7 with (first
    | (refine p_loadM rfl _ rfl q rfl mX P1.out.x ?_)
    | (go_at_call 13; (with_reducible refine C1.out.mono ?_); rintro e w2 ⟨rfl, h2⟩; have P2 := Lib.hid h2; clear h2))
  have C2 := Lib.hid (pk_put2 P2.out)
  go_upto_region 8 with (first
    | (refine p_loadM rfl _ rfl (q + 1) rfl mY P2.out.y ?_)
    | (go_at_call 13; (with_reducible refine C2.out.mono ?_); rintro e w3 ⟨rfl, h3⟩; have P3 := Lib.hid h3; clear h3))
  have C3 := Lib.hid (pk_put3 P3.out)
  go_upto_region 9 with (first
    | (refine p_loadM rfl _ rfl q rfl mX P3.out.x ?_)
    | (go_at_call 13; (with_reducible refine C3.out.mono ?_); rintro e w4 ⟨rfl, h4⟩; have P4 := Lib.hid h4; clear h4))
  have C4 := Lib.hid (pk_take P4.out)
  go_upto_region 10 with (first
    | (go_at_call 14; (with_reducible refine C4.out.mono ?_); rintro e w5 ⟨rfl, h5⟩; have P5 := Lib.hid h5; clear h5)
    | (refine p_storeM rfl _ _ rfl w5.heap.size rfl mX rfl mlE rfl (Blk.new w5 mlE _) ?_))
  have hb5 : Below w5.heap.size w5 ((w5.alloc (.cells mlE 33)).setRow w5.heap.size (mlC mX)) := bel_setRow ((Below.refl _ _).alloc (Nat.le_refl _) _) (Nat.le_refl _) _
  have P6 := Lib.hid (P5.out.bel hb5)
  have E6 := Lib.hid ((Blk.new w5 mlE 33).setRow (mlC mX))
  clear hb5 P1 P2 P3 P4 P5 C1 C2 C3 C4
  generalize w5.heap.size = q5 at *
  generalize World.setRow _ _ _ = W6 at *
  have C6 := Lib.hid (pk_at P6.out)
  go_upto_region 11 with (first
    | (go_at_call 15; (with_reducible refine C6.out.mono ?_); rintro e w7 ⟨rfl, h7, hb7⟩; have P7 := Lib.hid h7; have E7 := Lib.hid (E6.out.below hb7 E6.out.lt); clear h7 hb7)
    | (refine p_storeM rfl _ _ rfl w7.heap.size rfl mY rfl mlE rfl (Blk.new w7 mlE _) ?_))
  have hb8 : Below w7.heap.size w7 ((w7.alloc (.cells mlE 33)).setRow w7.heap.size (mlC mY)) := bel_setRow ((Below.refl _ _).alloc (Nat.le_refl _) _) (Nat.le_refl _) _
  have P8 := Lib.hid (P7.out.bel hb8)
  have E8 := E7.out.below hb8 E7.out.lt
  have F8 := (Blk.new w7 mlE 33).setRow (mlC mY)
  have X8 := P8.out.x
  have Y8 := P8.out.y
  clear hb8 P6 P7 E6 E7 C6
  generalize w7.heap.size = q7 at *
  generalize World.setRow _ _ _ = W8 at *
  have C8 := Lib.hid (pk_size P8.out)
  have C9 := Lib.hid (pk_to P8.out)
  go_wp2_with (first
    | (go_at_call 11; (with_reducible refine C8.out.mono ?_); rintro e w9 ⟨rfl, rfl⟩)
    | (go_at_call 17; (with_reducible refine C9.out.mono ?_); rintro e w10 ⟨sa, sc, rfl, hI, hb10⟩; have H10 := Lib.hid (P8.out.has.bel hb10).below; have CI : Hid (Calls Try.prog 24 #[.slice sa 1 sc, .slice (some ⟨w10.heap.size, 0, none⟩) 1 1] (w10.alloc (.cells #[.int .i64 0] 3)) fun e w' => e = .returned (.bool true) ∧ Below w.heap.size w w') := (ints_same (hI.bel ((Below.refl _ _).alloc (Nat.le_refl _) _)) ⟨_, 1, rfl, .inr ⟨w10.heap.size, rfl, by simp, fun j x hj => by
          have hn := Blk.new w10 #[.int .i64 0] 3
          rw [hn.cell]
          match j, hj with
          | 0, hj => simp at hj; subst hj; rfl
          | j + 1, hj => simp at hj⟩⟩ (by decide)).mono fun e w' hh => ⟨hh.1, (H10.out.alloc (P8.out.has.bel hb10).le _).trans (hh.2.mono (by have := (P8.out.has.bel hb10).le; simp; omega))⟩; clear hI hb10)
    | (go_at_call 24; (with_reducible refine CI.out.mono ?_); rintro e w11 ⟨rfl, hb11⟩)
    | (go_guarded; refine o_loadM _ rfl _ rfl _ (by first | with_reducible exact E8 | with_reducible exact F8 | with_reducible exact X8 | with_reducible exact Y8) ?_; simp only [Act.put, List.setIfInBounds_toArray, List.set_cons_succ, List.set_cons_zero])
    | (go_guarded; refine o_eqlM _ _ rfl mX rfl rfl ?_; simp only [Act.put, List.setIfInBounds_toArray, List.set_cons_succ, List.set_cons_zero])
    | (go_guarded; refine o_eqlM _ _ rfl mY rfl rfl ?_; simp only [Act.put, List.setIfInBounds_toArray, List.set_cons_succ, List.set_cons_zero]))
  go_ret
  exact ⟨rfl, hb11⟩
end Go.Proofs.Ytbjjbcjapkmnfaa
