/- What the document's reader reads: get, Get. -/
import Derived.Test.YtkicndengkcojaaRecRGet2
namespace Go.Proofs.Ytkicndengkcojaa
set_option maxRecDepth 100000
open Go Go.RowKit Go.Sort

structure RGet (g : Nat) (b : List Nat) (w : World) (X : Except Nat (Rc × Nat)) (e : Ending) (w' : World) : Prop where
  ok : ∀ r q, X = .ok (r, q) → ∃ u, e = .returned (.tuple #[.agg (recC r u), .int .i64 0]) ∧ Told w' u r.items ∧ Sr w' g (b.drop q)
  no : ∀ n : Nat, X = .error n → n ≠ 0 ∧ e = .returned (.tuple #[.agg (recC zeroR (.slice none 0 0)), .int .i64 (n : Int)])
  keep : Keep w w' g g
theorem rget_no {g : Nat} {b : List Nat} {w w' : World} {X : Except Nat (Rc × Nat)} {n : Nat} (hX : X = .error n) (hn : n ≠ 0) (hk : Keep w w' g g) : RGet g b w X (.returned (.tuple #[.agg (recC zeroR (.slice none 0 0)), .int .i64 (n : Int)])) w' :=
  ⟨fun a q hx => (by rw [hX] at hx; cases hx), fun m hm => (by rw [hX] at hm; cases hm; exact ⟨hn, rfl⟩), hk⟩
theorem rget_ok {g : Nat} {b : List Nat} {w w' : World} {X : Except Nat (Rc × Nat)} {r : Rc} {q : Nat} {u : Value} (hX : X = .ok (r, q)) (hT : Told w' u r.items) (hs : Sr w' g (b.drop q)) (hk : Keep w w' g g) : RGet g b w X (.returned (.tuple #[.agg (recC r u), .int .i64 0])) w' :=
  ⟨fun r1 q1 hx => (by
    rw [hX] at hx
    simp only [Except.ok.injEq, Prod.mk.injEq] at hx
    obtain ⟨rfl, rfl⟩ := hx
    exact ⟨u, rfl, hT, hs⟩), fun m hm => (by rw [hX] at hm; cases hm), hk⟩
theorem noIt_str (s : ByteArray) : NoIt #[.string s] := by
  intro o k t h1 h2
  match o, h1, h2 with
  | 0, h1, h2 => simp at h1
  | o + 1, h1, h2 => simp at h1
theorem told_keepS {w w' : World} {g : Nat} {l : List Nat} {u : Value} {K : List It} (hT : Told w u K) (k : Sr w g l) (hk : Keep w w' g g) : Told w' u K :=
  told_but hT (show Blk w g _ _ from k) (noIt_str _) fun j hj hne => hk.block j hj hne hne

set_option maxHeartbeats 4000000 in
theorem rgetc_err {w : World} {g : Nat} {b : List Nat} {p : Nat} (k0 : Sr w g (b.drop p)) (hb : ∀ x ∈ b, x < 256) (hz : b.length ≤ 1000000) {e : Nat} (hn : rdN b p = .error e) :
    Calls Try.prog 48 #[.pointer (some ⟨g, 0, none⟩)] w (RGet g b w (rdR b p)) := by
  have hg0 := k0.lt
  have Z0 := Blk.new w (recC zeroR (.slice none 0 0)) 27
  have B0 := (Below.refl w.heap.size w).alloc (Nat.le_refl _) (.cells (recC zeroR (.slice none 0 0)) 27)
  have S0 := k0.below B0
  have K0 := Lib.hid (Keep.of B0 g g)
  clear k0
  have HX : Hid (rdR b p = .error e) := by unfold Hid rdR; rw [hn]
  obtain ⟨he, v, m, hC⟩ := rnum_no g hb hz hn
  have HC := Lib.hid (hC _ S0)
  have hd : ((e : Int) != 0) = true := by simp; omega
  have HE := Lib.hid he
  clear hn hC he S0
  generalize rdR b p = X at *
  go_enter Try.func48, Try.ntmps48
  go_upto_region 1 with (fail)
  rw [zero_rec]
  have hsz : w.heap.size < (w.alloc (.cells (recC zeroR (.slice none 0 0)) 27)).heap.size := by simp
  generalize w.alloc _ = W at *
  go_wp2_with (first
    | (go_at_call 88; (with_reducible refine HC.out.mono ?_); rintro e1 w1 ⟨rfl, hs1, hk1⟩; have Z1 := Z0.keep hk1 (by omega) (by omega))
    | (refine p_storeR rfl _ _ rfl w.heap.size rfl zeroR (.slice none 0 0) rfl rfl zeroR (.slice none 0 0) Z1 ?_))
  exact bodyPost_ret (results_rec2 Try.results48 _ _ w.heap.size zeroR (.slice none 0 0) _ rfl rfl (Z1.setRow _)) rfl (rget_no HX.out HE.out ((K0.out.trans hk1).thenB (bel_setRow (Below.refl _ _) (Nat.le_refl _) _)))

set_option maxHeartbeats 4000000 in
theorem rgetc_lo {w : World} {g k : Nat} {b : List Nat} {p : Nat} (k0 : Sr w g (b.drop p)) (hb : ∀ x ∈ b, x < 256) (hz : b.length ≤ 1000000) {q : Nat} (hk : k < 1) (hn : rdN b p = .ok (k, q)) :
    Calls Try.prog 48 #[.pointer (some ⟨g, 0, none⟩)] w (RGet g b w (rdR b p)) := by
  have hg0 := k0.lt
  have Z0 := Blk.new w (recC zeroR (.slice none 0 0)) 27
  have B0 := (Below.refl w.heap.size w).alloc (Nat.le_refl _) (.cells (recC zeroR (.slice none 0 0)) 27)
  have S0 := k0.below B0
  have K0 := Lib.hid (Keep.of B0 g g)
  clear k0
  have HC := Lib.hid (rnum_ok g hb hz hn _ S0)
  have HX : Hid (rdR b p = .error 3) := by
    unfold Hid rdR
    rw [hn]
    simp only
    rw [if_neg (by omega), if_neg (by omega)]
  have d1 : decide (k < 1) = true := decide_eq_true hk
  have d1i : decide ((k : Int) < 1) = true := decide_eq_true (by omega)
  have g1 : (k : Int) < 1 := by omega
  clear hn S0 hk
  generalize rdR b p = X at *
  go_enter Try.func48, Try.ntmps48
  go_upto_region 1 with (fail)
  rw [zero_rec]
  have hsz : w.heap.size < (w.alloc (.cells (recC zeroR (.slice none 0 0)) 27)).heap.size := by simp
  generalize w.alloc _ = W at *
  go_wp2_with (first
    | (go_at_call 88; (with_reducible refine HC.out.mono ?_); rintro e1 w1 ⟨rfl, hs1, hk1⟩; have Z1 := Z0.keep hk1 (by omega) (by omega))
    | (refine p_storeR rfl _ _ rfl w.heap.size rfl zeroR (.slice none 0 0) rfl rfl zeroR (.slice none 0 0) Z1 ?_))
  exact bodyPost_ret (results_rec2 Try.results48 _ _ w.heap.size zeroR (.slice none 0 0) _ rfl rfl (Z1.setRow _)) rfl (rget_no HX.out (by decide) ((K0.out.trans hk1).thenB (bel_setRow (Below.refl _ _) (Nat.le_refl _) _)))

set_option maxHeartbeats 4000000 in
theorem rgetc_hi {w : World} {g k : Nat} {b : List Nat} {p : Nat} (k0 : Sr w g (b.drop p)) (hb : ∀ x ∈ b, x < 256) (hz : b.length ≤ 1000000) {q : Nat} (hk : 5 < k) (hn : rdN b p = .ok (k, q)) :
    Calls Try.prog 48 #[.pointer (some ⟨g, 0, none⟩)] w (RGet g b w (rdR b p)) := by
  have hg0 := k0.lt
  have Z0 := Blk.new w (recC zeroR (.slice none 0 0)) 27
  have B0 := (Below.refl w.heap.size w).alloc (Nat.le_refl _) (.cells (recC zeroR (.slice none 0 0)) 27)
  have S0 := k0.below B0
  have K0 := Lib.hid (Keep.of B0 g g)
  clear k0
  have HC := Lib.hid (rnum_ok g hb hz hn _ S0)
  have HX : Hid (rdR b p = .error 3) := by
    unfold Hid rdR
    rw [hn]
    simp only
    rw [if_neg (by omega), if_neg (by omega)]
  have d1 : decide (k < 1) = false := decide_eq_false (by omega)
  have d1i : decide ((k : Int) < 1) = false := decide_eq_false (by omega)
  have d5 : decide (5 < k) = true := decide_eq_true hk
  have d5i : decide (5 < (k : Int)) = true := decide_eq_true (by omega)
  have g1 : ¬ (k : Int) < 1 := by omega
  have g5 : 5 < (k : Int) := by omega
  clear hn S0 hk
  generalize rdR b p = X at *
  go_enter Try.func48, Try.ntmps48
  go_upto_region 1 with (fail)
  rw [zero_rec]
  have hsz : w.heap.size < (w.alloc (.cells (recC zeroR (.slice none 0 0)) 27)).heap.size := by simp
  generalize w.alloc _ = W at *
  go_wp2_with (first
    | (go_at_call 88; (with_reducible refine HC.out.mono ?_); rintro e1 w1 ⟨rfl, hs1, hk1⟩; have Z1 := Z0.keep hk1 (by omega) (by omega))
    | (refine p_storeR rfl _ _ rfl w.heap.size rfl zeroR (.slice none 0 0) rfl rfl zeroR (.slice none 0 0) Z1 ?_))
  exact bodyPost_ret (results_rec2 Try.results48 _ _ w.heap.size zeroR (.slice none 0 0) _ rfl rfl (Z1.setRow _)) rfl (rget_no HX.out (by decide) ((K0.out.trans hk1).thenB (bel_setRow (Below.refl _ _) (Nat.le_refl _) _)))

set_option maxHeartbeats 4000000 in
theorem rgetc_bare {w : World} {g k : Nat} {b : List Nat} {p : Nat} (k0 : Sr w g (b.drop p)) (hb : ∀ x ∈ b, x < 256) (hz : b.length ≤ 1000000) {q : Nat} (hk : k = 2 ∨ k = 4) (hn : rdN b p = .ok (k, q)) :
    Calls Try.prog 48 #[.pointer (some ⟨g, 0, none⟩)] w (RGet g b w (rdR b p)) := by
  have hg0 := k0.lt
  have HN := refnone_open
  have HBA := bare_any (k : Int)
  have Z0 := Blk.new w (recC zeroR (.slice none 0 0)) 27
  have B0 := (Below.refl w.heap.size w).alloc (Nat.le_refl _) (.cells (recC zeroR (.slice none 0 0)) 27)
  have S0 := k0.below B0
  have K0 := Lib.hid (Keep.of B0 g g)
  clear k0
  have HC := Lib.hid (rnum_ok g hb hz hn _ S0)
  have HX : Hid (rdR b p = .ok (⟨(k : Int), [], -1, 0, 0⟩, q)) := by
    unfold Hid rdR
    rw [hn]
    simp only
    rw [if_pos hk]
  have hbb : bareB (k : Int) = true := by rcases hk with rfl | rfl <;> rfl
  rw [hbb] at HBA
  have d1 : decide (k < 1) = false := decide_eq_false (by omega)
  have d1i : decide ((k : Int) < 1) = false := decide_eq_false (by omega)
  have d5 : decide (5 < k) = false := decide_eq_false (by omega)
  have d5i : decide (5 < (k : Int)) = false := decide_eq_false (by omega)
  have g1 : ¬ (k : Int) < 1 := by omega
  have g5 : ¬ 5 < (k : Int) := by omega
  have hcv : IntKind.i64.wrap (k : Int) = (k : Int) := IntWalk.i64_in _ (by omega)
  clear hn S0 hk hbb
  generalize rdR b p = X at *
  go_enter Try.func48, Try.ntmps48
  go_upto_region 1 with (fail)
  rw [zero_rec]
  have hsz : w.heap.size < (w.alloc (.cells (recC zeroR (.slice none 0 0)) 27)).heap.size := by simp
  generalize w.alloc _ = W at *
  go_upto_region 6 with (go_at_call 88; (with_reducible refine HC.out.mono ?_); rintro e1 w1 ⟨rfl, hs1, hk1⟩; have Z1 := Z0.keep hk1 (by omega) (by omega))
  have K1 := Lib.hid (K0.out.trans hk1)
  clear hk1 Z0 HC
  go_upto_region 7 with (first
    | (go_at_call 41; (with_reducible refine (HN.calls _).mono ?_); rintro e1 w2 ⟨rfl, hb2⟩)
    | (refine p_storeR rfl _ _ rfl w2.heap.size rfl ⟨(k : Int), [], -1, 0, 0⟩ (.slice none 0 0) rfl rfl zeroR (.slice none 0 0) (Blk.new _ _ _) ?_))
  have b3 : Below w2.heap.size w2 ((w2.alloc (.cells (recC zeroR (.slice none 0 0)) 27)).setRow w2.heap.size (recC ⟨(k : Int), [], -1, 0, 0⟩ (.slice none 0 0))) := bel_setRow ((Below.refl _ _).alloc (Nat.le_refl _) _) (Nat.le_refl _) _
  have H3 : Blk ((w2.alloc (.cells (recC zeroR (.slice none 0 0)) 27)).setRow w2.heap.size (recC ⟨(k : Int), [], -1, 0, 0⟩ (.slice none 0 0))) w2.heap.size (recC ⟨(k : Int), [], -1, 0, 0⟩ (.slice none 0 0)) 27 := (Blk.new _ _ _).setRow _
  have hgt : w.heap.size < w2.heap.size := by have := Z1.lt; have := hb2.size; omega
  have Z3 := (Z1.below hb2 Z1.lt).below b3 (Z1.below hb2 Z1.lt).lt
  have S3 := (hs1.below hb2).below b3
  have K3 := (K1.out.trans (Keep.of hb2 g g)).trans (Keep.of b3 g g)
  try rw [zero_rec]
  clear Z1 hb2 b3 hs1 K1 HN hsz
  generalize (w2.alloc _).setRow _ _ = W3 at *
  generalize w2.heap.size = g3 at *
  have c0 : W3.cell? ⟨g3, 0, none⟩ = some (.int .i64 (k : Int)) := H3.cell 0
  go_wp2_with (first
    | (go_at_call 39; (with_reducible refine (HBA.calls _).mono ?_); rintro e1 w4 ⟨rfl, hb4⟩; have H4 := H3.below hb4 H3.lt; have Z4 := Z3.below hb4 Z3.lt; have S4 := S3.below hb4)
    | (refine p_loadR rfl _ rfl g3 rfl ⟨(k : Int), [], -1, 0, 0⟩ (.slice none 0 0) H4 ?_)
    | (refine p_storeR rfl _ _ rfl w.heap.size rfl ⟨(k : Int), [], -1, 0, 0⟩ (.slice none 0 0) rfl rfl zeroR (.slice none 0 0) Z4 ?_))
  exact bodyPost_ret (results_rec2 Try.results48 _ _ w.heap.size _ _ _ rfl rfl (Z4.setRow _)) rfl (rget_ok HX.out (told_setRow (told_nil _) Z4 (noIt_rec _ _) _) (S4.belowB (bel_setRow (Below.refl w.heap.size _) (Nat.le_refl _) _) hg0) ((K3.trans (Keep.of hb4 g g)).thenB (bel_setRow (Below.refl w.heap.size _) (Nat.le_refl _) _)))

set_option maxHeartbeats 4000000 in
theorem rgetc_items {w : World} {g k : Nat} {b : List Nat} {p : Nat} (k0 : Sr w g (b.drop p)) (hb : ∀ x ∈ b, x < 256) (hz : b.length ≤ 1000000) {q : Nat} (hk : k = 1 ∨ k = 3 ∨ k = 5) (hn : rdN b p = .ok (k, q)) {e : Nat} (hi : rdIs b q = .error e) :
    Calls Try.prog 48 #[.pointer (some ⟨g, 0, none⟩)] w (RGet g b w (rdR b p)) := by
  have hg0 := k0.lt
  have HN := refnone_open
  have HBA := bare_any (k : Int)
  have Z0 := Blk.new w (recC zeroR (.slice none 0 0)) 27
  have B0 := (Below.refl w.heap.size w).alloc (Nat.le_refl _) (.cells (recC zeroR (.slice none 0 0)) 27)
  have S0 := k0.below B0
  have K0 := Lib.hid (Keep.of B0 g g)
  clear k0
  have HC := Lib.hid (rnum_ok g hb hz hn _ S0)
  have HX : Hid (rdR b p = .error e) := by
    unfold Hid rdR
    rw [hn]
    simp only
    rw [if_neg (by omega), if_pos (by omega), hi]
  have hbb : bareB (k : Int) = false := by rcases hk with rfl | rfl | rfl <;> rfl
  rw [hbb] at HBA
  have d1 : decide (k < 1) = false := decide_eq_false (by omega)
  have d1i : decide ((k : Int) < 1) = false := decide_eq_false (by omega)
  have d5 : decide (5 < k) = false := decide_eq_false (by omega)
  have d5i : decide (5 < (k : Int)) = false := decide_eq_false (by omega)
  have g1 : ¬ (k : Int) < 1 := by omega
  have g5 : ¬ 5 < (k : Int) := by omega
  have hcv : IntKind.i64.wrap (k : Int) = (k : Int) := IntWalk.i64_in _ (by omega)
  clear hn S0 hk hbb
  generalize rdR b p = X at *
  go_enter Try.func48, Try.ntmps48
  go_upto_region 1 with (fail)
  rw [zero_rec]
  have hsz : w.heap.size < (w.alloc (.cells (recC zeroR (.slice none 0 0)) 27)).heap.size := by simp
  generalize w.alloc _ = W at *
  go_upto_region 6 with (go_at_call 88; (with_reducible refine HC.out.mono ?_); rintro e1 w1 ⟨rfl, hs1, hk1⟩; have Z1 := Z0.keep hk1 (by omega) (by omega))
  have K1 := Lib.hid (K0.out.trans hk1)
  clear hk1 Z0 HC
  go_upto_region 7 with (first
    | (go_at_call 41; (with_reducible refine (HN.calls _).mono ?_); rintro e1 w2 ⟨rfl, hb2⟩)
    | (refine p_storeR rfl _ _ rfl w2.heap.size rfl ⟨(k : Int), [], -1, 0, 0⟩ (.slice none 0 0) rfl rfl zeroR (.slice none 0 0) (Blk.new _ _ _) ?_))
  have b3 : Below w2.heap.size w2 ((w2.alloc (.cells (recC zeroR (.slice none 0 0)) 27)).setRow w2.heap.size (recC ⟨(k : Int), [], -1, 0, 0⟩ (.slice none 0 0))) := bel_setRow ((Below.refl _ _).alloc (Nat.le_refl _) _) (Nat.le_refl _) _
  have H3 : Blk ((w2.alloc (.cells (recC zeroR (.slice none 0 0)) 27)).setRow w2.heap.size (recC ⟨(k : Int), [], -1, 0, 0⟩ (.slice none 0 0))) w2.heap.size (recC ⟨(k : Int), [], -1, 0, 0⟩ (.slice none 0 0)) 27 := (Blk.new _ _ _).setRow _
  have hgt : w.heap.size < w2.heap.size := by have := Z1.lt; have := hb2.size; omega
  have Z3 := (Z1.below hb2 Z1.lt).below b3 (Z1.below hb2 Z1.lt).lt
  have S3 := (hs1.below hb2).below b3
  have K3 := (K1.out.trans (Keep.of hb2 g g)).trans (Keep.of b3 g g)
  try rw [zero_rec]
  clear Z1 hb2 b3 hs1 K1 HN hsz
  generalize (w2.alloc _).setRow _ _ = W3 at *
  generalize w2.heap.size = g3 at *
  have c0 : W3.cell? ⟨g3, 0, none⟩ = some (.int .i64 (k : Int)) := H3.cell 0
  go_upto_region 9 with (go_at_call 39; (with_reducible refine (HBA.calls _).mono ?_); rintro e1 w4 ⟨rfl, hb4⟩)
  have H4 := H3.below hb4 H3.lt
  have Z4 := Z3.below hb4 Z3.lt
  have S4 := S3.below hb4
  have K4 := K3.trans (Keep.of hb4 g g)
  clear H3 Z3 S3 K3 hb4 c0 HBA
  have HIT := Lib.hid (refitems_any S4 hb hz)
  go_wp2_with (first
    | (go_at_call 89; (with_reducible refine HIT.out.mono ?_); rintro e1 w5 hp; obtain ⟨he, rfl⟩ := hp.no _ hi; have hk5 := hp.keep; have hd : ((e : Int) != 0) = true := (by simp; omega); have Z5 := Z4.keep hk5 (by omega) (by omega))
    | (refine p_storeR rfl _ _ rfl w.heap.size rfl zeroR (.slice none 0 0) rfl rfl zeroR (.slice none 0 0) Z5 ?_))
  exact bodyPost_ret (results_rec2 Try.results48 _ _ w.heap.size zeroR (.slice none 0 0) _ rfl rfl (Z5.setRow _)) rfl (rget_no HX.out he ((K4.trans hk5).thenB (bel_setRow (Below.refl _ _) (Nat.le_refl _) _)))

set_option maxHeartbeats 4000000 in
theorem rgetc_next {w : World} {g k : Nat} {b : List Nat} {p : Nat} (k0 : Sr w g (b.drop p)) (hb : ∀ x ∈ b, x < 256) (hz : b.length ≤ 1000000) {q : Nat} (hk : k = 1 ∨ k = 3 ∨ k = 5) (hn : rdN b p = .ok (k, q)) {q2 e : Nat} {L : List It} (hi : rdIs b q = .ok (L, q2)) (hx : rdX b q2 = .error e) :
    Calls Try.prog 48 #[.pointer (some ⟨g, 0, none⟩)] w (RGet g b w (rdR b p)) := by
  have hg0 := k0.lt
  have HN := refnone_open
  have HBA := bare_any (k : Int)
  have Z0 := Blk.new w (recC zeroR (.slice none 0 0)) 27
  have B0 := (Below.refl w.heap.size w).alloc (Nat.le_refl _) (.cells (recC zeroR (.slice none 0 0)) 27)
  have S0 := k0.below B0
  have K0 := Lib.hid (Keep.of B0 g g)
  clear k0
  have HC := Lib.hid (rnum_ok g hb hz hn _ S0)
  have HX : Hid (rdR b p = .error e) := by
    unfold Hid rdR
    rw [hn]
    simp only
    rw [if_neg (by omega), if_pos (by omega), hi]
    simp only
    rw [hx]
  have hbb : bareB (k : Int) = false := by rcases hk with rfl | rfl | rfl <;> rfl
  rw [hbb] at HBA
  have d1 : decide (k < 1) = false := decide_eq_false (by omega)
  have d1i : decide ((k : Int) < 1) = false := decide_eq_false (by omega)
  have d5 : decide (5 < k) = false := decide_eq_false (by omega)
  have d5i : decide (5 < (k : Int)) = false := decide_eq_false (by omega)
  have g1 : ¬ (k : Int) < 1 := by omega
  have g5 : ¬ 5 < (k : Int) := by omega
  have hcv : IntKind.i64.wrap (k : Int) = (k : Int) := IntWalk.i64_in _ (by omega)
  clear hn S0 hk hbb
  generalize rdR b p = X at *
  go_enter Try.func48, Try.ntmps48
  go_upto_region 1 with (fail)
  rw [zero_rec]
  have hsz : w.heap.size < (w.alloc (.cells (recC zeroR (.slice none 0 0)) 27)).heap.size := by simp
  generalize w.alloc _ = W at *
  go_upto_region 6 with (go_at_call 88; (with_reducible refine HC.out.mono ?_); rintro e1 w1 ⟨rfl, hs1, hk1⟩; have Z1 := Z0.keep hk1 (by omega) (by omega))
  have K1 := Lib.hid (K0.out.trans hk1)
  clear hk1 Z0 HC
  go_upto_region 7 with (first
    | (go_at_call 41; (with_reducible refine (HN.calls _).mono ?_); rintro e1 w2 ⟨rfl, hb2⟩)
    | (refine p_storeR rfl _ _ rfl w2.heap.size rfl ⟨(k : Int), [], -1, 0, 0⟩ (.slice none 0 0) rfl rfl zeroR (.slice none 0 0) (Blk.new _ _ _) ?_))
  have b3 : Below w2.heap.size w2 ((w2.alloc (.cells (recC zeroR (.slice none 0 0)) 27)).setRow w2.heap.size (recC ⟨(k : Int), [], -1, 0, 0⟩ (.slice none 0 0))) := bel_setRow ((Below.refl _ _).alloc (Nat.le_refl _) _) (Nat.le_refl _) _
  have H3 : Blk ((w2.alloc (.cells (recC zeroR (.slice none 0 0)) 27)).setRow w2.heap.size (recC ⟨(k : Int), [], -1, 0, 0⟩ (.slice none 0 0))) w2.heap.size (recC ⟨(k : Int), [], -1, 0, 0⟩ (.slice none 0 0)) 27 := (Blk.new _ _ _).setRow _
  have hgt : w.heap.size < w2.heap.size := by have := Z1.lt; have := hb2.size; omega
  have Z3 := (Z1.below hb2 Z1.lt).below b3 (Z1.below hb2 Z1.lt).lt
  have S3 := (hs1.below hb2).below b3
  have K3 := (K1.out.trans (Keep.of hb2 g g)).trans (Keep.of b3 g g)
  try rw [zero_rec]
  clear Z1 hb2 b3 hs1 K1 HN hsz
  generalize (w2.alloc _).setRow _ _ = W3 at *
  generalize w2.heap.size = g3 at *
  have c0 : W3.cell? ⟨g3, 0, none⟩ = some (.int .i64 (k : Int)) := H3.cell 0
  go_upto_region 9 with (go_at_call 39; (with_reducible refine (HBA.calls _).mono ?_); rintro e1 w4 ⟨rfl, hb4⟩)
  have H4 := H3.below hb4 H3.lt
  have Z4 := Z3.below hb4 Z3.lt
  have S4 := S3.below hb4
  have K4 := K3.trans (Keep.of hb4 g g)
  clear H3 Z3 S3 K3 hb4 c0 HBA
  have HIT := Lib.hid (refitems_any S4 hb hz)
  go_upto_region 12 with (go_at_call 89; (with_reducible refine HIT.out.mono ?_); rintro e1 w5 hp; obtain ⟨v, rfl, T5, S5⟩ := hp.ok _ _ hi; have K5 := hp.keep; obtain ⟨al, cl, rfl⟩ := told_shape T5)
  have H5 := H4.keep K5 (by omega) (by omega)
  have Z5 := Z4.keep K5 (by omega) (by omega)
  have K5b := K4.trans K5
  clear H4 Z4 S4 K4 K5 HIT hp
  have HNX := Lib.hid (refnext_any S5 hb hz)
  go_wp2_with (first
    | (go_at_call 90; (with_reducible refine HNX.out.mono ?_); rintro e1 w6 hp; obtain ⟨he, rfl⟩ := hp.no _ hx; have hd : ((e : Int) != 0) = true := (by simp; omega); have K6 := hp.keep; have H6 := H5.keep K6 (by omega) (by omega); have Z6 := Z5.keep K6 (by omega) (by omega); have T6 := told_keepS T5 S5 K6; have hlt6 := H6.lt)
    | (refine p_storeL rfl _ _ rfl w6.heap.size rfl 0 0 rfl 0 0 (Blk.new _ _ _) ?_)
    | (refine p_storeR rfl _ _ rfl w.heap.size rfl zeroR (.slice none 0 0) rfl rfl zeroR (.slice none 0 0) ((Z6.alloc _).setRow_other _ _ (by omega)) ?_))
  exact bodyPost_ret (results_rec2 Try.results48 _ _ w.heap.size zeroR (.slice none 0 0) _ rfl rfl (((Z6.alloc _).setRow_other _ _ (by omega)).setRow _)) rfl (rget_no HX.out he ((K5b.trans K6).thenB (bel_setRow (bel_setRow ((Below.refl w.heap.size w6).alloc (by omega) _) (by omega) _) (Nat.le_refl _) _)))

set_option maxHeartbeats 4000000 in
theorem rgetc_ok {w : World} {g k : Nat} {b : List Nat} {p : Nat} (k0 : Sr w g (b.drop p)) (hb : ∀ x ∈ b, x < 256) (hz : b.length ≤ 1000000) {q : Nat} (hk : k = 1 ∨ k = 3) (hn : rdN b p = .ok (k, q)) {q2 q3 : Nat} {L : List It} {nl : Int} {nb : Nat} (hi : rdIs b q = .ok (L, q2)) (hx : rdX b q2 = .ok ((nl, nb), q3)) :
    Calls Try.prog 48 #[.pointer (some ⟨g, 0, none⟩)] w (RGet g b w (rdR b p)) := by
  have hg0 := k0.lt
  have HN := refnone_open
  have HBA := bare_any (k : Int)
  have Z0 := Blk.new w (recC zeroR (.slice none 0 0)) 27
  have B0 := (Below.refl w.heap.size w).alloc (Nat.le_refl _) (.cells (recC zeroR (.slice none 0 0)) 27)
  have S0 := k0.below B0
  have K0 := Lib.hid (Keep.of B0 g g)
  clear k0
  have HC := Lib.hid (rnum_ok g hb hz hn _ S0)
  have HX : Hid (rdR b p = .ok (⟨(k : Int), L, nl, nb, 0⟩, q3)) := by
    unfold Hid rdR
    rw [hn]
    simp only
    rw [if_neg (by omega), if_pos (by omega), hi]
    simp only
    rw [hx]
    simp only
    rw [rdM, if_neg (by omega)]
  have hbb : bareB (k : Int) = false := by rcases hk with rfl | rfl <;> rfl
  rw [hbb] at HBA
  have d1 : decide (k < 1) = false := decide_eq_false (by omega)
  have d1i : decide ((k : Int) < 1) = false := decide_eq_false (by omega)
  have d5 : decide (5 < k) = false := decide_eq_false (by omega)
  have d5i : decide (5 < (k : Int)) = false := decide_eq_false (by omega)
  have g1 : ¬ (k : Int) < 1 := by omega
  have g5 : ¬ 5 < (k : Int) := by omega
  have hcv : IntKind.i64.wrap (k : Int) = (k : Int) := IntWalk.i64_in _ (by omega)
  have t5 : ((k : Int) == 5) = false := by simp; omega
  clear hn S0 hk hbb
  generalize rdR b p = X at *
  go_enter Try.func48, Try.ntmps48
  go_upto_region 1 with (fail)
  rw [zero_rec]
  have hsz : w.heap.size < (w.alloc (.cells (recC zeroR (.slice none 0 0)) 27)).heap.size := by simp
  generalize w.alloc _ = W at *
  go_upto_region 6 with (go_at_call 88; (with_reducible refine HC.out.mono ?_); rintro e1 w1 ⟨rfl, hs1, hk1⟩; have Z1 := Z0.keep hk1 (by omega) (by omega))
  have K1 := Lib.hid (K0.out.trans hk1)
  clear hk1 Z0 HC
  go_upto_region 7 with (first
    | (go_at_call 41; (with_reducible refine (HN.calls _).mono ?_); rintro e1 w2 ⟨rfl, hb2⟩)
    | (refine p_storeR rfl _ _ rfl w2.heap.size rfl ⟨(k : Int), [], -1, 0, 0⟩ (.slice none 0 0) rfl rfl zeroR (.slice none 0 0) (Blk.new _ _ _) ?_))
  have b3 : Below w2.heap.size w2 ((w2.alloc (.cells (recC zeroR (.slice none 0 0)) 27)).setRow w2.heap.size (recC ⟨(k : Int), [], -1, 0, 0⟩ (.slice none 0 0))) := bel_setRow ((Below.refl _ _).alloc (Nat.le_refl _) _) (Nat.le_refl _) _
  have H3 : Blk ((w2.alloc (.cells (recC zeroR (.slice none 0 0)) 27)).setRow w2.heap.size (recC ⟨(k : Int), [], -1, 0, 0⟩ (.slice none 0 0))) w2.heap.size (recC ⟨(k : Int), [], -1, 0, 0⟩ (.slice none 0 0)) 27 := (Blk.new _ _ _).setRow _
  have hgt : w.heap.size < w2.heap.size := by have := Z1.lt; have := hb2.size; omega
  have Z3 := (Z1.below hb2 Z1.lt).below b3 (Z1.below hb2 Z1.lt).lt
  have S3 := (hs1.below hb2).below b3
  have K3 := (K1.out.trans (Keep.of hb2 g g)).trans (Keep.of b3 g g)
  try rw [zero_rec]
  clear Z1 hb2 b3 hs1 K1 HN hsz
  generalize (w2.alloc _).setRow _ _ = W3 at *
  generalize w2.heap.size = g3 at *
  have c0 : W3.cell? ⟨g3, 0, none⟩ = some (.int .i64 (k : Int)) := H3.cell 0
  go_upto_region 9 with (go_at_call 39; (with_reducible refine (HBA.calls _).mono ?_); rintro e1 w4 ⟨rfl, hb4⟩)
  have H4 := H3.below hb4 H3.lt
  have Z4 := Z3.below hb4 Z3.lt
  have S4 := S3.below hb4
  have K4 := K3.trans (Keep.of hb4 g g)
  clear H3 Z3 S3 K3 hb4 c0 HBA
  have HIT := Lib.hid (refitems_any S4 hb hz)
  go_upto_region 12 with (go_at_call 89; (with_reducible refine HIT.out.mono ?_); rintro e1 w5 hp; obtain ⟨v, rfl, T5, S5⟩ := hp.ok _ _ hi; have K5 := hp.keep; obtain ⟨al, cl, rfl⟩ := told_shape T5)
  have H5 := H4.keep K5 (by omega) (by omega)
  have Z5 := Z4.keep K5 (by omega) (by omega)
  have K5b := K4.trans K5
  clear H4 Z4 S4 K4 K5 HIT hp
  have HNX := Lib.hid (refnext_any S5 hb hz)
  have hlab : labc nl nb = labc nl nb := rfl
  go_upto_region 15 with (first
    | (go_at_call 90; (with_reducible refine HNX.out.mono ?_); rintro e1 w6 hp; obtain ⟨rfl, S6⟩ := hp.ok _ _ _ hx; have K6 := hp.keep; have H6 := H5.keep K6 (by omega) (by omega); have Z6 := Z5.keep K6 (by omega) (by omega); have T6 := told_keepS T5 S5 K6; have hlt6 := H6.lt)
    | (refine p_storeL rfl _ _ rfl w6.heap.size rfl nl nb rfl 0 0 (Blk.new _ _ _) ?_))
  have b7 : Below w6.heap.size w6 ((w6.alloc (.cells (labc 0 0) 25)).setRow w6.heap.size (labc nl nb)) := bel_setRow ((Below.refl _ _).alloc (Nat.le_refl _) _) (Nat.le_refl _) _
  have L7 : Blk ((w6.alloc (.cells (labc 0 0) 25)).setRow w6.heap.size (labc nl nb)) w6.heap.size (labc nl nb) 25 := (Blk.new _ _ _).setRow _
  have H7 := H6.below b7 H6.lt
  have Z7 := Z6.below b7 Z6.lt
  have S7 := S6.below b7
  have T7 := T6.bel b7
  have K7 := (K5b.trans K6).trans (Keep.of b7 g g)
  try rw [lab00]
  clear H5 Z5 T5 S5 K5b H6 Z6 T6 S6 K6 b7 hp HNX hlab
  generalize (w6.alloc _).setRow _ _ = W7 at *
  generalize w6.heap.size = g9 at *
  have c1 : W7.cell? ⟨g3, 1, none⟩ = some (.slice none 0 0) := H7.cell 1
  have f1 : W7.frozen? ⟨g3, 1, none⟩ = false := H7.free 1
  go_upto_region 16 with (fail)
  clear c1 f1
  have H8 : Blk (W7.setCell ⟨g3, 1, none⟩ (.slice al L.length cl)) g3 (recC ⟨(k : Int), L, -1, 0, 0⟩ (.slice al L.length cl)) 27 := H7.put 1 _
  have Z8 := Z7.other g3 1 (.slice al L.length cl) (by omega)
  have L8 := L7.other g3 1 (.slice al L.length cl) (by omega)
  have B8 := (Below.refl w.heap.size W7).setCell (p := ⟨g3, 1, none⟩) (by show w.heap.size ≤ g3; omega) (.slice al L.length cl)
  have T8 := told_setCell T7 H7 (noIt_rec _ _) 1 (.slice al L.length cl)
  have S8 := S7.belowB B8 hg0
  have K8 := K7.thenB B8
  clear H7 Z7 L7 T7 S7 K7 B8
  generalize W7.setCell _ _ = W8 at *
  go_upto_region 17 with (first
    | (refine p_loadL rfl _ rfl g9 rfl nl nb L8 ?_)
    | (refine p_storeMid rfl _ _ rfl g3 rfl nl nb rfl ⟨(k : Int), L, -1, 0, 0⟩ (.slice al L.length cl) H8 ?_))
  have B9 := bel_midL (Below.refl w.heap.size W8) (show w.heap.size ≤ g3 by omega) nl nb
  have H9 := blk_midL H8 nl nb
  have Z9 : Blk (W8.setCells g3 2 (labc nl nb).toList) w.heap.size (recC zeroR (.slice none 0 0)) 27 := (Z8.other g3 2 (.int .i64 nl) (by omega)).other g3 3 (.int .u64 (nb : Int)) (by omega)
  have T9 := told_midL T8 H8 nl nb
  have S9 := S8.belowB B9 hg0
  have K9 := K8.thenB B9
  clear H8 Z8 L8 T8 S8 K8 B9
  generalize W8.setCells _ _ _ = W9 at *
  have c0 : W9.cell? ⟨g3, 0, none⟩ = some (.int .i64 (k : Int)) := H9.cell 0
  go_wp2_with (first
    | (refine p_loadR rfl _ rfl g3 rfl ⟨(k : Int), L, nl, nb, 0⟩ (.slice al L.length cl) H9 ?_)
    | (refine p_storeR rfl _ _ rfl w.heap.size rfl ⟨(k : Int), L, nl, nb, 0⟩ (.slice al L.length cl) rfl rfl zeroR (.slice none 0 0) Z9 ?_))
  exact bodyPost_ret (results_rec2 Try.results48 _ _ w.heap.size _ _ _ rfl rfl (Z9.setRow _)) rfl (rget_ok HX.out (told_setRow T9 Z9 (noIt_rec _ _) _) (S9.belowB (bel_setRow (Below.refl w.heap.size _) (Nat.le_refl _) _) hg0) (K9.thenB (bel_setRow (Below.refl w.heap.size _) (Nat.le_refl _) _)))

set_option maxHeartbeats 4000000 in
theorem rgetc_mark {w : World} {g k : Nat} {b : List Nat} {p : Nat} (k0 : Sr w g (b.drop p)) (hb : ∀ x ∈ b, x < 256) (hz : b.length ≤ 1000000) {q : Nat} (hk : k = 5) (hn : rdN b p = .ok (k, q)) {q2 q3 e : Nat} {L : List It} {nl : Int} {nb : Nat} (hi : rdIs b q = .ok (L, q2)) (hx : rdX b q2 = .ok ((nl, nb), q3)) (hm : rdN b q3 = .error e) :
    Calls Try.prog 48 #[.pointer (some ⟨g, 0, none⟩)] w (RGet g b w (rdR b p)) := by
  have hg0 := k0.lt
  have HN := refnone_open
  have HBA := bare_any (k : Int)
  have Z0 := Blk.new w (recC zeroR (.slice none 0 0)) 27
  have B0 := (Below.refl w.heap.size w).alloc (Nat.le_refl _) (.cells (recC zeroR (.slice none 0 0)) 27)
  have S0 := k0.below B0
  have K0 := Lib.hid (Keep.of B0 g g)
  clear k0
  have HC := Lib.hid (rnum_ok g hb hz hn _ S0)
  have HX : Hid (rdR b p = .error e) := by
    unfold Hid rdR
    rw [hn]
    simp only
    rw [if_neg (by omega), if_pos (by omega), hi]
    simp only
    rw [hx]
    simp only
    rw [rdM, if_pos (by omega), hm]
  have hbb : bareB (k : Int) = false := by subst hk; rfl
  rw [hbb] at HBA
  have d1 : decide (k < 1) = false := decide_eq_false (by omega)
  have d1i : decide ((k : Int) < 1) = false := decide_eq_false (by omega)
  have d5 : decide (5 < k) = false := decide_eq_false (by omega)
  have d5i : decide (5 < (k : Int)) = false := decide_eq_false (by omega)
  have g1 : ¬ (k : Int) < 1 := by omega
  have g5 : ¬ 5 < (k : Int) := by omega
  have hcv : IntKind.i64.wrap (k : Int) = (k : Int) := IntWalk.i64_in _ (by omega)
  have t5 : ((k : Int) == 5) = true := by simp; omega
  clear hn S0 hk hbb
  generalize rdR b p = X at *
  go_enter Try.func48, Try.ntmps48
  go_upto_region 1 with (fail)
  rw [zero_rec]
  have hsz : w.heap.size < (w.alloc (.cells (recC zeroR (.slice none 0 0)) 27)).heap.size := by simp
  generalize w.alloc _ = W at *
  go_upto_region 6 with (go_at_call 88; (with_reducible refine HC.out.mono ?_); rintro e1 w1 ⟨rfl, hs1, hk1⟩; have Z1 := Z0.keep hk1 (by omega) (by omega))
  have K1 := Lib.hid (K0.out.trans hk1)
  clear hk1 Z0 HC
  go_upto_region 7 with (first
    | (go_at_call 41; (with_reducible refine (HN.calls _).mono ?_); rintro e1 w2 ⟨rfl, hb2⟩)
    | (refine p_storeR rfl _ _ rfl w2.heap.size rfl ⟨(k : Int), [], -1, 0, 0⟩ (.slice none 0 0) rfl rfl zeroR (.slice none 0 0) (Blk.new _ _ _) ?_))
  have b3 : Below w2.heap.size w2 ((w2.alloc (.cells (recC zeroR (.slice none 0 0)) 27)).setRow w2.heap.size (recC ⟨(k : Int), [], -1, 0, 0⟩ (.slice none 0 0))) := bel_setRow ((Below.refl _ _).alloc (Nat.le_refl _) _) (Nat.le_refl _) _
  have H3 : Blk ((w2.alloc (.cells (recC zeroR (.slice none 0 0)) 27)).setRow w2.heap.size (recC ⟨(k : Int), [], -1, 0, 0⟩ (.slice none 0 0))) w2.heap.size (recC ⟨(k : Int), [], -1, 0, 0⟩ (.slice none 0 0)) 27 := (Blk.new _ _ _).setRow _
  have hgt : w.heap.size < w2.heap.size := by have := Z1.lt; have := hb2.size; omega
  have Z3 := (Z1.below hb2 Z1.lt).below b3 (Z1.below hb2 Z1.lt).lt
  have S3 := (hs1.below hb2).below b3
  have K3 := (K1.out.trans (Keep.of hb2 g g)).trans (Keep.of b3 g g)
  try rw [zero_rec]
  clear Z1 hb2 b3 hs1 K1 HN hsz
  generalize (w2.alloc _).setRow _ _ = W3 at *
  generalize w2.heap.size = g3 at *
  have c0 : W3.cell? ⟨g3, 0, none⟩ = some (.int .i64 (k : Int)) := H3.cell 0
  go_upto_region 9 with (go_at_call 39; (with_reducible refine (HBA.calls _).mono ?_); rintro e1 w4 ⟨rfl, hb4⟩)
  have H4 := H3.below hb4 H3.lt
  have Z4 := Z3.below hb4 Z3.lt
  have S4 := S3.below hb4
  have K4 := K3.trans (Keep.of hb4 g g)
  clear H3 Z3 S3 K3 hb4 c0 HBA
  have HIT := Lib.hid (refitems_any S4 hb hz)
  go_upto_region 12 with (go_at_call 89; (with_reducible refine HIT.out.mono ?_); rintro e1 w5 hp; obtain ⟨v, rfl, T5, S5⟩ := hp.ok _ _ hi; have K5 := hp.keep; obtain ⟨al, cl, rfl⟩ := told_shape T5)
  have H5 := H4.keep K5 (by omega) (by omega)
  have Z5 := Z4.keep K5 (by omega) (by omega)
  have K5b := K4.trans K5
  clear H4 Z4 S4 K4 K5 HIT hp
  have HNX := Lib.hid (refnext_any S5 hb hz)
  have hlab : labc nl nb = labc nl nb := rfl
  go_upto_region 15 with (first
    | (go_at_call 90; (with_reducible refine HNX.out.mono ?_); rintro e1 w6 hp; obtain ⟨rfl, S6⟩ := hp.ok _ _ _ hx; have K6 := hp.keep; have H6 := H5.keep K6 (by omega) (by omega); have Z6 := Z5.keep K6 (by omega) (by omega); have T6 := told_keepS T5 S5 K6; have hlt6 := H6.lt)
    | (refine p_storeL rfl _ _ rfl w6.heap.size rfl nl nb rfl 0 0 (Blk.new _ _ _) ?_))
  have b7 : Below w6.heap.size w6 ((w6.alloc (.cells (labc 0 0) 25)).setRow w6.heap.size (labc nl nb)) := bel_setRow ((Below.refl _ _).alloc (Nat.le_refl _) _) (Nat.le_refl _) _
  have L7 : Blk ((w6.alloc (.cells (labc 0 0) 25)).setRow w6.heap.size (labc nl nb)) w6.heap.size (labc nl nb) 25 := (Blk.new _ _ _).setRow _
  have H7 := H6.below b7 H6.lt
  have Z7 := Z6.below b7 Z6.lt
  have S7 := S6.below b7
  have T7 := T6.bel b7
  have K7 := (K5b.trans K6).trans (Keep.of b7 g g)
  try rw [lab00]
  clear H5 Z5 T5 S5 K5b H6 Z6 T6 S6 K6 b7 hp HNX hlab
  generalize (w6.alloc _).setRow _ _ = W7 at *
  generalize w6.heap.size = g9 at *
  have c1 : W7.cell? ⟨g3, 1, none⟩ = some (.slice none 0 0) := H7.cell 1
  have f1 : W7.frozen? ⟨g3, 1, none⟩ = false := H7.free 1
  go_upto_region 16 with (fail)
  clear c1 f1
  have H8 : Blk (W7.setCell ⟨g3, 1, none⟩ (.slice al L.length cl)) g3 (recC ⟨(k : Int), L, -1, 0, 0⟩ (.slice al L.length cl)) 27 := H7.put 1 _
  have Z8 := Z7.other g3 1 (.slice al L.length cl) (by omega)
  have L8 := L7.other g3 1 (.slice al L.length cl) (by omega)
  have B8 := (Below.refl w.heap.size W7).setCell (p := ⟨g3, 1, none⟩) (by show w.heap.size ≤ g3; omega) (.slice al L.length cl)
  have T8 := told_setCell T7 H7 (noIt_rec _ _) 1 (.slice al L.length cl)
  have S8 := S7.belowB B8 hg0
  have K8 := K7.thenB B8
  clear H7 Z7 L7 T7 S7 K7 B8
  generalize W7.setCell _ _ = W8 at *
  go_upto_region 17 with (first
    | (refine p_loadL rfl _ rfl g9 rfl nl nb L8 ?_)
    | (refine p_storeMid rfl _ _ rfl g3 rfl nl nb rfl ⟨(k : Int), L, -1, 0, 0⟩ (.slice al L.length cl) H8 ?_))
  have B9 := bel_midL (Below.refl w.heap.size W8) (show w.heap.size ≤ g3 by omega) nl nb
  have H9 := blk_midL H8 nl nb
  have Z9 : Blk (W8.setCells g3 2 (labc nl nb).toList) w.heap.size (recC zeroR (.slice none 0 0)) 27 := (Z8.other g3 2 (.int .i64 nl) (by omega)).other g3 3 (.int .u64 (nb : Int)) (by omega)
  have T9 := told_midL T8 H8 nl nb
  have S9 := S8.belowB B9 hg0
  have K9 := K8.thenB B9
  clear H8 Z8 L8 T8 S8 K8 B9
  generalize W8.setCells _ _ _ = W9 at *
  have c0 : W9.cell? ⟨g3, 0, none⟩ = some (.int .i64 (k : Int)) := H9.cell 0
  obtain ⟨he, v2, m2, hC⟩ := rnum_no g hb hz hm
  have HC := Lib.hid (hC _ S9)
  have hd : ((e : Int) != 0) = true := by simp; omega
  have HE := Lib.hid he
  clear hC he hm
  go_wp2_with (first
    | (go_at_call 88; (with_reducible refine HC.out.mono ?_); rintro e1 w10 ⟨rfl, hs10, hk10⟩; have Z10 := Z9.keep hk10 (by omega) (by omega))
    | (refine p_storeR rfl _ _ rfl w.heap.size rfl zeroR (.slice none 0 0) rfl rfl zeroR (.slice none 0 0) Z10 ?_))
  exact bodyPost_ret (results_rec2 Try.results48 _ _ w.heap.size zeroR (.slice none 0 0) _ rfl rfl (Z10.setRow _)) rfl (rget_no HX.out HE.out ((K9.trans hk10).thenB (bel_setRow (Below.refl _ _) (Nat.le_refl _) _)))

set_option maxHeartbeats 4000000 in
theorem rgetc_all {w : World} {g k : Nat} {b : List Nat} {p : Nat} (k0 : Sr w g (b.drop p)) (hb : ∀ x ∈ b, x < 256) (hz : b.length ≤ 1000000) {q : Nat} (hk : k = 5) (hn : rdN b p = .ok (k, q)) {q2 q3 q4 m : Nat} {L : List It} {nl : Int} {nb : Nat} (hi : rdIs b q = .ok (L, q2)) (hx : rdX b q2 = .ok ((nl, nb), q3)) (hm : rdN b q3 = .ok (m, q4)) :
    Calls Try.prog 48 #[.pointer (some ⟨g, 0, none⟩)] w (RGet g b w (rdR b p)) := by
  have hg0 := k0.lt
  have HN := refnone_open
  have HBA := bare_any (k : Int)
  have Z0 := Blk.new w (recC zeroR (.slice none 0 0)) 27
  have B0 := (Below.refl w.heap.size w).alloc (Nat.le_refl _) (.cells (recC zeroR (.slice none 0 0)) 27)
  have S0 := k0.below B0
  have K0 := Lib.hid (Keep.of B0 g g)
  clear k0
  have HC := Lib.hid (rnum_ok g hb hz hn _ S0)
  have HX : Hid (rdR b p = .ok (⟨(k : Int), L, nl, nb, m⟩, q4)) := by
    unfold Hid rdR
    rw [hn]
    simp only
    rw [if_neg (by omega), if_pos (by omega), hi]
    simp only
    rw [hx]
    simp only
    rw [rdM, if_pos (by omega), hm]
  have hbb : bareB (k : Int) = false := by subst hk; rfl
  rw [hbb] at HBA
  have d1 : decide (k < 1) = false := decide_eq_false (by omega)
  have d1i : decide ((k : Int) < 1) = false := decide_eq_false (by omega)
  have d5 : decide (5 < k) = false := decide_eq_false (by omega)
  have d5i : decide (5 < (k : Int)) = false := decide_eq_false (by omega)
  have g1 : ¬ (k : Int) < 1 := by omega
  have g5 : ¬ 5 < (k : Int) := by omega
  have hcv : IntKind.i64.wrap (k : Int) = (k : Int) := IntWalk.i64_in _ (by omega)
  have t5 : ((k : Int) == 5) = true := by simp; omega
  clear hn S0 hk hbb
  generalize rdR b p = X at *
  go_enter Try.func48, Try.ntmps48
  go_upto_region 1 with (fail)
  rw [zero_rec]
  have hsz : w.heap.size < (w.alloc (.cells (recC zeroR (.slice none 0 0)) 27)).heap.size := by simp
  generalize w.alloc _ = W at *
  go_upto_region 6 with (go_at_call 88; (with_reducible refine HC.out.mono ?_); rintro e1 w1 ⟨rfl, hs1, hk1⟩; have Z1 := Z0.keep hk1 (by omega) (by omega))
  have K1 := Lib.hid (K0.out.trans hk1)
  clear hk1 Z0 HC
  go_upto_region 7 with (first
    | (go_at_call 41; (with_reducible refine (HN.calls _).mono ?_); rintro e1 w2 ⟨rfl, hb2⟩)
    | (refine p_storeR rfl _ _ rfl w2.heap.size rfl ⟨(k : Int), [], -1, 0, 0⟩ (.slice none 0 0) rfl rfl zeroR (.slice none 0 0) (Blk.new _ _ _) ?_))
  have b3 : Below w2.heap.size w2 ((w2.alloc (.cells (recC zeroR (.slice none 0 0)) 27)).setRow w2.heap.size (recC ⟨(k : Int), [], -1, 0, 0⟩ (.slice none 0 0))) := bel_setRow ((Below.refl _ _).alloc (Nat.le_refl _) _) (Nat.le_refl _) _
  have H3 : Blk ((w2.alloc (.cells (recC zeroR (.slice none 0 0)) 27)).setRow w2.heap.size (recC ⟨(k : Int), [], -1, 0, 0⟩ (.slice none 0 0))) w2.heap.size (recC ⟨(k : Int), [], -1, 0, 0⟩ (.slice none 0 0)) 27 := (Blk.new _ _ _).setRow _
  have hgt : w.heap.size < w2.heap.size := by have := Z1.lt; have := hb2.size; omega
  have Z3 := (Z1.below hb2 Z1.lt).below b3 (Z1.below hb2 Z1.lt).lt
  have S3 := (hs1.below hb2).below b3
  have K3 := (K1.out.trans (Keep.of hb2 g g)).trans (Keep.of b3 g g)
  try rw [zero_rec]
  clear Z1 hb2 b3 hs1 K1 HN hsz
  generalize (w2.alloc _).setRow _ _ = W3 at *
  generalize w2.heap.size = g3 at *
  have c0 : W3.cell? ⟨g3, 0, none⟩ = some (.int .i64 (k : Int)) := H3.cell 0
  go_upto_region 9 with (go_at_call 39; (with_reducible refine (HBA.calls _).mono ?_); rintro e1 w4 ⟨rfl, hb4⟩)
  have H4 := H3.below hb4 H3.lt
  have Z4 := Z3.below hb4 Z3.lt
  have S4 := S3.below hb4
  have K4 := K3.trans (Keep.of hb4 g g)
  clear H3 Z3 S3 K3 hb4 c0 HBA
  have HIT := Lib.hid (refitems_any S4 hb hz)
  go_upto_region 12 with (go_at_call 89; (with_reducible refine HIT.out.mono ?_); rintro e1 w5 hp; obtain ⟨v, rfl, T5, S5⟩ := hp.ok _ _ hi; have K5 := hp.keep; obtain ⟨al, cl, rfl⟩ := told_shape T5)
  have H5 := H4.keep K5 (by omega) (by omega)
  have Z5 := Z4.keep K5 (by omega) (by omega)
  have K5b := K4.trans K5
  clear H4 Z4 S4 K4 K5 HIT hp
  have HNX := Lib.hid (refnext_any S5 hb hz)
  have hlab : labc nl nb = labc nl nb := rfl
  go_upto_region 15 with (first
    | (go_at_call 90; (with_reducible refine HNX.out.mono ?_); rintro e1 w6 hp; obtain ⟨rfl, S6⟩ := hp.ok _ _ _ hx; have K6 := hp.keep; have H6 := H5.keep K6 (by omega) (by omega); have Z6 := Z5.keep K6 (by omega) (by omega); have T6 := told_keepS T5 S5 K6; have hlt6 := H6.lt)
    | (refine p_storeL rfl _ _ rfl w6.heap.size rfl nl nb rfl 0 0 (Blk.new _ _ _) ?_))
  have b7 : Below w6.heap.size w6 ((w6.alloc (.cells (labc 0 0) 25)).setRow w6.heap.size (labc nl nb)) := bel_setRow ((Below.refl _ _).alloc (Nat.le_refl _) _) (Nat.le_refl _) _
  have L7 : Blk ((w6.alloc (.cells (labc 0 0) 25)).setRow w6.heap.size (labc nl nb)) w6.heap.size (labc nl nb) 25 := (Blk.new _ _ _).setRow _
  have H7 := H6.below b7 H6.lt
  have Z7 := Z6.below b7 Z6.lt
  have S7 := S6.below b7
  have T7 := T6.bel b7
  have K7 := (K5b.trans K6).trans (Keep.of b7 g g)
  try rw [lab00]
  clear H5 Z5 T5 S5 K5b H6 Z6 T6 S6 K6 b7 hp HNX hlab
  generalize (w6.alloc _).setRow _ _ = W7 at *
  generalize w6.heap.size = g9 at *
  have c1 : W7.cell? ⟨g3, 1, none⟩ = some (.slice none 0 0) := H7.cell 1
  have f1 : W7.frozen? ⟨g3, 1, none⟩ = false := H7.free 1
  go_upto_region 16 with (fail)
  clear c1 f1
  have H8 : Blk (W7.setCell ⟨g3, 1, none⟩ (.slice al L.length cl)) g3 (recC ⟨(k : Int), L, -1, 0, 0⟩ (.slice al L.length cl)) 27 := H7.put 1 _
  have Z8 := Z7.other g3 1 (.slice al L.length cl) (by omega)
  have L8 := L7.other g3 1 (.slice al L.length cl) (by omega)
  have B8 := (Below.refl w.heap.size W7).setCell (p := ⟨g3, 1, none⟩) (by show w.heap.size ≤ g3; omega) (.slice al L.length cl)
  have T8 := told_setCell T7 H7 (noIt_rec _ _) 1 (.slice al L.length cl)
  have S8 := S7.belowB B8 hg0
  have K8 := K7.thenB B8
  clear H7 Z7 L7 T7 S7 K7 B8
  generalize W7.setCell _ _ = W8 at *
  go_upto_region 17 with (first
    | (refine p_loadL rfl _ rfl g9 rfl nl nb L8 ?_)
    | (refine p_storeMid rfl _ _ rfl g3 rfl nl nb rfl ⟨(k : Int), L, -1, 0, 0⟩ (.slice al L.length cl) H8 ?_))
  have B9 := bel_midL (Below.refl w.heap.size W8) (show w.heap.size ≤ g3 by omega) nl nb
  have H9 := blk_midL H8 nl nb
  have Z9 : Blk (W8.setCells g3 2 (labc nl nb).toList) w.heap.size (recC zeroR (.slice none 0 0)) 27 := (Z8.other g3 2 (.int .i64 nl) (by omega)).other g3 3 (.int .u64 (nb : Int)) (by omega)
  have T9 := told_midL T8 H8 nl nb
  have S9 := S8.belowB B9 hg0
  have K9 := K8.thenB B9
  clear H8 Z8 L8 T8 S8 K8 B9
  generalize W8.setCells _ _ _ = W9 at *
  have c0 : W9.cell? ⟨g3, 0, none⟩ = some (.int .i64 (k : Int)) := H9.cell 0
  have HC := Lib.hid (rnum_ok g hb hz hm _ S9)
  have c4 : ∀ w8, Keep W9 w8 g g → w8.cell? ⟨g3, 4, none⟩ = some (.int .u64 0) ∧ w8.frozen? ⟨g3, 4, none⟩ = false := fun w8 hk => ⟨(H9.keep hk (by omega) (by omega)).cell 4, (H9.keep hk (by omega) (by omega)).free 4⟩
  clear hm
  go_upto_region 22 with (go_at_call 88; (with_reducible refine HC.out.mono ?_); rintro e1 w10 ⟨rfl, S10, K10⟩; obtain ⟨d41, d42⟩ := c4 _ K10)
  clear c4 d41 d42 c0
  have H10 := H9.keep K10 (by omega) (by omega)
  have Z10 := Z9.keep K10 (by omega) (by omega)
  have T10 := told_keepS T9 S9 K10
  have B11 := (Below.refl w.heap.size w10).setCell (p := ⟨g3, 4, none⟩) (by show w.heap.size ≤ g3; omega) (.int .u64 (m : Int))
  have H11 : Blk (w10.setCell ⟨g3, 4, none⟩ (.int .u64 (m : Int))) g3 (recC ⟨(k : Int), L, nl, nb, m⟩ (.slice al L.length cl)) 27 := H10.put 4 _
  have Z11 := Z10.other g3 4 (.int .u64 (m : Int)) (by omega)
  have T11 := told_setCell T10 H10 (noIt_rec _ _) 4 (.int .u64 (m : Int))
  have S11 := S10.belowB B11 hg0
  have K11 := (K9.trans K10).thenB B11
  clear H9 Z9 T9 S9 K9 H10 Z10 T10 S10 K10 B11 HC
  generalize w10.setCell _ _ = W11 at *
  go_wp2_with (first
    | (refine p_loadR rfl _ rfl g3 rfl ⟨(k : Int), L, nl, nb, m⟩ (.slice al L.length cl) H11 ?_)
    | (refine p_storeR rfl _ _ rfl w.heap.size rfl ⟨(k : Int), L, nl, nb, m⟩ (.slice al L.length cl) rfl rfl zeroR (.slice none 0 0) Z11 ?_))
  exact bodyPost_ret (results_rec2 Try.results48 _ _ w.heap.size _ _ _ rfl rfl (Z11.setRow _)) rfl (rget_ok HX.out (told_setRow T11 Z11 (noIt_rec _ _) _) (S11.belowB (bel_setRow (Below.refl w.heap.size _) (Nat.le_refl _) _) hg0) (K11.thenB (bel_setRow (Below.refl w.heap.size _) (Nat.le_refl _) _)))
end Go.Proofs.Ytkicndengkcojaa
