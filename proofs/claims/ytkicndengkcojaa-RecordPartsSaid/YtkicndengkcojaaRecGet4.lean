/- What bytes are read as: Get. -/
import Derived.Test.YtkicndengkcojaaRecGet3
namespace Go.Proofs.Ytkicndengkcojaa
set_option maxRecDepth 100000
open Go Go.RowKit Go.Sort

theorem get_whole {w : World} {g h c : Nat} {s : ByteArray} {p : Nat} (k0 : Rd w g h c s p) (hs : s.size ≤ 1000000) :
    Calls Try.prog 46 #[.pointer (some ⟨g, 0, none⟩)] w (GetPost w g h c s (rdR (bytesN s) p)) := by
  cases hn : rdN (bytesN s) p with
  | error e => exact getc_err k0 hs hn
  | ok r =>
    obtain ⟨k, q⟩ := r
    by_cases h2 : k = 2
    · exact getc_2 k0 hs h2 hn
    by_cases h4 : k = 4
    · exact getc_4 k0 hs h4 hn
    by_cases h5 : 1 ≤ k ∧ k ≤ 5
    · cases hi : rdIs (bytesN s) q with
      | error e =>
        rcases (by omega : k = 1 ∨ k = 3 ∨ k = 5) with h | h | h
        · exact getc_1_items k0 hs h hn hi
        · exact getc_3_items k0 hs h hn hi
        · exact getc_5_items k0 hs h hn hi
      | ok r =>
        obtain ⟨L, q2⟩ := r
        cases hx : rdX (bytesN s) q2 with
        | error e =>
          rcases (by omega : k = 1 ∨ k = 3 ∨ k = 5) with h | h | h
          · exact getc_1_next k0 hs h hn hi hx
          · exact getc_3_next k0 hs h hn hi hx
          · exact getc_5_next k0 hs h hn hi hx
        | ok r =>
          obtain ⟨⟨nl, nb⟩, q3⟩ := r
          rcases (by omega : k = 1 ∨ k = 3 ∨ k = 5) with h | h | h
          · exact getc_1_ok k0 hs h hn hi hx
          · exact getc_3_ok k0 hs h hn hi hx
          · cases hm : rdN (bytesN s) q3 with
            | error e => exact getc_5_mark k0 hs h hn hi hx hm
            | ok r => exact getc_5_ok k0 hs h hn hi hx hm
    · exact getc_other k0 hs h5 hn
def valX (X : Except Nat Rc) : Rc := match X with
  | .ok r => r
  | .error _ => zeroR
def errX (X : Except Nat Rc) : Nat := match X with
  | .ok _ => 0
  | .error e => e
def getV (s : ByteArray) : Rc := valX (getR (bytesN s))
def getE (s : ByteArray) : Nat := errX (getR (bytesN s))

theorem getc_no {w : World} {gs : Nat} {s : ByteArray} {e : Nat} (hg : Blk w gs #[.string s] 9) (hs : s.size ≤ 1000000) (hX : rdR (bytesN s) 0 = .error e) :
    Calls Try.prog 44 #[.pointer (some ⟨gs, 0, none⟩)] w fun r w' => r = Pan e ∧ Below w.heap.size w w' := by
  have c0 : w.cell? ⟨gs, 0, none⟩ = some (.string s) := hg.cell 0
  have Z0 := Blk.new w (recC zeroR (.slice none 0 0)) 27
  have B0 := (Below.refl w.heap.size w).alloc (Nat.le_refl _) (.cells (recC zeroR (.slice none 0 0)) 27)
  have d0 : (w.alloc (.cells (recC zeroR (.slice none 0 0)) 27)).cell? ⟨gs, 0, none⟩ = some (.string s) := (hg.below B0 hg.lt).cell 0
  clear c0 hg
  go_enter Try.func44, Try.ntmps44
  go_upto_region 1 with (fail)
  rw [zero_rec]
  have hsz : w.heap.size < (w.alloc (.cells (recC zeroR (.slice none 0 0)) 27)).heap.size := by simp
  generalize w.alloc _ = W at *
  have HNW := Lib.hid (new_any s W)
  go_upto_region 2 with (go_at_call 45; (with_reducible refine HNW.out.mono ?_); rintro e1 w1 ⟨c, rfl, R1, hb1⟩)
  have Z1 := Z0.below hb1 Z0.lt
  have B1 := rstep B0 hb1
  have HG := Lib.hid (get_whole R1 hs)
  clear HNW Z0 d0
  go_wp2_with (go_at_call 46; (with_reducible refine HG.out.mono ?_); rintro e1 w2 hp; have he := hp.no _ hX; rw [pan_eq] at he; subst he)
  have hk := hp.keep
  exact ⟨rfl, rfl, B1.trans ⟨hk.os, hk.tape, hk.output, hk.size, fun j hj => hk.block j (by have := B1.size; omega) (by omega) (by omega)⟩⟩
set_option maxHeartbeats 1000000 in
theorem getc_more {w : World} {gs : Nat} {s : ByteArray} {r : Rc} {q : Nat} (hg : Blk w gs #[.string s] 9) (hs : s.size ≤ 1000000) (hX : rdR (bytesN s) 0 = .ok (r, q)) (hq : q < s.size) :
    Calls Try.prog 44 #[.pointer (some ⟨gs, 0, none⟩)] w fun r w' => r = Pan 3 ∧ Below w.heap.size w w' := by
  have c0 : w.cell? ⟨gs, 0, none⟩ = some (.string s) := hg.cell 0
  have Z0 := Blk.new w (recC zeroR (.slice none 0 0)) 27
  have B0 := (Below.refl w.heap.size w).alloc (Nat.le_refl _) (.cells (recC zeroR (.slice none 0 0)) 27)
  have d0 : (w.alloc (.cells (recC zeroR (.slice none 0 0)) 27)).cell? ⟨gs, 0, none⟩ = some (.string s) := (hg.below B0 hg.lt).cell 0
  clear c0 hg
  go_enter Try.func44, Try.ntmps44
  go_upto_region 1 with (fail)
  rw [zero_rec]
  have hsz : w.heap.size < (w.alloc (.cells (recC zeroR (.slice none 0 0)) 27)).heap.size := by simp
  generalize w.alloc _ = W at *
  have HNW := Lib.hid (new_any s W)
  go_upto_region 2 with (go_at_call 45; (with_reducible refine HNW.out.mono ?_); rintro e1 w1 ⟨c, rfl, R1, hb1⟩)
  have Z1 := Z0.below hb1 Z0.lt
  have B1 := rstep B0 hb1
  have HG := Lib.hid (get_whole R1 hs)
  clear HNW Z0 d0
  go_upto_region 3 with (first
    | (go_at_call 46; (with_reducible refine HG.out.mono ?_); rintro e1 w2 hp; obtain ⟨u, rfl, T2, R2⟩ := hp.ok _ _ hX; have hk := hp.keep; have hone := told_one T2)
    | (refine p_storeR rfl _ _ rfl w2.heap.size rfl r u rfl hone zeroR (.slice none 0 0) (Blk.new _ _ _) ?_))
  have B2 : Below w.heap.size w w2 := B1.trans ⟨hk.os, hk.tape, hk.output, hk.size, fun j hj => hk.block j (by have := B1.size; omega) (by omega) (by omega)⟩
  have b3 : Below w2.heap.size w2 ((w2.alloc (.cells (recC zeroR (.slice none 0 0)) 27)).setRow w2.heap.size (recC r u)) := bel_setRow ((Below.refl _ _).alloc (Nat.le_refl _) _) (Nat.le_refl _) _
  have R3 := R2.below b3
  have B3 := rstep B2 b3
  try rw [zero_rec]
  clear b3 R2 B2 T2 Z1 B1 hk hp HG R1 hb1 hone
  generalize (w2.alloc _).setRow _ _ = W3 at *
  have HL := Lib.hid (left_any R3 hs)
  obtain ⟨m, hm⟩ : ∃ m, m = s.size - q := ⟨_, rfl⟩
  rw [← hm] at HL
  have hd : decide ((0 : Int) < (m : Int)) = true := decide_eq_true (by omega)
  have hd2 : decide (0 < m) = true := decide_eq_true (by omega)
  clear hm R3 hq
  go_wp2_with (first
    | (go_at_call 47; (with_reducible refine HL.out.mono ?_); rintro e1 w4 ⟨rfl, hb4⟩)
    | (go_at_call 34; (with_reducible refine (refuse_3 _).mono ?_); rintro e1 w5 ⟨he, rfl⟩; rw [pan_eq] at he; subst he))
  exact ⟨rfl, rfl, rstep B3 hb4⟩
set_option maxHeartbeats 1000000 in
theorem getc_ok {w : World} {gs : Nat} {s : ByteArray} {r : Rc} {q : Nat} (hg : Blk w gs #[.string s] 9) (hs : s.size ≤ 1000000) (hX : rdR (bytesN s) 0 = .ok (r, q)) (hq : ¬ q < s.size) :
    Calls Try.prog 44 #[.pointer (some ⟨gs, 0, none⟩)] w fun e w' => ∃ u, e = .returned (.agg (recC r u)) ∧ Told w' u r.items ∧ Below w.heap.size w w' := by
  have c0 : w.cell? ⟨gs, 0, none⟩ = some (.string s) := hg.cell 0
  have Z0 := Blk.new w (recC zeroR (.slice none 0 0)) 27
  have B0 := (Below.refl w.heap.size w).alloc (Nat.le_refl _) (.cells (recC zeroR (.slice none 0 0)) 27)
  have d0 : (w.alloc (.cells (recC zeroR (.slice none 0 0)) 27)).cell? ⟨gs, 0, none⟩ = some (.string s) := (hg.below B0 hg.lt).cell 0
  clear c0 hg
  go_enter Try.func44, Try.ntmps44
  go_upto_region 1 with (fail)
  rw [zero_rec]
  have hsz : w.heap.size < (w.alloc (.cells (recC zeroR (.slice none 0 0)) 27)).heap.size := by simp
  generalize w.alloc _ = W at *
  have HNW := Lib.hid (new_any s W)
  go_upto_region 2 with (go_at_call 45; (with_reducible refine HNW.out.mono ?_); rintro e1 w1 ⟨c, rfl, R1, hb1⟩)
  have Z1 := Z0.below hb1 Z0.lt
  have B1 := rstep B0 hb1
  have HG := Lib.hid (get_whole R1 hs)
  clear HNW Z0 d0
  go_upto_region 3 with (first
    | (go_at_call 46; (with_reducible refine HG.out.mono ?_); rintro e1 w2 hp; obtain ⟨u, rfl, T2, R2⟩ := hp.ok _ _ hX; have hk := hp.keep; have hone := told_one T2)
    | (refine p_storeR rfl _ _ rfl w2.heap.size rfl r u rfl hone zeroR (.slice none 0 0) (Blk.new _ _ _) ?_))
  have B2 : Below w.heap.size w w2 := B1.trans ⟨hk.os, hk.tape, hk.output, hk.size, fun j hj => hk.block j (by have := B1.size; omega) (by omega) (by omega)⟩
  have Z2 := Z1.keep hk (by omega) (by omega)
  have b3 : Below w2.heap.size w2 ((w2.alloc (.cells (recC zeroR (.slice none 0 0)) 27)).setRow w2.heap.size (recC r u)) := bel_setRow ((Below.refl _ _).alloc (Nat.le_refl _) _) (Nat.le_refl _) _
  have H3 : Blk ((w2.alloc (.cells (recC zeroR (.slice none 0 0)) 27)).setRow w2.heap.size (recC r u)) w2.heap.size (recC r u) 27 := (Blk.new _ _ _).setRow _
  have R3 := R2.below b3
  have Z3 := Z2.below b3 Z2.lt
  have T3 := T2.bel b3
  have B3 := rstep B2 b3
  try rw [zero_rec]
  clear b3 R2 B2 T2 Z1 Z2 B1 hk hp HG R1 hb1
  generalize (w2.alloc _).setRow _ _ = W3 at *
  have HL := Lib.hid (left_any R3 hs)
  obtain ⟨m, hm⟩ : ∃ m, m = s.size - q := ⟨_, rfl⟩
  rw [← hm] at HL
  have hd : decide ((0 : Int) < (m : Int)) = false := decide_eq_false (by omega)
  have hd2 : decide (0 < m) = false := decide_eq_false (by omega)
  clear hm R3 hq
  go_wp2_with (first
    | (go_at_call 47; (with_reducible refine HL.out.mono ?_); rintro e1 w4 ⟨rfl, hb4⟩; have H4 := H3.below hb4 H3.lt; have Z4 := Z3.below hb4 Z3.lt)
    | (go_at_call 34; (with_reducible refine (pass_3 _).mono ?_); rintro e1 w5 ⟨rfl, rfl⟩)
    | (refine p_loadR rfl _ rfl w2.heap.size rfl r u H4 ?_)
    | (refine p_storeR rfl _ _ rfl w.heap.size rfl r u rfl hone zeroR (.slice none 0 0) Z4 ?_))
  exact bodyPost_ret (results_rec1 Try.results44 _ _ w.heap.size _ _ rfl (Z4.setRow _)) rfl ⟨u, rfl, told_setRow (T3.bel hb4) Z4 (noIt_rec _ _) _, bel_setRow (rstep B3 hb4) (Nat.le_refl _) _⟩

theorem getg_any {w : World} {gs : Nat} {s : ByteArray} (hg : Blk w gs #[.string s] 9) (hs : s.size ≤ 1000000) :
    Calls Try.prog 43 #[.func (.func 44) #[] #[.pointer (some ⟨gs, 0, none⟩)]] w (TellsR w (getV s) (getE s)) := by
  unfold getV getE getR
  cases hX : rdR (bytesN s) 0 with
  | error e =>
    refine (guardGet_no _ e w fun w1 hb => getc_no (hg.below hb hg.lt) hs hX).mono ?_
    rintro e' w' ⟨he, hb⟩
    exact ⟨_, he, told_nil _, hb⟩
  | ok x =>
    obtain ⟨r, q⟩ := x
    simp only [bytesN_length]
    by_cases hq : q < s.size
    · rw [if_pos hq]
      refine (guardGet_no _ 3 w fun w1 hb => getc_more (hg.below hb hg.lt) hs hX hq).mono ?_
      rintro e' w' ⟨he, hb⟩
      exact ⟨_, he, told_nil _, hb⟩
    · rw [if_neg hq]
      exact guardGet_ok _ r w fun w1 hb => getc_ok (hg.below hb hg.lt) hs hX hq
set_option maxHeartbeats 1000000 in
theorem get_any (s : ByteArray) (w : World) (hs : s.size ≤ 1000000) : Calls Try.prog 12 #[.string s] w (TellsR w (getV s) (getE s)) := by
  have hmf : ∀ (fn : Fn) (first cap : Array Value) (w : World), (Instr.makeFunc fn first cap).run Try.prog w = .ok (.func fn first cap) w := fun _ _ _ _ => rfl
  have A0 := (Blk.new w #[.string s] 9).alloc (.cells (recC zeroR (.slice none 0 0)) 27)
  have Z0 := Blk.new (w.alloc (.cells #[.string s] 9)) (recC zeroR (.slice none 0 0)) 27
  rw [World.size_alloc] at Z0
  have B0 := ((Below.refl w.heap.size w).alloc (Nat.le_refl _) (.cells #[.string s] 9)).alloc (by simp) (.cells (recC zeroR (.slice none 0 0)) 27)
  have HG := Lib.hid (getg_any A0 hs)
  clear A0
  generalize getV s = V at *
  generalize getE s = E at *
  go_enter Try.func12, Try.ntmps12
  go_upto_region 1 with (fail)
  rw [zero_rec]
  generalize (w.alloc _).alloc _ = W at *
  go_wp2_with (first
    | (go_at_call 43; (with_reducible refine HG.out.mono ?_); rintro e w5 ⟨u2, rfl, hT5, hb5⟩; have Z5 := Z0.below hb5 Z0.lt; have hone := told_one hT5)
    | (refine p_storeR rfl _ _ rfl (w.heap.size + 1) rfl V u2 rfl hone zeroR (.slice none 0 0) Z5 ?_))
  exact bodyPost_ret (results_rec2 Try.results12 _ _ (w.heap.size + 1) V u2 _ rfl rfl (Z5.setRow _)) rfl ⟨u2, rfl, told_setRow hT5 Z5 (noIt_rec _ _) _, bel_setRow (rstep B0 hb5) (by omega) _⟩
end Go.Proofs.Ytkicndengkcojaa
