/- What the document's reader reads: get and Get, whole. -/
import Derived.Test.YtkicndengkcojaaRecRGet3
import Derived.Test.YtkicndengkcojaaPkB
import Derived.Test.YtkicndengkcojaaRecRec
namespace Go.Proofs.Ytkicndengkcojaa
set_option maxRecDepth 100000
open Go Go.RowKit Go.Sort

theorem rgetc_any {w : World} {g : Nat} {b : List Nat} {p : Nat} (k0 : Sr w g (b.drop p)) (hb : ∀ x ∈ b, x < 256) (hz : b.length ≤ 1000000) :
    Calls Try.prog 48 #[.pointer (some ⟨g, 0, none⟩)] w (RGet g b w (rdR b p)) := by
  cases hn : rdN b p with
  | error e => exact rgetc_err k0 hb hz hn
  | ok r =>
    obtain ⟨k, q⟩ := r
    by_cases h1 : k < 1
    · exact rgetc_lo k0 hb hz h1 hn
    by_cases h5 : 5 < k
    · exact rgetc_hi k0 hb hz h5 hn
    by_cases h24 : k = 2 ∨ k = 4
    · exact rgetc_bare k0 hb hz h24 hn
    have h135 : k = 1 ∨ k = 3 ∨ k = 5 := by omega
    cases hi : rdIs b q with
    | error e => exact rgetc_items k0 hb hz h135 hn hi
    | ok r =>
      obtain ⟨L, q2⟩ := r
      cases hx : rdX b q2 with
      | error e => exact rgetc_next k0 hb hz h135 hn hi hx
      | ok r =>
        obtain ⟨⟨nl, nb⟩, q3⟩ := r
        by_cases hk5 : k = 5
        · cases hm : rdN b q3 with
          | error e => exact rgetc_mark k0 hb hz hk5 hn hi hx hm
          | ok r => exact rgetc_all k0 hb hz hk5 hn hi hx hm
        · exact rgetc_ok k0 hb hz (by omega) hn hi hx
theorem refget_begin (s : ByteArray) (w : World) : ∃ W, W = (w.alloc (.cells (recC zeroR (.slice none 0 0)) 27)).alloc (.cells #[.string s] 75) ∧
    Sr W (w.heap.size + 1) ((bytesN s).drop 0) ∧ Blk W w.heap.size (recC zeroR (.slice none 0 0)) 27 ∧ Below w.heap.size w W := by
  refine ⟨_, rfl, ?_, (Blk.new _ _ _).alloc _, ((Below.refl w.heap.size w).alloc (Nat.le_refl _) _).alloc (by simp) _⟩
  unfold Sr
  rw [List.drop_zero, txt_bytes]
  have h := Blk.new (w.alloc (.cells (recC zeroR (.slice none 0 0)) 27)) #[.string s] 75
  rwa [World.size_alloc] at h
theorem left_empty {l : List Nat} (h : l.length = 0) : (txt l).toList.isEmpty = true := by
  have h : l = [] := List.eq_nil_of_length_eq_zero h
  subst h
  exact List.isEmpty_iff.2 (by rw [ByteArray.toList_eq]; rfl)
theorem left_some {l : List Nat} (h : l.length ≠ 0) : (txt l).toList.isEmpty = false := by
  rw [Bool.eq_false_iff]
  intro he
  have he : (txt l).toList = (⟨#[]⟩ : ByteArray).toList := (List.isEmpty_iff.1 he).trans (by rw [ByteArray.toList_eq])
  have := congrArg ByteArray.size (toList_inj he)
  rw [txt_size] at this
  exact h this
set_option maxHeartbeats 2000000 in
theorem refgetc_no (s : ByteArray) (w : World) (hs : s.size ≤ 1000000) {n : Nat} (hX : rdR (bytesN s) 0 = .error n) :
    Calls Try.prog 13 #[.string s] w fun e w' => e = .returned (.tuple #[.agg (recC zeroR (.slice none 0 0)), .int .i64 (n : Int)]) ∧ Below w.heap.size w w' := by
  obtain ⟨V, hV, S0, Z0, B0⟩ := refget_begin s w
  have HG := Lib.hid (rgetc_any S0 (bytesN_lt s) (by rw [bytesN_length]; exact hs))
  clear S0
  go_enter Try.func13, Try.ntmps13
  go_upto_region 1 with (fail)
  rw [zero_rec]
  go_upto_region 2 with (fail)
  rw [← hV]
  clear hV
  go_upto_region 3 with (first
    | (go_at_call 48; (with_reducible refine HG.out.mono ?_); rintro e1 w2 hp; obtain ⟨hne, rfl⟩ := hp.no _ hX; have hk := hp.keep)
    | (refine p_storeR rfl _ _ rfl w2.heap.size rfl zeroR (.slice none 0 0) rfl rfl zeroR (.slice none 0 0) (Blk.new _ _ _) ?_))
  have hd : ((n : Int) != 0) = true := by simp; omega
  have Z2 := Z0.keep hk (by omega) (by omega)
  have B2 := Keep.below B0 hk B0.size (by omega) (by omega)
  obtain ⟨A3, T3, b3⟩ := rec_new (r := zeroR) (told_nil w2)
  have Z3 := Z2.below b3 Z2.lt
  have B3 := rstep B2 b3
  clear Z2 B2 A3 T3 b3 Z0 B0 HG hk hp hne hX
  generalize w2.heap.size = g3 at *
  generalize (w2.alloc _).setRow _ _ = W3 at *
  go_wp2_with (refine p_storeR rfl _ _ rfl w.heap.size rfl zeroR (.slice none 0 0) rfl rfl zeroR (.slice none 0 0) Z3 ?_)
  exact bodyPost_ret (results_rec2 Try.results13 _ _ w.heap.size _ _ _ rfl rfl (Z3.setRow _)) rfl ⟨rfl, bel_setRow B3 (Nat.le_refl _) _⟩
set_option maxHeartbeats 2000000 in
theorem refgetc_more (s : ByteArray) (w : World) (hs : s.size ≤ 1000000) {r : Rc} {q : Nat} (hX : rdR (bytesN s) 0 = .ok (r, q)) (hq : q < s.size) :
    Calls Try.prog 13 #[.string s] w fun e w' => e = .returned (.tuple #[.agg (recC zeroR (.slice none 0 0)), .int .i64 3]) ∧ Below w.heap.size w w' := by
  obtain ⟨V, hV, S0, Z0, B0⟩ := refget_begin s w
  have HG := Lib.hid (rgetc_any S0 (bytesN_lt s) (by rw [bytesN_length]; exact hs))
  have hl := left_some (l := (bytesN s).drop q) (by rw [List.length_drop, bytesN_length]; omega)
  clear S0 hs hq
  go_enter Try.func13, Try.ntmps13
  go_upto_region 1 with (fail)
  rw [zero_rec]
  go_upto_region 2 with (fail)
  rw [← hV]
  clear hV
  go_upto_region 3 with (first
    | (go_at_call 48; (with_reducible refine HG.out.mono ?_); rintro e1 w2 hp; obtain ⟨u, rfl, T2, S2⟩ := hp.ok _ _ hX; have hk := hp.keep)
    | (refine p_storeR rfl _ _ rfl w2.heap.size rfl r u rfl (told_one T2) zeroR (.slice none 0 0) (Blk.new _ _ _) ?_))
  have Z2 := Z0.keep hk (by omega) (by omega)
  have B2 := Keep.below B0 hk B0.size (by omega) (by omega)
  obtain ⟨A3, T3, b3⟩ := rec_new T2
  have Z3 := Z2.below b3 Z2.lt
  have B3 := rstep B2 b3
  have c3 := (S2.below b3).cell
  clear Z2 B2 A3 T3 b3 Z0 B0 HG hk hp hX S2 T2
  generalize w2.heap.size = g3 at *
  generalize (w2.alloc _).setRow _ _ = W3 at *
  generalize txt ((bytesN s).drop q) = T at *
  go_wp2_with (refine p_storeR rfl _ _ rfl w.heap.size rfl zeroR (.slice none 0 0) rfl rfl zeroR (.slice none 0 0) Z3 ?_)
  exact bodyPost_ret (results_rec2 Try.results13 _ _ w.heap.size _ _ _ rfl rfl (Z3.setRow _)) rfl ⟨rfl, bel_setRow B3 (Nat.le_refl _) _⟩
set_option maxHeartbeats 2000000 in
theorem refgetc_ok (s : ByteArray) (w : World) (hs : s.size ≤ 1000000) {r : Rc} {q : Nat} (hX : rdR (bytesN s) 0 = .ok (r, q)) (hq : ¬ q < s.size) :
    Calls Try.prog 13 #[.string s] w (TellsR w r 0) := by
  obtain ⟨V, hV, S0, Z0, B0⟩ := refget_begin s w
  have HG := Lib.hid (rgetc_any S0 (bytesN_lt s) (by rw [bytesN_length]; exact hs))
  have hl := left_empty (l := (bytesN s).drop q) (by rw [List.length_drop, bytesN_length]; omega)
  clear S0 hs hq
  go_enter Try.func13, Try.ntmps13
  go_upto_region 1 with (fail)
  rw [zero_rec]
  go_upto_region 2 with (fail)
  rw [← hV]
  clear hV
  go_upto_region 3 with (first
    | (go_at_call 48; (with_reducible refine HG.out.mono ?_); rintro e1 w2 hp; obtain ⟨u, rfl, T2, S2⟩ := hp.ok _ _ hX; have hk := hp.keep; have hone := told_one T2)
    | (refine p_storeR rfl _ _ rfl w2.heap.size rfl r u rfl hone zeroR (.slice none 0 0) (Blk.new _ _ _) ?_))
  have Z2 := Z0.keep hk (by omega) (by omega)
  have B2 := Keep.below B0 hk B0.size (by omega) (by omega)
  obtain ⟨A3, T3, b3⟩ := rec_new T2
  have Z3 := Z2.below b3 Z2.lt
  have B3 := rstep B2 b3
  have c3 := (S2.below b3).cell
  clear Z2 B2 b3 Z0 B0 HG hk hp hX S2 T2
  generalize w2.heap.size = g3 at *
  generalize (w2.alloc _).setRow _ _ = W3 at *
  generalize txt ((bytesN s).drop q) = T at *
  go_wp2_with (first
    | (refine p_loadR rfl _ rfl g3 rfl r u A3 ?_)
    | (refine p_storeR rfl _ _ rfl w.heap.size rfl r u rfl hone zeroR (.slice none 0 0) Z3 ?_))
  exact bodyPost_ret (results_rec2 Try.results13 _ _ w.heap.size _ _ _ rfl rfl (Z3.setRow _)) rfl ⟨u, rfl, told_setRow T3 Z3 (noIt_rec _ _) _, bel_setRow B3 (Nat.le_refl _) _⟩
/-- the document's Get -/
theorem refgetrec_any (s : ByteArray) (w : World) (hs : s.size ≤ 1000000) : Calls Try.prog 13 #[.string s] w (TellsR w (getV s) (getE s)) := by
  unfold getV getE getR
  cases hX : rdR (bytesN s) 0 with
  | error e =>
    refine (refgetc_no s w hs hX).mono ?_
    rintro e' w' ⟨he, hb⟩
    exact ⟨_, he, told_nil _, hb⟩
  | ok x =>
    obtain ⟨r, q⟩ := x
    simp only [bytesN_length]
    by_cases hq : q < s.size
    · rw [if_pos hq]
      refine (refgetc_more s w hs hX hq).mono ?_
      rintro e' w' ⟨he, hb⟩
      exact ⟨_, he, told_nil _, hb⟩
    · rw [if_neg hq]
      exact refgetc_ok s w hs hX hq
end Go.Proofs.Ytkicndengkcojaa
