/- RecordTurns: for every record, key and value the call returns true: with an item, or without one, a record is just this, or refused; a key's value is found, or not; the record stays. No condition. -/
import Derived.Test.YtkicndengkcojaaRecRefWith
import Derived.Test.YtkicndengkcojaaRecOpen
namespace Go.Proofs.Ytkicndengkcojaa.RecTurnsLaw
set_option maxRecDepth 100000
open Go Go.ChangeShapes Go.WideShapes Go.ChangeAt Go.RowKit Go.Sort
open Go.ChangeMaps (open_string shut_string)

theorem withV_len {r : Rc} (hl : r.items.length ≤ 40) (k : Nat) (s : ByteArray) : (withV r k s).items.length ≤ 1000000 := by
  unfold withV
  split
  · rename_i h
    show (putL r.items k s).length ≤ 1000000
    have h1 : (loL r.items k).length ≤ r.items.length := List.length_filter_le ..
    have h2 : (hiL r.items k).length ≤ r.items.length := List.length_filter_le ..
    unfold putL
    rw [List.length_append, List.length_cons]
    omega
  · show ([] : List It).length ≤ 1000000
    decide
theorem withoutV_len {r : Rc} (hl : r.items.length ≤ 40) (k : Nat) : (withoutV r k).items.length ≤ 1000000 := by
  unfold withoutV
  split
  · show (dropL r.items k).length ≤ 1000000
    have := drop_len_le r.items k
    omega
  · omega

/-- nothing is asked -/
theorem let_go {r : Rc} {u : Value} {w : World} (k : Nat) (s : ByteArray) (hT : Told w u r.items) (h : bigB r = true ∨ (bigB r = false ∧ 500 < s.size)) :
    Calls Try.prog 4 #[.agg (recC r u), .int .u64 (k : Int), .string s] w fun e w' => e = .returned (.bool true) ∧ Below w.heap.size w w' := by
  obtain ⟨A0, B0⟩ := rec_box w r u
  have HB := big_any (hT.bel B0)
  rcases h with h | ⟨h, h'⟩
  · rw [h] at HB
    clear h
    go_enter Try.func4, Try.ntmps4
    go_upto_region 1 with (fail)
    generalize w.alloc _ = W at *
    go_wp2_with (first
      | (refine p_loadR rfl _ rfl w.heap.size rfl r u A0 ?_)
      | (go_at_call 9; (with_reducible refine HB.mono ?_); rintro e w1 ⟨rfl, hb1⟩))
    go_ret
    exact ⟨rfl, rstep B0 hb1⟩
  · rw [h] at HB
    have hc : (500 : Int) < (s.size : Int) := by omega
    clear h h'
    go_enter Try.func4, Try.ntmps4
    go_upto_region 1 with (fail)
    generalize w.alloc _ = W at *
    go_wp2_with (first
      | (refine p_loadR rfl _ rfl w.heap.size rfl r u A0 ?_)
      | (go_at_call 9; (with_reducible refine HB.mono ?_); rintro e w1 ⟨rfl, hb1⟩))
    go_ret
    exact ⟨rfl, rstep B0 hb1⟩

set_option maxHeartbeats 4000000 in
theorem core {r : Rc} {u : Value} {w : World} (k : Nat) (hk : k < 18446744073709551616) (s : ByteArray) (hT : Told w u r.items) (hW : r.Wf) (hb : bigB r = false) (h5 : s.size ≤ 500) :
    Calls Try.prog 4 #[.agg (recC r u), .int .u64 (k : Int), .string s] w fun e w' => e = .returned (.bool true) ∧ Below w.heap.size w w' := by
  obtain ⟨A0, B0⟩ := rec_box w r u
  have T0 := hT.bel B0
  have hl4 := big_no hb
  have hl : r.items.length ≤ 1000000 := by omega
  have hc : ¬ (500 : Int) < (s.size : Int) := by omega
  have HB := big_any T0
  rw [hb] at HB
  have HO : ∀ W, Told W u r.items → Calls Try.prog 18 #[.agg (recC r u)] W fun e w' => ∃ v, e = .returned (.agg (recC r v)) ∧ Told w' v r.items ∧ Below W.heap.size W w' := fun W hT => own_rec hT hl
  have HP : ∀ W, Told W u r.items → Calls Try.prog 19 #[.agg (recC r u), .int .u64 (k : Int), .string s] W (TellsR W (withV r k s) (withE r k s)) := fun W hT => with_any hT hW hl k s
  have HQ : ∀ W v, Told W v r.items → Calls Try.prog 20 #[.agg (recC r v), .int .u64 (k : Int), .string s] W (TellsR W (withV r k s) (withE r k s)) := fun W v hT => refwith_any hT hW k hk s
  have HD : ∀ W, Told W u r.items → Calls Try.prog 21 #[.agg (recC r u), .int .u64 (k : Int)] W (TellsB W (withoutV r k) (withoutB r k)) := fun W hT => without_rec hT hW hl k
  have HE : ∀ W v, Told W v r.items → Calls Try.prog 22 #[.agg (recC r v), .int .u64 (k : Int)] W (TellsB W (withoutV r k) (withoutB r k)) := fun W v hT => refwithout_any hT hW hl k
  have HF : ∀ W, Told W u r.items → Calls Try.prog 23 #[.agg (recC r u), .int .u64 (k : Int)] W fun e w' => e = .returned (.tuple #[.string (valL r.items k), .bool (hasL r.items k)]) ∧ Below W.heap.size W w' := fun W hT => find_any hT hl k
  have HG : ∀ W v, Told W v r.items → Calls Try.prog 24 #[.agg (recC r v), .int .u64 (k : Int)] W fun e w' => e = .returned (.tuple #[.string (valL r.items k), .bool (hasL r.items k)]) ∧ Below W.heap.size W w' := fun W v hT => reffind_any hT hl k
  have HVl := withV_len hl4 k s
  have HXl := withoutV_len hl4 k
  generalize withV r k s = V at *
  generalize withE r k s = E at *
  generalize withoutV r k = X at *
  generalize withoutB r k = xb at *
  generalize valL r.items k = fv at *
  generalize hasL r.items k = fb at *
  have HR : Gives Try.prog 14 #[] (.bool true) := recorded_any
  clear hT hb h5 hW hk hl4
  go_enter Try.func4, Try.ntmps4
  go_upto_region 1 with (fail)
  generalize w.alloc _ = W at *
  go_upto_region 3 with (first
    | (refine p_loadR rfl _ rfl w.heap.size rfl r u A0 ?_)
    | (go_at_call 9; (with_reducible refine HB.mono ?_); rintro e w1 ⟨rfl, hb1⟩))
  replace A0 := A0.below hb1 A0.lt
  replace T0 := T0.bel hb1
  replace B0 := rstep B0 hb1
  clear hb1 HB
  go_upto_region 4 with (first
    | (refine p_loadR rfl _ rfl w.heap.size rfl r u A0 ?_)
    | (go_at_call 18; (with_reducible refine (HO _ T0).mono ?_); rintro e w7 ⟨u7, rfl, t7, hb1⟩)
    | (refine p_storeR rfl _ _ rfl w7.heap.size rfl r u7 rfl (told_one t7) zeroR (.slice none 0 0) (Blk.new _ _ _) ?_))
  obtain ⟨A7, T7, b7⟩ := rec_new t7
  replace b7 := rstep hb1 b7
  replace A0 := A0.below b7 A0.lt
  replace T0 := T0.bel b7
  replace B0 := rstep B0 b7
  clear hb1 t7 b7 HO
  generalize w7.heap.size = g7 at *
  generalize (w7.alloc _).setRow _ _ = W7 at *
  go_upto_region 5 with (first
    | (refine p_loadR rfl _ rfl w.heap.size rfl r u A0 ?_)
    | (go_at_call 19; (with_reducible refine (HP _ T0).mono ?_); rintro e w8 ⟨u8, rfl, t8, hb1⟩)
    | (refine p_storeR rfl _ _ rfl w8.heap.size rfl V u8 rfl (told_one t8) zeroR (.slice none 0 0) (Blk.new _ _ _) ?_))
  obtain ⟨A8, T8, b8⟩ := rec_new t8
  replace b8 := rstep hb1 b8
  replace A0 := A0.below b8 A0.lt
  replace A7 := A7.below b8 A7.lt
  replace T0 := T0.bel b8
  replace T7 := T7.bel b8
  replace B0 := rstep B0 b8
  clear hb1 t8 b8 HP
  generalize w8.heap.size = g8 at *
  generalize (w8.alloc _).setRow _ _ = W8 at *
  go_upto_region 6 with (first
    | (refine p_loadR rfl _ rfl g7 rfl r u7 A7 ?_)
    | (go_at_call 20; (with_reducible refine (HQ _ _ T7).mono ?_); rintro e w10 ⟨u10, rfl, t10, hb1⟩)
    | (refine p_storeR rfl _ _ rfl w10.heap.size rfl V u10 rfl (told_one t10) zeroR (.slice none 0 0) (Blk.new _ _ _) ?_))
  obtain ⟨A10, T10, b10⟩ := rec_new t10
  replace b10 := rstep hb1 b10
  replace A0 := A0.below b10 A0.lt
  replace A7 := A7.below b10 A7.lt
  replace A8 := A8.below b10 A8.lt
  replace T0 := T0.bel b10
  replace T7 := T7.bel b10
  replace T8 := T8.bel b10
  replace B0 := rstep B0 b10
  clear hb1 t10 b10 HQ
  generalize w10.heap.size = g10 at *
  generalize (w10.alloc _).setRow _ _ = W10 at *
  go_upto_region 7 with (first
    | (refine p_loadR rfl _ rfl w.heap.size rfl r u A0 ?_)
    | (go_at_call 21; (with_reducible refine (HD _ T0).mono ?_); rintro e w12 ⟨u12, rfl, t12, hb1⟩)
    | (refine p_storeR rfl _ _ rfl w12.heap.size rfl X u12 rfl (told_one t12) zeroR (.slice none 0 0) (Blk.new _ _ _) ?_))
  obtain ⟨A12, T12, b12⟩ := rec_new t12
  replace b12 := rstep hb1 b12
  replace A0 := A0.below b12 A0.lt
  replace A7 := A7.below b12 A7.lt
  replace A8 := A8.below b12 A8.lt
  replace A10 := A10.below b12 A10.lt
  replace T0 := T0.bel b12
  replace T7 := T7.bel b12
  replace T8 := T8.bel b12
  replace T10 := T10.bel b12
  replace B0 := rstep B0 b12
  clear hb1 t12 b12 HD
  generalize w12.heap.size = g12 at *
  generalize (w12.alloc _).setRow _ _ = W12 at *
  go_upto_region 8 with (first
    | (refine p_loadR rfl _ rfl g7 rfl r u7 A7 ?_)
    | (go_at_call 22; (with_reducible refine (HE _ _ T7).mono ?_); rintro e w14 ⟨u14, rfl, t14, hb1⟩)
    | (refine p_storeR rfl _ _ rfl w14.heap.size rfl X u14 rfl (told_one t14) zeroR (.slice none 0 0) (Blk.new _ _ _) ?_))
  obtain ⟨A14, T14, b14⟩ := rec_new t14
  replace b14 := rstep hb1 b14
  replace A0 := A0.below b14 A0.lt
  replace A7 := A7.below b14 A7.lt
  replace A8 := A8.below b14 A8.lt
  replace A10 := A10.below b14 A10.lt
  replace A12 := A12.below b14 A12.lt
  replace T0 := T0.bel b14
  replace T7 := T7.bel b14
  replace T8 := T8.bel b14
  replace T10 := T10.bel b14
  replace T12 := T12.bel b14
  replace B0 := rstep B0 b14
  clear hb1 t14 b14 HE
  generalize w14.heap.size = g14 at *
  generalize (w14.alloc _).setRow _ _ = W14 at *
  go_upto_region 9 with (first
    | (refine p_loadR rfl _ rfl w.heap.size rfl r u A0 ?_)
    | (go_at_call 23; (with_reducible refine (HF _ T0).mono ?_); rintro e w15 ⟨rfl, hb1⟩))
  replace A0 := A0.below hb1 A0.lt
  replace A7 := A7.below hb1 A7.lt
  replace A8 := A8.below hb1 A8.lt
  replace A10 := A10.below hb1 A10.lt
  replace A12 := A12.below hb1 A12.lt
  replace A14 := A14.below hb1 A14.lt
  replace T0 := T0.bel hb1
  replace T7 := T7.bel hb1
  replace T8 := T8.bel hb1
  replace T10 := T10.bel hb1
  replace T12 := T12.bel hb1
  replace T14 := T14.bel hb1
  replace B0 := rstep B0 hb1
  clear hb1 HF
  go_upto_region 10 with (first
    | (refine p_loadR rfl _ rfl g7 rfl r u7 A7 ?_)
    | (go_at_call 24; (with_reducible refine (HG _ _ T7).mono ?_); rintro e w16 ⟨rfl, hb1⟩))
  replace A0 := A0.below hb1 A0.lt
  replace A7 := A7.below hb1 A7.lt
  replace A8 := A8.below hb1 A8.lt
  replace A10 := A10.below hb1 A10.lt
  replace A12 := A12.below hb1 A12.lt
  replace A14 := A14.below hb1 A14.lt
  replace T0 := T0.bel hb1
  replace T7 := T7.bel hb1
  replace T8 := T8.bel hb1
  replace T10 := T10.bel hb1
  replace T12 := T12.bel hb1
  replace T14 := T14.bel hb1
  replace B0 := rstep B0 hb1
  clear hb1 HG
  have HS1 : ∀ W, Told W u8 V.items → Told W u10 V.items → Calls Try.prog 17 #[.agg (recC V u8), .agg (recC V u10)] W fun e w' => e = .returned (.bool true) ∧ Below W.heap.size W w' := fun W h1 h2 => by
    have h := same_rec h1 h2 HVl
    rw [sameR_self] at h
    exact h
  have HS2 : ∀ W, Told W u12 X.items → Told W u14 X.items → Calls Try.prog 17 #[.agg (recC X u12), .agg (recC X u14)] W fun e w' => e = .returned (.bool true) ∧ Below W.heap.size W w' := fun W h1 h2 => by
    have h := same_rec h1 h2 HXl
    rw [sameR_self] at h
    exact h
  have HS3 : ∀ W, Told W u r.items → Told W u7 r.items → Calls Try.prog 17 #[.agg (recC r u), .agg (recC r u7)] W fun e w' => e = .returned (.bool true) ∧ Below W.heap.size W w' := fun W h1 h2 => by
    have h := same_rec h1 h2 hl
    rw [sameR_self] at h
    exact h
  have q1 : (xb == xb) = true := by simp
  have q2 : (fv.toList == fv.toList) = true := by simp
  have q3 : ((E : Int) == (E : Int)) = true := by simp
  have q4 : (fb == fb) = true := by simp
  clear HVl HXl hl
  have B9 := Lib.hid B0
  clear B0
  go_wp2_with (first
    | (go_guarded; with_reducible (show wpList _ _ _ _ _ _))
    | (go_at_call 14; (with_reducible refine (HR.calls _).mono ?_); rintro e w17 ⟨rfl, hb1⟩; have A8x := A8.below hb1 A8.lt; have T8x := T8.bel hb1; have A10x := A10.below hb1 A10.lt; have T10x := T10.bel hb1)
    | (go_guarded; rename_i K0 hK0; refine o_loadR _ rfl g8 rfl V u8 A8x ?_; refine hK0 _ _ ?_; simp only [Act.put, List.setIfInBounds_toArray, List.set_cons_succ, List.set_cons_zero])
    | (go_guarded; refine o_loadR _ rfl g10 rfl V u10 A10x ?_)
    | (go_at_call 17; (with_reducible refine (HS1 _ T8x T10x).mono ?_); rintro e w18 ⟨rfl, hb2⟩; have b2 := rstep hb1 hb2; have A12x := A12.below b2 A12.lt; have T12x := T12.bel b2; have A14x := A14.below b2 A14.lt; have T14x := T14.bel b2)
    | (go_guarded; rename_i K0 hK0; refine o_loadR _ rfl g12 rfl X u12 A12x ?_; refine hK0 _ _ ?_; simp only [Act.put, List.setIfInBounds_toArray, List.set_cons_succ, List.set_cons_zero])
    | (go_guarded; refine o_loadR _ rfl g14 rfl X u14 A14x ?_)
    | (go_at_call 17; (with_reducible refine (HS2 _ T12x T14x).mono ?_); rintro e w19 ⟨rfl, hb3⟩; have b3 := rstep b2 hb3; have A0x := A0.below b3 A0.lt; have T0x := T0.bel b3; have A7x := A7.below b3 A7.lt; have T7x := T7.bel b3)
    | (go_guarded; rename_i K0 hK0; refine o_loadR _ rfl w.heap.size rfl r u A0x ?_; refine hK0 _ _ ?_; simp only [Act.put, List.setIfInBounds_toArray, List.set_cons_succ, List.set_cons_zero])
    | (go_guarded; refine o_loadR _ rfl g7 rfl r u7 A7x ?_)
    | (go_at_call 17; (with_reducible refine (HS3 _ T0x T7x).mono ?_); rintro e w20 ⟨rfl, hb4⟩))
  go_ret
  exact ⟨rfl, rstep B9.out (rstep b3 hb4)⟩
theorem walk {r : Rc} {u : Value} {w : World} (hT : Told w u r.items) (hW : r.Wf) (k : Nat) (hk : k < 18446744073709551616) (s : ByteArray) (_ : s.size ≤ maxLen) :
    Calls Try.prog 4 #[.agg (recC r u), .int .u64 (k : Int), .string s] w fun e w' => e = .returned (.bool true) ∧ Below w.heap.size w w' := by
  cases hb : bigB r
  · by_cases h5 : s.size ≤ 500
    · exact core k hk s hT hW hb h5
    · exact let_go k s hT (.inr ⟨hb, by omega⟩)
  · exact let_go k s hT (.inl hb)
set_option maxRecDepth 100000 in
theorem lifted (os : Os) (started : os.Started) (H : Type) (enc : TypeId × Value → H) :
    ReturnsInHanded {} Try.checked os 4 .any (Rows.recordTurnsSpec.pre6 enc Try.prog Try.f4 Rows.recordTurnsRow.domain false) (Rows.recordTurnsSpec.post enc Try.prog Try.f4 false true false false) := by
  refine returnsInHanded_of_change (C := Try.checked) own started (by kernel_rfl) Try.func4
    (ChangeSpec.witness6 (enc := enc) (C := Try.checked) false ⟨#[], #[.agg #[.int .i64 0, .slice none 0 0, .int .i64 0, .int .u64 0, .int .u64 0], .int .u64 0, .string ⟨#[]⟩], []⟩ 8 (by kernel_rfl) (by kernel_rfl) (by kernel_rfl) (by kernel_rfl)) ?_
  intro W base args ds gs before hval0 hW hcnd _
  have hval : ∀ (j : Nat) t v, Try.f4.params[j]? = some t → args[j]? = some v → Value.okWide Try.prog W .any base t v := hval0
  have hW' := hW
  obtain ⟨p, q, hA0, hV, rfl, hfz, hnd⟩ := hW
  have hA : DataW.TrodAll enc Try.prog W 0 (fun _ => true) true Try.f4.params.toList args.toList ds p := hA0
  rw [Try.params4] at hA hval
  obtain ⟨v0, vs0, d0, ds0, p0, q0, hargs, rfl, rfl, h0, r0⟩ := trodAll_cons hA
  obtain ⟨v1, vs1, d1, ds1, p1, q1, rfl, rfl, rfl, h1, r1⟩ := trodAll_cons r0
  obtain ⟨v2, vs2, d2, ds2, p2, q2, rfl, rfl, rfl, h2, r2⟩ := trodAll_cons r1
  obtain ⟨rfl, rfl, rfl⟩ := trodAll_nil r2
  obtain rfl : args = #[v0, v1, v2] := by cases args; simp_all
  obtain ⟨rfl, rfl⟩ := trodVars_none hV
  have k0 := h0
  have lt0 : ∀ x ∈ p0, x.block < W.heap.size := by obtain ⟨m, hm⟩ := k0; exact DataW.trod_lt m _ _ _ hm
  obtain ⟨R0, u0, wf0, rfl, tl0⟩ := open_rec (hval 0 27 v0 rfl rfl) h0
  have k1 := h1
  have lt1 : ∀ x ∈ p1, x.block < W.heap.size := by obtain ⟨m, hm⟩ := k1; exact DataW.trod_lt m _ _ _ hm
  obtain ⟨n1, ok1, rfl⟩ := open_u64 (hval 1 23 v1 rfl rfl) h1
  have k2 := h2
  have lt2 : ∀ x ∈ p2, x.block < W.heap.size := by obtain ⟨m, hm⟩ := k2; exact DataW.trod_lt m _ _ _ hm
  obtain ⟨n2, rfl, _, _, ws2⟩ := open_string Try.underlying9 (hval 2 9 v2 rfl rfl) h2
  clear hA0 hval0
  refine (walk tl0 wf0 n1 ok1 n2 ws2).mono fun e W' ⟨he, bel⟩ => ?_
  subst he
  exact ⟨_, rfl, _, _, _, [], _, [], hW', trodAll_mk1 (shut_bool Try.underlying4 _), (trodAll_cons_mk (Below.trod laidOut (by kernel_rfl) (of_decide_eq_true (by kernel_rfl)) k0 bel lt0) (trodAll_cons_mk (Below.trod laidOut (by kernel_rfl) (of_decide_eq_true (by kernel_rfl)) k1 bel lt1) (trodAll_cons_mk (Below.trod laidOut (by kernel_rfl) (of_decide_eq_true (by kernel_rfl)) k2 bel lt2) trodAll_mk0))), rfl, bel.frame _, fun h => by cases h⟩

theorem proved : Rows.RecordTurnsSaid :=
  OpenClaim.holds_of_wide 4 Try.f4 rfl rfl rfl rfl rfl rfl rfl ⟨rfl, rfl, rfl, rfl, rfl⟩ rfl rfl rfl rfl rfl (by kernel_rfl) Try.func4 (by kernel_rfl)
    (of_decide_eq_true (by kernel_rfl)) (by unfold Func.isWrapper; first | (rw [if_pos (by decide +kernel)]; kernel_rfl) | (rw [if_neg (by decide +kernel)]; exact ⟨rfl, rfl⟩))
    (fun os started H enc _ => lifted os started H enc)
end Go.Proofs.Ytkicndengkcojaa.RecTurnsLaw
