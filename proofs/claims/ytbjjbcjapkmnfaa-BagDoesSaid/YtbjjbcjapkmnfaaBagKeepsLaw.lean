/- BagKeeps: for all rows of messages and all places the call returns true: a message that is taken was there, others keep their order, and it is gone. No condition. -/
import Derived.Test.YtbjjbcjapkmnfaaBagOpen
namespace Go.Proofs.Ytbjjbcjapkmnfaa.BagKeepsLaw
open Go Go.ChangeShapes Go.WideShapes Go.ChangeAt Go.RowKit Go.Sort
open Go.ChangeMaps (open_string shut_string)

theorem put_ok {M : Nat} {K : List Ml} {m : Ml} (h1 : m.bd.size ≤ 300) (h2 : K.length < M) : putE M K m = 0 ∧ putK M K m = K ++ [m] := by
  unfold putE putK
  rw [if_neg (by omega), if_neg (by omega), if_neg (by omega), if_neg (by omega)]
  exact ⟨rfl, rfl⟩
theorem take_len1 {l : List Ml} {k : Nat} (h : k < l.length) : (l.take k).length = k := by rw [List.length_take]; omega
theorem take_snoc {l : List Ml} {k : Nat} {x : Ml} (hx : l[k]? = some x) : l.take k ++ [x] = l.take (k + 1) := by
  obtain ⟨hk, rfl⟩ := List.getElem?_eq_some_iff.1 hx
  rw [List.take_succ_eq_append_getElem hk]
/-- behind the taking of a message: the others -/
theorem at_kept {l : List Ml} {i k : Nat} (hk : k + 1 < l.length) : ∃ x, l[if k < i then k else k + 1]? = some x ∧ atV (l.eraseIdx i) (k : Int) = x ∧ atE (l.eraseIdx i) (k : Int) = 0 := by
  have e : (l.eraseIdx i)[k]? = l[if k < i then k else k + 1]? := by
    rw [List.getElem?_eraseIdx]
    split <;> rfl
  obtain ⟨x, hx⟩ : ∃ x, l[if k < i then k else k + 1]? = some x := ⟨_, List.getElem?_eq_getElem (by split <;> omega)⟩
  refine ⟨x, hx, ?_, ?_⟩
  · rw [atV, ix_nat, e, hx]; rfl
  · rw [atE, ix_nat, e, hx]; rfl

/-- a callee that leaves the world, in a region that draws its order -/
theorem grown_size {B g M : Nat} {w0 W : World} {K : List Ml} (h : HasB B w0 W g M K) (d : Nat) (os : Array Obj) : Calls Try.prog 11 #[.pointer (some ⟨g, 0, none⟩)] (grow (redrawn W d) os) fun e w' => e = .returned (.int .i64 (K.length : Nat)) ∧ ∃ p : Regrown, w' = grow (redrawn W p.d) p.os :=
  (hb_size (h.bel (below_regrown W d os))).mono fun _ _ ⟨h1, h2⟩ => ⟨h1, ⟨d, os⟩, h2.symm⟩

set_option maxRecDepth 100000 in
set_option maxHeartbeats 4000000 in
theorem walk (l : List Ml) (v : Value) {w : World} (hS : IsM w v l) (i : Int) (hi64 : -9223372036854775808 ≤ i ∧ i ≤ 9223372036854775807) : Calls Try.prog 4 #[v, .int .i64 i] w fun e w' => e = .returned (.bool true) ∧ Below w.heap.size w w' := by
  obtain ⟨a, c, rfl⟩ := hS.form
  by_cases h60 : l.length ≤ 60
  · have hc0 : ¬ (60 : Int) < (l.length : Int) := by omega
    have HS := Lib.hid hS
    obtain ⟨n, hn⟩ : ∃ n, n = l.length := ⟨_, rfl⟩
    have HN := Lib.hid hn
    rw [← hn] at h60 hc0
    have HW : Hid (Calls Try.prog 8 #[.int .i64 60] w fun e w' => e = .returned (.tuple #[.pointer (some ⟨w.heap.size + 1, 0, none⟩), .int .i64 0]) ∧ HasB w.heap.size w w' (w.heap.size + 1) 60 []) := hb_new (M := 60) (by decide) (by decide) w
    rw [← hn]
    clear hS hn
    go_enter Try.func4, Try.ntmps4
    go_upto_region 6 with (go_at_call 8; (with_reducible refine HW.out.mono ?_); rintro e w1 ⟨rfl, h1⟩; have H1 := Lib.hid h1; clear h1)
    go_wp2
    go_loopw [7] (fun kv wr => ∃ k : Nat, k ≤ n ∧ kv = .int .i64 k ∧ HasB w.heap.size w wr (w.heap.size + 1) 60 (l.take k)) (fun kv _ => n - (intOf kv).toNat)
    case atStart => exact ⟨0, by omega, rfl, H1.out⟩
    case round =>
      obtain ⟨k, hk, rfl, hH⟩ := hrel
      have HH := Lib.hid hH
      clear hH H1
      by_cases hlt : k < n
      · obtain ⟨x, hx⟩ : ∃ x, l[k]? = some x := ⟨_, List.getElem?_eq_getElem (by have := HN.out; omega)⟩
        have hS2 := HS.out
        rw [← HN.out] at hS2
        obtain ⟨b, o, rfl, x0, x1, x2, _⟩ := hS2.at HH.out.below hx
        clear hS2
        by_cases h3 : 300 < x.bd.size
        · have hd : (300 : Int) < (x.bd.size : Int) := by omega
          clear hx
          go_wp2
          go_ret
          exact ⟨rfl, HH.out.below⟩
        · have hd : ¬ (300 : Int) < (x.bd.size : Int) := by omega
          have HP : Hid (Calls Try.prog 13 #[.pointer (some ⟨w.heap.size + 1, 0, none⟩), .agg #[.int .i64 x.fr, .int .i64 x.to, .string x.bd]] wr fun e w' => e = .returned (.int .i64 0) ∧ HasB w.heap.size w w' (w.heap.size + 1) 60 (l.take (k + 1))) := by
            obtain ⟨e1, e2⟩ := put_ok (M := 60) (K := l.take k) (m := x) (by omega) (by rw [take_len1 (by have := HN.out; omega)]; omega)
            have := hb_put HH.out x
            rw [e1, e2, take_snoc hx] at this
            exact this.mono fun e w' h => ⟨h.1, h.2.1⟩
          clear hx
          go_wp2_with (go_at_call 13; (with_reducible refine HP.out.mono ?_); rintro e w2 ⟨rfl, h2⟩; have H2 := Lib.hid h2; clear h2)
          exact ⟨⟨k + 1, by omega, by go_num, H2.out⟩, by simp [intOf]; omega⟩
      · obtain rfl : n = k := by omega
        have hall : l.take n = l := by rw [HN.out, List.take_length]
        have HH2 : Hid (HasB w.heap.size w wr (w.heap.size + 1) 60 l) := by have := HH.out; rwa [hall] at this
        clear hall HH
        by_cases hin : 0 ≤ i ∧ i < (n : Int)
        · obtain ⟨j, rfl⟩ := Int.eq_ofNat_of_zero_le hin.1
          obtain ⟨m0, rfl⟩ : ∃ m0, n = m0 + 1 := ⟨n - 1, by omega⟩
          have hjn : j < l.length := by have := HN.out; omega
          obtain ⟨x, hx⟩ : ∃ x, l[j]? = some x := ⟨_, List.getElem?_eq_getElem hjn⟩
          have HT : Hid (Calls Try.prog 14 #[.pointer (some ⟨w.heap.size + 1, 0, none⟩), .int .i64 (j : Int)] wr fun e w' => e = .returned (.tuple #[.agg (mlC x), .int .i64 0]) ∧ HasB w.heap.size w w' (w.heap.size + 1) 60 (l.eraseIdx j)) := by
            have := hb_take HH2.out (j : Int)
            rw [atV, atE, takeK, ix_nat, hx] at this
            exact this.mono fun e w' h => ⟨h.1, h.2.1⟩
          have q1 : ¬ (j : Int) < 0 := by omega
          have q2 : ¬ ((m0 + 1 : Nat) : Int) ≤ (j : Int) := by omega
          have q3 : ¬ ((m0 : Int) + 1) ≤ (j : Int) := by omega
          have q4 : (j : Int) < (m0 : Int) + 1 := by omega
          have q5 : (j : Int) ≤ 9223372036854775807 := by omega
          have hw : IntKind.i64.wrap ((m0 : Int) + 1 - 1) = (m0 : Int) := by rw [IntKind.wrap_i64]; omega
          go_upto_region 14 with (first
            | (go_at_call 14; (with_reducible refine HT.out.mono ?_); rintro e w2 ⟨rfl, h2⟩; have H2 := Lib.hid h2; clear h2)
            | (refine p_storeM rfl _ _ rfl w2.heap.size rfl x rfl mlE rfl (Blk.new w2 mlE _) ?_))
          have b3 : Below w2.heap.size w2 ((w2.alloc (.cells mlE 33)).setRow w2.heap.size (mlC x)) := bel_setRow ((Below.refl _ _).alloc (Nat.le_refl _) _) (Nat.le_refl _) _
          have H3 := Lib.hid (H2.out.bel b3)
          have E3 := (Blk.new w2 mlE 33).setRow (mlC x)
          clear b3 H2 HT
          generalize w2.heap.size = q at *
          generalize World.setRow _ _ _ = W3 at *
          have hS2 := HS.out
          rw [← HN.out] at hS2
          obtain ⟨b, o, rfl, _, _, _, r3⟩ := hS2.at H3.out.below hx
          clear hS2
          have hel : (l.eraseIdx j).length = m0 := by rw [List.length_eraseIdx_of_lt hjn, ← HN.out]; rfl
          have HZ : Hid (∀ d os, Calls Try.prog 11 #[.pointer (some ⟨w.heap.size + 1, 0, none⟩)] (grow (redrawn W3 d) os) fun e w' => e = .returned (.int .i64 (m0 : Int)) ∧ ∃ p : Regrown, w' = grow (redrawn W3 p.d) p.os) := fun d os => by
            have := grown_size H3.out d os
            rwa [hel] at this
          have HX := Lib.hid hx
          clear hx hel
          go_upto_region 16 with (fail)
          refine wp_region_quiet_below (by kernel_rfl) (by kernel_rfl) ?_
          repeat (first
            | go_big_quiet_skip
            | (go_big_quiet_want
               first
               | (first | (refine q_loadM _ rfl _ rfl x (by with_reducible exact E3) ?_) | (refine q_midM _ rfl _ _ rfl x (by with_reducible exact r3) ?_) | (refine q_neqM _ _ rfl x rfl rfl ?_)
                  simp only [Act.put, List.setIfInBounds_toArray, List.set_cons_succ, List.set_cons_zero]
                  go_big_quiet_on)
               | (go_big_quiet_op
                  first | go_big_quiet_on | go_big_quiet_call (first | with_reducible exact HZ.out _ _))))
          refine wpQuiet_nil ?_
          intro w4 hw'
          have H4 := Lib.hid (H3.out.bel (quiet_end hw'))
          clear hw' E3 r3 H3 HZ
          go_wp2
          go_loopw [10] (fun kv ws => ∃ k : Nat, k ≤ m0 ∧ kv = .int .i64 k ∧ HasB w.heap.size w ws (w.heap.size + 1) 60 (l.eraseIdx j)) (fun kv _ => m0 - (intOf kv).toNat)
          case atStart => exact ⟨0, by omega, rfl, H4.out⟩
          case round =>
            obtain ⟨k, hk, rfl, hH⟩ := hrel
            have HH := Lib.hid hH
            clear hH H4
            by_cases hlt : k < m0
            · obtain ⟨y, hy, e1, e2⟩ := at_kept (l := l) (i := j) (k := k) (by have := HN.out; omega)
              have HA : Hid (Calls Try.prog 15 #[.pointer (some ⟨w.heap.size + 1, 0, none⟩), .int .i64 (k : Int)] wr fun e w' => e = .returned (.tuple #[.agg (mlC y), .int .i64 0]) ∧ Below wr.heap.size wr w') := by
                have := hb_at HH.out (k : Int)
                rwa [e1, e2] at this
              clear e1 e2
              go_upto_region 22 with (first
                | (go_at_call 15; (with_reducible refine HA.out.mono ?_); rintro e w5 ⟨rfl, b5⟩)
                | (refine p_storeM rfl _ _ rfl w5.heap.size rfl y rfl mlE rfl (Blk.new w5 mlE _) ?_))
              have b6 : Below w5.heap.size w5 ((w5.alloc (.cells mlE 33)).setRow w5.heap.size (mlC y)) := bel_setRow ((Below.refl _ _).alloc (Nat.le_refl _) _) (Nat.le_refl _) _
              have H6 := Lib.hid (HH.out.bel (step b5 b6))
              have E6 := (Blk.new w5 mlE 33).setRow (mlC y)
              clear b6 b5 HA HH
              generalize w5.heap.size = q6 at *
              generalize World.setRow _ _ _ = W6 at *
              have hS2 := HS.out
              rw [← HN.out] at hS2
              obtain ⟨b', o', e3, _, _, _, r6⟩ := hS2.at H6.out.below hy
              simp only [Option.some.injEq, Addr.mk.injEq, and_true] at e3
              obtain ⟨rfl, rfl⟩ := e3
              clear hS2 hy
              by_cases hkj : k < j
              · rw [if_pos hkj] at r6
                have p1 : ¬ (j : Int) ≤ (k : Int) := by omega
                have p2 : (k : Int) < (m0 : Int) + 1 := by omega
                go_upto_region 25 with (fail)
                refine wp_region_quiet_below (by kernel_rfl) (by kernel_rfl) ?_
                repeat (first
                  | go_big_quiet_skip
                  | (go_big_quiet_want
                     first
                     | (first | (refine q_loadM _ rfl _ rfl y (by with_reducible exact E6) ?_) | (refine q_midM _ rfl _ _ rfl y (by with_reducible exact r6) ?_) | (refine q_neqM _ _ rfl y rfl rfl ?_)
                        simp only [Act.put, List.setIfInBounds_toArray, List.set_cons_succ, List.set_cons_zero]
                        go_big_quiet_on)
                     | (go_big_quiet_op
                        go_big_quiet_on)))
                refine wpQuiet_nil ?_
                intro w7 hw'
                have H7 := Lib.hid (H6.out.bel (quiet_end hw'))
                clear hw' E6 r6 H6
                go_wp2
                exact ⟨⟨k + 1, by omega, by go_num, H7.out⟩, by simp [intOf]; omega⟩
              · rw [if_neg hkj] at r6
                have p1 : (j : Int) ≤ (k : Int) := by omega
                have p2 : (k : Int) + 1 < (m0 : Int) + 1 := by omega
                have p3 : IntKind.i64.wrap ((k : Int) + 1) = (k : Int) + 1 := IntWalk.i64_in _ (by omega)
                go_upto_region 25 with (fail)
                refine wp_region_quiet_below (by kernel_rfl) (by kernel_rfl) ?_
                repeat (first
                  | go_big_quiet_skip
                  | (go_big_quiet_want
                     first
                     | (first | (refine q_loadM _ rfl _ rfl y (by with_reducible exact E6) ?_) | (refine q_midM _ rfl _ _ rfl y (by with_reducible exact r6) ?_) | (refine q_neqM _ _ rfl y rfl rfl ?_)
                        simp only [Act.put, List.setIfInBounds_toArray, List.set_cons_succ, List.set_cons_zero]
                        go_big_quiet_on)
                     | (go_big_quiet_op
                        go_big_quiet_on)))
                refine wpQuiet_nil ?_
                intro w7 hw'
                have H7 := Lib.hid (H6.out.bel (quiet_end hw'))
                clear hw' E6 r6 H6
                go_wp2
                exact ⟨⟨k + 1, by omega, by go_num, H7.out⟩, by simp [intOf]; omega⟩
            · obtain rfl : k = m0 := by omega
              go_wp2_with (go_at_call 12; (with_reducible refine (packed_any _).mono ?_); rintro e w5 ⟨rfl, b5⟩)
              go_ret
              exact ⟨rfl, (HH.out.bel b5).below⟩
        · have ho : i < 0 ∨ (n : Int) ≤ i := by omega
          have HT : Hid (Calls Try.prog 14 #[.pointer (some ⟨w.heap.size + 1, 0, none⟩), .int .i64 i] wr fun e w' => e = .returned (.tuple #[.agg (mlC mlZ), .int .i64 7]) ∧ HasB w.heap.size w w' (w.heap.size + 1) 60 l) := by
            have hix : ix l i = none := by
              unfold ix
              rcases ho with ho | ho
              · rw [if_neg (by omega)]
              · split
                · exact List.getElem?_eq_none (by have := HN.out; omega)
                · rfl
            have := hb_take HH2.out i
            rw [atV, atE, takeK, hix] at this
            exact this.mono fun e w' h => ⟨h.1, h.2.1⟩
          rcases ho with ho | ho
          · go_upto_region 14 with (first
              | (go_at_call 14; (with_reducible refine HT.out.mono ?_); rintro e w2 ⟨rfl, h2⟩; have H2 := Lib.hid h2; clear h2)
              | (refine p_storeM rfl _ _ rfl w2.heap.size rfl mlZ rfl mlE rfl (Blk.new w2 mlE _) ?_))
            have b3 : Below w2.heap.size w2 ((w2.alloc (.cells mlE 33)).setRow w2.heap.size (mlC mlZ)) := bel_setRow ((Below.refl _ _).alloc (Nat.le_refl _) _) (Nat.le_refl _) _
            have H3 := Lib.hid (H2.out.bel b3)
            clear b3 H2 HT
            generalize World.setRow _ _ _ = W3 at *
            have hZ : ∀ w4, Below W3.heap.size W3 w4 → Calls Try.prog 11 #[.pointer (some ⟨w.heap.size + 1, 0, none⟩)] w4 fun e w' => e = .returned (.int .i64 (n : Int)) ∧ w4 = w' := fun w4 hb => by
              have := hb_size (H3.out.bel hb)
              rwa [← HN.out] at this
            have HZ := Lib.hid hZ
            clear hZ
            go_wp2_with (first
              | (go_at_call 12; (with_reducible refine (packed_any _).mono ?_); rintro e w5 ⟨rfl, b5⟩; have HZ5 := Lib.hid (HZ.out _ b5); have H5 := Lib.hid (H3.out.bel b5).below; clear b5)
              | (go_at_call 11; (with_reducible refine HZ5.out.mono ?_); rintro e w6 ⟨rfl, rfl⟩))
            go_ret
            exact ⟨rfl, H5.out⟩
          · have hn0 : ¬ i < 0 := by omega
            go_upto_region 14 with (first
              | (go_at_call 14; (with_reducible refine HT.out.mono ?_); rintro e w2 ⟨rfl, h2⟩; have H2 := Lib.hid h2; clear h2)
              | (refine p_storeM rfl _ _ rfl w2.heap.size rfl mlZ rfl mlE rfl (Blk.new w2 mlE _) ?_))
            have b3 : Below w2.heap.size w2 ((w2.alloc (.cells mlE 33)).setRow w2.heap.size (mlC mlZ)) := bel_setRow ((Below.refl _ _).alloc (Nat.le_refl _) _) (Nat.le_refl _) _
            have H3 := Lib.hid (H2.out.bel b3)
            clear b3 H2 HT
            generalize World.setRow _ _ _ = W3 at *
            have hZ : ∀ w4, Below W3.heap.size W3 w4 → Calls Try.prog 11 #[.pointer (some ⟨w.heap.size + 1, 0, none⟩)] w4 fun e w' => e = .returned (.int .i64 (n : Int)) ∧ w4 = w' := fun w4 hb => by
              have := hb_size (H3.out.bel hb)
              rwa [← HN.out] at this
            have HZ := Lib.hid hZ
            clear hZ
            go_wp2_with (first
              | (go_at_call 12; (with_reducible refine (packed_any _).mono ?_); rintro e w5 ⟨rfl, b5⟩; have HZ5 := Lib.hid (HZ.out _ b5); have H5 := Lib.hid (H3.out.bel b5).below; clear b5)
              | (go_at_call 11; (with_reducible refine HZ5.out.mono ?_); rintro e w6 ⟨rfl, rfl⟩))
            go_ret
            exact ⟨rfl, H5.out⟩
  · have hc0 : (60 : Int) < (l.length : Int) := by omega
    clear hS
    generalize l.length = n0 at *
    go_enter Try.func4, Try.ntmps4
    go_wp2
    go_ret
    exact ⟨rfl, Below.refl _ _⟩

set_option maxRecDepth 100000 in
theorem lifted (os : Os) (started : os.Started) (H : Type) (enc : TypeId × Value → H) :
    ReturnsInHanded {} Try.checked os 4 .any (Rows.bagKeepsSpec.pre6 enc Try.prog Try.f4 Rows.bagKeepsRow.domain false) (Rows.bagKeepsSpec.post enc Try.prog Try.f4 false true false false) := by
  refine returnsInHanded_of_change (C := Try.checked) own started (by kernel_rfl) Try.func4
    (ChangeSpec.witness6 (enc := enc) (C := Try.checked) false ⟨#[], #[.slice none 0 0, .int .i64 0], []⟩ 8 (by kernel_rfl) (by kernel_rfl) (by kernel_rfl) (by kernel_rfl)) ?_
  intro W base args ds gs before hval0 hW hcnd _
  have hval : ∀ (j : Nat) t v, Try.f4.params[j]? = some t → args[j]? = some v → Value.okWide Try.prog W .any base t v := hval0
  have hW' := hW
  obtain ⟨p, q, hA0, hV, rfl, hfz, hnd⟩ := hW
  have hA : DataW.TrodAll enc Try.prog W 0 (fun _ => true) true Try.f4.params.toList args.toList ds p := hA0
  rw [Try.params4] at hA hval
  obtain ⟨v0, vs0, d0, ds0, p0, q0, hargs, rfl, rfl, h0, r0⟩ := trodAll_cons hA
  obtain ⟨v1, vs1, d1, ds1, p1, q1, rfl, rfl, rfl, h1, r1⟩ := trodAll_cons r0
  obtain ⟨rfl, rfl, rfl⟩ := trodAll_nil r1
  obtain rfl : args = #[v0, v1] := by cases args; simp_all
  obtain ⟨rfl, rfl⟩ := trodVars_none hV
  have k0 := h0
  have lt0 : ∀ x ∈ p0, x.block < W.heap.size := by obtain ⟨m, hm⟩ := k0; exact DataW.trod_lt m _ _ _ hm
  obtain ⟨n0, ok0⟩ := open_mls (hval 0 37 v0 rfl rfl) h0
  have k1 := h1
  have lt1 : ∀ x ∈ p1, x.block < W.heap.size := by obtain ⟨m, hm⟩ := k1; exact DataW.trod_lt m _ _ _ hm
  obtain ⟨n1, ok1, rfl⟩ := open_i64 (hval 1 3 v1 rfl rfl) h1
  clear hA0 hval0
  refine (walk n0 v0 ok0 n1 ok1).mono fun e W' ⟨he, bel⟩ => ?_
  subst he
  exact ⟨_, rfl, _, _, _, [], _, [], hW', trodAll_mk1 (shut_bool Try.underlying4 _), (trodAll_cons_mk (Below.trod laidOut (by kernel_rfl) (of_decide_eq_true (by kernel_rfl)) k0 bel lt0) (trodAll_cons_mk (Below.trod laidOut (by kernel_rfl) (of_decide_eq_true (by kernel_rfl)) k1 bel lt1) trodAll_mk0)), rfl, bel.frame _, fun h => by cases h⟩

theorem proved : Rows.BagKeepsSaid :=
  OpenClaim.holds_of_wide 4 Try.f4 rfl rfl rfl rfl rfl rfl rfl ⟨rfl, rfl, rfl, rfl, rfl⟩ rfl rfl rfl rfl rfl (by kernel_rfl) Try.func4 (by kernel_rfl)
    (of_decide_eq_true (by kernel_rfl)) (by unfold Func.isWrapper; first | (rw [if_pos (by decide +kernel)]; kernel_rfl) | (rw [if_neg (by decide +kernel)]; exact ⟨rfl, rfl⟩))
    (fun os started H enc _ => lifted os started H enc)
end Go.Proofs.Ytbjjbcjapkmnfaa.BagKeepsLaw
