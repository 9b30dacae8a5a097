/- BagLoses: for all rows of messages, addresses and places the call returns true: what is lost is all that was to an address, and nothing else; what is put twice stands behind all, and where it stood. No condition. -/
import Derived.Test.YtbjjbcjapkmnfaaBagKeepsLaw
namespace Go.Proofs.Ytbjjbcjapkmnfaa.BagLosesLaw
open Go Go.ChangeShapes Go.WideShapes Go.ChangeAt Go.RowKit Go.Sort
open Go.ChangeMaps (open_string shut_string)
open BagKeepsLaw

set_option maxRecDepth 100000 in
set_option maxHeartbeats 8000000 in
theorem walk (l : List Ml) (v : Value) {w : World} (hS : IsM w v l) (addr : Int) (_ : -9223372036854775808 ≤ addr ∧ addr ≤ 9223372036854775807) (i : Int) (hi64 : -9223372036854775808 ≤ i ∧ i ≤ 9223372036854775807) : Calls Try.prog 5 #[v, .int .i64 addr, .int .i64 i] w fun e w' => e = .returned (.bool true) ∧ Below w.heap.size w w' := by
  obtain ⟨a, c, rfl⟩ := hS.form
  by_cases h60 : l.length ≤ 50
  · have hc0 : ¬ (50 : Int) < (l.length : Int) := by omega
    have HS := Lib.hid hS
    obtain ⟨n, hn⟩ : ∃ n, n = l.length := ⟨_, rfl⟩
    have HN := Lib.hid hn
    rw [← hn] at h60 hc0
    have HW : Hid (Calls Try.prog 8 #[.int .i64 60] w fun e w' => e = .returned (.tuple #[.pointer (some ⟨w.heap.size + 1, 0, none⟩), .int .i64 0]) ∧ HasB w.heap.size w w' (w.heap.size + 1) 60 []) := hb_new (M := 60) (by decide) (by decide) w
    rw [← hn]
    clear hS hn
    go_enter Try.func5, Try.ntmps5
    go_upto_region 6 with (go_at_call 8; (with_reducible refine HW.out.mono ?_); rintro e w1 ⟨rfl, h1⟩; have H1 := Lib.hid h1; clear h1)
    go_wp2
    go_loopw [9, 10] (fun mv kv wr => ∃ k : Nat, k ≤ n ∧ kv = .int .i64 k ∧ mv = .int .i64 ((toN l addr k).length : Nat) ∧ HasB w.heap.size w wr (w.heap.size + 1) 60 (l.take k)) (fun _ kv _ => n - (intOf kv).toNat)
    case atStart => exact ⟨0, by omega, rfl, rfl, H1.out⟩
    case round =>
      obtain ⟨k, hk, rfl, rfl, hH⟩ := hrel
      have HH := Lib.hid hH
      clear hH H1
      by_cases hlt : k < n
      · obtain ⟨x, hx⟩ : ∃ x, l[k]? = some x := ⟨_, List.getElem?_eq_getElem (by have := HN.out; omega)⟩
        have hS2 := HS.out
        rw [← HN.out] at hS2
        obtain ⟨b, o, rfl, x0, x1, x2, _⟩ := hS2.at HH.out.below hx
        have hbl : ∀ w2, Below w.heap.size w w2 → w2.cell? ⟨b, o + k * 3 + 1, none⟩ = some (.int .i64 x.to) := fun w2 hb => by
          obtain ⟨b', o', e1, _, y1, _⟩ := hS2.at hb hx
          simp only [Option.some.injEq, Addr.mk.injEq, and_true] at e1
          obtain ⟨rfl, rfl⟩ := e1
          exact y1
        have HBL := Lib.hid hbl
        clear hS2 hbl
        have hzl := toN_le l addr k
        by_cases h3 : 300 < x.bd.size
        · have hd : (300 : Int) < (x.bd.size : Int) := by omega
          clear hx
          go_wp2
          go_ret
          exact ⟨rfl, HH.out.below⟩
        · have hd : ¬ (300 : Int) < (x.bd.size : Int) := by omega
          have HP : Hid (Calls Try.prog 13 #[.pointer (some ⟨w.heap.size + 1, 0, none⟩), .agg #[.int .i64 x.fr, .int .i64 x.to, .string x.bd]] wr fun e w' => e = .returned (.int .i64 0) ∧ HasB w.heap.size w w' (w.heap.size + 1) 60 (l.take (k + 1)) ∧ w'.cell? ⟨b, o + k * 3 + 1, none⟩ = some (.int .i64 x.to)) := by
            obtain ⟨e1, e2⟩ := put_ok (M := 60) (K := l.take k) (m := x) (by omega) (by rw [take_len1 (by have := HN.out; omega)]; omega)
            have := hb_put HH.out x
            rw [e1, e2, take_snoc hx] at this
            exact this.mono fun e w' h => ⟨h.1, h.2.1, HBL.out _ h.2.1.below⟩
          by_cases hto : x.to = addr
          · have HD := Lib.hid (toN_hit hx hto)
            have he : (x.to == addr) = true := by simp [hto]
            have hw1 : IntKind.i64.wrap (((toN l addr k).length : Int) + 1) = ((toN l addr k).length : Int) + 1 := IntWalk.i64_in _ (by omega)
            clear hx hto
            generalize hz : (toN l addr k).length = z at *
            have HZ := Lib.hid hz
            clear hz
            go_wp2_with (go_at_call 13; (with_reducible refine HP.out.mono ?_); rintro e w2 ⟨rfl, h2, c2⟩; have H2 := Lib.hid h2; clear h2)
            exact ⟨⟨k + 1, by omega, by go_num, by rw [HD.out, List.length_append, HZ.out]; go_num, H2.out⟩, by simp [intOf]; omega⟩
          · have HD := Lib.hid (toN_miss hx hto)
            have he : (x.to == addr) = false := by simp [hto]
            clear hx hto
            go_wp2_with (go_at_call 13; (with_reducible refine HP.out.mono ?_); rintro e w2 ⟨rfl, h2, c2⟩; have H2 := Lib.hid h2; clear h2)
            exact ⟨⟨k + 1, by omega, by go_num, by rw [HD.out], H2.out⟩, by simp [intOf]; omega⟩
      · obtain rfl : n = k := by omega
        have hall : l.take n = l := by rw [HN.out, List.take_length]
        have HH2 : Hid (HasB w.heap.size w wr (w.heap.size + 1) 60 l) := by have := HH.out; rwa [hall] at this
        have hy : toN l addr n = toL l addr 0 := by rw [HN.out, toN_all]
        have hyl := toN_le l addr n
        rw [hy] at hyl ⊢
        clear hall HH hy
        obtain ⟨y, hy⟩ : ∃ y, (toL l addr 0).length = y := ⟨_, rfl⟩
        rw [hy] at hyl ⊢
        have HY := Lib.hid hy
        clear hy
        by_cases hin : 0 ≤ i ∧ i < (n : Int)
        · obtain ⟨j, rfl⟩ := Int.eq_ofNat_of_zero_le hin.1
          have hjn : j < l.length := by have := HN.out; omega
          obtain ⟨x, hx⟩ : ∃ x, l[j]? = some x := ⟨_, List.getElem?_eq_getElem hjn⟩
          have HA1 : Hid (Calls Try.prog 15 #[.pointer (some ⟨w.heap.size + 1, 0, none⟩), .int .i64 (j : Int)] wr fun e w' => e = .returned (.tuple #[.agg (mlC x), .int .i64 0]) ∧ Below wr.heap.size wr w') := by
            have := hb_at HH2.out (j : Int)
            rwa [atV, atE, ix_nat, hx] at this
          have HTw : Hid (∀ w2, HasB w.heap.size w w2 (w.heap.size + 1) 60 l → Calls Try.prog 16 #[.pointer (some ⟨w.heap.size + 1, 0, none⟩), .int .i64 (j : Int)] w2 fun e w' => e = .returned (.int .i64 0) ∧ HasB w.heap.size w w' (w.heap.size + 1) 60 (l ++ [x]) ∧ Fr w2 w') := fun w2 h2 => by
            have := hb_twice h2 (j : Int)
            have hnf : ¬ 60 ≤ l.length := by have := HN.out; omega
            simpa [twE, twK, ix_nat, hx, hnf] using this
          have HA2 : Hid (∀ w2, HasB w.heap.size w w2 (w.heap.size + 1) 60 (l ++ [x]) → Calls Try.prog 15 #[.pointer (some ⟨w.heap.size + 1, 0, none⟩), .int .i64 (n : Int)] w2 fun e w' => e = .returned (.tuple #[.agg (mlC x), .int .i64 0]) ∧ Below w2.heap.size w2 w') := fun w2 h2 => by
            have := hb_at h2 (n : Int)
            have e1 : (l ++ [x])[n]? = some x := by rw [HN.out, List.getElem?_append_right (Nat.le_refl _), Nat.sub_self]; rfl
            rwa [atV, atE, ix_nat, e1] at this
          have HA3 : Hid (∀ w2, HasB w.heap.size w w2 (w.heap.size + 1) 60 (l ++ [x]) → Calls Try.prog 15 #[.pointer (some ⟨w.heap.size + 1, 0, none⟩), .int .i64 (j : Int)] w2 fun e w' => e = .returned (.tuple #[.agg (mlC x), .int .i64 0]) ∧ Below w2.heap.size w2 w') := fun w2 h2 => by
            have := hb_at h2 (j : Int)
            have e1 : (l ++ [x])[j]? = some x := by rw [List.getElem?_append_left hjn]; exact hx
            rwa [atV, atE, ix_nat, e1] at this
          have HKlen : Hid ((l ++ [x]).length = n + 1) := by unfold Hid; rw [List.length_append, ← HN.out]; rfl
          have HKto : Hid ((toL (l ++ [x]) addr 0).length = y + if x.to = addr then 1 else 0) := by
            unfold Hid
            rw [toL_append, List.length_append, HY.out]
            congr 1
            unfold toL
            split <;> rfl
          clear hx hjn
          go_upto_region 17 with (first
            | (go_at_call 15; (with_reducible refine HA1.out.mono ?_); rintro e w2 ⟨rfl, b2⟩)
            | (refine p_storeM rfl _ _ rfl w2.heap.size rfl x rfl mlE rfl (Blk.new w2 mlE _) ?_))
          have c2 : Below w2.heap.size w2 ((w2.alloc (.cells mlE 33)).setRow w2.heap.size (mlC x)) := bel_setRow ((Below.refl _ _).alloc (Nat.le_refl _) _) (Nat.le_refl _) _
          have H3 := Lib.hid (HH2.out.bel (step b2 c2))
          have E3 := Lib.hid ((Blk.new w2 mlE 33).setRow (mlC x))
          clear b2 c2 HA1
          generalize w2.heap.size = q1 at *
          generalize World.setRow _ _ _ = W3 at *
          have HTw3 := Lib.hid (HTw.out _ H3.out)
          go_upto_region 18 with (go_at_call 16; (with_reducible refine HTw3.out.mono ?_); rintro e w4 ⟨rfl, h4, f4⟩; have H4 := Lib.hid h4; have E4 := Lib.hid (E3.out.fr f4); clear h4 f4)
          clear H3 E3 HTw3 HTw
          have HA4 := Lib.hid (HA2.out _ H4.out)
          go_upto_region 19 with (first
            | (go_at_call 15; (with_reducible refine HA4.out.mono ?_); rintro e w5 ⟨rfl, b5⟩)
            | (refine p_storeM rfl _ _ rfl w5.heap.size rfl x rfl mlE rfl (Blk.new w5 mlE _) ?_))
          have c5 : Below w5.heap.size w5 ((w5.alloc (.cells mlE 33)).setRow w5.heap.size (mlC x)) := bel_setRow ((Below.refl _ _).alloc (Nat.le_refl _) _) (Nat.le_refl _) _
          have H6 := Lib.hid (H4.out.bel (step b5 c5))
          have E6 := Lib.hid (E4.out.below (step b5 c5) E4.out.lt)
          have F6 := Lib.hid ((Blk.new w5 mlE 33).setRow (mlC x))
          clear b5 c5 HA4 HA2 H4 E4
          generalize w5.heap.size = q2 at *
          generalize World.setRow _ _ _ = W6 at *
          have HA6 := Lib.hid (HA3.out _ H6.out)
          go_upto_region 20 with (first
            | (go_at_call 15; (with_reducible refine HA6.out.mono ?_); rintro e w7 ⟨rfl, b7⟩)
            | (refine p_storeM rfl _ _ rfl w7.heap.size rfl x rfl mlE rfl (Blk.new w7 mlE _) ?_))
          have c7 : Below w7.heap.size w7 ((w7.alloc (.cells mlE 33)).setRow w7.heap.size (mlC x)) := bel_setRow ((Below.refl _ _).alloc (Nat.le_refl _) _) (Nat.le_refl _) _
          have HE := Lib.hid (H6.out.bel (step b7 c7))
          have E8 := E6.out.below (step b7 c7) E6.out.lt
          have F8 := F6.out.below (step b7 c7) F6.out.lt
          have G8 := (Blk.new w7 mlE 33).setRow (mlC x)
          clear b7 c7 HA6 HA3 H6 E6 F6
          generalize w7.heap.size = q3 at *
          generalize World.setRow _ _ _ = W8 at *
          have hto8 : W8.cell? ⟨q1, 1, none⟩ = some (.int .i64 x.to) := E8.cell 1
          have hw2 : IntKind.i64.wrap ((n : Int) + 1) = (n : Int) + 1 := IntWalk.i64_in _ (by omega)
          have HZ0 : Hid (Calls Try.prog 11 #[.pointer (some ⟨w.heap.size + 1, 0, none⟩)] W8 fun e w' => e = .returned (.int .i64 ((n : Int) + 1)) ∧ W8 = w') := by have := hb_size HE.out; rwa [HKlen.out] at this
          go_upto_region 22 with (first
            | (go_at_call 11; (with_reducible refine HZ0.out.mono ?_); rintro e w9 ⟨rfl, rfl⟩)
            | (go_guarded; refine o_loadM _ rfl _ rfl x (by first | with_reducible exact E8 | with_reducible exact F8 | with_reducible exact G8) ?_; simp only [Act.put, List.setIfInBounds_toArray, List.set_cons_succ, List.set_cons_zero])
            | (go_guarded; refine o_neqM _ _ rfl x rfl rfl ?_; simp only [Act.put, List.setIfInBounds_toArray, List.set_cons_succ, List.set_cons_zero]))
          clear E8 F8 G8 HZ0
          by_cases hto : x.to = addr
          · have he : (x.to == addr) = true := by simp [hto]
            have HNK : Hid ((l ++ [x]).length = n + 1) := HKlen.out
            have HZK : Hid ((toL (l ++ [x]) addr 0).length = y + 1) := by have := HKto.out; rwa [if_pos hto] at this
            have hw1 : IntKind.i64.wrap ((y : Int) + 1) = (y : Int) + 1 := IntWalk.i64_in _ (by omega)
            clear hto HKlen HKto
            obtain ⟨nk, hnk⟩ : ∃ nk, nk = n + 1 := ⟨_, rfl⟩
            rw [← hnk] at HNK
            have hnk2 : nk ≤ 60 := by omega
            clear hnk
            have HZ1 : Hid (Calls Try.prog 11 #[.pointer (some ⟨w.heap.size + 1, 0, none⟩)] W8 fun e w' => e = .returned (.int .i64 (nk : Int)) ∧ W8 = w') := by have := hb_size HE.out; rwa [HNK.out] at this
            have HTo1 : Hid (Calls Try.prog 17 #[.pointer (some ⟨w.heap.size + 1, 0, none⟩), .int .i64 addr] W8 fun e w' => ∃ s c, e = .returned (.slice s (y + 1) c) ∧ Below W8.heap.size W8 w') := by
              refine (hb_to HE.out addr).mono ?_
              rintro e w' ⟨s, c, rfl, _, hb⟩
              rw [HZK.out]
              exact ⟨s, c, rfl, hb⟩
            have HLo : Hid (∀ w5, Below W8.heap.size W8 w5 → Calls Try.prog 18 #[.pointer (some ⟨w.heap.size + 1, 0, none⟩), .int .i64 addr] w5 fun e w' => e = .returned (.int .i64 ((y : Int) + 1)) ∧ HasB w.heap.size w w' (w.heap.size + 1) 60 (left (l ++ [x]) addr)) := fun w5 hb => by
              have := hb_lose (HE.out.bel hb) addr
              rw [HZK.out] at this
              exact this.mono fun e w' h => ⟨h.1, h.2.1⟩
            have HSz : Hid (∀ w6, HasB w.heap.size w w6 (w.heap.size + 1) 60 (left (l ++ [x]) addr) → Calls Try.prog 11 #[.pointer (some ⟨w.heap.size + 1, 0, none⟩)] w6 fun e w' => e = .returned (.int .i64 ((nk : Int) - ((y : Int) + 1))) ∧ w6 = w') := fun w6 h6 => by
              have := hb_size h6
              rwa [show (((left (l ++ [x]) addr).length : Nat) : Int) = (nk : Int) - ((y : Int) + 1) by have := toL_left (l ++ [x]) addr 0; rw [HZK.out, HNK.out] at this; omega] at this
            have HTo2 : Hid (∀ w6, HasB w.heap.size w w6 (w.heap.size + 1) 60 (left (l ++ [x]) addr) → Calls Try.prog 17 #[.pointer (some ⟨w.heap.size + 1, 0, none⟩), .int .i64 addr] w6 fun e w' => ∃ s c, e = .returned (.slice s 0 c) ∧ Below w6.heap.size w6 w') := fun w6 h6 => by
              refine (hb_to h6 addr).mono ?_
              rintro e w' ⟨s, c, rfl, _, hb⟩
              rw [toL_none]
              exact ⟨s, c, rfl, hb⟩
            have HLo2 : Hid (∀ w6, HasB w.heap.size w w6 (w.heap.size + 1) 60 (left (l ++ [x]) addr) → Calls Try.prog 18 #[.pointer (some ⟨w.heap.size + 1, 0, none⟩), .int .i64 addr] w6 fun e w' => e = .returned (.int .i64 0) ∧ Below w.heap.size w w') := fun w6 h6 => by
              have := hb_lose h6 addr
              rw [toL_none] at this
              exact this.mono fun e w' h => ⟨h.1, h.2.1.below⟩
            have hsub : IntKind.i64.wrap ((nk : Int) - ((y : Int) + 1)) = (nk : Int) - ((y : Int) + 1) := IntWalk.i64_in _ (by omega)
            go_wp2_with (first
              | (go_at_call 12; (with_reducible refine (packed_any _).mono ?_); rintro e w7 ⟨rfl, b7⟩; have H7 := Lib.hid (H6.out.bel b7); have Z7 := Lib.hid (HSz.out _ H7.out); have T7 := Lib.hid (HTo2.out _ H7.out); clear b7)
              | (go_at_call 11; (with_reducible refine HZ1.out.mono ?_); rintro e w4 ⟨rfl, rfl⟩)
              | (go_at_call 11; (with_reducible refine Z7.out.mono ?_); rintro e w8 ⟨rfl, rfl⟩)
              | (go_at_call 17; (with_reducible refine HTo1.out.mono ?_); rintro e w5 ⟨sa, sc, rfl, b5⟩; have L5 := Lib.hid (HLo.out _ b5); clear b5)
              | (go_at_call 17; (with_reducible refine T7.out.mono ?_); rintro e w9 ⟨sa2, sc2, rfl, b9⟩; have L9 := Lib.hid (HLo2.out _ (H7.out.bel b9)); clear b9)
              | (go_at_call 18; (with_reducible refine L5.out.mono ?_); rintro e w6 ⟨rfl, h6⟩; have H6 := Lib.hid h6; clear h6)
              | (go_at_call 18; (with_reducible refine L9.out.mono ?_); rintro e w10 ⟨rfl, b10⟩))
            go_ret
            exact ⟨rfl, b10⟩
          · have he : (x.to == addr) = false := by simp [hto]
            have HNK : Hid ((l ++ [x]).length = n + 1) := HKlen.out
            have HZK : Hid ((toL (l ++ [x]) addr 0).length = y) := by have := HKto.out; rwa [if_neg hto] at this
            clear hto HKlen HKto
            obtain ⟨nk, hnk⟩ : ∃ nk, nk = n + 1 := ⟨_, rfl⟩
            rw [← hnk] at HNK
            have hnk2 : nk ≤ 60 := by omega
            clear hnk
            have HZ1 : Hid (Calls Try.prog 11 #[.pointer (some ⟨w.heap.size + 1, 0, none⟩)] W8 fun e w' => e = .returned (.int .i64 (nk : Int)) ∧ W8 = w') := by have := hb_size HE.out; rwa [HNK.out] at this
            have HTo1 : Hid (Calls Try.prog 17 #[.pointer (some ⟨w.heap.size + 1, 0, none⟩), .int .i64 addr] W8 fun e w' => ∃ s c, e = .returned (.slice s y c) ∧ Below W8.heap.size W8 w') := by
              refine (hb_to HE.out addr).mono ?_
              rintro e w' ⟨s, c, rfl, _, hb⟩
              rw [HZK.out]
              exact ⟨s, c, rfl, hb⟩
            have HLo : Hid (∀ w5, Below W8.heap.size W8 w5 → Calls Try.prog 18 #[.pointer (some ⟨w.heap.size + 1, 0, none⟩), .int .i64 addr] w5 fun e w' => e = .returned (.int .i64 (y : Int)) ∧ HasB w.heap.size w w' (w.heap.size + 1) 60 (left (l ++ [x]) addr)) := fun w5 hb => by
              have := hb_lose (HE.out.bel hb) addr
              rw [HZK.out] at this
              exact this.mono fun e w' h => ⟨h.1, h.2.1⟩
            have HSz : Hid (∀ w6, HasB w.heap.size w w6 (w.heap.size + 1) 60 (left (l ++ [x]) addr) → Calls Try.prog 11 #[.pointer (some ⟨w.heap.size + 1, 0, none⟩)] w6 fun e w' => e = .returned (.int .i64 ((nk : Int) - (y : Int))) ∧ w6 = w') := fun w6 h6 => by
              have := hb_size h6
              rwa [show (((left (l ++ [x]) addr).length : Nat) : Int) = (nk : Int) - (y : Int) by have := toL_left (l ++ [x]) addr 0; rw [HZK.out, HNK.out] at this; omega] at this
            have HTo2 : Hid (∀ w6, HasB w.heap.size w w6 (w.heap.size + 1) 60 (left (l ++ [x]) addr) → Calls Try.prog 17 #[.pointer (some ⟨w.heap.size + 1, 0, none⟩), .int .i64 addr] w6 fun e w' => ∃ s c, e = .returned (.slice s 0 c) ∧ Below w6.heap.size w6 w') := fun w6 h6 => by
              refine (hb_to h6 addr).mono ?_
              rintro e w' ⟨s, c, rfl, _, hb⟩
              rw [toL_none]
              exact ⟨s, c, rfl, hb⟩
            have HLo2 : Hid (∀ w6, HasB w.heap.size w w6 (w.heap.size + 1) 60 (left (l ++ [x]) addr) → Calls Try.prog 18 #[.pointer (some ⟨w.heap.size + 1, 0, none⟩), .int .i64 addr] w6 fun e w' => e = .returned (.int .i64 0) ∧ Below w.heap.size w w') := fun w6 h6 => by
              have := hb_lose h6 addr
              rw [toL_none] at this
              exact this.mono fun e w' h => ⟨h.1, h.2.1.below⟩
            have hsub : IntKind.i64.wrap ((nk : Int) - (y : Int)) = (nk : Int) - (y : Int) := IntWalk.i64_in _ (by omega)
            go_wp2_with (first
              | (go_at_call 12; (with_reducible refine (packed_any _).mono ?_); rintro e w7 ⟨rfl, b7⟩; have H7 := Lib.hid (H6.out.bel b7); have Z7 := Lib.hid (HSz.out _ H7.out); have T7 := Lib.hid (HTo2.out _ H7.out); clear b7)
              | (go_at_call 11; (with_reducible refine HZ1.out.mono ?_); rintro e w4 ⟨rfl, rfl⟩)
              | (go_at_call 11; (with_reducible refine Z7.out.mono ?_); rintro e w8 ⟨rfl, rfl⟩)
              | (go_at_call 17; (with_reducible refine HTo1.out.mono ?_); rintro e w5 ⟨sa, sc, rfl, b5⟩; have L5 := Lib.hid (HLo.out _ b5); clear b5)
              | (go_at_call 17; (with_reducible refine T7.out.mono ?_); rintro e w9 ⟨sa2, sc2, rfl, b9⟩; have L9 := Lib.hid (HLo2.out _ (H7.out.bel b9)); clear b9)
              | (go_at_call 18; (with_reducible refine L5.out.mono ?_); rintro e w6 ⟨rfl, h6⟩; have H6 := Lib.hid h6; clear h6)
              | (go_at_call 18; (with_reducible refine L9.out.mono ?_); rintro e w10 ⟨rfl, b10⟩))
            go_ret
            exact ⟨rfl, b10⟩
        · have hix : ix l i = none := by
            unfold ix
            split
            · exact List.getElem?_eq_none (by have := HN.out; omega)
            · rfl
          have HA1 : Hid (∀ w2, HasB w.heap.size w w2 (w.heap.size + 1) 60 l → Calls Try.prog 15 #[.pointer (some ⟨w.heap.size + 1, 0, none⟩), .int .i64 i] w2 fun e w' => e = .returned (.tuple #[.agg (mlC mlZ), .int .i64 7]) ∧ Below w2.heap.size w2 w') := fun w2 h2 => by
            have := hb_at h2 i
            rwa [atV, atE, hix] at this
          have HTw : Hid (∀ w2, HasB w.heap.size w w2 (w.heap.size + 1) 60 l → Calls Try.prog 16 #[.pointer (some ⟨w.heap.size + 1, 0, none⟩), .int .i64 i] w2 fun e w' => e = .returned (.int .i64 7) ∧ HasB w.heap.size w w' (w.heap.size + 1) 60 l ∧ Fr w2 w') := fun w2 h2 => by
            have := hb_twice h2 i
            simpa [twE, twK, hix] using this
          have HA2 : Hid (∀ w2, HasB w.heap.size w w2 (w.heap.size + 1) 60 l → Calls Try.prog 15 #[.pointer (some ⟨w.heap.size + 1, 0, none⟩), .int .i64 (n : Int)] w2 fun e w' => e = .returned (.tuple #[.agg (mlC mlZ), .int .i64 7]) ∧ Below w2.heap.size w2 w') := fun w2 h2 => by
            have := hb_at h2 (n : Int)
            have e1 : l[n]? = none := List.getElem?_eq_none (by have := HN.out; omega)
            rwa [atV, atE, ix_nat, e1] at this
          have HA3 := Lib.hid (HA1.out _ HH2.out)
          clear hix
          go_upto_region 17 with (first
            | (go_at_call 15; (with_reducible refine HA3.out.mono ?_); rintro e w2 ⟨rfl, b2⟩)
            | (refine p_storeM rfl _ _ rfl w2.heap.size rfl mlZ rfl mlE rfl (Blk.new w2 mlE _) ?_))
          have c2 : Below w2.heap.size w2 ((w2.alloc (.cells mlE 33)).setRow w2.heap.size (mlC mlZ)) := bel_setRow ((Below.refl _ _).alloc (Nat.le_refl _) _) (Nat.le_refl _) _
          have H3 := Lib.hid (HH2.out.bel (step b2 c2))
          clear b2 c2 HA3
          generalize w2.heap.size = q1 at *
          generalize World.setRow _ _ _ = W3 at *
          have HTw3 := Lib.hid (HTw.out _ H3.out)
          go_upto_region 18 with (go_at_call 16; (with_reducible refine HTw3.out.mono ?_); rintro e w4 ⟨rfl, h4, _⟩; have H4 := Lib.hid h4; clear h4)
          clear H3 HTw3 HTw
          have HA4 := Lib.hid (HA2.out _ H4.out)
          go_upto_region 19 with (first
            | (go_at_call 15; (with_reducible refine HA4.out.mono ?_); rintro e w5 ⟨rfl, b5⟩)
            | (refine p_storeM rfl _ _ rfl w5.heap.size rfl mlZ rfl mlE rfl (Blk.new w5 mlE _) ?_))
          have c5 : Below w5.heap.size w5 ((w5.alloc (.cells mlE 33)).setRow w5.heap.size (mlC mlZ)) := bel_setRow ((Below.refl _ _).alloc (Nat.le_refl _) _) (Nat.le_refl _) _
          have H6 := Lib.hid (H4.out.bel (step b5 c5))
          clear b5 c5 HA4 HA2 H4
          generalize w5.heap.size = q2 at *
          generalize World.setRow _ _ _ = W6 at *
          have HA6 := Lib.hid (HA1.out _ H6.out)
          go_upto_region 20 with (first
            | (go_at_call 15; (with_reducible refine HA6.out.mono ?_); rintro e w7 ⟨rfl, b7⟩)
            | (refine p_storeM rfl _ _ rfl w7.heap.size rfl mlZ rfl mlE rfl (Blk.new w7 mlE _) ?_))
          have c7 : Below w7.heap.size w7 ((w7.alloc (.cells mlE 33)).setRow w7.heap.size (mlC mlZ)) := bel_setRow ((Below.refl _ _).alloc (Nat.le_refl _) _) (Nat.le_refl _) _
          have HE := Lib.hid (H6.out.bel (step b7 c7))
          clear b7 c7 HA6 H6 HA1
          generalize w7.heap.size = q3 at *
          generalize World.setRow _ _ _ = W8 at *
          have HNK : Hid (l.length = n) := HN.out.symm
          have HZK := HY
          have HZ0 : Hid (Calls Try.prog 11 #[.pointer (some ⟨w.heap.size + 1, 0, none⟩)] W8 fun e w' => e = .returned (.int .i64 (n : Int)) ∧ W8 = w') := by have := hb_size HE.out; rwa [HNK.out] at this
          go_upto_region 24 with (go_at_call 11; (with_reducible refine HZ0.out.mono ?_); rintro e w9 ⟨rfl, rfl⟩)
          clear HZ0
          have HZ1 : Hid (Calls Try.prog 11 #[.pointer (some ⟨w.heap.size + 1, 0, none⟩)] W8 fun e w' => e = .returned (.int .i64 (n : Int)) ∧ W8 = w') := by have := hb_size HE.out; rwa [HNK.out] at this
          have HTo1 : Hid (Calls Try.prog 17 #[.pointer (some ⟨w.heap.size + 1, 0, none⟩), .int .i64 addr] W8 fun e w' => ∃ s c, e = .returned (.slice s y c) ∧ Below W8.heap.size W8 w') := by
            refine (hb_to HE.out addr).mono ?_
            rintro e w' ⟨s, c, rfl, _, hb⟩
            rw [HZK.out]
            exact ⟨s, c, rfl, hb⟩
          have HLo : Hid (∀ w5, Below W8.heap.size W8 w5 → Calls Try.prog 18 #[.pointer (some ⟨w.heap.size + 1, 0, none⟩), .int .i64 addr] w5 fun e w' => e = .returned (.int .i64 (y : Int)) ∧ HasB w.heap.size w w' (w.heap.size + 1) 60 (left l addr)) := fun w5 hb => by
            have := hb_lose (HE.out.bel hb) addr
            rw [HZK.out] at this
            exact this.mono fun e w' h => ⟨h.1, h.2.1⟩
          have HSz : Hid (∀ w6, HasB w.heap.size w w6 (w.heap.size + 1) 60 (left l addr) → Calls Try.prog 11 #[.pointer (some ⟨w.heap.size + 1, 0, none⟩)] w6 fun e w' => e = .returned (.int .i64 ((n : Int) - (y : Int))) ∧ w6 = w') := fun w6 h6 => by
            have := hb_size h6
            rwa [show (((left l addr).length : Nat) : Int) = (n : Int) - (y : Int) by have := toL_left l addr 0; rw [HZK.out, HNK.out] at this; omega] at this
          have HTo2 : Hid (∀ w6, HasB w.heap.size w w6 (w.heap.size + 1) 60 (left l addr) → Calls Try.prog 17 #[.pointer (some ⟨w.heap.size + 1, 0, none⟩), .int .i64 addr] w6 fun e w' => ∃ s c, e = .returned (.slice s 0 c) ∧ Below w6.heap.size w6 w') := fun w6 h6 => by
            refine (hb_to h6 addr).mono ?_
            rintro e w' ⟨s, c, rfl, _, hb⟩
            rw [toL_none]
            exact ⟨s, c, rfl, hb⟩
          have HLo2 : Hid (∀ w6, HasB w.heap.size w w6 (w.heap.size + 1) 60 (left l addr) → Calls Try.prog 18 #[.pointer (some ⟨w.heap.size + 1, 0, none⟩), .int .i64 addr] w6 fun e w' => e = .returned (.int .i64 0) ∧ Below w.heap.size w w') := fun w6 h6 => by
            have := hb_lose h6 addr
            rw [toL_none] at this
            exact this.mono fun e w' h => ⟨h.1, h.2.1.below⟩
          have hsub : IntKind.i64.wrap ((n : Int) - (y : Int)) = (n : Int) - (y : Int) := IntWalk.i64_in _ (by omega)
          go_wp2_with (first
            | (go_at_call 12; (with_reducible refine (packed_any _).mono ?_); rintro e w7 ⟨rfl, b7⟩; have H7 := Lib.hid (H6.out.bel b7); have Z7 := Lib.hid (HSz.out _ H7.out); have T7 := Lib.hid (HTo2.out _ H7.out); clear b7)
            | (go_at_call 11; (with_reducible refine HZ1.out.mono ?_); rintro e w4 ⟨rfl, rfl⟩)
            | (go_at_call 11; (with_reducible refine Z7.out.mono ?_); rintro e w8 ⟨rfl, rfl⟩)
            | (go_at_call 17; (with_reducible refine HTo1.out.mono ?_); rintro e w5 ⟨sa, sc, rfl, b5⟩; have L5 := Lib.hid (HLo.out _ b5); clear b5)
            | (go_at_call 17; (with_reducible refine T7.out.mono ?_); rintro e w9 ⟨sa2, sc2, rfl, b9⟩; have L9 := Lib.hid (HLo2.out _ (H7.out.bel b9)); clear b9)
            | (go_at_call 18; (with_reducible refine L5.out.mono ?_); rintro e w6 ⟨rfl, h6⟩; have H6 := Lib.hid h6; clear h6)
            | (go_at_call 18; (with_reducible refine L9.out.mono ?_); rintro e w10 ⟨rfl, b10⟩))
          go_ret
          exact ⟨rfl, b10⟩
  · have hc0 : (50 : Int) < (l.length : Int) := by omega
    clear hS
    generalize l.length = n0 at *
    go_enter Try.func5, Try.ntmps5
    go_wp2
    go_ret
    exact ⟨rfl, Below.refl _ _⟩

set_option maxRecDepth 100000 in
theorem lifted (os : Os) (started : os.Started) (H : Type) (enc : TypeId × Value → H) :
    ReturnsInHanded {} Try.checked os 5 .any (Rows.bagLosesSpec.pre6 enc Try.prog Try.f5 Rows.bagLosesRow.domain false) (Rows.bagLosesSpec.post enc Try.prog Try.f5 false true false false) := by
  refine returnsInHanded_of_change (C := Try.checked) own started (by kernel_rfl) Try.func5
    (ChangeSpec.witness6 (enc := enc) (C := Try.checked) false ⟨#[], #[.slice none 0 0, .int .i64 0, .int .i64 0], []⟩ 8 (by kernel_rfl) (by kernel_rfl) (by kernel_rfl) (by kernel_rfl)) ?_
  intro W base args ds gs before hval0 hW hcnd _
  have hval : ∀ (j : Nat) t v, Try.f5.params[j]? = some t → args[j]? = some v → Value.okWide Try.prog W .any base t v := hval0
  have hW' := hW
  obtain ⟨p, q, hA0, hV, rfl, hfz, hnd⟩ := hW
  have hA : DataW.TrodAll enc Try.prog W 0 (fun _ => true) true Try.f5.params.toList args.toList ds p := hA0
  rw [Try.params5] at hA hval
  obtain ⟨v0, vs0, d0, ds0, p0, q0, hargs, rfl, rfl, h0, r0⟩ := trodAll_cons hA
  obtain ⟨v1, vs1, d1, ds1, p1, q1, rfl, rfl, rfl, h1, r1⟩ := trodAll_cons r0
  obtain ⟨v2, vs2, d2, ds2, p2, q2, rfl, rfl, rfl, h2, r2⟩ := trodAll_cons r1
  obtain ⟨rfl, rfl, rfl⟩ := trodAll_nil r2
  obtain rfl : args = #[v0, v1, v2] := by cases args; simp_all
  obtain ⟨rfl, rfl⟩ := trodVars_none hV
  have k0 := h0
  have lt0 : ∀ x ∈ p0, x.block < W.heap.size := by obtain ⟨m, hm⟩ := k0; exact DataW.trod_lt m _ _ _ hm
  obtain ⟨n0, ok0⟩ := open_mls (hval 0 37 v0 rfl rfl) h0
  have k1 := h1
  have lt1 : ∀ x ∈ p1, x.block < W.heap.size := by obtain ⟨m, hm⟩ := k1; exact DataW.trod_lt m _ _ _ hm
  obtain ⟨n1, ok1, rfl⟩ := open_i64 (hval 1 3 v1 rfl rfl) h1
  have k2 := h2
  have lt2 : ∀ x ∈ p2, x.block < W.heap.size := by obtain ⟨m, hm⟩ := k2; exact DataW.trod_lt m _ _ _ hm
  obtain ⟨n2, ok2, rfl⟩ := open_i64 (hval 2 3 v2 rfl rfl) h2
  clear hA0 hval0
  refine (walk n0 v0 ok0 n1 ok1 n2 ok2).mono fun e W' ⟨he, bel⟩ => ?_
  subst he
  exact ⟨_, rfl, _, _, _, [], _, [], hW', trodAll_mk1 (shut_bool Try.underlying4 _), (trodAll_cons_mk (Below.trod laidOut (by kernel_rfl) (of_decide_eq_true (by kernel_rfl)) k0 bel lt0) (trodAll_cons_mk (Below.trod laidOut (by kernel_rfl) (of_decide_eq_true (by kernel_rfl)) k1 bel lt1) (trodAll_cons_mk (Below.trod laidOut (by kernel_rfl) (of_decide_eq_true (by kernel_rfl)) k2 bel lt2) trodAll_mk0))), rfl, bel.frame _, fun h => by cases h⟩

theorem proved : Rows.BagLosesSaid :=
  OpenClaim.holds_of_wide 5 Try.f5 rfl rfl rfl rfl rfl rfl rfl ⟨rfl, rfl, rfl, rfl, rfl⟩ rfl rfl rfl rfl rfl (by kernel_rfl) Try.func5 (by kernel_rfl)
    (of_decide_eq_true (by kernel_rfl)) (by unfold Func.isWrapper; first | (rw [if_pos (by decide +kernel)]; kernel_rfl) | (rw [if_neg (by decide +kernel)]; exact ⟨rfl, rfl⟩))
    (fun os started H enc _ => lifted os started H enc)
end Go.Proofs.Ytbjjbcjapkmnfaa.BagLosesLaw
