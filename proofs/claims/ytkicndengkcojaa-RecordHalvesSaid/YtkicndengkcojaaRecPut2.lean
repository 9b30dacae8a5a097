/- A record's bytes: Put. -/
import Derived.Test.YtkicndengkcojaaRecPut
namespace Go.Proofs.Ytkicndengkcojaa
set_option maxRecDepth 100000
open Go Go.RowKit Go.Sort

theorem str_nil_left (b : ByteArray) : (⟨#[]⟩ : ByteArray) ++ b = b := ByteArray.ext (by rw [ByteArray.data_append, Array.empty_append])
theorem str_nil_right (b : ByteArray) : b ++ (⟨#[]⟩ : ByteArray) = b := ByteArray.ext (by rw [ByteArray.data_append, Array.append_empty])
theorem putNext_any (b : ByteArray) (nl : Int) (nb : Nat) (hb : b.size ≤ 10000) (hnb : nb < 18446744073709551616) (h : noneB nl nb = true ∨ isB nl nb = true) : Gives Try.prog 36 #[.string b, .agg (labc nl nb)] (.string (b ++ txt (nextN nl nb))) := by
  intro w
  unfold nextN
  cases hE : noneB nl nb
  · have hi : isB nl nb = true := h.resolve_left (by rw [hE]; simp)
    have hl := isB_len hi
    obtain ⟨n, rfl⟩ := Int.eq_ofNat_of_zero_le hl.1
    exact putNext_lab b n nb w hb (by omega) hnb (isB_low hi)
  · obtain ⟨rfl, rfl⟩ := noneB_iff.1 hE
    exact putNext_none b w hb
theorem nextN_length (nl : Int) (nb : Nat) (h : noneB nl nb = true ∨ isB nl nb = true) : (nextN nl nb).length ≤ 20 := by
  unfold nextN
  cases hE : noneB nl nb
  · have hi : isB nl nb = true := h.resolve_left (by rw [hE]; simp)
    have hl := isB_len hi
    obtain ⟨n, rfl⟩ := Int.eq_ofNat_of_zero_le hl.1
    have h1 := labN_length (n := n) (b := nb) (by omega)
    have h2 := e8_le (n := n) (by omega)
    have h3 := nb_le8 (v := 1) (by omega)
    simp only [Bool.false_eq_true, if_false, List.length_append, numN_length, Int.toNat_natCast, h1]
    omega
  · have h3 := nb_zero
    simp [numN_length, h3]
theorem put_num (k : Nat) (hk : k < 18446744073709551616) : Gives Try.prog 35 #[.string ⟨#[]⟩, .int .u64 (k : Int)] (.string (txt (numN k))) := by
  intro w
  have h := putNumber_any ⟨#[]⟩ k w (by decide) hk
  rwa [str_nil_left] at h
theorem putc_no {r : Rc} {u : Value} {w : World} {g : Nat} (hg : Blk w g (recC r u) 27) (hT : Told w u r.items) (hW : r.Wf) (hl : r.items.length ≤ 1000000) (hr : isR r = false) :
    Calls Try.prog 33 #[.pointer (some ⟨g, 0, none⟩)] w fun e w' => e = Pan 1 ∧ Below w.heap.size w w' := by
  have HI := Lib.hid (is_any hT hW hl)
  rw [hr] at HI
  clear hT hW hl hr
  go_enter Try.func33, Try.ntmps33
  go_wp2_with (first
    | (refine p_loadR rfl _ rfl g rfl r u hg ?_)
    | (go_at_call 15; (with_reducible refine HI.out.mono ?_); rintro e w1 ⟨rfl, hb1⟩)
    | (go_at_call 34; (with_reducible refine (refuse_1 _).mono ?_); rintro e w2 ⟨he, rfl⟩; rw [pan_eq] at he; subst he))
  exact ⟨rfl, rfl, by assumption⟩

set_option maxHeartbeats 2000000 in
theorem putc_2 {items : List It} {nl : Int} {nb mark : Nat} {a : Option Addr} {n c : Nat} {w : World} {g : Nat} (_hn : items.length = n) (hg : Blk w g (recC ⟨2, items, nl, nb, mark⟩ (.slice a n c)) 27) (hT : Told w (.slice a n c) items) (hW : (⟨2, items, nl, nb, mark⟩ : Rc).Wf) (hr : isR ⟨2, items, nl, nb, mark⟩ = true) :
    Calls Try.prog 33 #[.pointer (some ⟨g, 0, none⟩)] w fun e w' => e = .returned (.string (txt (putR ⟨2, items, nl, nb, mark⟩))) ∧ Below w.heap.size w w' := by
  have HR := isR_iff.1 hr
  have HI := Lib.hid (is_any hT hW (Nat.le_trans HR.len (by decide)))
  rw [hr] at HI
  have HP : Gives Try.prog 35 #[.string ⟨#[]⟩, .int .u64 2] (.string (txt (numN 2))) := put_num 2 (by decide)
  have HE : Hid (txt (numN 2) = txt (putR ⟨2, items, nl, nb, mark⟩)) := by simp [Hid, putR, bareB]
  clear hT hW hr HR
  simp only [recC] at hg
  generalize txt (putR _) = res at *
  generalize txt (numN 2) = s1 at *
  go_enter Try.func33, Try.ntmps33
  go_upto_region 2 with (first
    | (refine p_loadR rfl _ rfl g rfl ⟨2, items, nl, nb, mark⟩ (.slice a n c) hg ?_)
    | (go_at_call 15; (with_reducible refine HI.out.mono ?_); rintro e w1 ⟨rfl, hb1⟩)
    | (go_at_call 34; (with_reducible refine (pass_1 _).mono ?_); rintro e w2 ⟨rfl, rfl⟩))
  have hg1 := hg.below hb1 hg.lt
  have c0 : w1.cell? ⟨g, 0, none⟩ = some (.int .i64 2) := hg1.cell 0
  go_upto_region 3 with (go_at_call 35; (with_reducible refine (HP.calls _).mono ?_); rintro e w2 ⟨rfl, hb2⟩)
  have hg2 := hg1.below hb2 hg1.lt
  clear c0
  have c0 : w2.cell? ⟨g, 0, none⟩ = some (.int .i64 2) := hg2.cell 0
  go_wp2
  go_ret
  exact ⟨by rw [← HE.out]; rfl, rstep hb1 hb2⟩

set_option maxHeartbeats 2000000 in
theorem putc_4 {items : List It} {nl : Int} {nb mark : Nat} {a : Option Addr} {n c : Nat} {w : World} {g : Nat} (_hn : items.length = n) (hg : Blk w g (recC ⟨4, items, nl, nb, mark⟩ (.slice a n c)) 27) (hT : Told w (.slice a n c) items) (hW : (⟨4, items, nl, nb, mark⟩ : Rc).Wf) (hr : isR ⟨4, items, nl, nb, mark⟩ = true) :
    Calls Try.prog 33 #[.pointer (some ⟨g, 0, none⟩)] w fun e w' => e = .returned (.string (txt (putR ⟨4, items, nl, nb, mark⟩))) ∧ Below w.heap.size w w' := by
  have HR := isR_iff.1 hr
  have HI := Lib.hid (is_any hT hW (Nat.le_trans HR.len (by decide)))
  rw [hr] at HI
  have HP : Gives Try.prog 35 #[.string ⟨#[]⟩, .int .u64 4] (.string (txt (numN 4))) := put_num 4 (by decide)
  have HE : Hid (txt (numN 4) = txt (putR ⟨4, items, nl, nb, mark⟩)) := by simp [Hid, putR, bareB]
  clear hT hW hr HR
  simp only [recC] at hg
  generalize txt (putR _) = res at *
  generalize txt (numN 4) = s1 at *
  go_enter Try.func33, Try.ntmps33
  go_upto_region 2 with (first
    | (refine p_loadR rfl _ rfl g rfl ⟨4, items, nl, nb, mark⟩ (.slice a n c) hg ?_)
    | (go_at_call 15; (with_reducible refine HI.out.mono ?_); rintro e w1 ⟨rfl, hb1⟩)
    | (go_at_call 34; (with_reducible refine (pass_1 _).mono ?_); rintro e w2 ⟨rfl, rfl⟩))
  have hg1 := hg.below hb1 hg.lt
  have c0 : w1.cell? ⟨g, 0, none⟩ = some (.int .i64 4) := hg1.cell 0
  go_upto_region 3 with (go_at_call 35; (with_reducible refine (HP.calls _).mono ?_); rintro e w2 ⟨rfl, hb2⟩)
  have hg2 := hg1.below hb2 hg1.lt
  clear c0
  have c0 : w2.cell? ⟨g, 0, none⟩ = some (.int .i64 4) := hg2.cell 0
  go_wp2
  go_ret
  exact ⟨by rw [← HE.out]; rfl, rstep hb1 hb2⟩

set_option maxHeartbeats 2000000 in
theorem putc_1 {items : List It} {nl : Int} {nb mark : Nat} {a : Option Addr} {n c : Nat} {w : World} {g : Nat} (_hn : items.length = n) (hg : Blk w g (recC ⟨1, items, nl, nb, mark⟩ (.slice a n c)) 27) (hT : Told w (.slice a n c) items) (hW : (⟨1, items, nl, nb, mark⟩ : Rc).Wf) (hr : isR ⟨1, items, nl, nb, mark⟩ = true) :
    Calls Try.prog 33 #[.pointer (some ⟨g, 0, none⟩)] w fun e w' => e = .returned (.string (txt (putR ⟨1, items, nl, nb, mark⟩))) ∧ Below w.heap.size w w' := by
  have HR := isR_iff.1 hr
  have HI := Lib.hid (is_any hT hW (Nat.le_trans HR.len (by decide)))
  rw [hr] at HI
  have HP : Gives Try.prog 35 #[.string ⟨#[]⟩, .int .u64 1] (.string (txt (numN 1))) := put_num 1 (by decide)
  have hnx := HR.next
  have hnl := nextN_length nl nb hnx
  have hsz := itsN_length hW.key HR.short
  have hlen := HR.len
  simp only at hsz hlen hnx
  have h1 : (txt (numN 1)).size ≤ 100 := by decide
  have HPI := Lib.hid (fun w1 (hb : Below w.heap.size w w1) => putItems_any (txt (numN 1)) (.slice a n c) items w1 (hT.bel hb) HR.len hW.key HR.short h1)
  have h2 : (txt (numN 1) ++ txt (numN items.length ++ itsN items)).size ≤ 2000 := by
    have := nb_le8 (v := items.length) (by omega)
    have := nb_le8 (v := 1) (by decide)
    rw [ByteArray.size_append, txt_size, txt_size, List.length_append, numN_length, numN_length]; omega
  have HNX := putNext_any (txt (numN 1) ++ txt (numN items.length ++ itsN items)) nl nb (by omega) hW.nb hnx
  have h3 : (txt (numN 1) ++ txt (numN items.length ++ itsN items) ++ txt (nextN nl nb)).size ≤ 2100 := by rw [ByteArray.size_append, txt_size (nextN nl nb)]; omega
  have HE : Hid (txt (numN 1) ++ txt (numN items.length ++ itsN items) ++ txt (nextN nl nb) = txt (putR ⟨1, items, nl, nb, mark⟩)) := by
    simp [Hid, putR, bareB, markN, txt_append, ByteArray.append_assoc]
  clear hT hW hr HR h1 h2 hnx hnl hsz hlen
  generalize txt (putR _) = res at *
  generalize txt (numN 1) ++ txt (numN items.length ++ itsN items) ++ txt (nextN nl nb) = s3 at *
  generalize txt (numN 1) ++ txt (numN items.length ++ itsN items) = s2 at *
  generalize txt (numN 1) = s1 at *
  simp only [recC] at hg
  go_enter Try.func33, Try.ntmps33
  go_upto_region 2 with (first
    | (refine p_loadR rfl _ rfl g rfl ⟨1, items, nl, nb, mark⟩ (.slice a n c) hg ?_)
    | (go_at_call 15; (with_reducible refine HI.out.mono ?_); rintro e w1 ⟨rfl, hb1⟩)
    | (go_at_call 34; (with_reducible refine (pass_1 _).mono ?_); rintro e w2 ⟨rfl, rfl⟩))
  have hg1 := hg.below hb1 hg.lt
  have c0 : w1.cell? ⟨g, 0, none⟩ = some (.int .i64 1) := hg1.cell 0
  go_upto_region 3 with (go_at_call 35; (with_reducible refine (HP.calls _).mono ?_); rintro e w2 ⟨rfl, hb2⟩)
  have hg2 := hg1.below hb2 hg1.lt
  have hbb := Lib.hid (rstep hb1 hb2)
  clear c0 hb1 hb2 hg1
  have c0 : w2.cell? ⟨g, 0, none⟩ = some (.int .i64 1) := hg2.cell 0
  go_upto_region 8 with (fail)
  have hg3 := hg2
  clear c0 hg2
  have c1 : ∀ d os, (grow (redrawn w2 d) os).cell? ⟨g, 1, none⟩ = some (.slice a n c) := fun d os => hg3.grown 1 d os
  have HPI2 := Lib.hid (fun d os => Calls.regrown_of (d := d) (os := os) (HPI.out _ (rstep hbb.out (below_regrown w2 d os))))
  refine wp_region_quiet_below (by kernel_rfl) (by kernel_rfl) ?_
  repeat (first
    | go_big_quiet_skip
    | (go_big_quiet_want
       first
       | (first | refine q_midL _ rfl g rfl ⟨1, items, nl, nb, mark⟩ (.slice a n c) hg3 ?_
          simp only [Act.put, List.setIfInBounds_toArray, List.set_cons_succ, List.set_cons_zero]
          go_big_quiet_on)
       | (go_big_quiet_op
          first | go_big_quiet_on | go_big_quiet_call (first | with_reducible exact HPI2.out _ _ | with_reducible exact HNX.grown _ _))))
  refine wpQuiet_nil ?_
  intro _ hw'
  replace hbb := Lib.hid (rstep hbb.out (quiet_fin hw'))
  clear hw' c1
  go_wp2
  go_ret
  exact ⟨by show Ending.returned (.string (s3 ++ ⟨#[]⟩)) = _; rw [str_nil_right, HE.out], hbb.out⟩

set_option maxHeartbeats 2000000 in
theorem putc_3 {items : List It} {nl : Int} {nb mark : Nat} {a : Option Addr} {n c : Nat} {w : World} {g : Nat} (_hn : items.length = n) (hg : Blk w g (recC ⟨3, items, nl, nb, mark⟩ (.slice a n c)) 27) (hT : Told w (.slice a n c) items) (hW : (⟨3, items, nl, nb, mark⟩ : Rc).Wf) (hr : isR ⟨3, items, nl, nb, mark⟩ = true) :
    Calls Try.prog 33 #[.pointer (some ⟨g, 0, none⟩)] w fun e w' => e = .returned (.string (txt (putR ⟨3, items, nl, nb, mark⟩))) ∧ Below w.heap.size w w' := by
  have HR := isR_iff.1 hr
  have HI := Lib.hid (is_any hT hW (Nat.le_trans HR.len (by decide)))
  rw [hr] at HI
  have HP : Gives Try.prog 35 #[.string ⟨#[]⟩, .int .u64 3] (.string (txt (numN 3))) := put_num 3 (by decide)
  have hnx := HR.next
  have hnl := nextN_length nl nb hnx
  have hsz := itsN_length hW.key HR.short
  have hlen := HR.len
  simp only at hsz hlen hnx
  have h1 : (txt (numN 3)).size ≤ 100 := by decide
  have HPI := Lib.hid (fun w1 (hb : Below w.heap.size w w1) => putItems_any (txt (numN 3)) (.slice a n c) items w1 (hT.bel hb) HR.len hW.key HR.short h1)
  have h2 : (txt (numN 3) ++ txt (numN items.length ++ itsN items)).size ≤ 2000 := by
    have := nb_le8 (v := items.length) (by omega)
    have := nb_le8 (v := 3) (by decide)
    rw [ByteArray.size_append, txt_size, txt_size, List.length_append, numN_length, numN_length]; omega
  have HNX := putNext_any (txt (numN 3) ++ txt (numN items.length ++ itsN items)) nl nb (by omega) hW.nb hnx
  have h3 : (txt (numN 3) ++ txt (numN items.length ++ itsN items) ++ txt (nextN nl nb)).size ≤ 2100 := by rw [ByteArray.size_append, txt_size (nextN nl nb)]; omega
  have HE : Hid (txt (numN 3) ++ txt (numN items.length ++ itsN items) ++ txt (nextN nl nb) = txt (putR ⟨3, items, nl, nb, mark⟩)) := by
    simp [Hid, putR, bareB, markN, txt_append, ByteArray.append_assoc]
  clear hT hW hr HR h1 h2 hnx hnl hsz hlen
  generalize txt (putR _) = res at *
  generalize txt (numN 3) ++ txt (numN items.length ++ itsN items) ++ txt (nextN nl nb) = s3 at *
  generalize txt (numN 3) ++ txt (numN items.length ++ itsN items) = s2 at *
  generalize txt (numN 3) = s1 at *
  simp only [recC] at hg
  go_enter Try.func33, Try.ntmps33
  go_upto_region 2 with (first
    | (refine p_loadR rfl _ rfl g rfl ⟨3, items, nl, nb, mark⟩ (.slice a n c) hg ?_)
    | (go_at_call 15; (with_reducible refine HI.out.mono ?_); rintro e w1 ⟨rfl, hb1⟩)
    | (go_at_call 34; (with_reducible refine (pass_1 _).mono ?_); rintro e w2 ⟨rfl, rfl⟩))
  have hg1 := hg.below hb1 hg.lt
  have c0 : w1.cell? ⟨g, 0, none⟩ = some (.int .i64 3) := hg1.cell 0
  go_upto_region 3 with (go_at_call 35; (with_reducible refine (HP.calls _).mono ?_); rintro e w2 ⟨rfl, hb2⟩)
  have hg2 := hg1.below hb2 hg1.lt
  have hbb := Lib.hid (rstep hb1 hb2)
  clear c0 hb1 hb2 hg1
  have c0 : w2.cell? ⟨g, 0, none⟩ = some (.int .i64 3) := hg2.cell 0
  go_upto_region 8 with (fail)
  have hg3 := hg2
  clear c0 hg2
  have c1 : ∀ d os, (grow (redrawn w2 d) os).cell? ⟨g, 1, none⟩ = some (.slice a n c) := fun d os => hg3.grown 1 d os
  have HPI2 := Lib.hid (fun d os => Calls.regrown_of (d := d) (os := os) (HPI.out _ (rstep hbb.out (below_regrown w2 d os))))
  refine wp_region_quiet_below (by kernel_rfl) (by kernel_rfl) ?_
  repeat (first
    | go_big_quiet_skip
    | (go_big_quiet_want
       first
       | (first | refine q_midL _ rfl g rfl ⟨3, items, nl, nb, mark⟩ (.slice a n c) hg3 ?_
          simp only [Act.put, List.setIfInBounds_toArray, List.set_cons_succ, List.set_cons_zero]
          go_big_quiet_on)
       | (go_big_quiet_op
          first | go_big_quiet_on | go_big_quiet_call (first | with_reducible exact HPI2.out _ _ | with_reducible exact HNX.grown _ _))))
  refine wpQuiet_nil ?_
  intro _ hw'
  replace hbb := Lib.hid (rstep hbb.out (quiet_fin hw'))
  clear hw' c1
  go_wp2
  go_ret
  exact ⟨by show Ending.returned (.string (s3 ++ ⟨#[]⟩)) = _; rw [str_nil_right, HE.out], hbb.out⟩

set_option maxHeartbeats 2000000 in
theorem putc_5 {items : List It} {nl : Int} {nb mark : Nat} {a : Option Addr} {n c : Nat} {w : World} {g : Nat} (_hn : items.length = n) (hg : Blk w g (recC ⟨5, items, nl, nb, mark⟩ (.slice a n c)) 27) (hT : Told w (.slice a n c) items) (hW : (⟨5, items, nl, nb, mark⟩ : Rc).Wf) (hr : isR ⟨5, items, nl, nb, mark⟩ = true) :
    Calls Try.prog 33 #[.pointer (some ⟨g, 0, none⟩)] w fun e w' => e = .returned (.string (txt (putR ⟨5, items, nl, nb, mark⟩))) ∧ Below w.heap.size w w' := by
  have HR := isR_iff.1 hr
  have HI := Lib.hid (is_any hT hW (Nat.le_trans HR.len (by decide)))
  rw [hr] at HI
  have HP : Gives Try.prog 35 #[.string ⟨#[]⟩, .int .u64 5] (.string (txt (numN 5))) := put_num 5 (by decide)
  have hnx := HR.next
  have hnl := nextN_length nl nb hnx
  have hsz := itsN_length hW.key HR.short
  have hlen := HR.len
  simp only at hsz hlen hnx
  have h1 : (txt (numN 5)).size ≤ 100 := by decide
  have HPI := Lib.hid (fun w1 (hb : Below w.heap.size w w1) => putItems_any (txt (numN 5)) (.slice a n c) items w1 (hT.bel hb) HR.len hW.key HR.short h1)
  have h2 : (txt (numN 5) ++ txt (numN items.length ++ itsN items)).size ≤ 2000 := by
    have := nb_le8 (v := items.length) (by omega)
    have := nb_le8 (v := 5) (by decide)
    rw [ByteArray.size_append, txt_size, txt_size, List.length_append, numN_length, numN_length]; omega
  have HNX := putNext_any (txt (numN 5) ++ txt (numN items.length ++ itsN items)) nl nb (by omega) hW.nb hnx
  have h3 : (txt (numN 5) ++ txt (numN items.length ++ itsN items) ++ txt (nextN nl nb)).size ≤ 2100 := by rw [ByteArray.size_append, txt_size (nextN nl nb)]; omega
  have HMK : Gives Try.prog 35 #[.string ⟨#[]⟩, .int .u64 (mark : Int)] (.string (txt (numN mark))) := put_num mark hW.mark
  have h4 : (txt (numN mark)).size ≤ 20 := by
    have hmk := hW.mark
    simp only at hmk
    have := nb_le8 hmk
    rw [txt_size, numN_length]; omega
  have HE : Hid (txt (numN 5) ++ txt (numN items.length ++ itsN items) ++ txt (nextN nl nb) ++ txt (numN mark) = txt (putR ⟨5, items, nl, nb, mark⟩)) := by
    simp [Hid, putR, bareB, markN, txt_append, ByteArray.append_assoc]
  generalize txt (numN mark) = sm at *
  clear hT hW hr HR h1 h2 hnx hnl hsz hlen
  generalize txt (putR _) = res at *
  generalize txt (numN 5) ++ txt (numN items.length ++ itsN items) ++ txt (nextN nl nb) = s3 at *
  generalize txt (numN 5) ++ txt (numN items.length ++ itsN items) = s2 at *
  generalize txt (numN 5) = s1 at *
  simp only [recC] at hg
  go_enter Try.func33, Try.ntmps33
  go_upto_region 2 with (first
    | (refine p_loadR rfl _ rfl g rfl ⟨5, items, nl, nb, mark⟩ (.slice a n c) hg ?_)
    | (go_at_call 15; (with_reducible refine HI.out.mono ?_); rintro e w1 ⟨rfl, hb1⟩)
    | (go_at_call 34; (with_reducible refine (pass_1 _).mono ?_); rintro e w2 ⟨rfl, rfl⟩))
  have hg1 := hg.below hb1 hg.lt
  have c0 : w1.cell? ⟨g, 0, none⟩ = some (.int .i64 5) := hg1.cell 0
  go_upto_region 3 with (go_at_call 35; (with_reducible refine (HP.calls _).mono ?_); rintro e w2 ⟨rfl, hb2⟩)
  have hg2 := hg1.below hb2 hg1.lt
  have hbb := Lib.hid (rstep hb1 hb2)
  clear c0 hb1 hb2 hg1
  have c0 : w2.cell? ⟨g, 0, none⟩ = some (.int .i64 5) := hg2.cell 0
  have c4 : w2.cell? ⟨g, 4, none⟩ = some (.int .u64 (mark : Int)) := hg2.cell 4
  go_upto_region 8 with (go_at_call 35; (with_reducible refine (HMK.calls _).mono ?_); rintro e w3 ⟨rfl, hb3⟩)
  have hg3 := hg2.below hb3 hg2.lt
  replace hbb := Lib.hid (rstep hbb.out hb3)
  clear c0 c4 hb3 hg2
  have c1 : ∀ d os, (grow (redrawn w3 d) os).cell? ⟨g, 1, none⟩ = some (.slice a n c) := fun d os => hg3.grown 1 d os
  have HPI2 := Lib.hid (fun d os => Calls.regrown_of (d := d) (os := os) (HPI.out _ (rstep hbb.out (below_regrown w3 d os))))
  refine wp_region_quiet_below (by kernel_rfl) (by kernel_rfl) ?_
  repeat (first
    | go_big_quiet_skip
    | (go_big_quiet_want
       first
       | (first | refine q_midL _ rfl g rfl ⟨5, items, nl, nb, mark⟩ (.slice a n c) hg3 ?_
          simp only [Act.put, List.setIfInBounds_toArray, List.set_cons_succ, List.set_cons_zero]
          go_big_quiet_on)
       | (go_big_quiet_op
          first | go_big_quiet_on | go_big_quiet_call (first | with_reducible exact HPI2.out _ _ | with_reducible exact HNX.grown _ _))))
  refine wpQuiet_nil ?_
  intro _ hw'
  replace hbb := Lib.hid (rstep hbb.out (quiet_fin hw'))
  clear hw' c1
  go_wp2
  go_ret
  exact ⟨by rw [← HE.out]; rfl, hbb.out⟩

def putV (r : Rc) : List Nat := if isR r then putR r else []
def putE (r : Rc) : Nat := if isR r then 0 else 1
theorem recput_any {r : Rc} {u : Value} {w : World} (hT : Told w u r.items) (hW : r.Wf) (hl : r.items.length ≤ 1000000) :
    Calls Try.prog 10 #[.agg (recC r u)] w fun e w' => e = .returned (.tuple #[.string (txt (putV r)), .int .i64 (putE r : Int)]) ∧ Below w.heap.size w w' := by
  have hmf : ∀ (fn : Fn) (first cap : Array Value) (w : World), (Instr.makeFunc fn first cap).run Try.prog w = .ok (.func fn first cap) w := fun _ _ _ _ => rfl
  obtain ⟨A0, B0⟩ := (⟨Blk.new _ _ _, (Below.refl _ _).alloc (Nat.le_refl _) _⟩ : Blk (w.alloc (.cells (recC r u) 27)) w.heap.size (recC r u) 27 ∧ Below w.heap.size w (w.alloc (.cells (recC r u) 27)))
  have hT1 := hT.bel B0
  unfold putV putE
  have HG : Hid (∀ W, Blk W w.heap.size (recC r u) 27 → Told W u r.items → Calls Try.prog 32 #[.func (.func 33) #[] #[.pointer (some ⟨w.heap.size, 0, none⟩)]] W fun e w' => e = .returned (.tuple #[.string (txt (if isR r = true then putR r else [])), .int .i64 ((if isR r = true then 0 else 1 : Nat) : Int)]) ∧ Below W.heap.size W w') := by
    intro W hg hT
    cases hr : isR r
    · exact guardS_no _ 1 W fun w1 hb => putc_no (hg.below hb hg.lt) (hT.bel hb) hW hl hr
    · refine guardS_ok _ _ W fun w1 hb => ?_
      have hg1 := hg.below hb hg.lt
      have hT2 := hT.bel hb
      obtain ⟨a, c, rfl⟩ := told_shape hT
      have hk := (isR_iff.1 hr).kind
      obtain ⟨kind, items, nl, nb, mark⟩ := r
      simp only at hk hT2
      obtain rfl | rfl | rfl | rfl | rfl : kind = 1 ∨ kind = 2 ∨ kind = 3 ∨ kind = 4 ∨ kind = 5 := by omega
      · exact putc_1 rfl hg1 hT2 hW hr
      · exact putc_2 rfl hg1 hT2 hW hr
      · exact putc_3 rfl hg1 hT2 hW hr
      · exact putc_4 rfl hg1 hT2 hW hr
      · exact putc_5 rfl hg1 hT2 hW hr
  generalize txt (if isR r = true then putR r else []) = s at *
  generalize ((if isR r = true then 0 else 1 : Nat) : Int) = cd at *
  clear hT hW hl
  unfold recC at *
  go_enter Try.func10, Try.ntmps10
  go_upto_region 1 with (fail)
  have HG2 := Lib.hid (HG.out _ A0 hT1)
  clear HG A0 hT1
  generalize w.alloc _ = W at *
  go_wp2_with (go_at_call 32; (with_reducible refine HG2.out.mono ?_); rintro e w1 ⟨rfl, hb1⟩)
  go_ret2
  exact ⟨rfl, rstep B0 hb1⟩
end Go.Proofs.Ytkicndengkcojaa
