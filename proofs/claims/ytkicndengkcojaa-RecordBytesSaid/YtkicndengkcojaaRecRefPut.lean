/- The document's Put. -/
import Derived.Test.YtkicndengkcojaaRecRef2
import Derived.Test.YtkicndengkcojaaRecPut2
import Derived.Test.YtkicndengkcojaaPkC
namespace Go.Proofs.Ytkicndengkcojaa
set_option maxRecDepth 100000
open Go Go.RowKit Go.Sort

theorem refput_no {r : Rc} {u : Value} {w : World} (hT : Told w u r.items) (hW : r.Wf) (hr : isR r = false) :
    Calls Try.prog 11 #[.agg (recC r u)] w fun e w' => e = .returned (.tuple #[.string ⟨#[]⟩, .int .i64 1]) ∧ Below w.heap.size w w' := by
  obtain ⟨A0, B0⟩ := rec_box w r u
  have HIf := fun (W' : World) (hb : Below w.heap.size w W') => refis_any (hT.bel hb) hW
  simp only [hr] at HIf
  have HIf := Lib.hid HIf
  clear hT hW hr
  go_enter Try.func11, Try.ntmps11
  simp only [recC]
  go_upto_region 1 with (fail)
  unfold recC at A0 B0
  generalize w.alloc _ = W at *
  have HI := Lib.hid (HIf.out _ B0)
  clear HIf
  go_wp2_with (first
    | (refine p_loadR rfl _ rfl _ rfl r u A0 ?_)
    | (go_at_call 16; (with_reducible refine HI.out.mono ?_); rintro e w1 ⟨rfl, hb1⟩))
  go_ret2
  exact ⟨rfl, rstep B0 hb1⟩
theorem refput_bare {kind : Nat} {items : List It} {nl : Int} {nb mark : Nat} {u : Value} {w : World} (hT : Told w u items) (hW : (⟨(kind : Int), items, nl, nb, mark⟩ : Rc).Wf) (hr : isR ⟨(kind : Int), items, nl, nb, mark⟩ = true) (hb : bareB kind = true) :
    Calls Try.prog 11 #[.agg (recC ⟨(kind : Int), items, nl, nb, mark⟩ u)] w fun e w' => e = .returned (.tuple #[.string (txt (putR ⟨(kind : Int), items, nl, nb, mark⟩)), .int .i64 0]) ∧ Below w.heap.size w w' := by
  obtain ⟨A0, B0⟩ := rec_box w ⟨(kind : Int), items, nl, nb, mark⟩ u
  have HIf := fun (W' : World) (hb : Below w.heap.size w W') => refis_any (hT.bel hb) hW
  simp only [hr] at HIf
  have HIf := Lib.hid HIf
  have hkind := (isR_iff.1 hr).kind
  simp only at hkind
  have HBA := bare_any (kind : Int)
  rw [hb] at HBA
  have HP1 : Gives Try.prog 38 #[.int .u64 (kind : Int)] (.string (txt (numN kind))) := fun w => refNum_any kind w (by omega)
  have hcv1 : IntKind.u64.wrap (kind : Int) = (kind : Int) := IntWalk.u64_in _ (by omega)
  have HE : Hid (txt (putR ⟨(kind : Int), items, nl, nb, mark⟩) = txt (numN kind)) := by
    unfold Hid putR
    rw [hb]
    simp
  clear hT hW hr hb hkind
  generalize txt (putR _) = res at *
  generalize txt (numN kind) = s1 at *
  go_enter Try.func11, Try.ntmps11
  simp only [recC]
  go_upto_region 1 with (fail)
  unfold recC at A0 B0
  generalize w.alloc _ = W at *
  have HI := Lib.hid (HIf.out _ B0)
  clear HIf
  go_upto_region 3 with (first
    | (refine p_loadR rfl _ rfl w.heap.size rfl ⟨(kind : Int), items, nl, nb, mark⟩ u A0 ?_)
    | (go_at_call 16; (with_reducible refine HI.out.mono ?_); rintro e w1 ⟨rfl, hb1⟩))
  have A1 := A0.below hb1 A0.lt
  have B1 := rstep B0 hb1
  clear HI hb1 A0 B0
  have c0 : w1.cell? ⟨w.heap.size, 0, none⟩ = some (.int .i64 (kind : Int)) := A1.cell 0
  go_upto_region 4 with (go_at_call 38; (with_reducible refine (HP1.calls _).mono ?_); rintro e w2 ⟨rfl, hb2⟩)
  have A2 := A1.below hb2 A1.lt
  have B2 := rstep B1 hb2
  clear A1 B1 hb2 c0 HP1
  have c0 : w2.cell? ⟨w.heap.size, 0, none⟩ = some (.int .i64 (kind : Int)) := A2.cell 0
  go_wp2_with (go_at_call 39; (with_reducible refine (HBA.calls _).mono ?_); rintro e w3 ⟨rfl, hb3⟩)
  go_ret2
  exact ⟨by rw [HE.out]; rfl, rstep B2 hb3⟩
set_option maxHeartbeats 4000000 in
theorem refput_more {kind : Nat} {items : List It} {nl : Int} {nb mark : Nat} {a : Option Addr} {n c : Nat} {w : World} (hn : items.length = n) (hT0 : Told w (.slice a n c) items) (hW : (⟨(kind : Int), items, nl, nb, mark⟩ : Rc).Wf) (hr : isR ⟨(kind : Int), items, nl, nb, mark⟩ = true) (hb : bareB kind = false) :
    Calls Try.prog 11 #[.agg (recC ⟨(kind : Int), items, nl, nb, mark⟩ (.slice a n c))] w fun e w' => e = .returned (.tuple #[.string (txt (putR ⟨(kind : Int), items, nl, nb, mark⟩)), .int .i64 0]) ∧ Below w.heap.size w w' := by
  have HR := isR_iff.1 hr
  have hkind := HR.kind
  have hnx := HR.next
  have hnl := nextN_length nl nb hnx
  have hkey := hW.key
  have hval := HR.short
  have hlen := HR.len
  have hsz := itsN_length hW.key HR.short
  have hnbb := hW.nb
  have hmkk := hW.mark
  simp only at hkind hnx hkey hval hlen hsz hnbb hmkk
  have HKEY := Lib.hid hkey
  have HVAL := Lib.hid hval
  have HN := Lib.hid hn.symm
  obtain ⟨A0, B0⟩ := rec_box w ⟨(kind : Int), items, nl, nb, mark⟩ (.slice a n c)
  have HIf := fun (W' : World) (hb : Below w.heap.size w W') => refis_any (hT0.bel hb) hW
  simp only [hr] at HIf
  have HIf := Lib.hid HIf
  have HBA := bare_any (kind : Int)
  rw [hb] at HBA
  have hk8 := nb_le8 (v := kind) (by omega)
  have hn8 := nb_le8 (v := n) (by omega)
  have HP1 : Gives Try.prog 38 #[.int .u64 (kind : Int)] (.string (txt (numN kind))) := fun w => refNum_any kind w (by omega)
  have HP2 : Gives Try.prog 38 #[.int .u64 (n : Int)] (.string (txt (numN n))) := fun w => refNum_any n w (by omega)
  have hcv1 : IntKind.u64.wrap (kind : Int) = (kind : Int) := IntWalk.u64_in _ (by omega)
  have hcv2 : IntKind.u64.wrap (n : Int) = (n : Int) := IntWalk.u64_in _ (by omega)
  obtain ⟨b0, hb0⟩ : ∃ b0, b0 = txt (numN kind) ++ txt (numN n) := ⟨_, rfl⟩
  have hz : b0.size ≤ 200 := by rw [hb0, ByteArray.size_append, txt_size, txt_size, numN_length, numN_length]; omega
  have h1z : (txt (numN kind)).size ≤ 100 := by rw [txt_size, numN_length]; omega
  have h2z : (txt (numN n)).size ≤ 100 := by rw [txt_size, numN_length]; omega
  have HE : Hid (txt (putR ⟨(kind : Int), items, nl, nb, mark⟩) = b0 ++ txt (itsN items) ++ txt (nextN nl nb) ++ txt (markN ⟨(kind : Int), items, nl, nb, mark⟩)) := by
    unfold Hid putR
    rw [hb, hb0]
    simp only [Bool.false_eq_true, if_false, Int.toNat_natCast, hn, txt_append, ByteArray.append_assoc]
  have hii : (txt (itsN items)).size ≤ 1280 := by rw [txt_size]; omega
  have hxx : (txt (nextN nl nb)).size ≤ 20 := by rw [txt_size]; exact hnl
  have HB0 := Lib.hid hb0
  have HT0 := Lib.hid hT0
  clear hT0 hW hr HR hb hkey hval hsz hn hk8 hn8 hnl
  go_enter Try.func11, Try.ntmps11
  simp only [recC]
  go_upto_region 1 with (fail)
  unfold recC at A0 B0
  generalize w.alloc _ = W at *
  have HI := Lib.hid (HIf.out _ B0)
  have HT := Lib.hid (HT0.out.bel B0)
  clear HIf HT0
  go_upto_region 3 with (first
    | (refine p_loadR rfl _ rfl w.heap.size rfl ⟨(kind : Int), items, nl, nb, mark⟩ (.slice a n c) A0 ?_)
    | (go_at_call 16; (with_reducible refine HI.out.mono ?_); rintro e w1 ⟨rfl, hb1⟩))
  have A1 := A0.below hb1 A0.lt
  have B1 := rstep B0 hb1
  have T1 := HT.out.bel hb1
  clear HI HT hb1 A0 B0
  have c0 : w1.cell? ⟨w.heap.size, 0, none⟩ = some (.int .i64 (kind : Int)) := A1.cell 0
  go_upto_region 4 with (go_at_call 38; (with_reducible refine (HP1.calls _).mono ?_); rintro e w2 ⟨rfl, hb2⟩)
  have A2 := A1.below hb2 A1.lt
  have B2 := rstep B1 hb2
  have T2 := T1.bel hb2
  clear A1 B1 T1 hb2 c0 HP1
  have c0 : w2.cell? ⟨w.heap.size, 0, none⟩ = some (.int .i64 (kind : Int)) := A2.cell 0
  go_upto_region 6 with (go_at_call 39; (with_reducible refine (HBA.calls _).mono ?_); rintro e w3 ⟨rfl, hb3⟩)
  have A3 := A2.below hb3 A2.lt
  have B3 := rstep B2 hb3
  have T3 := T2.bel hb3
  clear A2 B2 T2 hb3 c0 HBA
  have c1 : w3.cell? ⟨w.heap.size, 1, none⟩ = some (.slice a n c) := A3.cell 1
  generalize txt (numN kind) = s1 at *
  generalize txt (numN n) = s2 at *
  go_upto_region 7 with (go_at_call 38; (with_reducible refine (HP2.calls _).mono ?_); rintro e w4 ⟨rfl, hb4⟩)
  have HA4 := Lib.hid (A3.below hb4 A3.lt)
  have HB4 := Lib.hid (rstep B3 hb4)
  have HT4 := Lib.hid (T3.bel hb4)
  clear A3 B3 T3 hb4 c1 HP2
  rw [← HB0.out]
  clear HB0 h1z h2z
  go_wp2
  go_loopw [4, 5] (fun v i wr => ∃ q : Nat, q ≤ n ∧ i = .int .i64 (q : Int) ∧ Below w4.heap.size w4 wr ∧ v = .string (b0 ++ txt (itsN (items.take q)))) (fun _ i _ => n - (intOf i).toNat)
  case atStart => exact ⟨0, by omega, rfl, Below.refl _ _, by rw [List.take_zero, show itsN [] = [] from rfl, str_nil]⟩
  case round =>
    obtain ⟨q, hq, rfl, hB, rfl⟩ := hrel
    have HB := Lib.hid hB
    clear hB
    have A5 := HA4.out.below HB.out HA4.out.lt
    have c1 : wr.cell? ⟨w.heap.size, 1, none⟩ = some (.slice a n c) := A5.cell 1
    by_cases hlt : q < n
    · obtain ⟨x, hx⟩ : ∃ x, items[q]? = some x := ⟨_, List.getElem?_eq_getElem (by have := HN.out; omega)⟩
      have hT5 : Told wr (.slice a n c) items := HT4.out.bel HB.out
      obtain ⟨b1, o1, rfl, x1, x2, _⟩ := told_at hT5 hx
      have hmem := List.mem_of_getElem? hx
      have hk := HKEY.out x hmem
      have hv := HVAL.out x hmem
      have HTK := Lib.hid (itsN_take hx)
      have hlen2 : (itsN (items.take q)).length ≤ 16 * 80 := by
        have := itsN_length (L := items.take q) (fun y hy => HKEY.out y (List.mem_of_mem_take hy)) (fun y hy => HVAL.out y (List.mem_of_mem_take hy))
        rw [List.length_take] at this
        have := HN.out
        omega
      have hwq : IntKind.i64.wrap ((q : Int) + 1) = (q : Int) + 1 := IntWalk.i64_in _ (by have := HN.out; omega)
      have hbq : (q : Int) < (n : Int) := by omega
      have e1 : ∀ d os, (grow (redrawn wr d) os).cell? ⟨w.heap.size, 1, none⟩ = some (.slice (some ⟨b1, o1, none⟩) n c) := fun d os => A5.grown 1 d os
      have hbl : b1 < wr.heap.size := World.block_lt_of_cell? wr _ x1
      have e2 : ∀ d os, (grow (redrawn wr d) os).cell? ⟨b1, o1 + q * 2, none⟩ = some (.int .u64 (x.1 : Int)) := fun d os => ((below_regrown wr d os).cell (p := ⟨b1, _, none⟩) hbl).trans x1
      have e3 : ∀ d os, (grow (redrawn wr d) os).cell? ⟨b1, o1 + q * 2 + 1, none⟩ = some (.string x.2) := fun d os => ((below_regrown wr d os).cell (p := ⟨b1, _, none⟩) hbl).trans x2
      have HA : Gives Try.prog 38 #[.int .u64 (x.1 : Int)] (.string (txt (numN x.1))) := fun w => refNum_any x.1 w hk
      have HC : Gives Try.prog 40 #[.string x.2] (.string (txt (txtN (bytesN x.2)))) := fun w => refText_any x.2 w (by omega)
      obtain ⟨s, hs⟩ : ∃ s, s = b0 ++ txt (itsN (items.take q)) := ⟨_, rfl⟩
      have hsz : s.size ≤ 1480 := by rw [hs, ByteArray.size_append, txt_size]; omega
      have hy1 : (txt (numN x.1)).size ≤ 20 := by have := nb_le8 hk; rw [txt_size, numN_length]; omega
      have hy2 : (txt (txtN (bytesN x.2))).size ≤ 200 := by
        have := nb_le8 (v := x.2.size) (by omega)
        rw [txt_size, txtN_length, bytesN_length]; omega
      have hy3 : (s ++ txt (numN x.1)).size ≤ 1500 := by rw [ByteArray.size_append]; omega
      have HEE : Hid (s ++ txt (numN x.1) ++ txt (txtN (bytesN x.2)) = b0 ++ txt (itsN (items.take (q + 1)))) := by
        unfold Hid
        rw [HTK.out, hs, txt_append, txt_append, ByteArray.append_assoc, ByteArray.append_assoc]
      rw [← hs]
      have HAA := Lib.hid A5
      clear hs hk hv HTK hx hT5 hmem hlen2 A5 x1 x2 c1
      have c1 : wr.cell? ⟨w.heap.size, 1, none⟩ = some (.slice (some ⟨b1, o1, none⟩) n c) := HAA.out.cell 1
      generalize txt (txtN (bytesN x.2)) = y2 at *
      generalize txt (numN x.1) = y1 at *
      go_upto_region 10 with (fail)
      clear c1
      refine wp_region_quiet_below (by kernel_rfl) (by kernel_rfl) ?_
      repeat (first
        | go_big_quiet_skip
        | (go_big_quiet_want
           first
           | (first | fail
              simp only [Act.put, List.setIfInBounds_toArray, List.set_cons_succ, List.set_cons_zero]
              go_big_quiet_on)
           | (go_big_quiet_op
              first | go_big_quiet_on | go_big_quiet_call (first | with_reducible exact HA.grown _ _ | with_reducible exact HC.grown _ _))))
      refine wpQuiet_nil ?_
      intro _ hw'
      have HB5 := Lib.hid (rstep HB.out (quiet_fin hw'))
      clear hw' e1 e2 e3
      go_wp2
      exact ⟨⟨q + 1, by omega, by go_num, HB5.out, by rw [HEE.out]⟩, by simp [intOf]; omega⟩
    · obtain rfl : n = q := by omega
      have hall : items.take n = items := by rw [HN.out, List.take_length]
      rw [hall]
      have HA6 := Lib.hid (HA4.out.below HB.out HA4.out.lt)
      have HB6 := Lib.hid (rstep HB4.out HB.out)
      clear HT4 HKEY HVAL A5 hall HN
      have A6 := HA6.out
      have HNN := refnone_any
      generalize itsN items = is at *
      -- the next leaf's label
      rcases hnx with hnone | hisb
      · have HEL : eqL nl nb (-1) 0 = true := hnone
        have HNX : Hid (txt (nextN nl nb) = txt (numN 0)) := by unfold Hid nextN; rw [hnone]; rfl
        have HP0 : Gives Try.prog 38 #[.int .u64 0] (.string (txt (numN 0))) := fun w => refNum_any 0 w (by omega)
        rw [HNX.out] at HE hxx
        have hzz : (b0 ++ txt is).size ≤ 1480 := by rw [ByteArray.size_append]; omega
        have hzz2 : (b0 ++ txt is ++ txt (numN 0)).size ≤ 1500 := by rw [ByteArray.size_append]; omega
        clear HNX hii hz
        generalize txt (numN 0) = x0 at *
        generalize b0 ++ txt is = s2 at *
        go_upto_region 11 with (fail)
        clear c1
        refine wp_region_quiet_below (by kernel_rfl) (by kernel_rfl) ?_
        repeat (first
          | go_big_quiet_skip
          | (go_big_quiet_want
             first
             | (first | refine q_midL _ rfl _ rfl ⟨(kind : Int), items, nl, nb, mark⟩ (.slice a n c) A6 ?_ | refine q_eqlL _ _ rfl nl nb (-1) 0 rfl rfl HEL ?_
                simp only [Act.put, List.setIfInBounds_toArray, List.set_cons_succ, List.set_cons_zero]
                go_big_quiet_on)
             | (go_big_quiet_op
                first | go_big_quiet_on | go_big_quiet_call (first | with_reducible exact HNN.grown _ _))))
        refine wpQuiet_nil ?_
        intro _ hw'
        have A7 := A6.below (quiet_fin hw') A6.lt
        have B7 := rstep HB6.out (quiet_fin hw')
        clear hw'
        rename_i W7
        have c0 : W7.cell? ⟨w.heap.size, 0, none⟩ = some (.int .i64 (kind : Int)) := A7.cell 0
        have c4 : W7.cell? ⟨w.heap.size, 4, none⟩ = some (.int .u64 (mark : Int)) := A7.cell 4
        go_upto_region 14 with (go_at_call 38; (with_reducible refine (HP0.calls _).mono ?_); rintro e w8 ⟨rfl, hb8⟩)
        have A8 := A7.below hb8 A7.lt
        have B8 := rstep B7 hb8
        clear c0 c4
        have c0 : w8.cell? ⟨w.heap.size, 0, none⟩ = some (.int .i64 (kind : Int)) := A8.cell 0
        have c4 : w8.cell? ⟨w.heap.size, 4, none⟩ = some (.int .u64 (mark : Int)) := A8.cell 4
        by_cases h5 : (kind : Int) = 5
        · have t5 : ((kind : Int) == 5) = true := by simpa using h5
          have HMK : Hid (markN ⟨(kind : Int), items, nl, nb, mark⟩ = numN mark) := by unfold Hid markN; rw [if_pos h5]
          rw [HMK.out] at HE
          have HPM : Gives Try.prog 38 #[.int .u64 (mark : Int)] (.string (txt (numN mark))) := fun w => refNum_any mark w hmkk
          have hmz : (txt (numN mark)).size ≤ 20 := by have := nb_le8 hmkk; rw [txt_size, numN_length]; omega
          clear h5 HMK
          generalize txt (numN mark) = xm at *
          go_wp2_with (go_at_call 38; (with_reducible refine (HPM.calls _).mono ?_); rintro e w9 ⟨rfl, hb9⟩)
          go_ret2
          exact ⟨by rw [HE.out]; rfl, rstep B8 hb9⟩
        · have t5 : ((kind : Int) == 5) = false := by simpa using h5
          have HMK : Hid (markN ⟨(kind : Int), items, nl, nb, mark⟩ = []) := by unfold Hid markN; rw [if_neg h5]
          rw [HMK.out, str_nil] at HE
          clear h5 HMK
          go_wp2
          go_ret2
          exact ⟨by rw [HE.out]; rfl, B8⟩
      · have hl := isB_len hisb
        obtain ⟨ln, rfl⟩ := Int.eq_ofNat_of_zero_le hl.1
        have HEL : eqL (ln : Int) nb (-1) 0 = false := by
          rw [Bool.eq_false_iff]; intro h; have := (eqL_iff.1 h).1; omega
        have HNX : Hid (txt (nextN (ln : Int) nb) = txt (numN 1) ++ txt (labN ln nb)) := by unfold Hid nextN noneB; rw [HEL, ← txt_append]; rfl
        have HP0 : Gives Try.prog 38 #[.int .u64 1] (.string (txt (numN 1))) := fun w => refNum_any 1 w (by omega)
        have HL : Gives Try.prog 42 #[.agg (labc (ln : Int) nb)] (.string (txt (labN ln nb))) := fun w => refLabel_any ln nb w (by omega) hnbb
        have h18 := nb_le8 (v := 1) (by omega)
        have hx1 : (txt (numN 1)).size ≤ 20 := by rw [txt_size, numN_length]; omega
        have hx2 : (txt (labN ln nb)).size ≤ 20 := by rw [txt_size, labN_length (by omega)]; have := e8_le (n := ln) (by omega); omega
        rw [HNX.out] at HE
        have HE2 : Hid (txt (putR ⟨(kind : Int), items, (ln : Int), nb, mark⟩) = b0 ++ txt is ++ txt (numN 1) ++ txt (labN ln nb) ++ txt (markN ⟨(kind : Int), items, (ln : Int), nb, mark⟩)) := by unfold Hid; rw [HE.out]; simp only [ByteArray.append_assoc]
        have hzz : (b0 ++ txt is).size ≤ 1480 := by rw [ByteArray.size_append]; omega
        have hzz1 : (b0 ++ txt is ++ txt (numN 1)).size ≤ 1500 := by rw [ByteArray.size_append]; omega
        have hzz2 : (b0 ++ txt is ++ txt (numN 1) ++ txt (labN ln nb)).size ≤ 1520 := by rw [ByteArray.size_append]; omega
        clear HNX hii hz HE hxx h18 hl hisb
        have HE := HE2
        clear HE2
        generalize txt (labN ln nb) = x2 at *
        generalize txt (numN 1) = x1 at *
        generalize b0 ++ txt is = s2 at *
        go_upto_region 11 with (fail)
        clear c1
        refine wp_region_quiet_below (by kernel_rfl) (by kernel_rfl) ?_
        repeat (first
          | go_big_quiet_skip
          | (go_big_quiet_want
             first
             | (first | refine q_midL _ rfl _ rfl ⟨(kind : Int), items, (ln : Int), nb, mark⟩ (.slice a n c) A6 ?_ | refine q_eqlL _ _ rfl (ln : Int) nb (-1) 0 rfl rfl HEL ?_
                simp only [Act.put, List.setIfInBounds_toArray, List.set_cons_succ, List.set_cons_zero]
                go_big_quiet_on)
             | (go_big_quiet_op
                first | go_big_quiet_on | go_big_quiet_call (first | with_reducible exact HNN.grown _ _))))
        refine wpQuiet_nil ?_
        intro _ hw'
        have A7 := A6.below (quiet_fin hw') A6.lt
        have B7 := rstep HB6.out (quiet_fin hw')
        clear hw'
        rename_i W7
        go_upto_region 13 with (fail)
        refine wp_region_quiet_below (by kernel_rfl) (by kernel_rfl) ?_
        repeat (first
          | go_big_quiet_skip
          | (go_big_quiet_want
             first
             | (first | refine q_midL _ rfl _ rfl ⟨(kind : Int), items, (ln : Int), nb, mark⟩ (.slice a n c) A7 ?_
                simp only [Act.put, List.setIfInBounds_toArray, List.set_cons_succ, List.set_cons_zero]
                go_big_quiet_on)
             | (go_big_quiet_op
                first | go_big_quiet_on | go_big_quiet_call (first | with_reducible exact HP0.grown _ _ | with_reducible exact HL.grown _ _))))
        refine wpQuiet_nil ?_
        intro _ hw'
        have A8 := A7.below (quiet_fin hw') A7.lt
        have B8 := rstep B7 (quiet_fin hw')
        clear hw'
        rename_i w8
        have c0 : w8.cell? ⟨w.heap.size, 0, none⟩ = some (.int .i64 (kind : Int)) := A8.cell 0
        have c4 : w8.cell? ⟨w.heap.size, 4, none⟩ = some (.int .u64 (mark : Int)) := A8.cell 4
        by_cases h5 : (kind : Int) = 5
        · have t5 : ((kind : Int) == 5) = true := by simpa using h5
          have HMK : Hid (markN ⟨(kind : Int), items, (ln : Int), nb, mark⟩ = numN mark) := by unfold Hid markN; rw [if_pos h5]
          rw [HMK.out] at HE
          have HPM : Gives Try.prog 38 #[.int .u64 (mark : Int)] (.string (txt (numN mark))) := fun w => refNum_any mark w hmkk
          have hmz : (txt (numN mark)).size ≤ 20 := by have := nb_le8 hmkk; rw [txt_size, numN_length]; omega
          clear h5 HMK
          generalize txt (numN mark) = xm at *
          go_wp2_with (go_at_call 38; (with_reducible refine (HPM.calls _).mono ?_); rintro e w9 ⟨rfl, hb9⟩)
          go_ret2
          exact ⟨by rw [HE.out]; rfl, rstep B8 hb9⟩
        · have t5 : ((kind : Int) == 5) = false := by simpa using h5
          have HMK : Hid (markN ⟨(kind : Int), items, (ln : Int), nb, mark⟩ = []) := by unfold Hid markN; rw [if_neg h5]
          rw [HMK.out, str_nil] at HE
          clear h5 HMK
          go_wp2
          go_ret2
          exact ⟨by rw [HE.out]; rfl, B8⟩
theorem refput_rec {r : Rc} {u : Value} {w : World} (hT : Told w u r.items) (hW : r.Wf) :
    Calls Try.prog 11 #[.agg (recC r u)] w fun e w' => e = .returned (.tuple #[.string (txt (putV r)), .int .i64 (putE r : Int)]) ∧ Below w.heap.size w w' := by
  unfold putV putE
  cases hr : isR r
  · exact refput_no hT hW hr
  · obtain ⟨kind, items, nl, nb, mark⟩ := r
    have hk := (isR_iff.1 hr).kind
    simp only at hk hT
    obtain ⟨k, rfl⟩ := Int.eq_ofNat_of_zero_le (show (0 : Int) ≤ kind by omega)
    cases hb : bareB (k : Int)
    · obtain ⟨a, c, rfl⟩ := told_shape hT
      exact refput_more rfl hT hW hr hb
    · exact refput_bare hT hW hr hb
end Go.Proofs.Ytkicndengkcojaa
