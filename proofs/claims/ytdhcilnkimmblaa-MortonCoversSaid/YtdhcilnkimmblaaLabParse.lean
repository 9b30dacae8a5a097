/- The program's call Parse. -/
import Derived.Test.YtdhcilnkimmblaaLabText
import Derived.Lib.OthersKept
import Derived.Laws.RangeAny
import Derived.Lib.Strings
namespace Go.Proofs.Ytdhcilnkimmblaa
open Go.RowKit Go.Sort

/-- what the first k bits of a text behind its slash make -/
def valS (s : ByteArray) : Nat → Nat
  | 0 => 0
  | k + 1 => chB k (valS s k) (byteAt s (k + 1) - 48)
def bitOk (x : Nat) : Bool := decide (x = 48 ∨ x = 49)
/-- whether a text is a label's -/
def goodT (s : ByteArray) : Bool := decide (1 ≤ s.size ∧ s.size ≤ 65) && decide (byteAt s 0 = 47) && (List.range (s.size - 1)).all fun j => bitOk (byteAt s (j + 1))
theorem goodT_iff {s : ByteArray} : goodT s = true ↔ (1 ≤ s.size ∧ s.size ≤ 65) ∧ byteAt s 0 = 47 ∧ ∀ j, j < s.size - 1 → bitOk (byteAt s (j + 1)) = true := by
  unfold goodT
  simp only [Bool.and_eq_true, decide_eq_true_eq, List.all_eq_true, List.mem_range, and_assoc]
def parsedT (s : ByteArray) : Value := if goodT s = true then labr ((s.size - 1 : Nat) : Int) (valS s (s.size - 1)) 0 else labr 0 0 3
theorem chB_low {n c bit : Nat} (hn : n < 64) (hi : lowB n c = true) : lowB (n + 1) (chB n c bit) = true := by
  have h := lowB_iff.1 hi
  have hs := gap_succ n hn
  refine lowB_iff.2 ?_
  have h2 : c % gap (n + 1) = 0 := by
    rw [hs, Nat.mul_comm] at h
    have := Nat.mod_mul_right_mod c (gap (n + 1)) 2
    rw [h] at this
    simpa using this.symm
  unfold chB
  split
  · exact h2
  · rw [Nat.add_mod_right]; exact h2
theorem chB_lt {n c bit : Nat} (hn : n < 64) (hc : c < 18446744073709551616) (hi : lowB n c = true) : chB n c bit < 18446744073709551616 := by
  have h1 := lab_room hc hi
  have hs := gap_succ n hn
  have hp := gap_pos (n + 1)
  unfold chB
  split <;> omega
theorem valS_ok (s : ByteArray) : ∀ k, k ≤ 64 → lowB k (valS s k) = true ∧ valS s k < 18446744073709551616
  | 0, _ => ⟨lowB_iff.2 (by simp [valS]), by simp [valS]⟩
  | k + 1, h => by
    obtain ⟨h1, h2⟩ := valS_ok s k (by omega)
    exact ⟨chB_low (by omega) h1, chB_lt (by omega) h2 h1⟩
theorem tail_byte (s : ByteArray) (k : Nat) (h : k < (s.extract 1 s.size).size) : ((s.extract 1 s.size)[k]'h).toNat = byteAt s (k + 1) := by
  have h2 : k + 1 < s.size := by rw [ByteArray.size_extract] at h; omega
  have e : (s.extract 1 s.size)[k]'h = s[k + 1]'h2 := by rw [ByteArray.getElem_extract]; simp [Nat.add_comm]
  rw [e]
  unfold byteAt
  simp [Array.getD, h2]
  rfl

/-- the memory of Parse: the result, the label so far, the iterator -/
structure MemPL (w wr : World) (t : ByteArray) (pos : Nat) (n : Int) (b : Nat) : Prop where
  below : Below w.heap.size w wr
  z : Blk wr w.heap.size (labc 0 0) 36
  a : Blk wr (w.heap.size + 1) (labc n b) 36
  it : wr.heap[w.heap.size + 1 + 1]? = some (.stringIter t pos)
theorem MemPL.lt {w wr : World} {t : ByteArray} {pos : Nat} {n : Int} {b : Nat} (k : MemPL w wr t pos n b) : w.heap.size + 1 + 1 < wr.heap.size := (Array.getElem?_eq_some_iff.1 k.it).1
theorem MemPL.made (w : World) (t : ByteArray) : MemPL w (((w.alloc (.cells (labc 0 0) 36)).alloc (.cells (labc 0 0) 36)).iter t 0) t 0 0 0 := by
  refine ⟨?_, ?_, ?_, ?_⟩
  · exact (((Below.refl _ _).alloc (Nat.le_refl _) _).alloc (by simp) _).alloc (by simp; omega) _
  · exact ((Blk.new w _ _).alloc _).alloc _
  · have h := Blk.new (w.alloc (.cells (labc 0 0) 36)) (labc 0 0) 36
    rw [World.size_alloc] at h
    exact h.alloc _
  · have h := heap_alloc_new ((w.alloc (.cells (labc 0 0) 36)).alloc (.cells (labc 0 0) 36)) (.stringIter t 0)
    simp only [World.size_alloc] at h
    exact h
theorem MemPL.next {w wr : World} {t : ByteArray} {pos : Nat} {n : Int} {b : Nat} (k : MemPL w wr t pos n b) (pos' : Nat) : MemPL w (wr.iterAt (w.heap.size + 1 + 1) t pos') t pos' n b :=
  ⟨Lib.below_iterAt k.below (by omega) _ _, (Lib.iterAt_other wr _ _ t pos' (by omega)).trans k.z, (Lib.iterAt_other wr _ _ t pos' (by omega)).trans k.a, Lib.iterAt_heap wr _ t pos pos' k.it⟩
theorem MemPL.grown {w wr w' : World} {t : ByteArray} {pos : Nat} {n : Int} {b : Nat} (k : MemPL w wr t pos n b) (hb : Below wr.heap.size wr w') : MemPL w w' t pos n b :=
  ⟨k.below.trans (hb.mono k.below.size), k.z.below hb k.z.lt, k.a.below hb k.a.lt, (hb.block _ k.lt).trans k.it⟩
theorem MemPL.alloc {w wr : World} {t : ByteArray} {pos : Nat} {n : Int} {b : Nat} (k : MemPL w wr t pos n b) (o : Obj) : MemPL w (wr.alloc o) t pos n b :=
  k.grown ((Below.refl _ _).alloc (Nat.le_refl _) _)
theorem MemPL.put {w wr : World} {t : ByteArray} {pos : Nat} {n : Int} {b : Nat} (k : MemPL w wr t pos n b) (n' : Int) (b' : Nat) : MemPL w (wr.setRow (w.heap.size + 1) (labc n' b')) t pos n' b' :=
  ⟨bel_setRow k.below (by omega) _, k.z.setRow_other _ _ (by omega), k.a.setRow _, (setRow_other _ _ _ _ (by omega)).trans k.it⟩

theorem parse_empty (s : ByteArray) (w : World) (h : s.size = 0) : Calls Try.prog 33 #[.string s] w fun e w' => e = .returned (labr 0 0 3) ∧ Below w.heap.size w w' := by
  have hs : s = ⟨#[]⟩ := by
    apply ByteArray.ext
    exact Array.eq_empty_of_size_eq_zero h
  subst hs
  clear h
  go_enter Try.func33, Try.ntmps33
  go_upto_region 1 with (fail)
  have Z := Lib.hid (Blk.new w (labc 0 0) 36)
  have B := Lib.hid ((Below.refl w.heap.size w).alloc (Nat.le_refl _) (.cells (labc 0 0) 36))
  rw [lab00]
  generalize w.alloc _ = W at *
  go_wp2_with (first | (refine p_storeL rfl _ _ rfl _ rfl 0 0 rfl 0 0 Z.out ?_))
  exact bodyPost_ret (results_lab Try.results33 _ _ _ 0 0 3 rfl rfl (Z.out.setRow _)) rfl ⟨rfl, bel_setRow B.out (Nat.le_refl _) _⟩
theorem parse_other (s : ByteArray) (w : World) (h : 0 < s.size) (hb : byteAt s 0 ≠ 47) : Calls Try.prog 33 #[.string s] w fun e w' => e = .returned (labr 0 0 3) ∧ Below w.heap.size w w' := by
  have h0 : ((s[0].toNat : Int) != 47) = true := by
    have e : byteAt s 0 = s[0].toNat := by unfold byteAt; simp [Array.getD, h]; rfl
    rw [bne_iff_ne]; omega
  have he : s.toList.isEmpty = false := by
    rw [ByteArray.toList_eq]; simp; intro e; simp [ByteArray.size, e] at h
  clear hb
  go_enter Try.func33, Try.ntmps33
  go_upto_region 1 with (fail)
  have Z := Lib.hid (Blk.new w (labc 0 0) 36)
  have B := Lib.hid ((Below.refl w.heap.size w).alloc (Nat.le_refl _) (.cells (labc 0 0) 36))
  rw [lab00]
  generalize w.alloc _ = W at *
  go_wp2_with (first | (refine p_storeL rfl _ _ rfl _ rfl 0 0 rfl 0 0 Z.out ?_))
  exact bodyPost_ret (results_lab Try.results33 _ _ _ 0 0 3 rfl rfl (Z.out.setRow _)) rfl ⟨rfl, bel_setRow B.out (Nat.le_refl _) _⟩

/-- one rune of the text: the next label, or none at all -/
theorem parse_round (s : ByteArray) (k : Nat) (hk : k ≤ 64) (h : k < (s.extract 1 s.size).size) :
    (∃ r : Nat, Utf8.decode (s.extract 1 s.size) k = (r, 1) ∧ r ≤ 127 ∧ k < 64 ∧ bitOk (byteAt s (k + 1)) = true ∧ Gives Try.prog 28 #[.agg (labc k (valS s k)), .int .i64 ((r : Int) - 48)] (.tuple #[.agg (labc ((k : Int) + 1) (valS s (k + 1))), .int .i64 0])) ∨
    (∃ c : Int, (c != 0) = true ∧ goodT s = false ∧ Gives Try.prog 28 #[.agg (labc k (valS s k)), .int .i64 (((Utf8.decode (s.extract 1 s.size) k).1 : Int) - 48)] (.tuple #[.agg (labc 0 0), .int .i64 c])) := by
  obtain ⟨hl, hv⟩ := valS_ok s k hk
  have hsz : k + 1 < s.size := by rw [ByteArray.size_extract] at h; omega
  have hb := tail_byte s k h
  have hgood : ∀ c : Int, ¬ (bitOk (byteAt s (k + 1)) = true ∧ k < 64) → goodT s = false := by
    intro c hn
    cases hg : goodT s
    · rfl
    · obtain ⟨h1, _, h3⟩ := goodT_iff.1 hg
      exact absurd ⟨h3 k (by omega), by omega⟩ hn
  by_cases hlt : ((s.extract 1 s.size)[k]'h).toNat < 128
  · have hd := decode_ascii (s.extract 1 s.size) k h hlt
    rw [hb] at hlt hd
    by_cases hbit : bitOk (byteAt s (k + 1)) = true
    · have hx : byteAt s (k + 1) = 48 ∨ byteAt s (k + 1) = 49 := by unfold bitOk at hbit; simpa using hbit
      have hsub : ((byteAt s (k + 1) : Int) - 48) = ((byteAt s (k + 1) - 48 : Nat) : Int) := by omega
      by_cases h64 : k < 64
      · refine .inl ⟨_, hd, by omega, h64, hbit, ?_⟩
        rw [hsub]
        exact child_bits k (valS s k) _ h64 hv hl (by omega)
      · refine .inr ⟨5, by decide, hgood 5 (by omega), ?_⟩
        obtain rfl : k = 64 := by omega
        rw [hd, hsub]
        exact fun w => child_full _ _ w hv hl (by omega)
    · refine .inr ⟨1, by decide, hgood 1 (by simp [hbit]), ?_⟩
      have hx : ¬ (byteAt s (k + 1) = 48 ∨ byteAt s (k + 1) = 49) := by unfold bitOk at hbit; simpa using hbit
      rw [hd]
      exact fun w => child_bit k _ _ w hk hv hl (by rw [bne_iff_ne]; omega) (by rw [bne_iff_ne]; omega)
  · have hd := decode_high (s.extract 1 s.size) k h (by omega)
    have hbit : ¬ bitOk (byteAt s (k + 1)) = true := by rw [hb] at hlt; unfold bitOk; simp; omega
    refine .inr ⟨1, by decide, hgood 1 (by simp [hbit]), ?_⟩
    exact fun w => child_bit k _ _ w hk hv hl (by rw [bne_iff_ne]; omega) (by rw [bne_iff_ne]; omega)

set_option maxHeartbeats 2000000 in
theorem parse_slash (s : ByteArray) (w : World) (h : 0 < s.size) (hs : s.size ≤ 9223372036854775807) (hb : byteAt s 0 = 47) : Calls Try.prog 33 #[.string s] w fun e w' => e = .returned (parsedT s) ∧ Below w.heap.size w w' := by
  have h0 : ((s[0].toNat : Int) != 47) = false := by
    have e : byteAt s 0 = s[0].toNat := by unfold byteAt; simp [Array.getD, h]; rfl
    rw [bne_eq_false_iff_eq]; omega
  have he : s.toList.isEmpty = false := by
    rw [ByteArray.toList_eq]; simp; intro e; simp [ByteArray.size, e] at h
  have HB := Lib.hid hb
  have h1 : (1 : Int) ≤ s.size := by omega
  clear hb
  have htz : (s.extract 1 s.size).size = s.size - 1 := by rw [ByteArray.size_extract]; omega
  go_enter Try.func33, Try.ntmps33
  go_upto_region 5 with (fail)
  rw [lab00]
  have K := Lib.hid (MemPL.made w (s.extract 1 s.size))
  generalize World.iter _ _ _ = W at *
  have HTZ := Lib.hid htz
  have HRD := Lib.hid (fun k hk hk' => parse_round s k hk hk')
  have HPT : Hid (parsedT s = if goodT s = true then labr ((s.size - 1 : Nat) : Int) (valS s (s.size - 1)) 0 else labr 0 0 3) := rfl
  clear htz
  generalize s.extract 1 s.size = t at *
  go_wp2
  go_loopw [6] (fun _ wr => ∃ k : Nat, k ≤ t.size ∧ k ≤ 64 ∧ MemPL w wr t k k (valS s k) ∧ Hid (∀ j, j < k → bitOk (byteAt s (j + 1)) = true)) (fun _ wr => t.size - wr.iterPos (w.heap.size + 1 + 1))
  case atStart => exact ⟨0, by omega, by omega, K.out, fun j hj => by omega⟩
  case round =>
    clear K
    obtain ⟨k, hk, hk64, K, HJ⟩ := hrel
    by_cases hlt : k < t.size
    · have hnx : ∀ ty, (Instr.next (.pointer (some ⟨w.heap.size + 1 + 1, 0, none⟩)) true ty).run Try.prog wr = _ := fun ty => Lib.run_next_any_at wr (w.heap.size + 1 + 1) t k ty K.it hlt
      have HI : Hid (wr.iterPos (w.heap.size + 1 + 1) = k) := by unfold Hid; simp only [World.iterPos, K.it]
      have HK := Lib.hid K
      clear K
      rcases HRD.out k hk64 hlt with ⟨r, hd, hr, h64, hbit, HC⟩ | ⟨c, hc, hg, HC⟩
      · rw [hd] at hnx
        have HBT := Lib.hid hbit
        clear hd hbit
        go_upto_region 7 with (fail)
        replace HK := Lib.hid (HK.out.next (k + 1))
        clear hnx
        generalize World.iterAt _ _ _ _ = W1 at *
        go_upto_region 8 with (first | (refine p_loadL rfl _ rfl _ rfl k (valS s k) HK.out.a ?_) | (go_at_call 28; (with_reducible refine (HC.calls _).mono ?_); rintro e w2 ⟨rfl, hb⟩) | (refine wpList_store_newrow rfl 36 _ _ rfl (labc ((k : Int) + 1) (valS s (k + 1))) rfl rfl infoLab (lab_all _ _) rfl ?_))
        replace HK := Lib.hid ((HK.out.grown hb).alloc (.cells (labc ((k : Int) + 1) (valS s (k + 1))) 36))
        have D := Lib.hid (Blk.new w2 (labc ((k : Int) + 1) (valS s (k + 1))) 36)
        clear hb HC
        generalize w2.heap.size = q at *
        generalize w2.alloc _ = W2 at *
        go_wp2_with (first | (refine p_loadL rfl _ rfl q rfl ((k : Int) + 1) (valS s (k + 1)) D.out ?_) | (refine p_storeL rfl _ _ rfl _ rfl ((k : Int) + 1) (valS s (k + 1)) rfl _ _ HK.out.a ?_))
        have HJ2 : Hid (∀ j, j < k + 1 → bitOk (byteAt s (j + 1)) = true) := by
          intro j hj
          rcases Nat.lt_or_ge j k with h | h
          · exact HJ.out j h
          · rw [show j = k by omega]; exact HBT.out
        refine ⟨?_, ?_⟩
        · repeat apply Exists.intro
          exact ⟨⟨k + 1, by omega, by omega, HK.out.put _ _, HJ2⟩, rfl⟩
        · have h2 := (HK.out.put ((k : Int) + 1) (valS s (k + 1))).it
          have h3 := HI.out
          rw [h3]
          simp only [World.iterPos, h2]
          omega
      · have HG := Lib.hid hg
        clear hg
        go_upto_region 7 with (fail)
        replace HK := Lib.hid (HK.out.next (k + (Utf8.decode t k).2))
        have hle := decode_le t k
        clear hnx
        generalize World.iterAt _ _ _ _ = W1 at *
        generalize (Utf8.decode t k).1 = r at *
        go_upto_region 8 with (first | (refine p_loadL rfl _ rfl _ rfl k (valS s k) HK.out.a ?_) | (go_at_call 28; (with_reducible refine (HC.calls _).mono ?_); rintro e w2 ⟨rfl, hb⟩) | (refine wpList_store_newrow rfl 36 _ _ rfl (labc 0 0) rfl rfl infoLab (lab_all _ _) rfl ?_))
        replace HK := Lib.hid ((HK.out.grown hb).alloc (.cells (labc 0 0) 36))
        clear hb HC
        generalize w2.alloc _ = W2 at *
        go_wp2_with (first | (refine p_storeL rfl _ _ rfl _ rfl 0 0 rfl 0 0 HK.out.z ?_))
        rw [HPT.out, HG.out]
        exact bodyPost_ret (results_lab Try.results33 _ _ _ 0 0 3 rfl rfl (HK.out.z.setRow _)) rfl ⟨rfl, bel_setRow HK.out.below (Nat.le_refl _) _⟩
    · obtain rfl : k = t.size := by omega
      have hnx : ∀ ty, (Instr.next (.pointer (some ⟨w.heap.size + 1 + 1, 0, none⟩)) true ty).run Try.prog wr = _ := fun ty => Lib.run_next_end_at wr (w.heap.size + 1 + 1) t t.size ty K.it hlt
      have hg : goodT s = true := goodT_iff.2 ⟨⟨by omega, by have := HTZ.out; omega⟩, HB.out, fun j hj => HJ.out j (by have := HTZ.out; omega)⟩
      have HP2 : Hid (parsedT s = labr (t.size : Int) (valS s t.size) 0) := by
        unfold Hid; rw [HPT.out, if_pos hg, ← HTZ.out]
      have HK := Lib.hid K
      clear K hg HPT
      go_wp2_with (first | (refine p_loadL rfl _ rfl _ rfl _ _ HK.out.a ?_) | (refine p_storeL rfl _ _ rfl _ rfl t.size (valS s t.size) rfl 0 0 HK.out.z ?_))
      rw [HP2.out]
      exact bodyPost_ret (results_lab Try.results33 _ _ _ _ _ 0 rfl rfl (HK.out.z.setRow _)) rfl ⟨rfl, bel_setRow HK.out.below (Nat.le_refl _) _⟩
end Go.Proofs.Ytdhcilnkimmblaa
