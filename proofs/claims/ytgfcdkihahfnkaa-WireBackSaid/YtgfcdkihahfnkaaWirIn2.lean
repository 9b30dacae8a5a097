/- The program's reader: text, place, label. -/
import Derived.Test.YtgfcdkihahfnkaaWirIn
namespace Go.Proofs.Ytgfcdkihahfnkaa
open Go.RowKit Go.Sort

/-- a slice is made of as many bytes as an unsigned number says: a new block -/
theorem wpList_make_blkU {P : Program} {w : World} {ops : Array Oper} {rest : List Oper} {o : Oper} {a : Act} {Q : Exit → Act → World → Prop}
    (hg : o.guard = none) (l c : Operand) (t : TypeId) (hop : o.op = Op.makeSlice t l c)
    (e : TypeId) (z : Value) (size bytes : Nat) (h1 : P.underlying t = some (.slice e)) (hi : (P.info? e).map (fun i => (i.zero, i.size, i.bytes)) = some (some z, size, bytes))
    (n : Nat) (hl : a.eval l = .int .u64 (n : Int)) (hc : a.eval c = .int .u64 (n : Int)) (b2 : bytes * n ≤ 281474976710656) (b3 : n ≤ 9223372036854775807) (Z : Array Value) (hZ : madeCells z.cells (n * size) = Z)
    (hK : wpList P ops Q rest (a.put o.dst (.slice (some ⟨w.heap.size, 0, none⟩) n n)) (w.alloc (.cells Z e))) :
    wpList P ops Q (o :: rest) a w := by
  refine wpList_plain hg fun K hK' => ?_
  obtain ⟨i, hi', hq⟩ := Option.map_eq_some_iff.1 hi
  simp only [Prod.mk.injEq] at hq
  obtain ⟨q1, q2, q3⟩ := hq
  have hb' : (i.bytes : Int) * (n : Int) ≤ 281474976710656 := by
    have h : ((i.bytes * n : Nat) : Int) ≤ 281474976710656 := by rw [q3]; omega
    rwa [Int.natCast_mul] at h
  have hr := run_make (P := P) w t e i z h1 hi' q1 .u64 .u64 n n (by omega) (Int.le_refl _) hb' (by omega)
  simp only [Int.toNat_natCast] at hr
  rw [q2, hZ] at hr
  unfold Oper.wp
  simp [execOp, hop, hl, hc, hr, Result.andThen]
  exact hK' _ _ hK
theorem tab_zeros (n : Nat) : (tab n fun _ => 0) = List.replicate n 0 := by rw [tab, List.map_const', List.length_range]

/-! a text -/
theorem text_code {w : World} {g h c : Nat} {s : ByteArray} {p : Nat} (k : Rd w g h c s p) (hs : s.size ≤ 1000000) (he : (rNum (rest s p)).2.2 ≠ 0) :
    Reads 41 w g h c s p (.string ⟨#[]⟩) 0 (rNum (rest s p)).2.2 := by
  have HN := number_any k hs
  generalize rNum (rest s p) = r at *
  obtain ⟨v, n, e⟩ := r
  simp only at *
  have hd : ((e : Int) != 0) = true := by rw [bne_iff_ne]; omega
  unfold Reads at HN ⊢
  have HN := Lib.hid HN
  clear k
  go_enter Try.func41, Try.ntmps41
  go_wp2_with (go_at_call 38; (with_reducible refine HN.out.mono ?_); rintro e1 w1 ⟨rfl, ⟨q, hr1, _⟩, hk1⟩)
  go_ret2
  exact ⟨rfl, ⟨q, hr1, fun h => absurd h he⟩, hk1⟩
theorem text_form {w : World} {g h c : Nat} {s : ByteArray} {p : Nat} (k : Rd w g h c s p) (hs : s.size ≤ 1000000) (v n : Nat) (he : rNum (rest s p) = (v, n, 0)) (hv : 4096 < v) :
    Reads 41 w g h c s p (.string ⟨#[]⟩) 0 3 := by
  have HN := number_any k hs
  rw [he] at HN
  have hd : decide (4096 < (v : Int)) = true := by simp; omega
  unfold Reads at HN ⊢
  have HN := Lib.hid HN
  clear k
  go_enter Try.func41, Try.ntmps41
  go_wp2_with (go_at_call 38; (with_reducible refine HN.out.mono ?_); rintro e1 w1 ⟨rfl, ⟨q, hr1, _⟩, hk1⟩)
  go_ret2
  exact ⟨rfl, ⟨q, hr1, fun h => by cases h⟩, hk1⟩
set_option maxHeartbeats 1000000 in
theorem text_few {w : World} {g h c : Nat} {s : ByteArray} {p : Nat} (k : Rd w g h c s p) (hs : s.size ≤ 1000000) (v n : Nat) (he : rNum (rest s p) = (v, n, 0)) (hv : ¬ 4096 < v) (hf : s.size < p + n + v) :
    ∃ x, Reads 41 w g h c s p (.string x) 0 4 := by
  have HN := number_any k hs
  rw [he] at HN
  have hd : decide (4096 < (v : Int)) = false := by simp; omega
  refine ⟨txt (List.replicate v 0), ?_⟩
  unfold Reads at HN ⊢
  have HN := Lib.hid HN
  clear k
  go_enter Try.func41, Try.ntmps41
  go_upto_region 6 with (go_at_call 38; (with_reducible refine HN.out.mono ?_); rintro e1 w1 ⟨rfl, ⟨q, hr1, hq⟩, hk1⟩)
  obtain rfl := hq trivial
  go_upto_region 7 with (refine wpList_make_blkU rfl _ _ 62 rfl 5 (.int .u8 0) 1 1 Try.underlying62 info8 v rfl rfl (by omega) (by omega) _ (made8 _) ?_)
  rw [tab_zeros]
  have B1 := (Below.refl w1.heap.size w1).alloc (Nat.le_refl _) (.cells (row (List.replicate v 0)) 5)
  have A1 := Blk.new w1 (row (List.replicate v 0)) 5
  have HK := Lib.hid (hk1.trans (Keep.of B1 g g))
  have HR := Lib.hid (hr1.below B1)
  have HM := Lib.hid (fill_more HR.out hs w1.heap.size 0 v v hf)
  clear hr1 hk1 hq B1
  generalize w1.heap.size = b at *
  generalize w1.alloc _ = W at *
  go_upto_region 8 with (go_at_call 51; (with_reducible refine HM.out.mono ?_); rintro e w2 ⟨rfl, hb2⟩)
  have hcv := run_text_blk (P := Try.prog) w2 62 5 9 Try.underlying62 Try.underlying5 Try.underlying9 b v v _ 5 (List.length_replicate) (A1.below hb2 A1.lt)
  have HR2 := Lib.hid (HR.out.below hb2)
  have HK2 := Lib.hid (HK.out.trans (Keep.of hb2 g g))
  clear A1 hb2 HM
  go_wp2
  go_ret2
  exact ⟨rfl, ⟨_, HR2.out, fun h => by cases h⟩, HK2.out⟩
set_option maxHeartbeats 1000000 in
theorem text_some {w : World} {g h c : Nat} {s : ByteArray} {p : Nat} (k : Rd w g h c s p) (hs : s.size ≤ 1000000) (v n : Nat) (he : rNum (rest s p) = (v, n, 0)) (hv : ¬ 4096 < v) (hf : p + n + v ≤ s.size) :
    Reads 41 w g h c s p (.string (txt ((rest s (p + n)).take v))) (n + v) 0 := by
  have HN := number_any k hs
  rw [he] at HN
  have hd : decide (4096 < (v : Int)) = false := by simp; omega
  have hml : ((rest s (p + n)).take v).length = v := by rw [List.length_take, rest_length]; omega
  unfold Reads at HN ⊢
  have HN := Lib.hid HN
  have hg := k.lt
  clear k
  go_enter Try.func41, Try.ntmps41
  go_upto_region 6 with (go_at_call 38; (with_reducible refine HN.out.mono ?_); rintro e1 w1 ⟨rfl, ⟨q, hr1, hq⟩, hk1⟩)
  obtain rfl := hq trivial
  go_upto_region 7 with (refine wpList_make_blkU rfl _ _ 62 rfl 5 (.int .u8 0) 1 1 Try.underlying62 info8 v rfl rfl (by omega) (by omega) _ (made8 _) ?_)
  rw [tab_zeros]
  have B1 := (Below.refl w1.heap.size w1).alloc (Nat.le_refl _) (.cells (row (List.replicate v 0)) 5)
  have A1 := Blk.new w1 (row (List.replicate v 0)) 5
  have HK := Lib.hid (hk1.trans (Keep.of B1 g g))
  have hg1 := hr1.lt
  have hne := hr1.ne
  have hw1 := hk1.size
  have HM := fill_yes (hr1.below B1) hs w1.heap.size 0 v v (by omega) (List.replicate v 0) 5 A1 (by simp) (by omega) (by omega)
  rw [show (List.replicate v 0).take 0 ++ (rest s (p + n)).take v ++ (List.replicate v 0).drop (0 + v) = (rest s (p + n)).take v by simp] at HM
  replace HM := Lib.hid HM
  clear hr1 hk1 hq B1 A1
  generalize w1.heap.size = b at *
  generalize w1.alloc _ = W at *
  go_upto_region 8 with (go_at_call 51; (with_reducible refine HM.out.mono ?_); rintro e w2 ⟨rfl, hr2, hb2, hk2⟩)
  have hcv := run_text_blk (P := Try.prog) w2 62 5 9 Try.underlying62 Try.underlying5 Try.underlying9 b v v _ 5 hml hb2
  have HR2 := Lib.hid hr2
  have HK2 : Hid (Keep w w2 g g) := HK.out.new hk2 (by omega)
  clear hb2 hr2 hk2 HM
  go_wp2
  go_ret2
  exact ⟨rfl, ⟨_, HR2.out, fun _ => by omega⟩, HK2.out⟩

/-! a place -/
theorem Keep.setNew {w w' : World} {g : Nat} (k : Keep w w' g g) {b : Nat} (hb : w.heap.size ≤ b) (cs : Array Value) : Keep w (w'.setRow b cs) g g :=
  ⟨k.os, k.tape, k.output, by simpa [World.setRow] using k.size, fun j hj h1 h2 => (Go.setRow_other w' b j cs (by omega)).trans (k.block j hj h1 h2)⟩
theorem place_few {w : World} {g h c : Nat} {s : ByteArray} {p : Nat} (k : Rd w g h c s p) (hs : s.size ≤ 1000000) (hf : s.size < p + 20) : Reads 43 w g h c s p (idv 0) 0 4 := by
  have hg := k.lt
  have hne := k.ne
  unfold Reads
  go_enter Try.func43, Try.ntmps43
  go_upto_region 2 with (fail)
  rw [zeros]
  have K := Lib.hid (MemO.made w (row (List.replicate 20 0)) (row (List.replicate 20 0)) 24)
  have HR := Lib.hid (k.below K.out.below)
  have HM := Lib.hid (fill_more HR.out hs (w.heap.size + 1) 0 20 20 hf)
  clear k
  generalize (w.alloc _).alloc _ = W at *
  go_upto_region 3 with (go_at_call 51; (with_reducible refine HM.out.mono ?_); rintro e w2 ⟨rfl, hb2⟩)
  have K2 := Lib.hid (K.out.grown hb2)
  replace HR := Lib.hid (HR.out.below hb2)
  clear HM K hb2
  go_wp2_with (first | (refine wpList_load_row rfl 24 _ rfl (w.heap.size + 1) rfl 24 _ (0, 0) _ K2.out.o Try.underlying24 rfl (info_id _ rfl) ?_) | (refine wpList_store_row rfl 24 _ _ rfl w.heap.size _ rfl rfl 24 _ K2.out.z (info_id _ rfl) (size_id _ rfl _ rfl) (row8_one _) ?_))
  refine bodyPost_ret (results_idv2 Try.results43 _ _ w.heap.size (List.replicate 20 0) (.int .i64 4) rfl rfl (K2.out.z.setRow _) rfl) rfl ?_
  exact ⟨rfl, ⟨p, HR.out.row _ _ (by omega) (by omega), fun h => by cases h⟩, Keep.of (bel_setRow K2.out.below (Nat.le_refl _) _) g g⟩
set_option maxHeartbeats 1000000 in
theorem place_some {w : World} {g h c : Nat} {s : ByteArray} {p : Nat} (k : Rd w g h c s p) (hs : s.size ≤ 1000000) (hf : p + 20 ≤ s.size) : Reads 43 w g h c s p (idv (valN ((rest s p).take 20))) 20 0 := by
  have hl : ¬ (rest s p).length < 20 := by rw [rest_length]; omega
  have HV : Hid (dig 20 (valN ((rest s p).take 20)) = (rest s p).take 20) := (rPl_only (rest_lt s p) hl).1
  have hml : ((rest s p).take 20).length = 20 := by rw [List.length_take]; omega
  have hg := k.lt
  have hne := k.ne
  unfold Reads
  rw [show idv (valN ((rest s p).take 20)) = .agg (row (dig 20 (valN ((rest s p).take 20)))) from rfl, HV.out]
  go_enter Try.func43, Try.ntmps43
  go_upto_region 2 with (fail)
  rw [zeros]
  have K := Lib.hid (MemO.made w (row (List.replicate 20 0)) (row (List.replicate 20 0)) 24)
  have HM := fill_yes (k.below K.out.below) hs (w.heap.size + 1) 0 20 20 hf (List.replicate 20 0) 24 K.out.o (by simp) (by omega) (by omega)
  rw [show (List.replicate 20 0).take 0 ++ (rest s p).take 20 ++ (List.replicate 20 0).drop (0 + 20) = (rest s p).take 20 by simp] at HM
  replace HM := Lib.hid HM
  clear k
  generalize (w.alloc _).alloc _ = W at *
  go_upto_region 3 with (go_at_call 51; (with_reducible refine HM.out.mono ?_); rintro e w2 ⟨rfl, hr2, hb2, hk2⟩)
  have HR2 := Lib.hid hr2
  have HB2 := Lib.hid hb2
  have HZ := Lib.hid (K.out.z.keep hk2 (by omega) (by omega))
  have HK2 : Hid (Keep w w2 g g) := (Keep.of K.out.below g g).new hk2 (by omega)
  clear HM K hb2 hr2 hk2
  go_wp2_with (first | (refine wpList_load_row rfl 24 _ rfl (w.heap.size + 1) rfl 24 _ (0, 0) _ HB2.out Try.underlying24 rfl (info_id _ hml) ?_) | (refine wpList_store_row rfl 24 _ _ rfl w.heap.size _ rfl rfl 24 _ HZ.out (info_id _ hml) (size_id _ rfl _ hml) (row8_one _) ?_))
  refine bodyPost_ret (results_idv2 Try.results43 _ _ w.heap.size ((rest s p).take 20) (.int .i64 0) rfl rfl (HZ.out.setRow _) hml) rfl ?_
  exact ⟨rfl, ⟨_, HR2.out.row _ _ (by omega) (by omega), fun _ => rfl⟩, HK2.out.setNew (Nat.le_refl _) _⟩

/-! a label -/
theorem label_end {w : World} {g h c : Nat} {s : ByteArray} {p : Nat} (k : Rd w g h c s p) (hs : s.size ≤ 1000000) (hp : s.size ≤ p) : Reads 45 w g h c s p (.agg (labc 0 0)) 0 4 := by
  have hg := k.lt
  have hne := k.ne
  unfold Reads
  go_enter Try.func45, Try.ntmps45
  go_upto_region 1 with (fail)
  rw [lab00]
  have A0 := Lib.hid (Blk.new w (labc 0 0) 26)
  have B0 := Lib.hid ((Below.refl w.heap.size w).alloc (Nat.le_refl _) (.cells (labc 0 0) 26))
  have HR := Lib.hid (k.below B0.out)
  have HF := first_more HR.out hs 64 hp
  rw [show ((64 : Nat) : Int) = 64 from rfl] at HF
  replace HF := Lib.hid HF
  clear k
  generalize w.alloc _ = W at *
  go_upto_region 3 with (go_at_call 50; (with_reducible refine HF.out.mono ?_); rintro e w1 ⟨rfl, hb1⟩)
  replace HR := Lib.hid (HR.out.below hb1)
  replace A0 := Lib.hid (A0.out.below hb1 A0.out.lt)
  replace B0 := Lib.hid (B0.out.trans (hb1.mono B0.out.size))
  clear HF hb1
  go_wp2_with (refine p_storeL rfl _ _ rfl w.heap.size rfl 0 0 rfl 0 0 A0.out ?_)
  refine bodyPost_ret (results_labv2 Try.results45 _ _ w.heap.size 0 0 (.int .i64 4) rfl rfl (A0.out.setRow _)) rfl ?_
  exact ⟨rfl, ⟨p, HR.out.row _ _ (by omega) (by omega), fun h => by cases h⟩, Keep.of (bel_setRow B0.out (Nat.le_refl _) _) g g⟩
theorem label_big {w : World} {g h c : Nat} {s : ByteArray} {p : Nat} (k : Rd w g h c s p) (hs : s.size ≤ 1000000) (hp : p < s.size) (hx : 64 < byteAt s p) : Reads 45 w g h c s p (.agg (labc 0 0)) 0 3 := by
  have hg := k.lt
  have hne := k.ne
  unfold Reads
  go_enter Try.func45, Try.ntmps45
  go_upto_region 1 with (fail)
  rw [lab00]
  have A0 := Lib.hid (Blk.new w (labc 0 0) 26)
  have B0 := Lib.hid ((Below.refl w.heap.size w).alloc (Nat.le_refl _) (.cells (labc 0 0) 26))
  have HF := first_some (k.below B0.out) hs 64 hp _ rfl
  rw [if_pos hx, show ((64 : Nat) : Int) = 64 from rfl] at HF
  replace HF := Lib.hid HF
  clear k
  generalize w.alloc _ = W at *
  go_upto_region 3 with (go_at_call 50; (with_reducible refine HF.out.mono ?_); rintro e w1 ⟨rfl, hr1, hk1⟩)
  have HR := Lib.hid hr1
  have HK : Hid (Keep w w1 g g) := (Keep.of B0.out g g).trans hk1
  replace A0 := Lib.hid (A0.out.keep hk1 (by omega) (by omega))
  clear HF hr1 hk1 B0
  go_wp2_with (refine p_storeL rfl _ _ rfl w.heap.size rfl 0 0 rfl 0 0 A0.out ?_)
  refine bodyPost_ret (results_labv2 Try.results45 _ _ w.heap.size 0 0 (.int .i64 3) rfl rfl (A0.out.setRow _)) rfl ?_
  exact ⟨rfl, ⟨p + 1, HR.out.row _ _ (by omega) (by omega), fun h => by cases h⟩, HK.out.setNew (Nat.le_refl _) _⟩
set_option maxHeartbeats 1000000 in
theorem label_few {w : World} {g h c : Nat} {s : ByteArray} {p : Nat} (k : Rd w g h c s p) (hs : s.size ≤ 1000000) (hp : p < s.size) (x : Nat) (hxe : byteAt s p = x) (hx : ¬ 64 < x) (hf : s.size < p + 1 + e8 x) : Reads 45 w g h c s p (.agg (labc 0 0)) 0 4 := by
  have hg := k.lt
  have hne := k.ne
  have h8 := e8_le (n := x) (by omega)
  have HE : Hid (∀ w, Calls Try.prog 32 #[.int .i64 (x : Int)] w fun e w' => e = .returned (.int .i64 ((e8 x : Nat) : Int)) ∧ w = w') := fun w => eights_any x w (by omega)
  have hr := run_upto8
  unfold Reads
  go_enter Try.func45, Try.ntmps45
  go_upto_region 1 with (fail)
  rw [lab00]
  have A0 := Lib.hid (Blk.new w (labc 0 0) 26)
  have B0 := Lib.hid ((Below.refl w.heap.size w).alloc (Nat.le_refl _) (.cells (labc 0 0) 26))
  have HF := first_some (k.below B0.out) hs 64 hp x hxe
  rw [if_neg hx, show ((64 : Nat) : Int) = 64 from rfl] at HF
  replace HF := Lib.hid HF
  clear k hxe
  generalize w.alloc _ = W at *
  go_upto_region 2 with (go_at_call 50; (with_reducible refine HF.out.mono ?_); rintro e w1 ⟨rfl, hr1, hk1⟩)
  go_upto_region 5 with (fail)
  rw [zeros8]
  have B1 := (Below.refl w1.heap.size w1).alloc (Nat.le_refl _) (.cells (row (List.replicate 8 0)) 59)
  have HK : Hid (Keep w _ g g) := ((Keep.of B0.out g g).trans hk1).trans (Keep.of B1 g g)
  have HR := Lib.hid (hr1.below B1)
  replace A0 := Lib.hid ((A0.out.keep hk1 (by omega) (by omega)).alloc (.cells (row (List.replicate 8 0)) 59))
  have HM := Lib.hid (fill_more HR.out hs w1.heap.size 0 (e8 x) 8 hf)
  have hsl := hr w1.heap.size (e8 x) h8
  clear hr HF hr1 hk1 B1 B0
  generalize w1.heap.size = b at *
  generalize w1.alloc _ = W1 at *
  go_upto_region 7 with (first | (go_at_call 32; (with_reducible refine (HE.out _).mono ?_); rintro e w5 ⟨rfl, rfl⟩) | (go_at_call 51; (with_reducible refine HM.out.mono ?_); rintro e w2 ⟨rfl, hb2⟩))
  replace HR := Lib.hid (HR.out.below hb2)
  replace A0 := Lib.hid (A0.out.below hb2 A0.out.lt)
  replace HK := Lib.hid (HK.out.trans (Keep.of hb2 g g))
  clear HM hb2 hsl
  go_wp2_with (refine p_storeL rfl _ _ rfl w.heap.size rfl 0 0 rfl 0 0 A0.out ?_)
  refine bodyPost_ret (results_labv2 Try.results45 _ _ w.heap.size 0 0 (.int .i64 4) rfl rfl (A0.out.setRow _)) rfl ?_
  exact ⟨rfl, ⟨_, HR.out.row _ _ (by omega) (by omega), fun h => by cases h⟩, HK.out.setNew (Nat.le_refl _) _⟩
end Go.Proofs.Ytgfcdkihahfnkaa
