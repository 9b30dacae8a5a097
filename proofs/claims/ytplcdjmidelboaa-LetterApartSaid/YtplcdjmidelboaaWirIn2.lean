/- The program's reader: text, place, label. -/
import Derived.Test.YtplcdjmidelboaaWirIn
namespace Go.Proofs.Ytplcdjmidelboaa
set_option maxRecDepth 100000
open Go.RowKit Go.Sort

/-- a slice is made of as many bytes as an unsigned number says: a new block -/
theorem wpList_make_blkU {P : Program} {w : World} {ops : Array Oper} {rest : List Oper} {o : Oper} {a : Act} {Q : Exit → Act → World → Prop}
    (hg : o.guard = none) (l c : Operand) (t : TypeId) (hop : o.op = Op.makeSlice t l c)
    (e : TypeId) (z : Value) (size bytes : Nat) (h1 : P.underlying t = some (.slice e)) (hi : (P.info? e).map (fun i => (i.zero, i.size, i.bytes)) = some (some z, size, bytes))
    (n : Nat) (hl : a.eval l = .int .u64 (n : Int)) (hc : a.eval c = .int .u64 (n : Int)) (b2 : bytes * n ≤ 281474976710656) (b3 : n ≤ 9223372036854775807) (Z : Array Value) (hZ : madeCells z.cells (n * size) = Z)
    (hK : wpList P ops Q rest (a.put o.dst (.slice (some ⟨w.heap.size, 0, none⟩) n n)) (w.alloc (.cells Z e))) :
    wpList P ops Q (o :: rest) a w := by
  refine wpList_plain hg fun K hK' => ?_
  obtain ⟨i, hi', hq⟩ := Option.map_eq_some_iff.1 hi
  simp only [Prod.mk.injEq] at hq
  obtain ⟨q1, q2, q3⟩ := hq
  have hb' : (i.bytes : Int) * (n : Int) ≤ 281474976710656 := by
    have h : ((i.bytes * n : Nat) : Int) ≤ 281474976710656 := by rw [q3]; omega
    rwa [Int.natCast_mul] at h
  have hr := run_make (P := P) w t e i z h1 hi' q1 .u64 .u64 n n (by omega) (Int.le_refl _) hb' (by omega)
  simp only [Int.toNat_natCast] at hr
  rw [q2, hZ] at hr
  unfold Oper.wp
  simp [execOp, hop, hl, hc, hr, Result.andThen]
  exact hK' _ _ hK
theorem tab_zeros (n : Nat) : (tab n fun _ => 0) = List.replicate n 0 := by rw [tab, List.map_const', List.length_range]

/-! a place -/
theorem Keep.setNew {w w' : World} {g : Nat} (k : Keep w w' g g) {b : Nat} (hb : w.heap.size ≤ b) (cs : Array Value) : Keep w (w'.setRow b cs) g g :=
  ⟨k.os, k.tape, k.output, by simpa [World.setRow] using k.size, fun j hj h1 h2 => (Go.setRow_other w' b j cs (by omega)).trans (k.block j hj h1 h2)⟩
theorem place_few {w : World} {g h c : Nat} {s : ByteArray} {p : Nat} (k : Rd w g h c s p) (hs : s.size ≤ 1000000) (hf : s.size < p + 20) : Reads 75 w g h c s p (idv 0) 0 4 := by
  have hg := k.lt
  have hne := k.ne
  unfold Reads
  go_enter Try.func75, Try.ntmps75
  go_upto_region 2 with (fail)
  rw [zeros]
  have K := Lib.hid (MemO.made w (row (List.replicate 20 0)) (row (List.replicate 20 0)) 23)
  have HR := Lib.hid (k.below K.out.below)
  have HM := Lib.hid (fill_more HR.out hs (w.heap.size + 1) 0 20 20 hf)
  clear k
  generalize (w.alloc _).alloc _ = W at *
  go_upto_region 3 with (go_at_call 79; (with_reducible refine HM.out.mono ?_); rintro e w2 ⟨rfl, hb2⟩)
  have K2 := Lib.hid (K.out.grown hb2)
  replace HR := Lib.hid (HR.out.below hb2)
  clear HM K hb2
  go_wp2_with (first | (refine wpList_load_row rfl 23 _ rfl (w.heap.size + 1) rfl 23 _ (0, 0) _ K2.out.o Try.underlying23 rfl (info_id _ rfl) ?_) | (refine wpList_store_row rfl 23 _ _ rfl w.heap.size _ rfl rfl 23 _ K2.out.z (info_id _ rfl) (size_id _ rfl _ rfl) (row8_one _) ?_))
  refine bodyPost_ret (results_idv2 Try.results75 _ _ w.heap.size (List.replicate 20 0) (.int .i64 4) rfl rfl (K2.out.z.setRow _) rfl) rfl ?_
  exact ⟨rfl, ⟨p, HR.out.row _ _ (by omega) (by omega), fun h => by cases h⟩, Keep.of (bel_setRow K2.out.below (Nat.le_refl _) _) g g⟩
set_option maxHeartbeats 1000000 in
theorem place_some {w : World} {g h c : Nat} {s : ByteArray} {p : Nat} (k : Rd w g h c s p) (hs : s.size ≤ 1000000) (hf : p + 20 ≤ s.size) : Reads 75 w g h c s p (idv (valN ((rest s p).take 20))) 20 0 := by
  have hl : ¬ (rest s p).length < 20 := by rw [rest_length]; omega
  have HV : Hid (dig 20 (valN ((rest s p).take 20)) = (rest s p).take 20) := (rPl_only (rest_lt s p) hl).1
  have hml : ((rest s p).take 20).length = 20 := by rw [List.length_take]; omega
  have hg := k.lt
  have hne := k.ne
  unfold Reads
  rw [show idv (valN ((rest s p).take 20)) = .agg (row (dig 20 (valN ((rest s p).take 20)))) from rfl, HV.out]
  go_enter Try.func75, Try.ntmps75
  go_upto_region 2 with (fail)
  rw [zeros]
  have K := Lib.hid (MemO.made w (row (List.replicate 20 0)) (row (List.replicate 20 0)) 23)
  have HM := fill_yes (k.below K.out.below) hs (w.heap.size + 1) 0 20 20 hf (List.replicate 20 0) 23 K.out.o (by simp) (by omega) (by omega)
  rw [show (List.replicate 20 0).take 0 ++ (rest s p).take 20 ++ (List.replicate 20 0).drop (0 + 20) = (rest s p).take 20 by simp] at HM
  replace HM := Lib.hid HM
  clear k
  generalize (w.alloc _).alloc _ = W at *
  go_upto_region 3 with (go_at_call 79; (with_reducible refine HM.out.mono ?_); rintro e w2 ⟨rfl, hr2, hb2, hk2⟩)
  have HR2 := Lib.hid hr2
  have HB2 := Lib.hid hb2
  have HZ := Lib.hid (K.out.z.keep hk2 (by omega) (by omega))
  have HK2 : Hid (Keep w w2 g g) := (Keep.of K.out.below g g).new hk2 (by omega)
  clear HM K hb2 hr2 hk2
  go_wp2_with (first | (refine wpList_load_row rfl 23 _ rfl (w.heap.size + 1) rfl 23 _ (0, 0) _ HB2.out Try.underlying23 rfl (info_id _ hml) ?_) | (refine wpList_store_row rfl 23 _ _ rfl w.heap.size _ rfl rfl 23 _ HZ.out (info_id _ hml) (size_id _ rfl _ hml) (row8_one _) ?_))
  refine bodyPost_ret (results_idv2 Try.results75 _ _ w.heap.size ((rest s p).take 20) (.int .i64 0) rfl rfl (HZ.out.setRow _) hml) rfl ?_
  exact ⟨rfl, ⟨_, HR2.out.row _ _ (by omega) (by omega), fun _ => rfl⟩, HK2.out.setNew (Nat.le_refl _) _⟩

end Go.Proofs.Ytplcdjmidelboaa
