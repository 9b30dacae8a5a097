/- The program's reader: a value whole, or not at all; Number, Text, Place, Label. -/
import Derived.Test.YtgfcdkihahfnkaaWirIn3
namespace Go.Proofs.Ytgfcdkihahfnkaa
open Go.RowKit Go.Sort

/-- what a call of the reader's tells, and where it stands then -/
def Does (f : FuncId) (w : World) (g h c : Nat) (s : ByteArray) (p : Nat) (v : Value) (n e : Nat) : Prop :=
  Calls Try.prog f #[.pointer (some ⟨g, 0, none⟩)] w fun r w' => r = .returned (.tuple #[v, .int .i64 (e : Int)]) ∧ Rd w' g h c s (p + n) ∧ Keep w w' g g

theorem wholeN_nil (w : World) : Calls Try.prog 37 #[.pointer none, .func (.func 38) #[.pointer none] #[]] w fun r w' => r = .returned (.tuple #[.int .u64 0, .int .i64 6]) ∧ Below w.heap.size w w' := by
  go_enter Try.func37, Try.ntmps37
  go_wp2
  go_ret2
  exact ⟨rfl, Below.refl _ _⟩
theorem wholeN_ok {w : World} {g h c : Nat} {s : ByteArray} {p : Nat} (k : Rd w g h c s p) (v : Value) (n : Nat) (hR : Reads 38 w g h c s p v n 0) :
    Calls Try.prog 37 #[.pointer (some ⟨g, 0, none⟩), .func (.func 38) #[.pointer (some ⟨g, 0, none⟩)] #[]] w fun r w' => r = .returned (.tuple #[v, .int .i64 0]) ∧ Rd w' g h c s (p + n) ∧ Keep w w' g g := by
  have c1 := k.cell1
  unfold Reads at hR
  have HR := Lib.hid hR
  clear k hR
  go_enter Try.func37, Try.ntmps37
  go_upto_region 6 with (go_at_call 38; (with_reducible refine HR.out.mono ?_); rintro e1 w1 ⟨rfl, ⟨q, hr1, hq⟩, hk1⟩)
  obtain rfl := hq (by first | trivial | rfl)
  clear c1
  go_wp2
  go_ret2
  exact ⟨rfl, hr1, hk1⟩
theorem wholeN_no {w : World} {g h c : Nat} {s : ByteArray} {p : Nat} (k : Rd w g h c s p) (v : Value) (n e : Nat) (he : e ≠ 0) (hR : Reads 38 w g h c s p v n e) :
    Calls Try.prog 37 #[.pointer (some ⟨g, 0, none⟩), .func (.func 38) #[.pointer (some ⟨g, 0, none⟩)] #[]] w fun r w' => r = .returned (.tuple #[.int .u64 0, .int .i64 (e : Int)]) ∧ Rd w' g h c s p ∧ Keep w w' g g := by
  have c1 := k.cell1
  have hle := k.le
  have hd : ((e : Int) != 0) = true := by rw [bne_iff_ne]; omega
  unfold Reads at hR
  have HR := Lib.hid hR
  clear k hR
  go_enter Try.func37, Try.ntmps37
  go_upto_region 6 with (go_at_call 38; (with_reducible refine HR.out.mono ?_); rintro e1 w1 ⟨rfl, ⟨q, hr1, hq⟩, hk1⟩)
  clear c1 hq
  have c1 := hr1.cell1
  have f1 := hr1.free1
  have HR1 := Lib.hid hr1
  have HK1 := Lib.hid hk1
  clear hr1 hk1
  go_wp2
  go_ret2
  exact ⟨rfl, HR1.out.at p hle, HK1.out.setCell 1 _⟩
theorem mN_nil (w : World) : Calls Try.prog 19 #[.pointer none] w fun r w' => r = .returned (.tuple #[.int .u64 0, .int .i64 6]) ∧ Below w.heap.size w w' := by
  have hmf : ∀ (fn : Fn) (first cap : Array Value) (w : World), (Instr.makeFunc fn first cap).run Try.prog w = .ok (.func fn first cap) w := fun _ _ _ _ => rfl
  have HW := Lib.hid (wholeN_nil w)
  go_enter Try.func19, Try.ntmps19
  go_wp2_with (go_at_call 37; (with_reducible refine HW.out.mono ?_); rintro e1 w1 ⟨rfl, hb1⟩)
  go_ret2
  exact ⟨rfl, hb1⟩
theorem mN_of {w : World} {g h c : Nat} {s : ByteArray} {p : Nat} (v : Value) (n e : Nat) (HW : Hid (Calls Try.prog 37 #[.pointer (some ⟨g, 0, none⟩), .func (.func 38) #[.pointer (some ⟨g, 0, none⟩)] #[]] w fun r w' => r = .returned (.tuple #[v, .int .i64 (e : Int)]) ∧ Rd w' g h c s (p + n) ∧ Keep w w' g g)) : Does 19 w g h c s p v n e := by
  have hmf : ∀ (fn : Fn) (first cap : Array Value) (w : World), (Instr.makeFunc fn first cap).run Try.prog w = .ok (.func fn first cap) w := fun _ _ _ _ => rfl
  unfold Does
  go_enter Try.func19, Try.ntmps19
  go_wp2_with (go_at_call 37; (with_reducible refine HW.out.mono ?_); rintro e1 w1 ⟨rfl, hr1, hk1⟩)
  go_ret2
  exact ⟨rfl, hr1, hk1⟩

theorem wholeT_nil (w : World) : Calls Try.prog 40 #[.pointer none, .func (.func 41) #[.pointer none] #[]] w fun r w' => r = .returned (.tuple #[.string ⟨#[]⟩, .int .i64 6]) ∧ Below w.heap.size w w' := by
  go_enter Try.func40, Try.ntmps40
  go_wp2
  go_ret2
  exact ⟨rfl, Below.refl _ _⟩
theorem wholeT_ok {w : World} {g h c : Nat} {s : ByteArray} {p : Nat} (k : Rd w g h c s p) (v : Value) (n : Nat) (hR : Reads 41 w g h c s p v n 0) :
    Calls Try.prog 40 #[.pointer (some ⟨g, 0, none⟩), .func (.func 41) #[.pointer (some ⟨g, 0, none⟩)] #[]] w fun r w' => r = .returned (.tuple #[v, .int .i64 0]) ∧ Rd w' g h c s (p + n) ∧ Keep w w' g g := by
  have c1 := k.cell1
  unfold Reads at hR
  have HR := Lib.hid hR
  clear k hR
  go_enter Try.func40, Try.ntmps40
  go_upto_region 6 with (go_at_call 41; (with_reducible refine HR.out.mono ?_); rintro e1 w1 ⟨rfl, ⟨q, hr1, hq⟩, hk1⟩)
  obtain rfl := hq (by first | trivial | rfl)
  clear c1
  go_wp2
  go_ret2
  exact ⟨rfl, hr1, hk1⟩
theorem wholeT_no {w : World} {g h c : Nat} {s : ByteArray} {p : Nat} (k : Rd w g h c s p) (v : Value) (n e : Nat) (he : e ≠ 0) (hR : Reads 41 w g h c s p v n e) :
    Calls Try.prog 40 #[.pointer (some ⟨g, 0, none⟩), .func (.func 41) #[.pointer (some ⟨g, 0, none⟩)] #[]] w fun r w' => r = .returned (.tuple #[.string ⟨#[]⟩, .int .i64 (e : Int)]) ∧ Rd w' g h c s p ∧ Keep w w' g g := by
  have c1 := k.cell1
  have hle := k.le
  have hd : ((e : Int) != 0) = true := by rw [bne_iff_ne]; omega
  unfold Reads at hR
  have HR := Lib.hid hR
  clear k hR
  go_enter Try.func40, Try.ntmps40
  go_upto_region 6 with (go_at_call 41; (with_reducible refine HR.out.mono ?_); rintro e1 w1 ⟨rfl, ⟨q, hr1, hq⟩, hk1⟩)
  clear c1 hq
  have c1 := hr1.cell1
  have f1 := hr1.free1
  have HR1 := Lib.hid hr1
  have HK1 := Lib.hid hk1
  clear hr1 hk1
  go_wp2
  go_ret2
  exact ⟨rfl, HR1.out.at p hle, HK1.out.setCell 1 _⟩
theorem mT_nil (w : World) : Calls Try.prog 21 #[.pointer none] w fun r w' => r = .returned (.tuple #[.string ⟨#[]⟩, .int .i64 6]) ∧ Below w.heap.size w w' := by
  have hmf : ∀ (fn : Fn) (first cap : Array Value) (w : World), (Instr.makeFunc fn first cap).run Try.prog w = .ok (.func fn first cap) w := fun _ _ _ _ => rfl
  have HW := Lib.hid (wholeT_nil w)
  go_enter Try.func21, Try.ntmps21
  go_wp2_with (go_at_call 40; (with_reducible refine HW.out.mono ?_); rintro e1 w1 ⟨rfl, hb1⟩)
  go_ret2
  exact ⟨rfl, hb1⟩
theorem mT_of {w : World} {g h c : Nat} {s : ByteArray} {p : Nat} (v : Value) (n e : Nat) (HW : Hid (Calls Try.prog 40 #[.pointer (some ⟨g, 0, none⟩), .func (.func 41) #[.pointer (some ⟨g, 0, none⟩)] #[]] w fun r w' => r = .returned (.tuple #[v, .int .i64 (e : Int)]) ∧ Rd w' g h c s (p + n) ∧ Keep w w' g g)) : Does 21 w g h c s p v n e := by
  have hmf : ∀ (fn : Fn) (first cap : Array Value) (w : World), (Instr.makeFunc fn first cap).run Try.prog w = .ok (.func fn first cap) w := fun _ _ _ _ => rfl
  unfold Does
  go_enter Try.func21, Try.ntmps21
  go_wp2_with (go_at_call 40; (with_reducible refine HW.out.mono ?_); rintro e1 w1 ⟨rfl, hr1, hk1⟩)
  go_ret2
  exact ⟨rfl, hr1, hk1⟩

theorem wholeP_nil (w : World) : Calls Try.prog 42 #[.pointer none, .func (.func 43) #[.pointer none] #[]] w fun r w' => r = .returned (.tuple #[.agg (row (List.replicate 20 0)), .int .i64 6]) ∧ Below w.heap.size w w' := by
  go_enter Try.func42, Try.ntmps42
  go_upto_region 2 with (fail)
  rw [zeros]
  have K := Lib.hid (MemO.made w (row (List.replicate 20 0)) (row (List.replicate 20 0)) 24)
  generalize (w.alloc _).alloc _ = W at *
  go_wp2_with (first | (refine wpList_load_row rfl 24 _ rfl (w.heap.size + 1) rfl 24 _ (0, 0) _ K.out.o Try.underlying24 rfl (info_id _ rfl) ?_) | (refine wpList_store_row rfl 24 _ _ rfl (w.heap.size) _ rfl rfl 24 _ K.out.z (info_id _ rfl) (size_id _ rfl _ rfl) (row8_one _) ?_))
  exact bodyPost_ret (results_idv2 Try.results42 _ _ (w.heap.size) _ (.int .i64 6) rfl rfl (K.out.z.setRow _) rfl) rfl ⟨rfl, bel_setRow K.out.below (Nat.le_refl _) _⟩
theorem wholeP_ok {w : World} {g h c : Nat} {s : ByteArray} {p : Nat} (k : Rd w g h c s p) (l : List Nat) (hl : l.length = 20) (n : Nat) (hR : ∀ W, Rd W g h c s p → Reads 43 W g h c s p (.agg (row l)) n 0) :
    Calls Try.prog 42 #[.pointer (some ⟨g, 0, none⟩), .func (.func 43) #[.pointer (some ⟨g, 0, none⟩)] #[]] w fun r w' => r = .returned (.tuple #[.agg (row l), .int .i64 0]) ∧ Rd w' g h c s (p + n) ∧ Keep w w' g g := by
  have hg := k.lt
  have hne := k.ne
  go_enter Try.func42, Try.ntmps42
  go_upto_region 2 with (fail)
  rw [zeros]
  have K := Lib.hid (MemO.made w (row (List.replicate 20 0)) (row (List.replicate 20 0)) 24)
  have k2 := k.below K.out.below
  have hR2 := hR _ k2
  unfold Reads at hR2
  have HR := Lib.hid hR2
  have c1 := k2.cell1
  have hzs := K.out.o.lt
  clear k k2 hR hR2
  generalize (w.alloc _).alloc _ = W at *
  go_upto_region 6 with (first | (go_at_call 43; (with_reducible refine HR.out.mono ?_); rintro e1 w1 ⟨rfl, ⟨q, hr1, hq⟩, hk1⟩) | (refine wpList_store_newrow rfl 24 _ _ rfl (row l) rfl rfl (info_id _ hl) (row8_one _) (by rw [row_size, hl]; rfl) ?_))
  obtain rfl := hq (by first | trivial | rfl)
  clear c1
  have B1 := (Below.refl w1.heap.size w1).alloc (Nat.le_refl _) (.cells (row l) 24)
  have HR1 := Lib.hid (hr1.below B1)
  have HZ := Lib.hid ((K.out.z.keep hk1 (by omega) (by omega)).alloc (.cells (row l) 24))
  have HO := Lib.hid (Blk.new w1 (row l) 24)
  have HK : Hid (Keep w _ g g) := ((Keep.of K.out.below g g).trans hk1).trans (Keep.of B1 g g)
  clear hr1 hk1 B1 K HR hq
  generalize w1.heap.size = b1 at *
  generalize w1.alloc _ = W1 at *
  go_wp2_with (first | (refine wpList_load_row rfl 24 _ rfl (b1) rfl 24 _ (0, 0) _ HO.out Try.underlying24 rfl (info_id _ hl) ?_) | (refine wpList_store_row rfl 24 _ _ rfl (w.heap.size) _ rfl rfl 24 _ HZ.out (info_id _ hl) (size_id _ rfl _ hl) (row8_one _) ?_))
  exact bodyPost_ret (results_idv2 Try.results42 _ _ (w.heap.size) _ (.int .i64 0) rfl rfl (HZ.out.setRow _) hl) rfl ⟨rfl, HR1.out.row _ _ (by omega) (by omega), HK.out.setNew (Nat.le_refl _) _⟩
theorem wholeP_no {w : World} {g h c : Nat} {s : ByteArray} {p : Nat} (k : Rd w g h c s p) (l : List Nat) (hl : l.length = 20) (n e : Nat) (he : e ≠ 0) (hR : ∀ W, Rd W g h c s p → Reads 43 W g h c s p (.agg (row l)) n e) :
    Calls Try.prog 42 #[.pointer (some ⟨g, 0, none⟩), .func (.func 43) #[.pointer (some ⟨g, 0, none⟩)] #[]] w fun r w' => r = .returned (.tuple #[.agg (row (List.replicate 20 0)), .int .i64 (e : Int)]) ∧ Rd w' g h c s p ∧ Keep w w' g g := by
  have hg := k.lt
  have hne := k.ne
  have hle := k.le
  have hd : ((e : Int) != 0) = true := by rw [bne_iff_ne]; omega
  go_enter Try.func42, Try.ntmps42
  go_upto_region 2 with (fail)
  rw [zeros]
  have K := Lib.hid (MemO.made w (row (List.replicate 20 0)) (row (List.replicate 20 0)) 24)
  have k2 := k.below K.out.below
  have hR2 := hR _ k2
  unfold Reads at hR2
  have HR := Lib.hid hR2
  have c1 := k2.cell1
  have hzs := K.out.o.lt
  clear k k2 hR hR2
  generalize (w.alloc _).alloc _ = W at *
  go_upto_region 6 with (first | (go_at_call 43; (with_reducible refine HR.out.mono ?_); rintro e1 w1 ⟨rfl, ⟨q, hr1, hq⟩, hk1⟩) | (refine wpList_store_newrow rfl 24 _ _ rfl (row l) rfl rfl (info_id _ hl) (row8_one _) (by rw [row_size, hl]; rfl) ?_))
  clear c1 hq
  have B1 := (Below.refl w1.heap.size w1).alloc (Nat.le_refl _) (.cells (row l) 24)
  have HR1 := Lib.hid (hr1.below B1)
  have HZ := Lib.hid ((K.out.z.keep hk1 (by omega) (by omega)).alloc (.cells (row l) 24))
  have HO := Lib.hid ((K.out.o.keep hk1 (by omega) (by omega)).alloc (.cells (row l) 24))
  have HK : Hid (Keep w _ g g) := ((Keep.of K.out.below g g).trans hk1).trans (Keep.of B1 g g)
  clear hr1 hk1 B1 K HR
  generalize w1.heap.size = b1 at *
  generalize w1.alloc _ = W1 at *
  have c1 := HR1.out.cell1
  have f1 := HR1.out.free1
  have HZ2 : Hid (Blk (W1.setCell ⟨g, 1, none⟩ (.int .i64 (p : Int))) w.heap.size (row (List.replicate 20 0)) 24) := HZ.out.other _ _ _ (by omega)
  have HO2 : Hid (Blk (W1.setCell ⟨g, 1, none⟩ (.int .i64 (p : Int))) (w.heap.size + 1) (row (List.replicate 20 0)) 24) := HO.out.other _ _ _ (by omega)
  go_wp2_with (first | (refine wpList_load_row rfl 24 _ rfl (w.heap.size + 1) rfl 24 _ (0, 0) _ HO2.out Try.underlying24 rfl (info_id _ rfl) ?_) | (refine wpList_store_row rfl 24 _ _ rfl (w.heap.size) _ rfl rfl 24 _ HZ2.out (info_id _ rfl) (size_id _ rfl _ rfl) (row8_one _) ?_))
  exact bodyPost_ret (results_idv2 Try.results42 _ _ (w.heap.size) _ (.int .i64 (e : Int)) rfl rfl (HZ2.out.setRow _) rfl) rfl ⟨rfl, (HR1.out.at p hle).row _ _ (by omega) (by omega), (HK.out.setCell 1 _).setNew (Nat.le_refl _) _⟩
theorem mP_nil (w : World) : Calls Try.prog 23 #[.pointer none] w fun r w' => r = .returned (.tuple #[.agg (row (List.replicate 20 0)), .int .i64 6]) ∧ Below w.heap.size w w' := by
  have hmf : ∀ (fn : Fn) (first cap : Array Value) (w : World), (Instr.makeFunc fn first cap).run Try.prog w = .ok (.func fn first cap) w := fun _ _ _ _ => rfl
  have HW := Lib.hid (fun w => wholeP_nil w)
  go_enter Try.func23, Try.ntmps23
  go_upto_region 1 with (fail)
  rw [zeros]
  have A0 := Lib.hid (Blk.new w (row (List.replicate 20 0)) 24)
  have B0 := Lib.hid ((Below.refl w.heap.size w).alloc (Nat.le_refl _) (.cells (row (List.replicate 20 0)) 24))
  generalize w.alloc _ = W at *
  go_wp2_with (first | (go_at_call 42; (with_reducible refine (HW.out _).mono ?_); rintro e1 w1 ⟨rfl, hb1⟩; have HA := Lib.hid (A0.out.below hb1 A0.out.lt)) | (refine wpList_store_row rfl 24 _ _ rfl (w.heap.size) _ rfl rfl 24 _ HA.out (info_id _ rfl) (size_id _ rfl _ rfl) (row8_one _) ?_))
  exact bodyPost_ret (results_idv2 Try.results23 _ _ (w.heap.size) _ (.int .i64 6) rfl rfl (HA.out.setRow _) rfl) rfl ⟨rfl, bel_setRow (B0.out.trans (hb1.mono B0.out.size)) (Nat.le_refl _) _⟩
theorem mP_of {w : World} {g h c : Nat} {s : ByteArray} {p : Nat} (k : Rd w g h c s p) (l : List Nat) (hl : l.length = 20) (n e : Nat) (HW : Hid (∀ W, Rd W g h c s p → Calls Try.prog 42 #[.pointer (some ⟨g, 0, none⟩), .func (.func 43) #[.pointer (some ⟨g, 0, none⟩)] #[]] W fun r w' => r = .returned (.tuple #[.agg (row l), .int .i64 (e : Int)]) ∧ Rd w' g h c s (p + n) ∧ Keep W w' g g)) : Does 23 w g h c s p (.agg (row l)) n e := by
  have hmf : ∀ (fn : Fn) (first cap : Array Value) (w : World), (Instr.makeFunc fn first cap).run Try.prog w = .ok (.func fn first cap) w := fun _ _ _ _ => rfl
  have hg := k.lt
  have hne := k.ne
  unfold Does
  go_enter Try.func23, Try.ntmps23
  go_upto_region 1 with (fail)
  rw [zeros]
  have A0 := Lib.hid (Blk.new w (row (List.replicate 20 0)) 24)
  have B0 := Lib.hid ((Below.refl w.heap.size w).alloc (Nat.le_refl _) (.cells (row (List.replicate 20 0)) 24))
  have HW2 := Lib.hid (HW.out _ (k.below B0.out))
  clear k HW
  generalize w.alloc _ = W at *
  go_wp2_with (first | (go_at_call 42; (with_reducible refine HW2.out.mono ?_); rintro e1 w1 ⟨rfl, hr1, hk1⟩; have HA := Lib.hid (A0.out.keep hk1 (by omega) (by omega))) | (refine wpList_store_row rfl 24 _ _ rfl (w.heap.size) _ rfl rfl 24 _ HA.out (info_id _ hl) (size_id _ rfl _ hl) (row8_one _) ?_))
  exact bodyPost_ret (results_idv2 Try.results23 _ _ (w.heap.size) _ (.int .i64 (e : Int)) rfl rfl (HA.out.setRow _) hl) rfl ⟨rfl, hr1.row _ _ (by omega) (by omega), ((Keep.of B0.out g g).trans hk1).setNew (Nat.le_refl _) _⟩

theorem wholeL_nil (w : World) : Calls Try.prog 44 #[.pointer none, .func (.func 45) #[.pointer none] #[]] w fun r w' => r = .returned (.tuple #[.agg (labc 0 0), .int .i64 6]) ∧ Below w.heap.size w w' := by
  go_enter Try.func44, Try.ntmps44
  go_upto_region 2 with (fail)
  rw [lab00]
  have K := Lib.hid (MemO.made w (labc 0 0) (labc 0 0) 26)
  generalize (w.alloc _).alloc _ = W at *
  go_wp2_with (first | (refine p_loadL rfl _ rfl (w.heap.size + 1) rfl _ _ K.out.o ?_) | (refine p_storeL rfl _ _ rfl (w.heap.size) rfl _ _ rfl _ _ K.out.z ?_))
  exact bodyPost_ret (results_labv2 Try.results44 _ _ (w.heap.size) _ _ (.int .i64 6) rfl rfl (K.out.z.setRow _)) rfl ⟨rfl, bel_setRow K.out.below (Nat.le_refl _) _⟩
theorem wholeL_ok {w : World} {g h c : Nat} {s : ByteArray} {p : Nat} (k : Rd w g h c s p) (a : Int) (b : Nat) (n : Nat) (hR : ∀ W, Rd W g h c s p → Reads 45 W g h c s p (.agg (labc a b)) n 0) :
    Calls Try.prog 44 #[.pointer (some ⟨g, 0, none⟩), .func (.func 45) #[.pointer (some ⟨g, 0, none⟩)] #[]] w fun r w' => r = .returned (.tuple #[.agg (labc a b), .int .i64 0]) ∧ Rd w' g h c s (p + n) ∧ Keep w w' g g := by
  have hg := k.lt
  have hne := k.ne
  go_enter Try.func44, Try.ntmps44
  go_upto_region 2 with (fail)
  rw [lab00]
  have K := Lib.hid (MemO.made w (labc 0 0) (labc 0 0) 26)
  have k2 := k.below K.out.below
  have hR2 := hR _ k2
  unfold Reads at hR2
  have HR := Lib.hid hR2
  have c1 := k2.cell1
  have hzs := K.out.o.lt
  clear k k2 hR hR2
  generalize (w.alloc _).alloc _ = W at *
  go_upto_region 6 with (first | (go_at_call 45; (with_reducible refine HR.out.mono ?_); rintro e1 w1 ⟨rfl, ⟨q, hr1, hq⟩, hk1⟩) | (refine wpList_store_newrow rfl 26 _ _ rfl (labc a b) rfl rfl infoLab (lab_all _ _) rfl ?_))
  obtain rfl := hq (by first | trivial | rfl)
  clear c1
  have B1 := (Below.refl w1.heap.size w1).alloc (Nat.le_refl _) (.cells (labc a b) 26)
  have HR1 := Lib.hid (hr1.below B1)
  have HZ := Lib.hid ((K.out.z.keep hk1 (by omega) (by omega)).alloc (.cells (labc a b) 26))
  have HO := Lib.hid (Blk.new w1 (labc a b) 26)
  have HK : Hid (Keep w _ g g) := ((Keep.of K.out.below g g).trans hk1).trans (Keep.of B1 g g)
  clear hr1 hk1 B1 K HR hq
  generalize w1.heap.size = b1 at *
  generalize w1.alloc _ = W1 at *
  go_wp2_with (first | (refine p_loadL rfl _ rfl (b1) rfl _ _ HO.out ?_) | (refine p_storeL rfl _ _ rfl (w.heap.size) rfl _ _ rfl _ _ HZ.out ?_))
  exact bodyPost_ret (results_labv2 Try.results44 _ _ (w.heap.size) _ _ (.int .i64 0) rfl rfl (HZ.out.setRow _)) rfl ⟨rfl, HR1.out.row _ _ (by omega) (by omega), HK.out.setNew (Nat.le_refl _) _⟩
theorem wholeL_no {w : World} {g h c : Nat} {s : ByteArray} {p : Nat} (k : Rd w g h c s p) (a : Int) (b : Nat) (n e : Nat) (he : e ≠ 0) (hR : ∀ W, Rd W g h c s p → Reads 45 W g h c s p (.agg (labc a b)) n e) :
    Calls Try.prog 44 #[.pointer (some ⟨g, 0, none⟩), .func (.func 45) #[.pointer (some ⟨g, 0, none⟩)] #[]] w fun r w' => r = .returned (.tuple #[.agg (labc 0 0), .int .i64 (e : Int)]) ∧ Rd w' g h c s p ∧ Keep w w' g g := by
  have hg := k.lt
  have hne := k.ne
  have hle := k.le
  have hd : ((e : Int) != 0) = true := by rw [bne_iff_ne]; omega
  go_enter Try.func44, Try.ntmps44
  go_upto_region 2 with (fail)
  rw [lab00]
  have K := Lib.hid (MemO.made w (labc 0 0) (labc 0 0) 26)
  have k2 := k.below K.out.below
  have hR2 := hR _ k2
  unfold Reads at hR2
  have HR := Lib.hid hR2
  have c1 := k2.cell1
  have hzs := K.out.o.lt
  clear k k2 hR hR2
  generalize (w.alloc _).alloc _ = W at *
  go_upto_region 6 with (first | (go_at_call 45; (with_reducible refine HR.out.mono ?_); rintro e1 w1 ⟨rfl, ⟨q, hr1, hq⟩, hk1⟩) | (refine wpList_store_newrow rfl 26 _ _ rfl (labc a b) rfl rfl infoLab (lab_all _ _) rfl ?_))
  clear c1 hq
  have B1 := (Below.refl w1.heap.size w1).alloc (Nat.le_refl _) (.cells (labc a b) 26)
  have HR1 := Lib.hid (hr1.below B1)
  have HZ := Lib.hid ((K.out.z.keep hk1 (by omega) (by omega)).alloc (.cells (labc a b) 26))
  have HO := Lib.hid ((K.out.o.keep hk1 (by omega) (by omega)).alloc (.cells (labc a b) 26))
  have HK : Hid (Keep w _ g g) := ((Keep.of K.out.below g g).trans hk1).trans (Keep.of B1 g g)
  clear hr1 hk1 B1 K HR
  generalize w1.heap.size = b1 at *
  generalize w1.alloc _ = W1 at *
  have c1 := HR1.out.cell1
  have f1 := HR1.out.free1
  have HZ2 : Hid (Blk (W1.setCell ⟨g, 1, none⟩ (.int .i64 (p : Int))) w.heap.size (labc 0 0) 26) := HZ.out.other _ _ _ (by omega)
  have HO2 : Hid (Blk (W1.setCell ⟨g, 1, none⟩ (.int .i64 (p : Int))) (w.heap.size + 1) (labc 0 0) 26) := HO.out.other _ _ _ (by omega)
  go_wp2_with (first | (refine p_loadL rfl _ rfl (w.heap.size + 1) rfl _ _ HO2.out ?_) | (refine p_storeL rfl _ _ rfl (w.heap.size) rfl _ _ rfl _ _ HZ2.out ?_))
  exact bodyPost_ret (results_labv2 Try.results44 _ _ (w.heap.size) _ _ (.int .i64 (e : Int)) rfl rfl (HZ2.out.setRow _)) rfl ⟨rfl, (HR1.out.at p hle).row _ _ (by omega) (by omega), (HK.out.setCell 1 _).setNew (Nat.le_refl _) _⟩
theorem mL_nil (w : World) : Calls Try.prog 25 #[.pointer none] w fun r w' => r = .returned (.tuple #[.agg (labc 0 0), .int .i64 6]) ∧ Below w.heap.size w w' := by
  have hmf : ∀ (fn : Fn) (first cap : Array Value) (w : World), (Instr.makeFunc fn first cap).run Try.prog w = .ok (.func fn first cap) w := fun _ _ _ _ => rfl
  have HW := Lib.hid (fun w => wholeL_nil w)
  go_enter Try.func25, Try.ntmps25
  go_upto_region 1 with (fail)
  rw [lab00]
  have A0 := Lib.hid (Blk.new w (labc 0 0) 26)
  have B0 := Lib.hid ((Below.refl w.heap.size w).alloc (Nat.le_refl _) (.cells (labc 0 0) 26))
  generalize w.alloc _ = W at *
  go_wp2_with (first | (go_at_call 44; (with_reducible refine (HW.out _).mono ?_); rintro e1 w1 ⟨rfl, hb1⟩; have HA := Lib.hid (A0.out.below hb1 A0.out.lt)) | (refine p_storeL rfl _ _ rfl (w.heap.size) rfl _ _ rfl _ _ HA.out ?_))
  exact bodyPost_ret (results_labv2 Try.results25 _ _ (w.heap.size) _ _ (.int .i64 6) rfl rfl (HA.out.setRow _)) rfl ⟨rfl, bel_setRow (B0.out.trans (hb1.mono B0.out.size)) (Nat.le_refl _) _⟩
theorem mL_of {w : World} {g h c : Nat} {s : ByteArray} {p : Nat} (k : Rd w g h c s p) (a : Int) (b : Nat) (n e : Nat) (HW : Hid (∀ W, Rd W g h c s p → Calls Try.prog 44 #[.pointer (some ⟨g, 0, none⟩), .func (.func 45) #[.pointer (some ⟨g, 0, none⟩)] #[]] W fun r w' => r = .returned (.tuple #[.agg (labc a b), .int .i64 (e : Int)]) ∧ Rd w' g h c s (p + n) ∧ Keep W w' g g)) : Does 25 w g h c s p (.agg (labc a b)) n e := by
  have hmf : ∀ (fn : Fn) (first cap : Array Value) (w : World), (Instr.makeFunc fn first cap).run Try.prog w = .ok (.func fn first cap) w := fun _ _ _ _ => rfl
  have hg := k.lt
  have hne := k.ne
  unfold Does
  go_enter Try.func25, Try.ntmps25
  go_upto_region 1 with (fail)
  rw [lab00]
  have A0 := Lib.hid (Blk.new w (labc 0 0) 26)
  have B0 := Lib.hid ((Below.refl w.heap.size w).alloc (Nat.le_refl _) (.cells (labc 0 0) 26))
  have HW2 := Lib.hid (HW.out _ (k.below B0.out))
  clear k HW
  generalize w.alloc _ = W at *
  go_wp2_with (first | (go_at_call 44; (with_reducible refine HW2.out.mono ?_); rintro e1 w1 ⟨rfl, hr1, hk1⟩; have HA := Lib.hid (A0.out.keep hk1 (by omega) (by omega))) | (refine p_storeL rfl _ _ rfl (w.heap.size) rfl _ _ rfl _ _ HA.out ?_))
  exact bodyPost_ret (results_labv2 Try.results25 _ _ (w.heap.size) _ _ (.int .i64 (e : Int)) rfl rfl (HA.out.setRow _)) rfl ⟨rfl, hr1.row _ _ (by omega) (by omega), ((Keep.of B0.out g g).trans hk1).setNew (Nat.le_refl _) _⟩


/-! the four calls -/
theorem mN_any {w : World} {g h c : Nat} {s : ByteArray} {p : Nat} (k : Rd w g h c s p) (hs : s.size ≤ 1000000) :
    Does 19 w g h c s p (.int .u64 ((rNum (rest s p)).1 : Int)) (rNum (rest s p)).2.1 (rNum (rest s p)).2.2 := by
  have hR := number_any k hs
  rcases rNum_code (rest s p) with h | ⟨h, h1, h2⟩ | ⟨h, h1, h2⟩
  · rw [h] at hR ⊢
    exact mN_of _ _ _ (wholeN_ok k _ _ hR)
  · rw [h, h1, h2] at hR ⊢
    exact mN_of _ _ _ (wholeN_no k _ _ 3 (by omega) hR)
  · rw [h, h1, h2] at hR ⊢
    exact mN_of _ _ _ (wholeN_no k _ _ 4 (by omega) hR)
theorem mT_any {w : World} {g h c : Nat} {s : ByteArray} {p : Nat} (k : Rd w g h c s p) (hs : s.size ≤ 1000000) :
    Does 21 w g h c s p (.string (txt (rTxt (rest s p)).1)) (rTxt (rest s p)).2.1 (rTxt (rest s p)).2.2 := by
  obtain ⟨v, hR, hv⟩ := text_any k hs
  rcases rTxt_code (rest s p) with h | ⟨h, h1, h2⟩ | ⟨h, h1, h2⟩
  · rw [h] at hR ⊢
    obtain rfl := hv h
    exact mT_of _ _ _ (wholeT_ok k _ _ hR)
  · rw [h, h2] at hR
    rw [h, h1, h2]
    exact mT_of _ _ _ (wholeT_no k _ _ 3 (by omega) hR)
  · rw [h, h2] at hR
    rw [h, h1, h2]
    exact mT_of _ _ _ (wholeT_no k _ _ 4 (by omega) hR)
theorem mP_any {w : World} {g h c : Nat} {s : ByteArray} {p : Nat} (k : Rd w g h c s p) (hs : s.size ≤ 1000000) :
    Does 23 w g h c s p (idv (rPl (rest s p)).1) (rPl (rest s p)).2.1 (rPl (rest s p)).2.2 := by
  have hR := fun W (k : Rd W g h c s p) => place_any k hs
  by_cases hf : (rest s p).length < 20
  · rw [show rPl (rest s p) = (0, 0, 4) by unfold rPl; rw [if_pos hf]] at hR ⊢
    exact mP_of k (dig 20 0) (dig_length 20 0) 0 4 (fun W k => wholeP_no k (dig 20 0) (dig_length 20 0) 0 4 (by omega) hR)
  · rw [show rPl (rest s p) = (valN ((rest s p).take 20), 20, 0) by unfold rPl; rw [if_neg hf]] at hR ⊢
    exact mP_of k (dig 20 _) (dig_length 20 _) 20 0 (fun W k => wholeP_ok k (dig 20 _) (dig_length 20 _) 20 hR)
theorem mL_any {w : World} {g h c : Nat} {s : ByteArray} {p : Nat} (k : Rd w g h c s p) (hs : s.size ≤ 1000000) :
    Does 25 w g h c s p (.agg (labc ((rLab (rest s p)).1 : Nat) (rLab (rest s p)).2.1)) (rLab (rest s p)).2.2.1 (rLab (rest s p)).2.2.2 := by
  have hR := fun W (k : Rd W g h c s p) => label_any k hs
  rcases rLab_code (rest s p) with h' | ⟨h', h1, h2, h3⟩ | ⟨h', h1, h2, h3⟩
  · rw [h'] at hR ⊢
    exact mL_of k _ _ _ 0 (fun W k => wholeL_ok k _ _ _ hR)
  · rw [h', h1, h2, h3] at hR ⊢
    exact mL_of k _ _ 0 3 (fun W k => wholeL_no k _ _ 0 3 (by omega) hR)
  · rw [h', h1, h2, h3] at hR ⊢
    exact mL_of k _ _ 0 4 (fun W k => wholeL_no k _ _ 0 4 (by omega) hR)
end Go.Proofs.Ytgfcdkihahfnkaa
