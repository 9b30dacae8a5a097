/- The program's reader: a value whole, or not at all; Number, Text, Place, Label. -/
import Derived.Test.YtplcdjmidelboaaWirIn3
namespace Go.Proofs.Ytplcdjmidelboaa
set_option maxRecDepth 100000
open Go.RowKit Go.Sort

/-- what a call of the reader's tells, and where it stands then -/
def Does (f : FuncId) (w : World) (g h c : Nat) (s : ByteArray) (p : Nat) (v : Value) (n e : Nat) : Prop :=
  Calls Try.prog f #[.pointer (some ⟨g, 0, none⟩)] w fun r w' => r = .returned (.tuple #[v, .int .i64 (e : Int)]) ∧ Rd w' g h c s (p + n) ∧ Keep w w' g g

theorem wholeN_nil (w : World) : Calls Try.prog 72 #[.pointer none, .func (.func 73) #[.pointer none] #[]] w fun r w' => r = .returned (.tuple #[.int .u64 0, .int .i64 6]) ∧ Below w.heap.size w w' := by
  go_enter Try.func72, Try.ntmps72
  go_wp2
  go_ret2
  exact ⟨rfl, Below.refl _ _⟩
theorem wholeN_ok {w : World} {g h c : Nat} {s : ByteArray} {p : Nat} (k : Rd w g h c s p) (v : Value) (n : Nat) (hR : Reads 73 w g h c s p v n 0) :
    Calls Try.prog 72 #[.pointer (some ⟨g, 0, none⟩), .func (.func 73) #[.pointer (some ⟨g, 0, none⟩)] #[]] w fun r w' => r = .returned (.tuple #[v, .int .i64 0]) ∧ Rd w' g h c s (p + n) ∧ Keep w w' g g := by
  have c1 := k.cell1
  unfold Reads at hR
  have HR := Lib.hid hR
  clear k hR
  go_enter Try.func72, Try.ntmps72
  go_upto_region 6 with (go_at_call 73; (with_reducible refine HR.out.mono ?_); rintro e1 w1 ⟨rfl, ⟨q, hr1, hq⟩, hk1⟩)
  obtain rfl := hq (by first | trivial | rfl)
  clear c1
  go_wp2
  go_ret2
  exact ⟨rfl, hr1, hk1⟩
theorem wholeN_no {w : World} {g h c : Nat} {s : ByteArray} {p : Nat} (k : Rd w g h c s p) (v : Value) (n e : Nat) (he : e ≠ 0) (hR : Reads 73 w g h c s p v n e) :
    Calls Try.prog 72 #[.pointer (some ⟨g, 0, none⟩), .func (.func 73) #[.pointer (some ⟨g, 0, none⟩)] #[]] w fun r w' => r = .returned (.tuple #[.int .u64 0, .int .i64 (e : Int)]) ∧ Rd w' g h c s p ∧ Keep w w' g g := by
  have c1 := k.cell1
  have hle := k.le
  have hd : ((e : Int) != 0) = true := by rw [bne_iff_ne]; omega
  unfold Reads at hR
  have HR := Lib.hid hR
  clear k hR
  go_enter Try.func72, Try.ntmps72
  go_upto_region 6 with (go_at_call 73; (with_reducible refine HR.out.mono ?_); rintro e1 w1 ⟨rfl, ⟨q, hr1, hq⟩, hk1⟩)
  clear c1 hq
  have c1 := hr1.cell1
  have f1 := hr1.free1
  have HR1 := Lib.hid hr1
  have HK1 := Lib.hid hk1
  clear hr1 hk1
  go_wp2
  go_ret2
  exact ⟨rfl, HR1.out.at p hle, HK1.out.setCell 1 _⟩
theorem mN_nil (w : World) : Calls Try.prog 60 #[.pointer none] w fun r w' => r = .returned (.tuple #[.int .u64 0, .int .i64 6]) ∧ Below w.heap.size w w' := by
  have hmf : ∀ (fn : Fn) (first cap : Array Value) (w : World), (Instr.makeFunc fn first cap).run Try.prog w = .ok (.func fn first cap) w := fun _ _ _ _ => rfl
  have HW := Lib.hid (wholeN_nil w)
  go_enter Try.func60, Try.ntmps60
  go_wp2_with (go_at_call 72; (with_reducible refine HW.out.mono ?_); rintro e1 w1 ⟨rfl, hb1⟩)
  go_ret2
  exact ⟨rfl, hb1⟩
theorem mN_of {w : World} {g h c : Nat} {s : ByteArray} {p : Nat} (v : Value) (n e : Nat) (HW : Hid (Calls Try.prog 72 #[.pointer (some ⟨g, 0, none⟩), .func (.func 73) #[.pointer (some ⟨g, 0, none⟩)] #[]] w fun r w' => r = .returned (.tuple #[v, .int .i64 (e : Int)]) ∧ Rd w' g h c s (p + n) ∧ Keep w w' g g)) : Does 60 w g h c s p v n e := by
  have hmf : ∀ (fn : Fn) (first cap : Array Value) (w : World), (Instr.makeFunc fn first cap).run Try.prog w = .ok (.func fn first cap) w := fun _ _ _ _ => rfl
  unfold Does
  go_enter Try.func60, Try.ntmps60
  go_wp2_with (go_at_call 72; (with_reducible refine HW.out.mono ?_); rintro e1 w1 ⟨rfl, hr1, hk1⟩)
  go_ret2
  exact ⟨rfl, hr1, hk1⟩

theorem wholeP_nil (w : World) : Calls Try.prog 74 #[.pointer none, .func (.func 75) #[.pointer none] #[]] w fun r w' => r = .returned (.tuple #[.agg (row (List.replicate 20 0)), .int .i64 6]) ∧ Below w.heap.size w w' := by
  go_enter Try.func74, Try.ntmps74
  go_upto_region 2 with (fail)
  rw [zeros]
  have K := Lib.hid (MemO.made w (row (List.replicate 20 0)) (row (List.replicate 20 0)) 23)
  generalize (w.alloc _).alloc _ = W at *
  go_wp2_with (first | (refine wpList_load_row rfl 23 _ rfl (w.heap.size + 1) rfl 23 _ (0, 0) _ K.out.o Try.underlying23 rfl (info_id _ rfl) ?_) | (refine wpList_store_row rfl 23 _ _ rfl (w.heap.size) _ rfl rfl 23 _ K.out.z (info_id _ rfl) (size_id _ rfl _ rfl) (row8_one _) ?_))
  exact bodyPost_ret (results_idv2 Try.results74 _ _ (w.heap.size) _ (.int .i64 6) rfl rfl (K.out.z.setRow _) rfl) rfl ⟨rfl, bel_setRow K.out.below (Nat.le_refl _) _⟩
theorem wholeP_ok {w : World} {g h c : Nat} {s : ByteArray} {p : Nat} (k : Rd w g h c s p) (l : List Nat) (hl : l.length = 20) (n : Nat) (hR : ∀ W, Rd W g h c s p → Reads 75 W g h c s p (.agg (row l)) n 0) :
    Calls Try.prog 74 #[.pointer (some ⟨g, 0, none⟩), .func (.func 75) #[.pointer (some ⟨g, 0, none⟩)] #[]] w fun r w' => r = .returned (.tuple #[.agg (row l), .int .i64 0]) ∧ Rd w' g h c s (p + n) ∧ Keep w w' g g := by
  have hg := k.lt
  have hne := k.ne
  go_enter Try.func74, Try.ntmps74
  go_upto_region 2 with (fail)
  rw [zeros]
  have K := Lib.hid (MemO.made w (row (List.replicate 20 0)) (row (List.replicate 20 0)) 23)
  have k2 := k.below K.out.below
  have hR2 := hR _ k2
  unfold Reads at hR2
  have HR := Lib.hid hR2
  have c1 := k2.cell1
  have hzs := K.out.o.lt
  clear k k2 hR hR2
  generalize (w.alloc _).alloc _ = W at *
  go_upto_region 6 with (first | (go_at_call 75; (with_reducible refine HR.out.mono ?_); rintro e1 w1 ⟨rfl, ⟨q, hr1, hq⟩, hk1⟩) | (refine wpList_store_newrow rfl 23 _ _ rfl (row l) rfl rfl (info_id _ hl) (row8_one _) (by rw [row_size, hl]; rfl) ?_))
  obtain rfl := hq (by first | trivial | rfl)
  clear c1
  have B1 := (Below.refl w1.heap.size w1).alloc (Nat.le_refl _) (.cells (row l) 23)
  have HR1 := Lib.hid (hr1.below B1)
  have HZ := Lib.hid ((K.out.z.keep hk1 (by omega) (by omega)).alloc (.cells (row l) 23))
  have HO := Lib.hid (Blk.new w1 (row l) 23)
  have HK : Hid (Keep w _ g g) := ((Keep.of K.out.below g g).trans hk1).trans (Keep.of B1 g g)
  clear hr1 hk1 B1 K HR hq
  generalize w1.heap.size = b1 at *
  generalize w1.alloc _ = W1 at *
  go_wp2_with (first | (refine wpList_load_row rfl 23 _ rfl (b1) rfl 23 _ (0, 0) _ HO.out Try.underlying23 rfl (info_id _ hl) ?_) | (refine wpList_store_row rfl 23 _ _ rfl (w.heap.size) _ rfl rfl 23 _ HZ.out (info_id _ hl) (size_id _ rfl _ hl) (row8_one _) ?_))
  exact bodyPost_ret (results_idv2 Try.results74 _ _ (w.heap.size) _ (.int .i64 0) rfl rfl (HZ.out.setRow _) hl) rfl ⟨rfl, HR1.out.row _ _ (by omega) (by omega), HK.out.setNew (Nat.le_refl _) _⟩
theorem wholeP_no {w : World} {g h c : Nat} {s : ByteArray} {p : Nat} (k : Rd w g h c s p) (l : List Nat) (hl : l.length = 20) (n e : Nat) (he : e ≠ 0) (hR : ∀ W, Rd W g h c s p → Reads 75 W g h c s p (.agg (row l)) n e) :
    Calls Try.prog 74 #[.pointer (some ⟨g, 0, none⟩), .func (.func 75) #[.pointer (some ⟨g, 0, none⟩)] #[]] w fun r w' => r = .returned (.tuple #[.agg (row (List.replicate 20 0)), .int .i64 (e : Int)]) ∧ Rd w' g h c s p ∧ Keep w w' g g := by
  have hg := k.lt
  have hne := k.ne
  have hle := k.le
  have hd : ((e : Int) != 0) = true := by rw [bne_iff_ne]; omega
  go_enter Try.func74, Try.ntmps74
  go_upto_region 2 with (fail)
  rw [zeros]
  have K := Lib.hid (MemO.made w (row (List.replicate 20 0)) (row (List.replicate 20 0)) 23)
  have k2 := k.below K.out.below
  have hR2 := hR _ k2
  unfold Reads at hR2
  have HR := Lib.hid hR2
  have c1 := k2.cell1
  have hzs := K.out.o.lt
  clear k k2 hR hR2
  generalize (w.alloc _).alloc _ = W at *
  go_upto_region 6 with (first | (go_at_call 75; (with_reducible refine HR.out.mono ?_); rintro e1 w1 ⟨rfl, ⟨q, hr1, hq⟩, hk1⟩) | (refine wpList_store_newrow rfl 23 _ _ rfl (row l) rfl rfl (info_id _ hl) (row8_one _) (by rw [row_size, hl]; rfl) ?_))
  clear c1 hq
  have B1 := (Below.refl w1.heap.size w1).alloc (Nat.le_refl _) (.cells (row l) 23)
  have HR1 := Lib.hid (hr1.below B1)
  have HZ := Lib.hid ((K.out.z.keep hk1 (by omega) (by omega)).alloc (.cells (row l) 23))
  have HO := Lib.hid ((K.out.o.keep hk1 (by omega) (by omega)).alloc (.cells (row l) 23))
  have HK : Hid (Keep w _ g g) := ((Keep.of K.out.below g g).trans hk1).trans (Keep.of B1 g g)
  clear hr1 hk1 B1 K HR
  generalize w1.heap.size = b1 at *
  generalize w1.alloc _ = W1 at *
  have c1 := HR1.out.cell1
  have f1 := HR1.out.free1
  have HZ2 : Hid (Blk (W1.setCell ⟨g, 1, none⟩ (.int .i64 (p : Int))) w.heap.size (row (List.replicate 20 0)) 23) := HZ.out.other _ _ _ (by omega)
  have HO2 : Hid (Blk (W1.setCell ⟨g, 1, none⟩ (.int .i64 (p : Int))) (w.heap.size + 1) (row (List.replicate 20 0)) 23) := HO.out.other _ _ _ (by omega)
  go_wp2_with (first | (refine wpList_load_row rfl 23 _ rfl (w.heap.size + 1) rfl 23 _ (0, 0) _ HO2.out Try.underlying23 rfl (info_id _ rfl) ?_) | (refine wpList_store_row rfl 23 _ _ rfl (w.heap.size) _ rfl rfl 23 _ HZ2.out (info_id _ rfl) (size_id _ rfl _ rfl) (row8_one _) ?_))
  exact bodyPost_ret (results_idv2 Try.results74 _ _ (w.heap.size) _ (.int .i64 (e : Int)) rfl rfl (HZ2.out.setRow _) rfl) rfl ⟨rfl, (HR1.out.at p hle).row _ _ (by omega) (by omega), (HK.out.setCell 1 _).setNew (Nat.le_refl _) _⟩
theorem mP_nil (w : World) : Calls Try.prog 63 #[.pointer none] w fun r w' => r = .returned (.tuple #[.agg (row (List.replicate 20 0)), .int .i64 6]) ∧ Below w.heap.size w w' := by
  have hmf : ∀ (fn : Fn) (first cap : Array Value) (w : World), (Instr.makeFunc fn first cap).run Try.prog w = .ok (.func fn first cap) w := fun _ _ _ _ => rfl
  have HW := Lib.hid (fun w => wholeP_nil w)
  go_enter Try.func63, Try.ntmps63
  go_upto_region 1 with (fail)
  rw [zeros]
  have A0 := Lib.hid (Blk.new w (row (List.replicate 20 0)) 23)
  have B0 := Lib.hid ((Below.refl w.heap.size w).alloc (Nat.le_refl _) (.cells (row (List.replicate 20 0)) 23))
  generalize w.alloc _ = W at *
  go_wp2_with (first | (go_at_call 74; (with_reducible refine (HW.out _).mono ?_); rintro e1 w1 ⟨rfl, hb1⟩; have HA := Lib.hid (A0.out.below hb1 A0.out.lt)) | (refine wpList_store_row rfl 23 _ _ rfl (w.heap.size) _ rfl rfl 23 _ HA.out (info_id _ rfl) (size_id _ rfl _ rfl) (row8_one _) ?_))
  exact bodyPost_ret (results_idv2 Try.results63 _ _ (w.heap.size) _ (.int .i64 6) rfl rfl (HA.out.setRow _) rfl) rfl ⟨rfl, bel_setRow (B0.out.trans (hb1.mono B0.out.size)) (Nat.le_refl _) _⟩
theorem mP_of {w : World} {g h c : Nat} {s : ByteArray} {p : Nat} (k : Rd w g h c s p) (l : List Nat) (hl : l.length = 20) (n e : Nat) (HW : Hid (∀ W, Rd W g h c s p → Calls Try.prog 74 #[.pointer (some ⟨g, 0, none⟩), .func (.func 75) #[.pointer (some ⟨g, 0, none⟩)] #[]] W fun r w' => r = .returned (.tuple #[.agg (row l), .int .i64 (e : Int)]) ∧ Rd w' g h c s (p + n) ∧ Keep W w' g g)) : Does 63 w g h c s p (.agg (row l)) n e := by
  have hmf : ∀ (fn : Fn) (first cap : Array Value) (w : World), (Instr.makeFunc fn first cap).run Try.prog w = .ok (.func fn first cap) w := fun _ _ _ _ => rfl
  have hg := k.lt
  have hne := k.ne
  unfold Does
  go_enter Try.func63, Try.ntmps63
  go_upto_region 1 with (fail)
  rw [zeros]
  have A0 := Lib.hid (Blk.new w (row (List.replicate 20 0)) 23)
  have B0 := Lib.hid ((Below.refl w.heap.size w).alloc (Nat.le_refl _) (.cells (row (List.replicate 20 0)) 23))
  have HW2 := Lib.hid (HW.out _ (k.below B0.out))
  clear k HW
  generalize w.alloc _ = W at *
  go_wp2_with (first | (go_at_call 74; (with_reducible refine HW2.out.mono ?_); rintro e1 w1 ⟨rfl, hr1, hk1⟩; have HA := Lib.hid (A0.out.keep hk1 (by omega) (by omega))) | (refine wpList_store_row rfl 23 _ _ rfl (w.heap.size) _ rfl rfl 23 _ HA.out (info_id _ hl) (size_id _ rfl _ hl) (row8_one _) ?_))
  exact bodyPost_ret (results_idv2 Try.results63 _ _ (w.heap.size) _ (.int .i64 (e : Int)) rfl rfl (HA.out.setRow _) hl) rfl ⟨rfl, hr1.row _ _ (by omega) (by omega), ((Keep.of B0.out g g).trans hk1).setNew (Nat.le_refl _) _⟩

/-! the four calls -/
theorem mN_any {w : World} {g h c : Nat} {s : ByteArray} {p : Nat} (k : Rd w g h c s p) (hs : s.size ≤ 1000000) :
    Does 60 w g h c s p (.int .u64 ((rNum (rest s p)).1 : Int)) (rNum (rest s p)).2.1 (rNum (rest s p)).2.2 := by
  have hR := number_any k hs
  rcases rNum_code (rest s p) with h | ⟨h, h1, h2⟩ | ⟨h, h1, h2⟩
  · rw [h] at hR ⊢
    exact mN_of _ _ _ (wholeN_ok k _ _ hR)
  · rw [h, h1, h2] at hR ⊢
    exact mN_of _ _ _ (wholeN_no k _ _ 3 (by omega) hR)
  · rw [h, h1, h2] at hR ⊢
    exact mN_of _ _ _ (wholeN_no k _ _ 4 (by omega) hR)
theorem mP_any {w : World} {g h c : Nat} {s : ByteArray} {p : Nat} (k : Rd w g h c s p) (hs : s.size ≤ 1000000) :
    Does 63 w g h c s p (idv (rPl (rest s p)).1) (rPl (rest s p)).2.1 (rPl (rest s p)).2.2 := by
  have hR := fun W (k : Rd W g h c s p) => place_any k hs
  by_cases hf : (rest s p).length < 20
  · rw [show rPl (rest s p) = (0, 0, 4) by unfold rPl; rw [if_pos hf]] at hR ⊢
    exact mP_of k (dig 20 0) (dig_length 20 0) 0 4 (fun W k => wholeP_no k (dig 20 0) (dig_length 20 0) 0 4 (by omega) hR)
  · rw [show rPl (rest s p) = (valN ((rest s p).take 20), 20, 0) by unfold rPl; rw [if_neg hf]] at hR ⊢
    exact mP_of k (dig 20 _) (dig_length 20 _) 20 0 (fun W k => wholeP_ok k (dig 20 _) (dig_length 20 _) 20 hR)
end Go.Proofs.Ytplcdjmidelboaa
