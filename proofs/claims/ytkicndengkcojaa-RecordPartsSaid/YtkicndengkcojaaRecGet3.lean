/- What bytes are read as: get, Get. -/
import Derived.Test.YtkicndengkcojaaRecGet2
namespace Go.Proofs.Ytkicndengkcojaa
set_option maxRecDepth 100000
open Go Go.RowKit Go.Sort

structure GetPost (w : World) (g h c : Nat) (s : ByteArray) (X : Except Nat (Rc × Nat)) (e : Ending) (w' : World) : Prop where
  ok : ∀ r q, X = .ok (r, q) → ∃ u, e = .returned (.agg (recC r u)) ∧ Told w' u r.items ∧ Rd w' g h c s q
  no : ∀ n, X = .error n → e = Pan n
  keep : Keep w w' g g
theorem get_pan {w w' : World} {g h c : Nat} {s : ByteArray} {X : Except Nat (Rc × Nat)} {n : Nat} (hX : X = .error n) (hk : Keep w w' g g) : GetPost w g h c s X (Pan n) w' :=
  ⟨fun a q hx => (by rw [hX] at hx; cases hx), fun m hm => (by rw [hX] at hm; cases hm; rfl), hk⟩
theorem get_got {w w' : World} {g h c : Nat} {s : ByteArray} {X : Except Nat (Rc × Nat)} {r : Rc} {q : Nat} {u : Value} (hX : X = .ok (r, q)) (hT : Told w' u r.items) (hr : Rd w' g h c s q) (hk : Keep w w' g g) : GetPost w g h c s X (.returned (.agg (recC r u))) w' :=
  ⟨fun r1 q1 hx => (by
    rw [hX] at hx
    simp only [Except.ok.injEq, Prod.mk.injEq] at hx
    obtain ⟨rfl, rfl⟩ := hx
    exact ⟨u, rfl, hT, hr⟩), fun m hm => (by rw [hX] at hm; cases hm), hk⟩
theorem none_open : Gives Try.prog 49 #[] (.agg #[.int .i64 (-1), .int .u64 0]) := none_any
theorem blk_midL {w : World} {g : Nat} {r : Rc} {u : Value} {t : TypeId} (h : Blk w g (recC r u) t) (n : Int) (b : Nat) : Blk (w.setCells g 2 (labc n b).toList) g (recC ⟨r.kind, r.items, n, b, r.mark⟩ u) t := (h.put 2 (.int .i64 n)).put 3 (.int .u64 (b : Int))
theorem bel_midL {B g : Nat} {w0 w : World} (h : Below B w0 w) (hg : B ≤ g) (n : Int) (b : Nat) : Below B w0 (w.setCells g 2 (labc n b).toList) := (h.setCell (p := ⟨g, 2, none⟩) hg _).setCell (p := ⟨g, 3, none⟩) hg _
theorem told_midL {w : World} {g : Nat} {r : Rc} {u v : Value} {t : TypeId} {K : List It} (hT : Told w v K) (h : Blk w g (recC r u) t) (n : Int) (b : Nat) : Told (w.setCells g 2 (labc n b).toList) v K :=
  have h2 : Blk (w.setCell ⟨g, 2, none⟩ (.int .i64 n)) g (recC ⟨r.kind, r.items, n, r.nb, r.mark⟩ u) t := h.put 2 (.int .i64 n)
  told_setCell (told_setCell hT h (noIt_rec _ _) 2 (.int .i64 n)) h2 (noIt_rec _ _) 3 (.int .u64 (b : Int))
theorem noIt_rdc (h n c p : Nat) : NoIt (rdc h n c p) := by
  intro o k s h1 h2
  match o, h1, h2 with
  | 0, h1, h2 => simp [rdc] at h1
  | 1, h1, h2 => simp [rdc] at h1
  | o + 2, h1, h2 => simp [rdc] at h1
/-- what a reader's call changes is no row of items -/
theorem told_keepG {w w' : World} {g h c : Nat} {s : ByteArray} {p : Nat} {u : Value} {K : List It} (hT : Told w u K) (k : Rd w g h c s p) (hk : Keep w w' g g) : Told w' u K :=
  told_but hT k.blk (noIt_rdc _ _ _ _) fun j hj hne => hk.block j hj hne hne
theorem there_rec {w : World} {g : Nat} {r : Rc} {u : Value} {t : TypeId} (h : Blk w g (recC r u) t) : w.there g 2 (labc 0 0).size := fun j hj => by
  refine ⟨?_, h.free _⟩
  rw [h.cell]
  match j, hj with
  | 0, _ => rfl
  | 1, _ => rfl
theorem p_storeMid {ops : Array Oper} {rest : List Oper} {o : Oper} {a : Act} {w : World} {Q : Exit → Act → World → Prop} (hgd : o.guard = none) (x y : Operand) (ho : o.op = .store 25 x y)
    (g : Nat) (hx : a.eval x = .pointer (some ⟨g, 2, none⟩)) (n : Int) (b : Nat) (hy : a.eval y = .agg (labc n b)) (r : Rc) (u : Value) (hg : Blk w g (recC r u) 27)
    (h : wpList Try.prog ops Q rest (a.put o.dst undef) (w.setCells g 2 (labc n b).toList)) : wpList Try.prog ops Q (o :: rest) a w :=
  wpList_store_mid hgd 25 x y ho g 2 (labc n b) hx hy (there_rec hg) infoLab (lab_all n b) h

set_option maxHeartbeats 4000000 in
theorem getc_err {w : World} {g h c : Nat} {s : ByteArray} {p : Nat} (k0 : Rd w g h c s p) (hs : s.size ≤ 1000000) {e : Nat} (hn : rdN (bytesN s) p = .error e) :
    Calls Try.prog 46 #[.pointer (some ⟨g, 0, none⟩)] w (GetPost w g h c s (rdR (bytesN s) p)) := by
  have hg0 := k0.lt
  have hgh := k0.ne
  have HN := none_open
  have Z0 := Blk.new w (recC zeroR (.slice none 0 0)) 27
  have B0 := (Below.refl w.heap.size w).alloc (Nat.le_refl _) (.cells (recC zeroR (.slice none 0 0)) 27)
  have HR0 := Lib.hid (k0.below B0)
  clear k0
  have HX : Hid (rdR (bytesN s) p = .error e) := by unfold Hid rdR; rw [hn]
  generalize rdR (bytesN s) p = X at *
  go_enter Try.func46, Try.ntmps46
  go_upto_region 1 with (fail)
  rw [zero_rec]
  have hsz : w.heap.size < (w.alloc (.cells (recC zeroR (.slice none 0 0)) 27)).heap.size := by simp
  generalize w.alloc _ = W at *
  go_upto_region 2 with (first
    | (go_at_call 49; (with_reducible refine (HN.calls _).mono ?_); rintro e1 w1 ⟨rfl, hb1⟩)
    | (refine p_storeR rfl _ _ rfl w1.heap.size rfl ⟨0, [], -1, 0, 0⟩ (.slice none 0 0) rfl rfl zeroR (.slice none 0 0) (Blk.new _ _ _) ?_))
  have b2 : Below w1.heap.size w1 ((w1.alloc (.cells (recC zeroR (.slice none 0 0)) 27)).setRow w1.heap.size (recC ⟨0, [], -1, 0, 0⟩ (.slice none 0 0))) := bel_setRow ((Below.refl _ _).alloc (Nat.le_refl _) _) (Nat.le_refl _) _
  have H2 : Blk ((w1.alloc (.cells (recC zeroR (.slice none 0 0)) 27)).setRow w1.heap.size (recC ⟨0, [], -1, 0, 0⟩ (.slice none 0 0))) w1.heap.size (recC ⟨0, [], -1, 0, 0⟩ (.slice none 0 0)) 27 := (Blk.new _ _ _).setRow _
  have hgt : w.heap.size < w1.heap.size := by have := hb1.size; omega
  have hb2 := rstep hb1 b2
  have Z2 := Z0.below hb2 Z0.lt
  have HR2 := Lib.hid (HR0.out.below hb2)
  have HK2 := Lib.hid (Keep.of (rstep B0 hb2) g g)
  try rw [zero_rec]
  clear Z0 B0 HR0 hb1 b2 hb2 hsz HN
  generalize (w1.alloc _).setRow _ _ = W2 at *
  generalize w1.heap.size = g3 at *
  obtain ⟨he, v, hC⟩ := num_no HR2.out hs hn
  have HC := Lib.hid hC
  have HM := Lib.hid (fun w => mustN_no v e he w)
  clear hn hC he HR2 Z2 H2
  go_wp2_with (first
    | (go_at_call 85; (with_reducible refine (HC.out).mono ?_); rintro e1 w3 ⟨rfl, hkp⟩)
    | (go_at_call 84; (with_reducible refine (HM.out _).mono ?_); rintro e1 w9 ⟨he, rfl⟩; rw [pan_eq] at he; subst he))
  exact ⟨rfl, get_pan HX.out (HK2.out.trans hkp)⟩

set_option maxHeartbeats 4000000 in
theorem getc_other {w : World} {g h c : Nat} {s : ByteArray} {p : Nat} (k0 : Rd w g h c s p) (hs : s.size ≤ 1000000) {k q : Nat} (hk : ¬ (1 ≤ k ∧ k ≤ 5)) (hn : rdN (bytesN s) p = .ok (k, q)) :
    Calls Try.prog 46 #[.pointer (some ⟨g, 0, none⟩)] w (GetPost w g h c s (rdR (bytesN s) p)) := by
  have HX : Hid (rdR (bytesN s) p = .error 3) := by
    unfold Hid rdR
    rw [hn]
    simp only
    rw [if_neg (by omega), if_neg (by omega)]
  have t1 : ((k : Int) == 1) = false := by simp; omega
  have t3 : ((k : Int) == 3) = false := by simp; omega
  have t5 : ((k : Int) == 5) = false := by simp; omega
  have t2 : ((k : Int) == 2) = false := by simp; omega
  have t4 : ((k : Int) == 4) = false := by simp; omega
  generalize rdR (bytesN s) p = X at *
  have hg0 := k0.lt
  have hgh := k0.ne
  have HN := none_open
  have Z0 := Blk.new w (recC zeroR (.slice none 0 0)) 27
  have B0 := (Below.refl w.heap.size w).alloc (Nat.le_refl _) (.cells (recC zeroR (.slice none 0 0)) 27)
  have HR0 := Lib.hid (k0.below B0)
  clear k0
  go_enter Try.func46, Try.ntmps46
  go_upto_region 1 with (fail)
  rw [zero_rec]
  have hsz : w.heap.size < (w.alloc (.cells (recC zeroR (.slice none 0 0)) 27)).heap.size := by simp
  generalize w.alloc _ = W at *
  go_upto_region 2 with (first
    | (go_at_call 49; (with_reducible refine (HN.calls _).mono ?_); rintro e1 w1 ⟨rfl, hb1⟩)
    | (refine p_storeR rfl _ _ rfl w1.heap.size rfl ⟨0, [], -1, 0, 0⟩ (.slice none 0 0) rfl rfl zeroR (.slice none 0 0) (Blk.new _ _ _) ?_))
  have b2 : Below w1.heap.size w1 ((w1.alloc (.cells (recC zeroR (.slice none 0 0)) 27)).setRow w1.heap.size (recC ⟨0, [], -1, 0, 0⟩ (.slice none 0 0))) := bel_setRow ((Below.refl _ _).alloc (Nat.le_refl _) _) (Nat.le_refl _) _
  have H2 : Blk ((w1.alloc (.cells (recC zeroR (.slice none 0 0)) 27)).setRow w1.heap.size (recC ⟨0, [], -1, 0, 0⟩ (.slice none 0 0))) w1.heap.size (recC ⟨0, [], -1, 0, 0⟩ (.slice none 0 0)) 27 := (Blk.new _ _ _).setRow _
  have hgt : w.heap.size < w1.heap.size := by have := hb1.size; omega
  have hb2 := rstep hb1 b2
  have Z2 := Z0.below hb2 Z0.lt
  have HR2 := Lib.hid (HR0.out.below hb2)
  have HK2 := Lib.hid (Keep.of (rstep B0 hb2) g g)
  try rw [zero_rec]
  clear Z0 B0 HR0 hb1 b2 hb2 hsz HN
  generalize (w1.alloc _).setRow _ _ = W2 at *
  generalize w1.heap.size = g3 at *
  have HC := Lib.hid (num_ok HR2.out hs hn)
  have HM := Lib.hid (mustN_ok k)
  clear hn hk
  go_upto_region 3 with (first
    | (go_at_call 85; (with_reducible refine (HC.out).mono ?_); rintro e1 w3 ⟨rfl, hr3, hk3⟩)
    | (go_at_call 84; (with_reducible refine (HM.out _).mono ?_); rintro e1 w9 ⟨rfl, rfl⟩))
  have H3 := H2.keep hk3 (by omega) (by omega)
  have Z3 := Z2.keep hk3 (by omega) (by omega)
  have HR3 := Lib.hid hr3
  have HK3 := Lib.hid (HK2.out.trans hk3)
  clear hk3 hr3 H2 Z2 HR2 HK2 HC HM
  go_wp2
  exact ⟨rfl, get_pan HX.out HK3.out⟩

set_option maxHeartbeats 4000000 in
theorem getc_2 {w : World} {g h c : Nat} {s : ByteArray} {p : Nat} (k0 : Rd w g h c s p) (hs : s.size ≤ 1000000) {k q : Nat} (hk : k = 2) (hn : rdN (bytesN s) p = .ok (k, q)) :
    Calls Try.prog 46 #[.pointer (some ⟨g, 0, none⟩)] w (GetPost w g h c s (rdR (bytesN s) p)) := by
  have HX : Hid (rdR (bytesN s) p = .ok (⟨(k : Int), [], -1, 0, 0⟩, q)) := by
    unfold Hid rdR
    rw [hn]
    simp only
    rw [if_pos (by omega)]
  have t1 : ((k : Int) == 1) = false := by simp; omega
  have t3 : ((k : Int) == 3) = false := by simp; omega
  have t5 : ((k : Int) == 5) = false := by simp; omega
  have t2 : ((k : Int) == 2) = true := by simp; omega
  have hcv : IntKind.i64.wrap (k : Int) = (k : Int) := IntWalk.i64_in _ (by omega)
  generalize rdR (bytesN s) p = X at *
  have hg0 := k0.lt
  have hgh := k0.ne
  have HN := none_open
  have Z0 := Blk.new w (recC zeroR (.slice none 0 0)) 27
  have B0 := (Below.refl w.heap.size w).alloc (Nat.le_refl _) (.cells (recC zeroR (.slice none 0 0)) 27)
  have HR0 := Lib.hid (k0.below B0)
  clear k0
  go_enter Try.func46, Try.ntmps46
  go_upto_region 1 with (fail)
  rw [zero_rec]
  have hsz : w.heap.size < (w.alloc (.cells (recC zeroR (.slice none 0 0)) 27)).heap.size := by simp
  generalize w.alloc _ = W at *
  go_upto_region 2 with (first
    | (go_at_call 49; (with_reducible refine (HN.calls _).mono ?_); rintro e1 w1 ⟨rfl, hb1⟩)
    | (refine p_storeR rfl _ _ rfl w1.heap.size rfl ⟨0, [], -1, 0, 0⟩ (.slice none 0 0) rfl rfl zeroR (.slice none 0 0) (Blk.new _ _ _) ?_))
  have b2 : Below w1.heap.size w1 ((w1.alloc (.cells (recC zeroR (.slice none 0 0)) 27)).setRow w1.heap.size (recC ⟨0, [], -1, 0, 0⟩ (.slice none 0 0))) := bel_setRow ((Below.refl _ _).alloc (Nat.le_refl _) _) (Nat.le_refl _) _
  have H2 : Blk ((w1.alloc (.cells (recC zeroR (.slice none 0 0)) 27)).setRow w1.heap.size (recC ⟨0, [], -1, 0, 0⟩ (.slice none 0 0))) w1.heap.size (recC ⟨0, [], -1, 0, 0⟩ (.slice none 0 0)) 27 := (Blk.new _ _ _).setRow _
  have hgt : w.heap.size < w1.heap.size := by have := hb1.size; omega
  have hb2 := rstep hb1 b2
  have Z2 := Z0.below hb2 Z0.lt
  have HR2 := Lib.hid (HR0.out.below hb2)
  have HK2 := Lib.hid (Keep.of (rstep B0 hb2) g g)
  try rw [zero_rec]
  clear Z0 B0 HR0 hb1 b2 hb2 hsz HN
  generalize (w1.alloc _).setRow _ _ = W2 at *
  generalize w1.heap.size = g3 at *
  have HC := Lib.hid (num_ok HR2.out hs hn)
  have HM := Lib.hid (mustN_ok k)
  clear hn hk
  go_upto_region 3 with (first
    | (go_at_call 85; (with_reducible refine (HC.out).mono ?_); rintro e1 w3 ⟨rfl, hr3, hk3⟩)
    | (go_at_call 84; (with_reducible refine (HM.out _).mono ?_); rintro e1 w9 ⟨rfl, rfl⟩))
  have H3 := H2.keep hk3 (by omega) (by omega)
  have Z3 := Z2.keep hk3 (by omega) (by omega)
  have HR3 := Lib.hid hr3
  have HK3 := Lib.hid (HK2.out.trans hk3)
  clear hk3 hr3 H2 Z2 HR2 HK2 HC HM
  have K3 := HK3.out
  have R3 := HR3.out
  have T3 := told_nil w3
  clear HK3 HR3
  go_upto_region 13 with (fail)
  have HKF := Lib.hid (K3.thenB ((Below.refl w.heap.size w3).setCell (p := ⟨g3, 0, none⟩) (by show w.heap.size ≤ g3; omega) (.int .i64 (k : Int))))
  have HRF := Lib.hid (R3.belowB ((Below.refl w.heap.size w3).setCell (p := ⟨g3, 0, none⟩) (by show w.heap.size ≤ g3; omega) (.int .i64 (k : Int))) hg0)
  have HF : Blk (w3.setCell ⟨g3, 0, none⟩ (.int .i64 (k : Int))) g3 (recC ⟨(k : Int), [], -1, 0, 0⟩ (.slice none 0 0)) 27 := H3.put 0 _
  have ZF := Z3.other g3 0 (.int .i64 (k : Int)) (by omega)
  have TF := told_setCell T3 H3 (noIt_rec _ _) 0 (.int .i64 (k : Int))
  have c0 : w3.cell? ⟨g3, 0, none⟩ = some (.int .i64 0) := H3.cell 0
  have f0 : w3.frozen? ⟨g3, 0, none⟩ = false := H3.free 0
  go_upto_region 14 with (fail)
  clear c0 f0 K3 R3 H3 Z3 T3
  generalize w3.setCell _ _ = WF at *
  go_wp2_with (first
    | (refine p_loadR rfl _ rfl g3 rfl ⟨(k : Int), [], -1, 0, 0⟩ (.slice none 0 0) HF ?_)
    | (refine p_storeR rfl _ _ rfl w.heap.size rfl ⟨(k : Int), [], -1, 0, 0⟩ (.slice none 0 0) rfl rfl zeroR (.slice none 0 0) ZF ?_))
  exact bodyPost_ret (results_rec1 Try.results46 _ _ w.heap.size _ _ rfl (ZF.setRow _)) rfl (get_got HX.out (told_setRow TF ZF (noIt_rec _ _) _) (HRF.out.belowB (bel_setRow (Below.refl w.heap.size WF) (Nat.le_refl _) _) hg0) (HKF.out.thenB (bel_setRow (Below.refl w.heap.size WF) (Nat.le_refl _) _)))

set_option maxHeartbeats 4000000 in
theorem getc_4 {w : World} {g h c : Nat} {s : ByteArray} {p : Nat} (k0 : Rd w g h c s p) (hs : s.size ≤ 1000000) {k q : Nat} (hk : k = 4) (hn : rdN (bytesN s) p = .ok (k, q)) :
    Calls Try.prog 46 #[.pointer (some ⟨g, 0, none⟩)] w (GetPost w g h c s (rdR (bytesN s) p)) := by
  have HX : Hid (rdR (bytesN s) p = .ok (⟨(k : Int), [], -1, 0, 0⟩, q)) := by
    unfold Hid rdR
    rw [hn]
    simp only
    rw [if_pos (by omega)]
  have t1 : ((k : Int) == 1) = false := by simp; omega
  have t3 : ((k : Int) == 3) = false := by simp; omega
  have t5 : ((k : Int) == 5) = false := by simp; omega
  have t2 : ((k : Int) == 2) = false := by simp; omega
  have t4 : ((k : Int) == 4) = true := by simp; omega
  have hcv : IntKind.i64.wrap (k : Int) = (k : Int) := IntWalk.i64_in _ (by omega)
  generalize rdR (bytesN s) p = X at *
  have hg0 := k0.lt
  have hgh := k0.ne
  have HN := none_open
  have Z0 := Blk.new w (recC zeroR (.slice none 0 0)) 27
  have B0 := (Below.refl w.heap.size w).alloc (Nat.le_refl _) (.cells (recC zeroR (.slice none 0 0)) 27)
  have HR0 := Lib.hid (k0.below B0)
  clear k0
  go_enter Try.func46, Try.ntmps46
  go_upto_region 1 with (fail)
  rw [zero_rec]
  have hsz : w.heap.size < (w.alloc (.cells (recC zeroR (.slice none 0 0)) 27)).heap.size := by simp
  generalize w.alloc _ = W at *
  go_upto_region 2 with (first
    | (go_at_call 49; (with_reducible refine (HN.calls _).mono ?_); rintro e1 w1 ⟨rfl, hb1⟩)
    | (refine p_storeR rfl _ _ rfl w1.heap.size rfl ⟨0, [], -1, 0, 0⟩ (.slice none 0 0) rfl rfl zeroR (.slice none 0 0) (Blk.new _ _ _) ?_))
  have b2 : Below w1.heap.size w1 ((w1.alloc (.cells (recC zeroR (.slice none 0 0)) 27)).setRow w1.heap.size (recC ⟨0, [], -1, 0, 0⟩ (.slice none 0 0))) := bel_setRow ((Below.refl _ _).alloc (Nat.le_refl _) _) (Nat.le_refl _) _
  have H2 : Blk ((w1.alloc (.cells (recC zeroR (.slice none 0 0)) 27)).setRow w1.heap.size (recC ⟨0, [], -1, 0, 0⟩ (.slice none 0 0))) w1.heap.size (recC ⟨0, [], -1, 0, 0⟩ (.slice none 0 0)) 27 := (Blk.new _ _ _).setRow _
  have hgt : w.heap.size < w1.heap.size := by have := hb1.size; omega
  have hb2 := rstep hb1 b2
  have Z2 := Z0.below hb2 Z0.lt
  have HR2 := Lib.hid (HR0.out.below hb2)
  have HK2 := Lib.hid (Keep.of (rstep B0 hb2) g g)
  try rw [zero_rec]
  clear Z0 B0 HR0 hb1 b2 hb2 hsz HN
  generalize (w1.alloc _).setRow _ _ = W2 at *
  generalize w1.heap.size = g3 at *
  have HC := Lib.hid (num_ok HR2.out hs hn)
  have HM := Lib.hid (mustN_ok k)
  clear hn hk
  go_upto_region 3 with (first
    | (go_at_call 85; (with_reducible refine (HC.out).mono ?_); rintro e1 w3 ⟨rfl, hr3, hk3⟩)
    | (go_at_call 84; (with_reducible refine (HM.out _).mono ?_); rintro e1 w9 ⟨rfl, rfl⟩))
  have H3 := H2.keep hk3 (by omega) (by omega)
  have Z3 := Z2.keep hk3 (by omega) (by omega)
  have HR3 := Lib.hid hr3
  have HK3 := Lib.hid (HK2.out.trans hk3)
  clear hk3 hr3 H2 Z2 HR2 HK2 HC HM
  have K3 := HK3.out
  have R3 := HR3.out
  have T3 := told_nil w3
  clear HK3 HR3
  go_upto_region 13 with (fail)
  have HKF := Lib.hid (K3.thenB ((Below.refl w.heap.size w3).setCell (p := ⟨g3, 0, none⟩) (by show w.heap.size ≤ g3; omega) (.int .i64 (k : Int))))
  have HRF := Lib.hid (R3.belowB ((Below.refl w.heap.size w3).setCell (p := ⟨g3, 0, none⟩) (by show w.heap.size ≤ g3; omega) (.int .i64 (k : Int))) hg0)
  have HF : Blk (w3.setCell ⟨g3, 0, none⟩ (.int .i64 (k : Int))) g3 (recC ⟨(k : Int), [], -1, 0, 0⟩ (.slice none 0 0)) 27 := H3.put 0 _
  have ZF := Z3.other g3 0 (.int .i64 (k : Int)) (by omega)
  have TF := told_setCell T3 H3 (noIt_rec _ _) 0 (.int .i64 (k : Int))
  have c0 : w3.cell? ⟨g3, 0, none⟩ = some (.int .i64 0) := H3.cell 0
  have f0 : w3.frozen? ⟨g3, 0, none⟩ = false := H3.free 0
  go_upto_region 14 with (fail)
  clear c0 f0 K3 R3 H3 Z3 T3
  generalize w3.setCell _ _ = WF at *
  go_wp2_with (first
    | (refine p_loadR rfl _ rfl g3 rfl ⟨(k : Int), [], -1, 0, 0⟩ (.slice none 0 0) HF ?_)
    | (refine p_storeR rfl _ _ rfl w.heap.size rfl ⟨(k : Int), [], -1, 0, 0⟩ (.slice none 0 0) rfl rfl zeroR (.slice none 0 0) ZF ?_))
  exact bodyPost_ret (results_rec1 Try.results46 _ _ w.heap.size _ _ rfl (ZF.setRow _)) rfl (get_got HX.out (told_setRow TF ZF (noIt_rec _ _) _) (HRF.out.belowB (bel_setRow (Below.refl w.heap.size WF) (Nat.le_refl _) _) hg0) (HKF.out.thenB (bel_setRow (Below.refl w.heap.size WF) (Nat.le_refl _) _)))

set_option maxHeartbeats 4000000 in
theorem getc_1_items {w : World} {g h c : Nat} {s : ByteArray} {p : Nat} (k0 : Rd w g h c s p) (hs : s.size ≤ 1000000) {k q e : Nat} (hk : k = 1) (hn : rdN (bytesN s) p = .ok (k, q)) (hi : rdIs (bytesN s) q = .error e) :
    Calls Try.prog 46 #[.pointer (some ⟨g, 0, none⟩)] w (GetPost w g h c s (rdR (bytesN s) p)) := by
  have HX : Hid (rdR (bytesN s) p = .error e) := by
    unfold Hid rdR
    rw [hn]
    simp only
    rw [if_neg (by omega), if_pos (by omega), hi]
  have t1 : ((k : Int) == 1) = true := by simp; omega
  have t5 : ((k : Int) == 5) = false := by simp; omega
  generalize rdR (bytesN s) p = X at *
  have hg0 := k0.lt
  have hgh := k0.ne
  have HN := none_open
  have Z0 := Blk.new w (recC zeroR (.slice none 0 0)) 27
  have B0 := (Below.refl w.heap.size w).alloc (Nat.le_refl _) (.cells (recC zeroR (.slice none 0 0)) 27)
  have HR0 := Lib.hid (k0.below B0)
  clear k0
  go_enter Try.func46, Try.ntmps46
  go_upto_region 1 with (fail)
  rw [zero_rec]
  have hsz : w.heap.size < (w.alloc (.cells (recC zeroR (.slice none 0 0)) 27)).heap.size := by simp
  generalize w.alloc _ = W at *
  go_upto_region 2 with (first
    | (go_at_call 49; (with_reducible refine (HN.calls _).mono ?_); rintro e1 w1 ⟨rfl, hb1⟩)
    | (refine p_storeR rfl _ _ rfl w1.heap.size rfl ⟨0, [], -1, 0, 0⟩ (.slice none 0 0) rfl rfl zeroR (.slice none 0 0) (Blk.new _ _ _) ?_))
  have b2 : Below w1.heap.size w1 ((w1.alloc (.cells (recC zeroR (.slice none 0 0)) 27)).setRow w1.heap.size (recC ⟨0, [], -1, 0, 0⟩ (.slice none 0 0))) := bel_setRow ((Below.refl _ _).alloc (Nat.le_refl _) _) (Nat.le_refl _) _
  have H2 : Blk ((w1.alloc (.cells (recC zeroR (.slice none 0 0)) 27)).setRow w1.heap.size (recC ⟨0, [], -1, 0, 0⟩ (.slice none 0 0))) w1.heap.size (recC ⟨0, [], -1, 0, 0⟩ (.slice none 0 0)) 27 := (Blk.new _ _ _).setRow _
  have hgt : w.heap.size < w1.heap.size := by have := hb1.size; omega
  have hb2 := rstep hb1 b2
  have Z2 := Z0.below hb2 Z0.lt
  have HR2 := Lib.hid (HR0.out.below hb2)
  have HK2 := Lib.hid (Keep.of (rstep B0 hb2) g g)
  try rw [zero_rec]
  clear Z0 B0 HR0 hb1 b2 hb2 hsz HN
  generalize (w1.alloc _).setRow _ _ = W2 at *
  generalize w1.heap.size = g3 at *
  have HC := Lib.hid (num_ok HR2.out hs hn)
  have HM := Lib.hid (mustN_ok k)
  clear hn hk
  go_upto_region 3 with (first
    | (go_at_call 85; (with_reducible refine (HC.out).mono ?_); rintro e1 w3 ⟨rfl, hr3, hk3⟩)
    | (go_at_call 84; (with_reducible refine (HM.out _).mono ?_); rintro e1 w9 ⟨rfl, rfl⟩))
  have H3 := H2.keep hk3 (by omega) (by omega)
  have Z3 := Z2.keep hk3 (by omega) (by omega)
  have HR3 := Lib.hid hr3
  have HK3 := Lib.hid (HK2.out.trans hk3)
  clear hk3 hr3 H2 Z2 HR2 HK2 HC HM
  have HIT := Lib.hid (getItems_any HR3.out hs)
  go_wp2_with (go_at_call 86; (with_reducible refine HIT.out.mono ?_); rintro e1 w4 hp; have he := hp.no _ hi; rw [pan_eq] at he; subst he)
  exact ⟨rfl, get_pan HX.out (HK3.out.trans hp.keep)⟩

set_option maxHeartbeats 4000000 in
theorem getc_1_next {w : World} {g h c : Nat} {s : ByteArray} {p : Nat} (k0 : Rd w g h c s p) (hs : s.size ≤ 1000000) {k q q2 e : Nat} {L : List It} (hk : k = 1) (hn : rdN (bytesN s) p = .ok (k, q)) (hi : rdIs (bytesN s) q = .ok (L, q2)) (hx : rdX (bytesN s) q2 = .error e) :
    Calls Try.prog 46 #[.pointer (some ⟨g, 0, none⟩)] w (GetPost w g h c s (rdR (bytesN s) p)) := by
  have HX : Hid (rdR (bytesN s) p = .error e) := by
    unfold Hid rdR
    rw [hn]
    simp only
    rw [if_neg (by omega), if_pos (by omega), hi]
    simp only
    rw [hx]
  have t1 : ((k : Int) == 1) = true := by simp; omega
  have t5 : ((k : Int) == 5) = false := by simp; omega
  generalize rdR (bytesN s) p = X at *
  have hg0 := k0.lt
  have hgh := k0.ne
  have HN := none_open
  have Z0 := Blk.new w (recC zeroR (.slice none 0 0)) 27
  have B0 := (Below.refl w.heap.size w).alloc (Nat.le_refl _) (.cells (recC zeroR (.slice none 0 0)) 27)
  have HR0 := Lib.hid (k0.below B0)
  clear k0
  go_enter Try.func46, Try.ntmps46
  go_upto_region 1 with (fail)
  rw [zero_rec]
  have hsz : w.heap.size < (w.alloc (.cells (recC zeroR (.slice none 0 0)) 27)).heap.size := by simp
  generalize w.alloc _ = W at *
  go_upto_region 2 with (first
    | (go_at_call 49; (with_reducible refine (HN.calls _).mono ?_); rintro e1 w1 ⟨rfl, hb1⟩)
    | (refine p_storeR rfl _ _ rfl w1.heap.size rfl ⟨0, [], -1, 0, 0⟩ (.slice none 0 0) rfl rfl zeroR (.slice none 0 0) (Blk.new _ _ _) ?_))
  have b2 : Below w1.heap.size w1 ((w1.alloc (.cells (recC zeroR (.slice none 0 0)) 27)).setRow w1.heap.size (recC ⟨0, [], -1, 0, 0⟩ (.slice none 0 0))) := bel_setRow ((Below.refl _ _).alloc (Nat.le_refl _) _) (Nat.le_refl _) _
  have H2 : Blk ((w1.alloc (.cells (recC zeroR (.slice none 0 0)) 27)).setRow w1.heap.size (recC ⟨0, [], -1, 0, 0⟩ (.slice none 0 0))) w1.heap.size (recC ⟨0, [], -1, 0, 0⟩ (.slice none 0 0)) 27 := (Blk.new _ _ _).setRow _
  have hgt : w.heap.size < w1.heap.size := by have := hb1.size; omega
  have hb2 := rstep hb1 b2
  have Z2 := Z0.below hb2 Z0.lt
  have HR2 := Lib.hid (HR0.out.below hb2)
  have HK2 := Lib.hid (Keep.of (rstep B0 hb2) g g)
  try rw [zero_rec]
  clear Z0 B0 HR0 hb1 b2 hb2 hsz HN
  generalize (w1.alloc _).setRow _ _ = W2 at *
  generalize w1.heap.size = g3 at *
  have HC := Lib.hid (num_ok HR2.out hs hn)
  have HM := Lib.hid (mustN_ok k)
  clear hn hk
  go_upto_region 3 with (first
    | (go_at_call 85; (with_reducible refine (HC.out).mono ?_); rintro e1 w3 ⟨rfl, hr3, hk3⟩)
    | (go_at_call 84; (with_reducible refine (HM.out _).mono ?_); rintro e1 w9 ⟨rfl, rfl⟩))
  have H3 := H2.keep hk3 (by omega) (by omega)
  have Z3 := Z2.keep hk3 (by omega) (by omega)
  have HR3 := Lib.hid hr3
  have HK3 := Lib.hid (HK2.out.trans hk3)
  clear hk3 hr3 H2 Z2 HR2 HK2 HC HM
  have HIT := Lib.hid (getItems_any HR3.out hs)
  have c1 : ∀ w4, Keep w3 w4 g g → w4.cell? ⟨g3, 1, none⟩ = some (.slice none 0 0) ∧ w4.frozen? ⟨g3, 1, none⟩ = false := fun w4 hk => ⟨(H3.keep hk (by omega) (by omega)).cell 1, (H3.keep hk (by omega) (by omega)).free 1⟩
  go_upto_region 10 with (go_at_call 86; (with_reducible refine HIT.out.mono ?_); rintro e1 w4 hp; obtain ⟨v, rfl, T4, R4⟩ := hp.ok _ _ hi; have K4 := hp.keep; obtain ⟨al, cl, rfl⟩ := told_shape T4; obtain ⟨d1, d2⟩ := c1 _ K4)
  clear c1 d1 d2 HIT
  have H4 := H3.keep K4 (by omega) (by omega)
  have Z4 := Z3.keep K4 (by omega) (by omega)
  have B5 := (Below.refl w.heap.size w4).setCell (p := ⟨g3, 1, none⟩) (by show w.heap.size ≤ g3; omega) (.slice al L.length cl)
  have H5 : Blk (w4.setCell ⟨g3, 1, none⟩ (.slice al L.length cl)) g3 (recC ⟨0, L, -1, 0, 0⟩ (.slice al L.length cl)) 27 := H4.put 1 _
  have Z5 := Z4.other g3 1 (.slice al L.length cl) (by omega)
  have T5 := told_setCell T4 H4 (noIt_rec _ _) 1 (.slice al L.length cl)
  have HR5 := Lib.hid (R4.belowB B5 hg0)
  have HK5 := Lib.hid ((HK3.out.trans K4).thenB B5)
  clear H3 Z3 HR3 HK3 H4 Z4 T4 R4 K4 B5 hp
  generalize w4.setCell _ _ = W5 at *
  have HNX := Lib.hid (getNext_any HR5.out hs)
  go_wp2_with (go_at_call 87; (with_reducible refine HNX.out.mono ?_); rintro e1 w6 hp; have he := hp.no _ hx; rw [pan_eq] at he; subst he)
  exact ⟨rfl, get_pan HX.out (HK5.out.trans hp.keep)⟩

set_option maxHeartbeats 4000000 in
theorem getc_1_ok {w : World} {g h c : Nat} {s : ByteArray} {p : Nat} (k0 : Rd w g h c s p) (hs : s.size ≤ 1000000) {k q q2 q3 : Nat} {L : List It} {nl : Int} {nb : Nat} (hk : k = 1) (hn : rdN (bytesN s) p = .ok (k, q)) (hi : rdIs (bytesN s) q = .ok (L, q2)) (hx : rdX (bytesN s) q2 = .ok ((nl, nb), q3)) :
    Calls Try.prog 46 #[.pointer (some ⟨g, 0, none⟩)] w (GetPost w g h c s (rdR (bytesN s) p)) := by
  have HX : Hid (rdR (bytesN s) p = .ok (⟨(k : Int), L, nl, nb, 0⟩, q3)) := by
    unfold Hid rdR
    rw [hn]
    simp only
    rw [if_neg (by omega), if_pos (by omega), hi]
    simp only
    rw [hx]
    simp only
    rw [rdM, if_neg (by omega)]
  have t1 : ((k : Int) == 1) = true := by simp; omega
  have t5 : ((k : Int) == 5) = false := by simp; omega
  have hcv : IntKind.i64.wrap (k : Int) = (k : Int) := IntWalk.i64_in _ (by omega)
  generalize rdR (bytesN s) p = X at *
  have hg0 := k0.lt
  have hgh := k0.ne
  have HN := none_open
  have Z0 := Blk.new w (recC zeroR (.slice none 0 0)) 27
  have B0 := (Below.refl w.heap.size w).alloc (Nat.le_refl _) (.cells (recC zeroR (.slice none 0 0)) 27)
  have HR0 := Lib.hid (k0.below B0)
  clear k0
  go_enter Try.func46, Try.ntmps46
  go_upto_region 1 with (fail)
  rw [zero_rec]
  have hsz : w.heap.size < (w.alloc (.cells (recC zeroR (.slice none 0 0)) 27)).heap.size := by simp
  generalize w.alloc _ = W at *
  go_upto_region 2 with (first
    | (go_at_call 49; (with_reducible refine (HN.calls _).mono ?_); rintro e1 w1 ⟨rfl, hb1⟩)
    | (refine p_storeR rfl _ _ rfl w1.heap.size rfl ⟨0, [], -1, 0, 0⟩ (.slice none 0 0) rfl rfl zeroR (.slice none 0 0) (Blk.new _ _ _) ?_))
  have b2 : Below w1.heap.size w1 ((w1.alloc (.cells (recC zeroR (.slice none 0 0)) 27)).setRow w1.heap.size (recC ⟨0, [], -1, 0, 0⟩ (.slice none 0 0))) := bel_setRow ((Below.refl _ _).alloc (Nat.le_refl _) _) (Nat.le_refl _) _
  have H2 : Blk ((w1.alloc (.cells (recC zeroR (.slice none 0 0)) 27)).setRow w1.heap.size (recC ⟨0, [], -1, 0, 0⟩ (.slice none 0 0))) w1.heap.size (recC ⟨0, [], -1, 0, 0⟩ (.slice none 0 0)) 27 := (Blk.new _ _ _).setRow _
  have hgt : w.heap.size < w1.heap.size := by have := hb1.size; omega
  have hb2 := rstep hb1 b2
  have Z2 := Z0.below hb2 Z0.lt
  have HR2 := Lib.hid (HR0.out.below hb2)
  have HK2 := Lib.hid (Keep.of (rstep B0 hb2) g g)
  try rw [zero_rec]
  clear Z0 B0 HR0 hb1 b2 hb2 hsz HN
  generalize (w1.alloc _).setRow _ _ = W2 at *
  generalize w1.heap.size = g3 at *
  have HC := Lib.hid (num_ok HR2.out hs hn)
  have HM := Lib.hid (mustN_ok k)
  clear hn hk
  go_upto_region 3 with (first
    | (go_at_call 85; (with_reducible refine (HC.out).mono ?_); rintro e1 w3 ⟨rfl, hr3, hk3⟩)
    | (go_at_call 84; (with_reducible refine (HM.out _).mono ?_); rintro e1 w9 ⟨rfl, rfl⟩))
  have H3 := H2.keep hk3 (by omega) (by omega)
  have Z3 := Z2.keep hk3 (by omega) (by omega)
  have HR3 := Lib.hid hr3
  have HK3 := Lib.hid (HK2.out.trans hk3)
  clear hk3 hr3 H2 Z2 HR2 HK2 HC HM
  have HIT := Lib.hid (getItems_any HR3.out hs)
  have c1 : ∀ w4, Keep w3 w4 g g → w4.cell? ⟨g3, 1, none⟩ = some (.slice none 0 0) ∧ w4.frozen? ⟨g3, 1, none⟩ = false := fun w4 hk => ⟨(H3.keep hk (by omega) (by omega)).cell 1, (H3.keep hk (by omega) (by omega)).free 1⟩
  go_upto_region 10 with (go_at_call 86; (with_reducible refine HIT.out.mono ?_); rintro e1 w4 hp; obtain ⟨v, rfl, T4, R4⟩ := hp.ok _ _ hi; have K4 := hp.keep; obtain ⟨al, cl, rfl⟩ := told_shape T4; obtain ⟨d1, d2⟩ := c1 _ K4)
  clear c1 d1 d2 HIT
  have H4 := H3.keep K4 (by omega) (by omega)
  have Z4 := Z3.keep K4 (by omega) (by omega)
  have B5 := (Below.refl w.heap.size w4).setCell (p := ⟨g3, 1, none⟩) (by show w.heap.size ≤ g3; omega) (.slice al L.length cl)
  have H5 : Blk (w4.setCell ⟨g3, 1, none⟩ (.slice al L.length cl)) g3 (recC ⟨0, L, -1, 0, 0⟩ (.slice al L.length cl)) 27 := H4.put 1 _
  have Z5 := Z4.other g3 1 (.slice al L.length cl) (by omega)
  have T5 := told_setCell T4 H4 (noIt_rec _ _) 1 (.slice al L.length cl)
  have HR5 := Lib.hid (R4.belowB B5 hg0)
  have HK5 := Lib.hid ((HK3.out.trans K4).thenB B5)
  clear H3 Z3 HR3 HK3 H4 Z4 T4 R4 K4 B5 hp
  generalize w4.setCell _ _ = W5 at *
  have HNX := Lib.hid (getNext_any HR5.out hs)
  go_upto_region 11 with (first
    | (go_at_call 87; (with_reducible refine HNX.out.mono ?_); rintro e1 w6 hp; obtain ⟨rfl, R6⟩ := hp.ok _ _ _ hx; have K6 := hp.keep; have H6 := H5.keep K6 (by omega) (by omega))
    | (refine p_storeMid rfl _ _ rfl g3 rfl nl nb rfl ⟨0, L, -1, 0, 0⟩ (.slice al L.length cl) H6 ?_))
  have Z6 := Z5.keep K6 (by omega) (by omega)
  have B7 := bel_midL (Below.refl w.heap.size w6) (show w.heap.size ≤ g3 by omega) nl nb
  have H7 := blk_midL H6 nl nb
  have Z7 : Blk (w6.setCells g3 2 (labc nl nb).toList) w.heap.size (recC zeroR (.slice none 0 0)) 27 := (Z6.other g3 2 (.int .i64 nl) (by omega)).other g3 3 (.int .u64 (nb : Int)) (by omega)
  have T7 := told_midL (told_keepG T5 HR5.out K6) H6 nl nb
  have R7 := R6.belowB B7 hg0
  have K7 := (HK5.out.trans K6).thenB B7
  clear H5 Z5 T5 HR5 HK5 H6 Z6 R6 K6 B7 hp HNX
  generalize w6.setCells _ _ _ = W7 at *
  go_upto_region 13 with (fail)
  have HKF := Lib.hid (K7.thenB ((Below.refl w.heap.size W7).setCell (p := ⟨g3, 0, none⟩) (by show w.heap.size ≤ g3; omega) (.int .i64 (k : Int))))
  have HRF := Lib.hid (R7.belowB ((Below.refl w.heap.size W7).setCell (p := ⟨g3, 0, none⟩) (by show w.heap.size ≤ g3; omega) (.int .i64 (k : Int))) hg0)
  have HF : Blk (W7.setCell ⟨g3, 0, none⟩ (.int .i64 (k : Int))) g3 (recC ⟨(k : Int), L, nl, nb, 0⟩ (.slice al L.length cl)) 27 := H7.put 0 _
  have ZF := Z7.other g3 0 (.int .i64 (k : Int)) (by omega)
  have TF := told_setCell T7 H7 (noIt_rec _ _) 0 (.int .i64 (k : Int))
  have c0 : W7.cell? ⟨g3, 0, none⟩ = some (.int .i64 0) := H7.cell 0
  have f0 : W7.frozen? ⟨g3, 0, none⟩ = false := H7.free 0
  go_upto_region 14 with (fail)
  clear c0 f0 K7 R7 H7 Z7 T7
  generalize W7.setCell _ _ = WF at *
  go_wp2_with (first
    | (refine p_loadR rfl _ rfl g3 rfl ⟨(k : Int), L, nl, nb, 0⟩ (.slice al L.length cl) HF ?_)
    | (refine p_storeR rfl _ _ rfl w.heap.size rfl ⟨(k : Int), L, nl, nb, 0⟩ (.slice al L.length cl) rfl rfl zeroR (.slice none 0 0) ZF ?_))
  exact bodyPost_ret (results_rec1 Try.results46 _ _ w.heap.size _ _ rfl (ZF.setRow _)) rfl (get_got HX.out (told_setRow TF ZF (noIt_rec _ _) _) (HRF.out.belowB (bel_setRow (Below.refl w.heap.size WF) (Nat.le_refl _) _) hg0) (HKF.out.thenB (bel_setRow (Below.refl w.heap.size WF) (Nat.le_refl _) _)))

set_option maxHeartbeats 4000000 in
theorem getc_3_items {w : World} {g h c : Nat} {s : ByteArray} {p : Nat} (k0 : Rd w g h c s p) (hs : s.size ≤ 1000000) {k q e : Nat} (hk : k = 3) (hn : rdN (bytesN s) p = .ok (k, q)) (hi : rdIs (bytesN s) q = .error e) :
    Calls Try.prog 46 #[.pointer (some ⟨g, 0, none⟩)] w (GetPost w g h c s (rdR (bytesN s) p)) := by
  have HX : Hid (rdR (bytesN s) p = .error e) := by
    unfold Hid rdR
    rw [hn]
    simp only
    rw [if_neg (by omega), if_pos (by omega), hi]
  have t1 : ((k : Int) == 1) = false := by simp; omega
  have t3 : ((k : Int) == 3) = true := by simp; omega
  have t5 : ((k : Int) == 5) = false := by simp; omega
  generalize rdR (bytesN s) p = X at *
  have hg0 := k0.lt
  have hgh := k0.ne
  have HN := none_open
  have Z0 := Blk.new w (recC zeroR (.slice none 0 0)) 27
  have B0 := (Below.refl w.heap.size w).alloc (Nat.le_refl _) (.cells (recC zeroR (.slice none 0 0)) 27)
  have HR0 := Lib.hid (k0.below B0)
  clear k0
  go_enter Try.func46, Try.ntmps46
  go_upto_region 1 with (fail)
  rw [zero_rec]
  have hsz : w.heap.size < (w.alloc (.cells (recC zeroR (.slice none 0 0)) 27)).heap.size := by simp
  generalize w.alloc _ = W at *
  go_upto_region 2 with (first
    | (go_at_call 49; (with_reducible refine (HN.calls _).mono ?_); rintro e1 w1 ⟨rfl, hb1⟩)
    | (refine p_storeR rfl _ _ rfl w1.heap.size rfl ⟨0, [], -1, 0, 0⟩ (.slice none 0 0) rfl rfl zeroR (.slice none 0 0) (Blk.new _ _ _) ?_))
  have b2 : Below w1.heap.size w1 ((w1.alloc (.cells (recC zeroR (.slice none 0 0)) 27)).setRow w1.heap.size (recC ⟨0, [], -1, 0, 0⟩ (.slice none 0 0))) := bel_setRow ((Below.refl _ _).alloc (Nat.le_refl _) _) (Nat.le_refl _) _
  have H2 : Blk ((w1.alloc (.cells (recC zeroR (.slice none 0 0)) 27)).setRow w1.heap.size (recC ⟨0, [], -1, 0, 0⟩ (.slice none 0 0))) w1.heap.size (recC ⟨0, [], -1, 0, 0⟩ (.slice none 0 0)) 27 := (Blk.new _ _ _).setRow _
  have hgt : w.heap.size < w1.heap.size := by have := hb1.size; omega
  have hb2 := rstep hb1 b2
  have Z2 := Z0.below hb2 Z0.lt
  have HR2 := Lib.hid (HR0.out.below hb2)
  have HK2 := Lib.hid (Keep.of (rstep B0 hb2) g g)
  try rw [zero_rec]
  clear Z0 B0 HR0 hb1 b2 hb2 hsz HN
  generalize (w1.alloc _).setRow _ _ = W2 at *
  generalize w1.heap.size = g3 at *
  have HC := Lib.hid (num_ok HR2.out hs hn)
  have HM := Lib.hid (mustN_ok k)
  clear hn hk
  go_upto_region 3 with (first
    | (go_at_call 85; (with_reducible refine (HC.out).mono ?_); rintro e1 w3 ⟨rfl, hr3, hk3⟩)
    | (go_at_call 84; (with_reducible refine (HM.out _).mono ?_); rintro e1 w9 ⟨rfl, rfl⟩))
  have H3 := H2.keep hk3 (by omega) (by omega)
  have Z3 := Z2.keep hk3 (by omega) (by omega)
  have HR3 := Lib.hid hr3
  have HK3 := Lib.hid (HK2.out.trans hk3)
  clear hk3 hr3 H2 Z2 HR2 HK2 HC HM
  have HIT := Lib.hid (getItems_any HR3.out hs)
  go_wp2_with (go_at_call 86; (with_reducible refine HIT.out.mono ?_); rintro e1 w4 hp; have he := hp.no _ hi; rw [pan_eq] at he; subst he)
  exact ⟨rfl, get_pan HX.out (HK3.out.trans hp.keep)⟩

set_option maxHeartbeats 4000000 in
theorem getc_3_next {w : World} {g h c : Nat} {s : ByteArray} {p : Nat} (k0 : Rd w g h c s p) (hs : s.size ≤ 1000000) {k q q2 e : Nat} {L : List It} (hk : k = 3) (hn : rdN (bytesN s) p = .ok (k, q)) (hi : rdIs (bytesN s) q = .ok (L, q2)) (hx : rdX (bytesN s) q2 = .error e) :
    Calls Try.prog 46 #[.pointer (some ⟨g, 0, none⟩)] w (GetPost w g h c s (rdR (bytesN s) p)) := by
  have HX : Hid (rdR (bytesN s) p = .error e) := by
    unfold Hid rdR
    rw [hn]
    simp only
    rw [if_neg (by omega), if_pos (by omega), hi]
    simp only
    rw [hx]
  have t1 : ((k : Int) == 1) = false := by simp; omega
  have t3 : ((k : Int) == 3) = true := by simp; omega
  have t5 : ((k : Int) == 5) = false := by simp; omega
  generalize rdR (bytesN s) p = X at *
  have hg0 := k0.lt
  have hgh := k0.ne
  have HN := none_open
  have Z0 := Blk.new w (recC zeroR (.slice none 0 0)) 27
  have B0 := (Below.refl w.heap.size w).alloc (Nat.le_refl _) (.cells (recC zeroR (.slice none 0 0)) 27)
  have HR0 := Lib.hid (k0.below B0)
  clear k0
  go_enter Try.func46, Try.ntmps46
  go_upto_region 1 with (fail)
  rw [zero_rec]
  have hsz : w.heap.size < (w.alloc (.cells (recC zeroR (.slice none 0 0)) 27)).heap.size := by simp
  generalize w.alloc _ = W at *
  go_upto_region 2 with (first
    | (go_at_call 49; (with_reducible refine (HN.calls _).mono ?_); rintro e1 w1 ⟨rfl, hb1⟩)
    | (refine p_storeR rfl _ _ rfl w1.heap.size rfl ⟨0, [], -1, 0, 0⟩ (.slice none 0 0) rfl rfl zeroR (.slice none 0 0) (Blk.new _ _ _) ?_))
  have b2 : Below w1.heap.size w1 ((w1.alloc (.cells (recC zeroR (.slice none 0 0)) 27)).setRow w1.heap.size (recC ⟨0, [], -1, 0, 0⟩ (.slice none 0 0))) := bel_setRow ((Below.refl _ _).alloc (Nat.le_refl _) _) (Nat.le_refl _) _
  have H2 : Blk ((w1.alloc (.cells (recC zeroR (.slice none 0 0)) 27)).setRow w1.heap.size (recC ⟨0, [], -1, 0, 0⟩ (.slice none 0 0))) w1.heap.size (recC ⟨0, [], -1, 0, 0⟩ (.slice none 0 0)) 27 := (Blk.new _ _ _).setRow _
  have hgt : w.heap.size < w1.heap.size := by have := hb1.size; omega
  have hb2 := rstep hb1 b2
  have Z2 := Z0.below hb2 Z0.lt
  have HR2 := Lib.hid (HR0.out.below hb2)
  have HK2 := Lib.hid (Keep.of (rstep B0 hb2) g g)
  try rw [zero_rec]
  clear Z0 B0 HR0 hb1 b2 hb2 hsz HN
  generalize (w1.alloc _).setRow _ _ = W2 at *
  generalize w1.heap.size = g3 at *
  have HC := Lib.hid (num_ok HR2.out hs hn)
  have HM := Lib.hid (mustN_ok k)
  clear hn hk
  go_upto_region 3 with (first
    | (go_at_call 85; (with_reducible refine (HC.out).mono ?_); rintro e1 w3 ⟨rfl, hr3, hk3⟩)
    | (go_at_call 84; (with_reducible refine (HM.out _).mono ?_); rintro e1 w9 ⟨rfl, rfl⟩))
  have H3 := H2.keep hk3 (by omega) (by omega)
  have Z3 := Z2.keep hk3 (by omega) (by omega)
  have HR3 := Lib.hid hr3
  have HK3 := Lib.hid (HK2.out.trans hk3)
  clear hk3 hr3 H2 Z2 HR2 HK2 HC HM
  have HIT := Lib.hid (getItems_any HR3.out hs)
  have c1 : ∀ w4, Keep w3 w4 g g → w4.cell? ⟨g3, 1, none⟩ = some (.slice none 0 0) ∧ w4.frozen? ⟨g3, 1, none⟩ = false := fun w4 hk => ⟨(H3.keep hk (by omega) (by omega)).cell 1, (H3.keep hk (by omega) (by omega)).free 1⟩
  go_upto_region 10 with (go_at_call 86; (with_reducible refine HIT.out.mono ?_); rintro e1 w4 hp; obtain ⟨v, rfl, T4, R4⟩ := hp.ok _ _ hi; have K4 := hp.keep; obtain ⟨al, cl, rfl⟩ := told_shape T4; obtain ⟨d1, d2⟩ := c1 _ K4)
  clear c1 d1 d2 HIT
  have H4 := H3.keep K4 (by omega) (by omega)
  have Z4 := Z3.keep K4 (by omega) (by omega)
  have B5 := (Below.refl w.heap.size w4).setCell (p := ⟨g3, 1, none⟩) (by show w.heap.size ≤ g3; omega) (.slice al L.length cl)
  have H5 : Blk (w4.setCell ⟨g3, 1, none⟩ (.slice al L.length cl)) g3 (recC ⟨0, L, -1, 0, 0⟩ (.slice al L.length cl)) 27 := H4.put 1 _
  have Z5 := Z4.other g3 1 (.slice al L.length cl) (by omega)
  have T5 := told_setCell T4 H4 (noIt_rec _ _) 1 (.slice al L.length cl)
  have HR5 := Lib.hid (R4.belowB B5 hg0)
  have HK5 := Lib.hid ((HK3.out.trans K4).thenB B5)
  clear H3 Z3 HR3 HK3 H4 Z4 T4 R4 K4 B5 hp
  generalize w4.setCell _ _ = W5 at *
  have HNX := Lib.hid (getNext_any HR5.out hs)
  go_wp2_with (go_at_call 87; (with_reducible refine HNX.out.mono ?_); rintro e1 w6 hp; have he := hp.no _ hx; rw [pan_eq] at he; subst he)
  exact ⟨rfl, get_pan HX.out (HK5.out.trans hp.keep)⟩

set_option maxHeartbeats 4000000 in
theorem getc_3_ok {w : World} {g h c : Nat} {s : ByteArray} {p : Nat} (k0 : Rd w g h c s p) (hs : s.size ≤ 1000000) {k q q2 q3 : Nat} {L : List It} {nl : Int} {nb : Nat} (hk : k = 3) (hn : rdN (bytesN s) p = .ok (k, q)) (hi : rdIs (bytesN s) q = .ok (L, q2)) (hx : rdX (bytesN s) q2 = .ok ((nl, nb), q3)) :
    Calls Try.prog 46 #[.pointer (some ⟨g, 0, none⟩)] w (GetPost w g h c s (rdR (bytesN s) p)) := by
  have HX : Hid (rdR (bytesN s) p = .ok (⟨(k : Int), L, nl, nb, 0⟩, q3)) := by
    unfold Hid rdR
    rw [hn]
    simp only
    rw [if_neg (by omega), if_pos (by omega), hi]
    simp only
    rw [hx]
    simp only
    rw [rdM, if_neg (by omega)]
  have t1 : ((k : Int) == 1) = false := by simp; omega
  have t3 : ((k : Int) == 3) = true := by simp; omega
  have t5 : ((k : Int) == 5) = false := by simp; omega
  have hcv : IntKind.i64.wrap (k : Int) = (k : Int) := IntWalk.i64_in _ (by omega)
  generalize rdR (bytesN s) p = X at *
  have hg0 := k0.lt
  have hgh := k0.ne
  have HN := none_open
  have Z0 := Blk.new w (recC zeroR (.slice none 0 0)) 27
  have B0 := (Below.refl w.heap.size w).alloc (Nat.le_refl _) (.cells (recC zeroR (.slice none 0 0)) 27)
  have HR0 := Lib.hid (k0.below B0)
  clear k0
  go_enter Try.func46, Try.ntmps46
  go_upto_region 1 with (fail)
  rw [zero_rec]
  have hsz : w.heap.size < (w.alloc (.cells (recC zeroR (.slice none 0 0)) 27)).heap.size := by simp
  generalize w.alloc _ = W at *
  go_upto_region 2 with (first
    | (go_at_call 49; (with_reducible refine (HN.calls _).mono ?_); rintro e1 w1 ⟨rfl, hb1⟩)
    | (refine p_storeR rfl _ _ rfl w1.heap.size rfl ⟨0, [], -1, 0, 0⟩ (.slice none 0 0) rfl rfl zeroR (.slice none 0 0) (Blk.new _ _ _) ?_))
  have b2 : Below w1.heap.size w1 ((w1.alloc (.cells (recC zeroR (.slice none 0 0)) 27)).setRow w1.heap.size (recC ⟨0, [], -1, 0, 0⟩ (.slice none 0 0))) := bel_setRow ((Below.refl _ _).alloc (Nat.le_refl _) _) (Nat.le_refl _) _
  have H2 : Blk ((w1.alloc (.cells (recC zeroR (.slice none 0 0)) 27)).setRow w1.heap.size (recC ⟨0, [], -1, 0, 0⟩ (.slice none 0 0))) w1.heap.size (recC ⟨0, [], -1, 0, 0⟩ (.slice none 0 0)) 27 := (Blk.new _ _ _).setRow _
  have hgt : w.heap.size < w1.heap.size := by have := hb1.size; omega
  have hb2 := rstep hb1 b2
  have Z2 := Z0.below hb2 Z0.lt
  have HR2 := Lib.hid (HR0.out.below hb2)
  have HK2 := Lib.hid (Keep.of (rstep B0 hb2) g g)
  try rw [zero_rec]
  clear Z0 B0 HR0 hb1 b2 hb2 hsz HN
  generalize (w1.alloc _).setRow _ _ = W2 at *
  generalize w1.heap.size = g3 at *
  have HC := Lib.hid (num_ok HR2.out hs hn)
  have HM := Lib.hid (mustN_ok k)
  clear hn hk
  go_upto_region 3 with (first
    | (go_at_call 85; (with_reducible refine (HC.out).mono ?_); rintro e1 w3 ⟨rfl, hr3, hk3⟩)
    | (go_at_call 84; (with_reducible refine (HM.out _).mono ?_); rintro e1 w9 ⟨rfl, rfl⟩))
  have H3 := H2.keep hk3 (by omega) (by omega)
  have Z3 := Z2.keep hk3 (by omega) (by omega)
  have HR3 := Lib.hid hr3
  have HK3 := Lib.hid (HK2.out.trans hk3)
  clear hk3 hr3 H2 Z2 HR2 HK2 HC HM
  have HIT := Lib.hid (getItems_any HR3.out hs)
  have c1 : ∀ w4, Keep w3 w4 g g → w4.cell? ⟨g3, 1, none⟩ = some (.slice none 0 0) ∧ w4.frozen? ⟨g3, 1, none⟩ = false := fun w4 hk => ⟨(H3.keep hk (by omega) (by omega)).cell 1, (H3.keep hk (by omega) (by omega)).free 1⟩
  go_upto_region 10 with (go_at_call 86; (with_reducible refine HIT.out.mono ?_); rintro e1 w4 hp; obtain ⟨v, rfl, T4, R4⟩ := hp.ok _ _ hi; have K4 := hp.keep; obtain ⟨al, cl, rfl⟩ := told_shape T4; obtain ⟨d1, d2⟩ := c1 _ K4)
  clear c1 d1 d2 HIT
  have H4 := H3.keep K4 (by omega) (by omega)
  have Z4 := Z3.keep K4 (by omega) (by omega)
  have B5 := (Below.refl w.heap.size w4).setCell (p := ⟨g3, 1, none⟩) (by show w.heap.size ≤ g3; omega) (.slice al L.length cl)
  have H5 : Blk (w4.setCell ⟨g3, 1, none⟩ (.slice al L.length cl)) g3 (recC ⟨0, L, -1, 0, 0⟩ (.slice al L.length cl)) 27 := H4.put 1 _
  have Z5 := Z4.other g3 1 (.slice al L.length cl) (by omega)
  have T5 := told_setCell T4 H4 (noIt_rec _ _) 1 (.slice al L.length cl)
  have HR5 := Lib.hid (R4.belowB B5 hg0)
  have HK5 := Lib.hid ((HK3.out.trans K4).thenB B5)
  clear H3 Z3 HR3 HK3 H4 Z4 T4 R4 K4 B5 hp
  generalize w4.setCell _ _ = W5 at *
  have HNX := Lib.hid (getNext_any HR5.out hs)
  go_upto_region 11 with (first
    | (go_at_call 87; (with_reducible refine HNX.out.mono ?_); rintro e1 w6 hp; obtain ⟨rfl, R6⟩ := hp.ok _ _ _ hx; have K6 := hp.keep; have H6 := H5.keep K6 (by omega) (by omega))
    | (refine p_storeMid rfl _ _ rfl g3 rfl nl nb rfl ⟨0, L, -1, 0, 0⟩ (.slice al L.length cl) H6 ?_))
  have Z6 := Z5.keep K6 (by omega) (by omega)
  have B7 := bel_midL (Below.refl w.heap.size w6) (show w.heap.size ≤ g3 by omega) nl nb
  have H7 := blk_midL H6 nl nb
  have Z7 : Blk (w6.setCells g3 2 (labc nl nb).toList) w.heap.size (recC zeroR (.slice none 0 0)) 27 := (Z6.other g3 2 (.int .i64 nl) (by omega)).other g3 3 (.int .u64 (nb : Int)) (by omega)
  have T7 := told_midL (told_keepG T5 HR5.out K6) H6 nl nb
  have R7 := R6.belowB B7 hg0
  have K7 := (HK5.out.trans K6).thenB B7
  clear H5 Z5 T5 HR5 HK5 H6 Z6 R6 K6 B7 hp HNX
  generalize w6.setCells _ _ _ = W7 at *
  go_upto_region 13 with (fail)
  have HKF := Lib.hid (K7.thenB ((Below.refl w.heap.size W7).setCell (p := ⟨g3, 0, none⟩) (by show w.heap.size ≤ g3; omega) (.int .i64 (k : Int))))
  have HRF := Lib.hid (R7.belowB ((Below.refl w.heap.size W7).setCell (p := ⟨g3, 0, none⟩) (by show w.heap.size ≤ g3; omega) (.int .i64 (k : Int))) hg0)
  have HF : Blk (W7.setCell ⟨g3, 0, none⟩ (.int .i64 (k : Int))) g3 (recC ⟨(k : Int), L, nl, nb, 0⟩ (.slice al L.length cl)) 27 := H7.put 0 _
  have ZF := Z7.other g3 0 (.int .i64 (k : Int)) (by omega)
  have TF := told_setCell T7 H7 (noIt_rec _ _) 0 (.int .i64 (k : Int))
  have c0 : W7.cell? ⟨g3, 0, none⟩ = some (.int .i64 0) := H7.cell 0
  have f0 : W7.frozen? ⟨g3, 0, none⟩ = false := H7.free 0
  go_upto_region 14 with (fail)
  clear c0 f0 K7 R7 H7 Z7 T7
  generalize W7.setCell _ _ = WF at *
  go_wp2_with (first
    | (refine p_loadR rfl _ rfl g3 rfl ⟨(k : Int), L, nl, nb, 0⟩ (.slice al L.length cl) HF ?_)
    | (refine p_storeR rfl _ _ rfl w.heap.size rfl ⟨(k : Int), L, nl, nb, 0⟩ (.slice al L.length cl) rfl rfl zeroR (.slice none 0 0) ZF ?_))
  exact bodyPost_ret (results_rec1 Try.results46 _ _ w.heap.size _ _ rfl (ZF.setRow _)) rfl (get_got HX.out (told_setRow TF ZF (noIt_rec _ _) _) (HRF.out.belowB (bel_setRow (Below.refl w.heap.size WF) (Nat.le_refl _) _) hg0) (HKF.out.thenB (bel_setRow (Below.refl w.heap.size WF) (Nat.le_refl _) _)))

set_option maxHeartbeats 4000000 in
theorem getc_5_items {w : World} {g h c : Nat} {s : ByteArray} {p : Nat} (k0 : Rd w g h c s p) (hs : s.size ≤ 1000000) {k q e : Nat} (hk : k = 5) (hn : rdN (bytesN s) p = .ok (k, q)) (hi : rdIs (bytesN s) q = .error e) :
    Calls Try.prog 46 #[.pointer (some ⟨g, 0, none⟩)] w (GetPost w g h c s (rdR (bytesN s) p)) := by
  have HX : Hid (rdR (bytesN s) p = .error e) := by
    unfold Hid rdR
    rw [hn]
    simp only
    rw [if_neg (by omega), if_pos (by omega), hi]
  have t1 : ((k : Int) == 1) = false := by simp; omega
  have t3 : ((k : Int) == 3) = false := by simp; omega
  have t5 : ((k : Int) == 5) = true := by simp; omega
  generalize rdR (bytesN s) p = X at *
  have hg0 := k0.lt
  have hgh := k0.ne
  have HN := none_open
  have Z0 := Blk.new w (recC zeroR (.slice none 0 0)) 27
  have B0 := (Below.refl w.heap.size w).alloc (Nat.le_refl _) (.cells (recC zeroR (.slice none 0 0)) 27)
  have HR0 := Lib.hid (k0.below B0)
  clear k0
  go_enter Try.func46, Try.ntmps46
  go_upto_region 1 with (fail)
  rw [zero_rec]
  have hsz : w.heap.size < (w.alloc (.cells (recC zeroR (.slice none 0 0)) 27)).heap.size := by simp
  generalize w.alloc _ = W at *
  go_upto_region 2 with (first
    | (go_at_call 49; (with_reducible refine (HN.calls _).mono ?_); rintro e1 w1 ⟨rfl, hb1⟩)
    | (refine p_storeR rfl _ _ rfl w1.heap.size rfl ⟨0, [], -1, 0, 0⟩ (.slice none 0 0) rfl rfl zeroR (.slice none 0 0) (Blk.new _ _ _) ?_))
  have b2 : Below w1.heap.size w1 ((w1.alloc (.cells (recC zeroR (.slice none 0 0)) 27)).setRow w1.heap.size (recC ⟨0, [], -1, 0, 0⟩ (.slice none 0 0))) := bel_setRow ((Below.refl _ _).alloc (Nat.le_refl _) _) (Nat.le_refl _) _
  have H2 : Blk ((w1.alloc (.cells (recC zeroR (.slice none 0 0)) 27)).setRow w1.heap.size (recC ⟨0, [], -1, 0, 0⟩ (.slice none 0 0))) w1.heap.size (recC ⟨0, [], -1, 0, 0⟩ (.slice none 0 0)) 27 := (Blk.new _ _ _).setRow _
  have hgt : w.heap.size < w1.heap.size := by have := hb1.size; omega
  have hb2 := rstep hb1 b2
  have Z2 := Z0.below hb2 Z0.lt
  have HR2 := Lib.hid (HR0.out.below hb2)
  have HK2 := Lib.hid (Keep.of (rstep B0 hb2) g g)
  try rw [zero_rec]
  clear Z0 B0 HR0 hb1 b2 hb2 hsz HN
  generalize (w1.alloc _).setRow _ _ = W2 at *
  generalize w1.heap.size = g3 at *
  have HC := Lib.hid (num_ok HR2.out hs hn)
  have HM := Lib.hid (mustN_ok k)
  clear hn hk
  go_upto_region 3 with (first
    | (go_at_call 85; (with_reducible refine (HC.out).mono ?_); rintro e1 w3 ⟨rfl, hr3, hk3⟩)
    | (go_at_call 84; (with_reducible refine (HM.out _).mono ?_); rintro e1 w9 ⟨rfl, rfl⟩))
  have H3 := H2.keep hk3 (by omega) (by omega)
  have Z3 := Z2.keep hk3 (by omega) (by omega)
  have HR3 := Lib.hid hr3
  have HK3 := Lib.hid (HK2.out.trans hk3)
  clear hk3 hr3 H2 Z2 HR2 HK2 HC HM
  have HIT := Lib.hid (getItems_any HR3.out hs)
  go_wp2_with (go_at_call 86; (with_reducible refine HIT.out.mono ?_); rintro e1 w4 hp; have he := hp.no _ hi; rw [pan_eq] at he; subst he)
  exact ⟨rfl, get_pan HX.out (HK3.out.trans hp.keep)⟩

set_option maxHeartbeats 4000000 in
theorem getc_5_next {w : World} {g h c : Nat} {s : ByteArray} {p : Nat} (k0 : Rd w g h c s p) (hs : s.size ≤ 1000000) {k q q2 e : Nat} {L : List It} (hk : k = 5) (hn : rdN (bytesN s) p = .ok (k, q)) (hi : rdIs (bytesN s) q = .ok (L, q2)) (hx : rdX (bytesN s) q2 = .error e) :
    Calls Try.prog 46 #[.pointer (some ⟨g, 0, none⟩)] w (GetPost w g h c s (rdR (bytesN s) p)) := by
  have HX : Hid (rdR (bytesN s) p = .error e) := by
    unfold Hid rdR
    rw [hn]
    simp only
    rw [if_neg (by omega), if_pos (by omega), hi]
    simp only
    rw [hx]
  have t1 : ((k : Int) == 1) = false := by simp; omega
  have t3 : ((k : Int) == 3) = false := by simp; omega
  have t5 : ((k : Int) == 5) = true := by simp; omega
  generalize rdR (bytesN s) p = X at *
  have hg0 := k0.lt
  have hgh := k0.ne
  have HN := none_open
  have Z0 := Blk.new w (recC zeroR (.slice none 0 0)) 27
  have B0 := (Below.refl w.heap.size w).alloc (Nat.le_refl _) (.cells (recC zeroR (.slice none 0 0)) 27)
  have HR0 := Lib.hid (k0.below B0)
  clear k0
  go_enter Try.func46, Try.ntmps46
  go_upto_region 1 with (fail)
  rw [zero_rec]
  have hsz : w.heap.size < (w.alloc (.cells (recC zeroR (.slice none 0 0)) 27)).heap.size := by simp
  generalize w.alloc _ = W at *
  go_upto_region 2 with (first
    | (go_at_call 49; (with_reducible refine (HN.calls _).mono ?_); rintro e1 w1 ⟨rfl, hb1⟩)
    | (refine p_storeR rfl _ _ rfl w1.heap.size rfl ⟨0, [], -1, 0, 0⟩ (.slice none 0 0) rfl rfl zeroR (.slice none 0 0) (Blk.new _ _ _) ?_))
  have b2 : Below w1.heap.size w1 ((w1.alloc (.cells (recC zeroR (.slice none 0 0)) 27)).setRow w1.heap.size (recC ⟨0, [], -1, 0, 0⟩ (.slice none 0 0))) := bel_setRow ((Below.refl _ _).alloc (Nat.le_refl _) _) (Nat.le_refl _) _
  have H2 : Blk ((w1.alloc (.cells (recC zeroR (.slice none 0 0)) 27)).setRow w1.heap.size (recC ⟨0, [], -1, 0, 0⟩ (.slice none 0 0))) w1.heap.size (recC ⟨0, [], -1, 0, 0⟩ (.slice none 0 0)) 27 := (Blk.new _ _ _).setRow _
  have hgt : w.heap.size < w1.heap.size := by have := hb1.size; omega
  have hb2 := rstep hb1 b2
  have Z2 := Z0.below hb2 Z0.lt
  have HR2 := Lib.hid (HR0.out.below hb2)
  have HK2 := Lib.hid (Keep.of (rstep B0 hb2) g g)
  try rw [zero_rec]
  clear Z0 B0 HR0 hb1 b2 hb2 hsz HN
  generalize (w1.alloc _).setRow _ _ = W2 at *
  generalize w1.heap.size = g3 at *
  have HC := Lib.hid (num_ok HR2.out hs hn)
  have HM := Lib.hid (mustN_ok k)
  clear hn hk
  go_upto_region 3 with (first
    | (go_at_call 85; (with_reducible refine (HC.out).mono ?_); rintro e1 w3 ⟨rfl, hr3, hk3⟩)
    | (go_at_call 84; (with_reducible refine (HM.out _).mono ?_); rintro e1 w9 ⟨rfl, rfl⟩))
  have H3 := H2.keep hk3 (by omega) (by omega)
  have Z3 := Z2.keep hk3 (by omega) (by omega)
  have HR3 := Lib.hid hr3
  have HK3 := Lib.hid (HK2.out.trans hk3)
  clear hk3 hr3 H2 Z2 HR2 HK2 HC HM
  have HIT := Lib.hid (getItems_any HR3.out hs)
  have c1 : ∀ w4, Keep w3 w4 g g → w4.cell? ⟨g3, 1, none⟩ = some (.slice none 0 0) ∧ w4.frozen? ⟨g3, 1, none⟩ = false := fun w4 hk => ⟨(H3.keep hk (by omega) (by omega)).cell 1, (H3.keep hk (by omega) (by omega)).free 1⟩
  go_upto_region 10 with (go_at_call 86; (with_reducible refine HIT.out.mono ?_); rintro e1 w4 hp; obtain ⟨v, rfl, T4, R4⟩ := hp.ok _ _ hi; have K4 := hp.keep; obtain ⟨al, cl, rfl⟩ := told_shape T4; obtain ⟨d1, d2⟩ := c1 _ K4)
  clear c1 d1 d2 HIT
  have H4 := H3.keep K4 (by omega) (by omega)
  have Z4 := Z3.keep K4 (by omega) (by omega)
  have B5 := (Below.refl w.heap.size w4).setCell (p := ⟨g3, 1, none⟩) (by show w.heap.size ≤ g3; omega) (.slice al L.length cl)
  have H5 : Blk (w4.setCell ⟨g3, 1, none⟩ (.slice al L.length cl)) g3 (recC ⟨0, L, -1, 0, 0⟩ (.slice al L.length cl)) 27 := H4.put 1 _
  have Z5 := Z4.other g3 1 (.slice al L.length cl) (by omega)
  have T5 := told_setCell T4 H4 (noIt_rec _ _) 1 (.slice al L.length cl)
  have HR5 := Lib.hid (R4.belowB B5 hg0)
  have HK5 := Lib.hid ((HK3.out.trans K4).thenB B5)
  clear H3 Z3 HR3 HK3 H4 Z4 T4 R4 K4 B5 hp
  generalize w4.setCell _ _ = W5 at *
  have HNX := Lib.hid (getNext_any HR5.out hs)
  go_wp2_with (go_at_call 87; (with_reducible refine HNX.out.mono ?_); rintro e1 w6 hp; have he := hp.no _ hx; rw [pan_eq] at he; subst he)
  exact ⟨rfl, get_pan HX.out (HK5.out.trans hp.keep)⟩

set_option maxHeartbeats 4000000 in
theorem getc_5_mark {w : World} {g h c : Nat} {s : ByteArray} {p : Nat} (k0 : Rd w g h c s p) (hs : s.size ≤ 1000000) {k q q2 q3 e : Nat} {L : List It} {nl : Int} {nb : Nat} (hk : k = 5) (hn : rdN (bytesN s) p = .ok (k, q)) (hi : rdIs (bytesN s) q = .ok (L, q2)) (hx : rdX (bytesN s) q2 = .ok ((nl, nb), q3)) (hm : rdN (bytesN s) q3 = .error e) :
    Calls Try.prog 46 #[.pointer (some ⟨g, 0, none⟩)] w (GetPost w g h c s (rdR (bytesN s) p)) := by
  have HX : Hid (rdR (bytesN s) p = .error e) := by
    unfold Hid rdR
    rw [hn]
    simp only
    rw [if_neg (by omega), if_pos (by omega), hi]
    simp only
    rw [hx]
    simp only
    rw [rdM, if_pos (by omega), hm]
  have t1 : ((k : Int) == 1) = false := by simp; omega
  have t3 : ((k : Int) == 3) = false := by simp; omega
  have t5 : ((k : Int) == 5) = true := by simp; omega
  generalize rdR (bytesN s) p = X at *
  have hg0 := k0.lt
  have hgh := k0.ne
  have HN := none_open
  have Z0 := Blk.new w (recC zeroR (.slice none 0 0)) 27
  have B0 := (Below.refl w.heap.size w).alloc (Nat.le_refl _) (.cells (recC zeroR (.slice none 0 0)) 27)
  have HR0 := Lib.hid (k0.below B0)
  clear k0
  go_enter Try.func46, Try.ntmps46
  go_upto_region 1 with (fail)
  rw [zero_rec]
  have hsz : w.heap.size < (w.alloc (.cells (recC zeroR (.slice none 0 0)) 27)).heap.size := by simp
  generalize w.alloc _ = W at *
  go_upto_region 2 with (first
    | (go_at_call 49; (with_reducible refine (HN.calls _).mono ?_); rintro e1 w1 ⟨rfl, hb1⟩)
    | (refine p_storeR rfl _ _ rfl w1.heap.size rfl ⟨0, [], -1, 0, 0⟩ (.slice none 0 0) rfl rfl zeroR (.slice none 0 0) (Blk.new _ _ _) ?_))
  have b2 : Below w1.heap.size w1 ((w1.alloc (.cells (recC zeroR (.slice none 0 0)) 27)).setRow w1.heap.size (recC ⟨0, [], -1, 0, 0⟩ (.slice none 0 0))) := bel_setRow ((Below.refl _ _).alloc (Nat.le_refl _) _) (Nat.le_refl _) _
  have H2 : Blk ((w1.alloc (.cells (recC zeroR (.slice none 0 0)) 27)).setRow w1.heap.size (recC ⟨0, [], -1, 0, 0⟩ (.slice none 0 0))) w1.heap.size (recC ⟨0, [], -1, 0, 0⟩ (.slice none 0 0)) 27 := (Blk.new _ _ _).setRow _
  have hgt : w.heap.size < w1.heap.size := by have := hb1.size; omega
  have hb2 := rstep hb1 b2
  have Z2 := Z0.below hb2 Z0.lt
  have HR2 := Lib.hid (HR0.out.below hb2)
  have HK2 := Lib.hid (Keep.of (rstep B0 hb2) g g)
  try rw [zero_rec]
  clear Z0 B0 HR0 hb1 b2 hb2 hsz HN
  generalize (w1.alloc _).setRow _ _ = W2 at *
  generalize w1.heap.size = g3 at *
  have HC := Lib.hid (num_ok HR2.out hs hn)
  have HM := Lib.hid (mustN_ok k)
  clear hn hk
  go_upto_region 3 with (first
    | (go_at_call 85; (with_reducible refine (HC.out).mono ?_); rintro e1 w3 ⟨rfl, hr3, hk3⟩)
    | (go_at_call 84; (with_reducible refine (HM.out _).mono ?_); rintro e1 w9 ⟨rfl, rfl⟩))
  have H3 := H2.keep hk3 (by omega) (by omega)
  have Z3 := Z2.keep hk3 (by omega) (by omega)
  have HR3 := Lib.hid hr3
  have HK3 := Lib.hid (HK2.out.trans hk3)
  clear hk3 hr3 H2 Z2 HR2 HK2 HC HM
  have HIT := Lib.hid (getItems_any HR3.out hs)
  have c1 : ∀ w4, Keep w3 w4 g g → w4.cell? ⟨g3, 1, none⟩ = some (.slice none 0 0) ∧ w4.frozen? ⟨g3, 1, none⟩ = false := fun w4 hk => ⟨(H3.keep hk (by omega) (by omega)).cell 1, (H3.keep hk (by omega) (by omega)).free 1⟩
  go_upto_region 10 with (go_at_call 86; (with_reducible refine HIT.out.mono ?_); rintro e1 w4 hp; obtain ⟨v, rfl, T4, R4⟩ := hp.ok _ _ hi; have K4 := hp.keep; obtain ⟨al, cl, rfl⟩ := told_shape T4; obtain ⟨d1, d2⟩ := c1 _ K4)
  clear c1 d1 d2 HIT
  have H4 := H3.keep K4 (by omega) (by omega)
  have Z4 := Z3.keep K4 (by omega) (by omega)
  have B5 := (Below.refl w.heap.size w4).setCell (p := ⟨g3, 1, none⟩) (by show w.heap.size ≤ g3; omega) (.slice al L.length cl)
  have H5 : Blk (w4.setCell ⟨g3, 1, none⟩ (.slice al L.length cl)) g3 (recC ⟨0, L, -1, 0, 0⟩ (.slice al L.length cl)) 27 := H4.put 1 _
  have Z5 := Z4.other g3 1 (.slice al L.length cl) (by omega)
  have T5 := told_setCell T4 H4 (noIt_rec _ _) 1 (.slice al L.length cl)
  have HR5 := Lib.hid (R4.belowB B5 hg0)
  have HK5 := Lib.hid ((HK3.out.trans K4).thenB B5)
  clear H3 Z3 HR3 HK3 H4 Z4 T4 R4 K4 B5 hp
  generalize w4.setCell _ _ = W5 at *
  have HNX := Lib.hid (getNext_any HR5.out hs)
  go_upto_region 11 with (first
    | (go_at_call 87; (with_reducible refine HNX.out.mono ?_); rintro e1 w6 hp; obtain ⟨rfl, R6⟩ := hp.ok _ _ _ hx; have K6 := hp.keep; have H6 := H5.keep K6 (by omega) (by omega))
    | (refine p_storeMid rfl _ _ rfl g3 rfl nl nb rfl ⟨0, L, -1, 0, 0⟩ (.slice al L.length cl) H6 ?_))
  have Z6 := Z5.keep K6 (by omega) (by omega)
  have B7 := bel_midL (Below.refl w.heap.size w6) (show w.heap.size ≤ g3 by omega) nl nb
  have H7 := blk_midL H6 nl nb
  have Z7 : Blk (w6.setCells g3 2 (labc nl nb).toList) w.heap.size (recC zeroR (.slice none 0 0)) 27 := (Z6.other g3 2 (.int .i64 nl) (by omega)).other g3 3 (.int .u64 (nb : Int)) (by omega)
  have T7 := told_midL (told_keepG T5 HR5.out K6) H6 nl nb
  have R7 := R6.belowB B7 hg0
  have K7 := (HK5.out.trans K6).thenB B7
  clear H5 Z5 T5 HR5 HK5 H6 Z6 R6 K6 B7 hp HNX
  generalize w6.setCells _ _ _ = W7 at *
  obtain ⟨he, v2, hC⟩ := num_no R7 hs hm
  have HC := Lib.hid hC
  have HM := Lib.hid (fun w => mustN_no v2 e he w)
  clear hm hC he T7 Z7 H7 R7
  go_wp2_with (first
    | (go_at_call 85; (with_reducible refine (HC.out).mono ?_); rintro e1 w8 ⟨rfl, hkp⟩)
    | (go_at_call 84; (with_reducible refine (HM.out _).mono ?_); rintro e1 w9 ⟨he, rfl⟩; rw [pan_eq] at he; subst he))
  exact ⟨rfl, get_pan HX.out (K7.trans hkp)⟩

set_option maxHeartbeats 4000000 in
theorem getc_5_ok {w : World} {g h c : Nat} {s : ByteArray} {p : Nat} (k0 : Rd w g h c s p) (hs : s.size ≤ 1000000) {k q q2 q3 q4 m : Nat} {L : List It} {nl : Int} {nb : Nat} (hk : k = 5) (hn : rdN (bytesN s) p = .ok (k, q)) (hi : rdIs (bytesN s) q = .ok (L, q2)) (hx : rdX (bytesN s) q2 = .ok ((nl, nb), q3)) (hm : rdN (bytesN s) q3 = .ok (m, q4)) :
    Calls Try.prog 46 #[.pointer (some ⟨g, 0, none⟩)] w (GetPost w g h c s (rdR (bytesN s) p)) := by
  have HX : Hid (rdR (bytesN s) p = .ok (⟨(k : Int), L, nl, nb, m⟩, q4)) := by
    unfold Hid rdR
    rw [hn]
    simp only
    rw [if_neg (by omega), if_pos (by omega), hi]
    simp only
    rw [hx]
    simp only
    rw [rdM, if_pos (by omega), hm]
  have t1 : ((k : Int) == 1) = false := by simp; omega
  have t3 : ((k : Int) == 3) = false := by simp; omega
  have t5 : ((k : Int) == 5) = true := by simp; omega
  have hcv : IntKind.i64.wrap (k : Int) = (k : Int) := IntWalk.i64_in _ (by omega)
  generalize rdR (bytesN s) p = X at *
  have hg0 := k0.lt
  have hgh := k0.ne
  have HN := none_open
  have Z0 := Blk.new w (recC zeroR (.slice none 0 0)) 27
  have B0 := (Below.refl w.heap.size w).alloc (Nat.le_refl _) (.cells (recC zeroR (.slice none 0 0)) 27)
  have HR0 := Lib.hid (k0.below B0)
  clear k0
  go_enter Try.func46, Try.ntmps46
  go_upto_region 1 with (fail)
  rw [zero_rec]
  have hsz : w.heap.size < (w.alloc (.cells (recC zeroR (.slice none 0 0)) 27)).heap.size := by simp
  generalize w.alloc _ = W at *
  go_upto_region 2 with (first
    | (go_at_call 49; (with_reducible refine (HN.calls _).mono ?_); rintro e1 w1 ⟨rfl, hb1⟩)
    | (refine p_storeR rfl _ _ rfl w1.heap.size rfl ⟨0, [], -1, 0, 0⟩ (.slice none 0 0) rfl rfl zeroR (.slice none 0 0) (Blk.new _ _ _) ?_))
  have b2 : Below w1.heap.size w1 ((w1.alloc (.cells (recC zeroR (.slice none 0 0)) 27)).setRow w1.heap.size (recC ⟨0, [], -1, 0, 0⟩ (.slice none 0 0))) := bel_setRow ((Below.refl _ _).alloc (Nat.le_refl _) _) (Nat.le_refl _) _
  have H2 : Blk ((w1.alloc (.cells (recC zeroR (.slice none 0 0)) 27)).setRow w1.heap.size (recC ⟨0, [], -1, 0, 0⟩ (.slice none 0 0))) w1.heap.size (recC ⟨0, [], -1, 0, 0⟩ (.slice none 0 0)) 27 := (Blk.new _ _ _).setRow _
  have hgt : w.heap.size < w1.heap.size := by have := hb1.size; omega
  have hb2 := rstep hb1 b2
  have Z2 := Z0.below hb2 Z0.lt
  have HR2 := Lib.hid (HR0.out.below hb2)
  have HK2 := Lib.hid (Keep.of (rstep B0 hb2) g g)
  try rw [zero_rec]
  clear Z0 B0 HR0 hb1 b2 hb2 hsz HN
  generalize (w1.alloc _).setRow _ _ = W2 at *
  generalize w1.heap.size = g3 at *
  have HC := Lib.hid (num_ok HR2.out hs hn)
  have HM := Lib.hid (mustN_ok k)
  clear hn hk
  go_upto_region 3 with (first
    | (go_at_call 85; (with_reducible refine (HC.out).mono ?_); rintro e1 w3 ⟨rfl, hr3, hk3⟩)
    | (go_at_call 84; (with_reducible refine (HM.out _).mono ?_); rintro e1 w9 ⟨rfl, rfl⟩))
  have H3 := H2.keep hk3 (by omega) (by omega)
  have Z3 := Z2.keep hk3 (by omega) (by omega)
  have HR3 := Lib.hid hr3
  have HK3 := Lib.hid (HK2.out.trans hk3)
  clear hk3 hr3 H2 Z2 HR2 HK2 HC HM
  have HIT := Lib.hid (getItems_any HR3.out hs)
  have c1 : ∀ w4, Keep w3 w4 g g → w4.cell? ⟨g3, 1, none⟩ = some (.slice none 0 0) ∧ w4.frozen? ⟨g3, 1, none⟩ = false := fun w4 hk => ⟨(H3.keep hk (by omega) (by omega)).cell 1, (H3.keep hk (by omega) (by omega)).free 1⟩
  go_upto_region 10 with (go_at_call 86; (with_reducible refine HIT.out.mono ?_); rintro e1 w4 hp; obtain ⟨v, rfl, T4, R4⟩ := hp.ok _ _ hi; have K4 := hp.keep; obtain ⟨al, cl, rfl⟩ := told_shape T4; obtain ⟨d1, d2⟩ := c1 _ K4)
  clear c1 d1 d2 HIT
  have H4 := H3.keep K4 (by omega) (by omega)
  have Z4 := Z3.keep K4 (by omega) (by omega)
  have B5 := (Below.refl w.heap.size w4).setCell (p := ⟨g3, 1, none⟩) (by show w.heap.size ≤ g3; omega) (.slice al L.length cl)
  have H5 : Blk (w4.setCell ⟨g3, 1, none⟩ (.slice al L.length cl)) g3 (recC ⟨0, L, -1, 0, 0⟩ (.slice al L.length cl)) 27 := H4.put 1 _
  have Z5 := Z4.other g3 1 (.slice al L.length cl) (by omega)
  have T5 := told_setCell T4 H4 (noIt_rec _ _) 1 (.slice al L.length cl)
  have HR5 := Lib.hid (R4.belowB B5 hg0)
  have HK5 := Lib.hid ((HK3.out.trans K4).thenB B5)
  clear H3 Z3 HR3 HK3 H4 Z4 T4 R4 K4 B5 hp
  generalize w4.setCell _ _ = W5 at *
  have HNX := Lib.hid (getNext_any HR5.out hs)
  go_upto_region 11 with (first
    | (go_at_call 87; (with_reducible refine HNX.out.mono ?_); rintro e1 w6 hp; obtain ⟨rfl, R6⟩ := hp.ok _ _ _ hx; have K6 := hp.keep; have H6 := H5.keep K6 (by omega) (by omega))
    | (refine p_storeMid rfl _ _ rfl g3 rfl nl nb rfl ⟨0, L, -1, 0, 0⟩ (.slice al L.length cl) H6 ?_))
  have Z6 := Z5.keep K6 (by omega) (by omega)
  have B7 := bel_midL (Below.refl w.heap.size w6) (show w.heap.size ≤ g3 by omega) nl nb
  have H7 := blk_midL H6 nl nb
  have Z7 : Blk (w6.setCells g3 2 (labc nl nb).toList) w.heap.size (recC zeroR (.slice none 0 0)) 27 := (Z6.other g3 2 (.int .i64 nl) (by omega)).other g3 3 (.int .u64 (nb : Int)) (by omega)
  have T7 := told_midL (told_keepG T5 HR5.out K6) H6 nl nb
  have R7 := R6.belowB B7 hg0
  have K7 := (HK5.out.trans K6).thenB B7
  clear H5 Z5 T5 HR5 HK5 H6 Z6 R6 K6 B7 hp HNX
  generalize w6.setCells _ _ _ = W7 at *
  have HC := Lib.hid (num_ok R7 hs hm)
  have HM := Lib.hid (mustN_ok m)
  have c4 : ∀ w8, Keep W7 w8 g g → w8.cell? ⟨g3, 4, none⟩ = some (.int .u64 0) ∧ w8.frozen? ⟨g3, 4, none⟩ = false := fun w8 hk => ⟨(H7.keep hk (by omega) (by omega)).cell 4, (H7.keep hk (by omega) (by omega)).free 4⟩
  go_upto_region 13 with (first
    | (go_at_call 85; (with_reducible refine HC.out.mono ?_); rintro e1 w8 ⟨rfl, R8, K8⟩; obtain ⟨d1, d2⟩ := c4 _ K8)
    | (go_at_call 84; (with_reducible refine (HM.out _).mono ?_); rintro e1 w9 ⟨rfl, rfl⟩))
  clear c4 d1 d2
  have H8 := H7.keep K8 (by omega) (by omega)
  have Z8 := Z7.keep K8 (by omega) (by omega)
  have T8 := told_keepG T7 R7 K8
  have B9 := (Below.refl w.heap.size w8).setCell (p := ⟨g3, 4, none⟩) (by show w.heap.size ≤ g3; omega) (.int .u64 (m : Int))
  have H9 : Blk (w8.setCell ⟨g3, 4, none⟩ (.int .u64 (m : Int))) g3 (recC ⟨0, L, nl, nb, m⟩ (.slice al L.length cl)) 27 := H8.put 4 _
  have Z9 := Z8.other g3 4 (.int .u64 (m : Int)) (by omega)
  have T9 := told_setCell T8 H8 (noIt_rec _ _) 4 (.int .u64 (m : Int))
  have R9 := R8.belowB B9 hg0
  have K9 := (K7.trans K8).thenB B9
  clear H7 Z7 T7 R7 K7 H8 Z8 T8 R8 K8 B9 HC HM
  generalize w8.setCell _ _ = W9 at *
  have HKF := Lib.hid (K9.thenB ((Below.refl w.heap.size W9).setCell (p := ⟨g3, 0, none⟩) (by show w.heap.size ≤ g3; omega) (.int .i64 (k : Int))))
  have HRF := Lib.hid (R9.belowB ((Below.refl w.heap.size W9).setCell (p := ⟨g3, 0, none⟩) (by show w.heap.size ≤ g3; omega) (.int .i64 (k : Int))) hg0)
  have HF : Blk (W9.setCell ⟨g3, 0, none⟩ (.int .i64 (k : Int))) g3 (recC ⟨(k : Int), L, nl, nb, m⟩ (.slice al L.length cl)) 27 := H9.put 0 _
  have ZF := Z9.other g3 0 (.int .i64 (k : Int)) (by omega)
  have TF := told_setCell T9 H9 (noIt_rec _ _) 0 (.int .i64 (k : Int))
  have c0 : W9.cell? ⟨g3, 0, none⟩ = some (.int .i64 0) := H9.cell 0
  have f0 : W9.frozen? ⟨g3, 0, none⟩ = false := H9.free 0
  go_upto_region 14 with (fail)
  clear c0 f0 K9 R9 H9 Z9 T9
  generalize W9.setCell _ _ = WF at *
  go_wp2_with (first
    | (refine p_loadR rfl _ rfl g3 rfl ⟨(k : Int), L, nl, nb, m⟩ (.slice al L.length cl) HF ?_)
    | (refine p_storeR rfl _ _ rfl w.heap.size rfl ⟨(k : Int), L, nl, nb, m⟩ (.slice al L.length cl) rfl rfl zeroR (.slice none 0 0) ZF ?_))
  exact bodyPost_ret (results_rec1 Try.results46 _ _ w.heap.size _ _ rfl (ZF.setRow _)) rfl (get_got HX.out (told_setRow TF ZF (noIt_rec _ _) _) (HRF.out.belowB (bel_setRow (Below.refl w.heap.size WF) (Nat.le_refl _) _) hg0) (HKF.out.thenB (bel_setRow (Below.refl w.heap.size WF) (Nat.le_refl _) _)))
end Go.Proofs.Ytkicndengkcojaa
