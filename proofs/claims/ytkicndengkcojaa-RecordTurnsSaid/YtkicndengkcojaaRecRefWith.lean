/- The document's With and Without. -/
import Derived.Test.YtkicndengkcojaaRecOf
import Derived.Test.YtkicndengkcojaaRecRef2
import Derived.Test.YtkicndengkcojaaRecWithout
namespace Go.Proofs.Ytkicndengkcojaa
set_option maxRecDepth 100000
open Go Go.RowKit Go.Sort

set_option maxHeartbeats 2000000 in
theorem refwith_arg {r : Rc} {u : Value} {w : World} (hT : Told w u r.items) (hW : r.Wf) (k : Nat) (s : ByteArray) (hr : isR r = false) :
    Calls Try.prog 20 #[.agg (recC r u), .int .u64 (k : Int), .string s] w fun e w' => e = .returned (.tuple #[.agg (recC zeroR (.slice none 0 0)), .int .i64 1]) ∧ Below w.heap.size w w' := by
  obtain ⟨a, c, rfl⟩ := told_shape hT
  have A0 := (Blk.new w (recC r (.slice a r.items.length c)) 27).alloc (.cells (recC zeroR (.slice none 0 0)) 27)
  have Z0 := Blk.new (w.alloc (.cells (recC r (.slice a r.items.length c)) 27)) (recC zeroR (.slice none 0 0)) 27
  rw [World.size_alloc] at Z0
  have B0 := ((Below.refl w.heap.size w).alloc (Nat.le_refl _) (.cells (recC r (.slice a r.items.length c)) 27)).alloc (by simp) (.cells (recC zeroR (.slice none 0 0)) 27)
  have T0 := hT.bel B0
  clear hT
  obtain ⟨V, hV⟩ : ∃ V, V = (w.alloc (.cells (recC r (.slice a r.items.length c)) 27)).alloc (.cells (recC zeroR (.slice none 0 0)) 27) := ⟨_, rfl⟩
  rw [← hV] at A0 Z0 B0 T0
  have HI := Lib.hid (refis_any T0 hW)
  rw [hr] at HI
  clear hW hr T0
  go_enter Try.func20, Try.ntmps20
  go_upto_region 1 with (fail)
  rw [zero_rec, ← hV]
  clear hV
  go_upto_region 2 with (first
    | (refine p_loadR rfl _ rfl w.heap.size rfl r (.slice a r.items.length c) A0 ?_)
    | (go_at_call 16; (with_reducible refine HI.out.mono ?_); rintro e w1 ⟨rfl, hb1⟩))
  have Z1 := Z0.below hb1 Z0.lt
  have B1 := rstep B0 hb1
  clear A0 Z0 B0 hb1 HI
  go_wp2_with (refine p_storeR rfl _ _ rfl (w.heap.size + 1) rfl zeroR (.slice none 0 0) rfl rfl zeroR (.slice none 0 0) Z1 ?_)
  exact bodyPost_ret (results_rec2 Try.results20 _ _ (w.heap.size + 1) _ _ _ rfl rfl (Z1.setRow _)) rfl ⟨rfl, bel_setRow B1 (by omega) _⟩
set_option maxHeartbeats 2000000 in
theorem refwith_kind {r : Rc} {u : Value} {w : World} (hT : Told w u r.items) (hW : r.Wf) (k : Nat) (s : ByteArray) (hr : isR r = true) (hk : r.kind ≠ 1) :
    Calls Try.prog 20 #[.agg (recC r u), .int .u64 (k : Int), .string s] w fun e w' => e = .returned (.tuple #[.agg (recC zeroR (.slice none 0 0)), .int .i64 13]) ∧ Below w.heap.size w w' := by
  obtain ⟨a, c, rfl⟩ := told_shape hT
  have A0 := (Blk.new w (recC r (.slice a r.items.length c)) 27).alloc (.cells (recC zeroR (.slice none 0 0)) 27)
  have Z0 := Blk.new (w.alloc (.cells (recC r (.slice a r.items.length c)) 27)) (recC zeroR (.slice none 0 0)) 27
  rw [World.size_alloc] at Z0
  have B0 := ((Below.refl w.heap.size w).alloc (Nat.le_refl _) (.cells (recC r (.slice a r.items.length c)) 27)).alloc (by simp) (.cells (recC zeroR (.slice none 0 0)) 27)
  have T0 := hT.bel B0
  clear hT
  obtain ⟨V, hV⟩ : ∃ V, V = (w.alloc (.cells (recC r (.slice a r.items.length c)) 27)).alloc (.cells (recC zeroR (.slice none 0 0)) 27) := ⟨_, rfl⟩
  rw [← hV] at A0 Z0 B0 T0
  have HI := Lib.hid (refis_any T0 hW)
  rw [hr] at HI
  have hd : (r.kind != 1) = true := by simp; omega
  clear hW hr hk
  go_enter Try.func20, Try.ntmps20
  go_upto_region 1 with (fail)
  rw [zero_rec, ← hV]
  clear hV
  go_upto_region 3 with (first
    | (refine p_loadR rfl _ rfl w.heap.size rfl r (.slice a r.items.length c) A0 ?_)
    | (go_at_call 16; (with_reducible refine HI.out.mono ?_); rintro e w1 ⟨rfl, hb1⟩))
  have A1 := A0.below hb1 A0.lt
  have Z1 := Z0.below hb1 Z0.lt
  have B1 := rstep B0 hb1
  have T1 := T0.bel hb1
  clear A0 Z0 B0 T0 hb1 HI
  have c0 : w1.cell? ⟨w.heap.size, 0, none⟩ = some (.int .i64 r.kind) := A1.cell 0
  clear T1 A1
  go_wp2_with (refine p_storeR rfl _ _ rfl (w.heap.size + 1) rfl zeroR (.slice none 0 0) rfl rfl zeroR (.slice none 0 0) Z1 ?_)
  exact bodyPost_ret (results_rec2 Try.results20 _ _ (w.heap.size + 1) _ _ _ rfl rfl (Z1.setRow _)) rfl ⟨rfl, bel_setRow B1 (by omega) _⟩
set_option maxHeartbeats 2000000 in
theorem refwith_long {r : Rc} {u : Value} {w : World} (hT : Told w u r.items) (hW : r.Wf) (k : Nat) (s : ByteArray) (hr : isR r = true) (hk : r.kind = 1) (hs : 64 < s.size) :
    Calls Try.prog 20 #[.agg (recC r u), .int .u64 (k : Int), .string s] w fun e w' => e = .returned (.tuple #[.agg (recC zeroR (.slice none 0 0)), .int .i64 2]) ∧ Below w.heap.size w w' := by
  obtain ⟨a, c, rfl⟩ := told_shape hT
  have A0 := (Blk.new w (recC r (.slice a r.items.length c)) 27).alloc (.cells (recC zeroR (.slice none 0 0)) 27)
  have Z0 := Blk.new (w.alloc (.cells (recC r (.slice a r.items.length c)) 27)) (recC zeroR (.slice none 0 0)) 27
  rw [World.size_alloc] at Z0
  have B0 := ((Below.refl w.heap.size w).alloc (Nat.le_refl _) (.cells (recC r (.slice a r.items.length c)) 27)).alloc (by simp) (.cells (recC zeroR (.slice none 0 0)) 27)
  have T0 := hT.bel B0
  clear hT
  obtain ⟨V, hV⟩ : ∃ V, V = (w.alloc (.cells (recC r (.slice a r.items.length c)) 27)).alloc (.cells (recC zeroR (.slice none 0 0)) 27) := ⟨_, rfl⟩
  rw [← hV] at A0 Z0 B0 T0
  have HI := Lib.hid (refis_any T0 hW)
  rw [hr] at HI
  have hc : (64 : Int) < (s.size : Int) := by omega
  clear hW hr hs
  go_enter Try.func20, Try.ntmps20
  go_upto_region 1 with (fail)
  rw [zero_rec, ← hV]
  clear hV
  go_upto_region 3 with (first
    | (refine p_loadR rfl _ rfl w.heap.size rfl r (.slice a r.items.length c) A0 ?_)
    | (go_at_call 16; (with_reducible refine HI.out.mono ?_); rintro e w1 ⟨rfl, hb1⟩))
  have A1 := A0.below hb1 A0.lt
  have Z1 := Z0.below hb1 Z0.lt
  have B1 := rstep B0 hb1
  have T1 := T0.bel hb1
  clear A0 Z0 B0 T0 hb1 HI
  have c0 : w1.cell? ⟨w.heap.size, 0, none⟩ = some (.int .i64 r.kind) := A1.cell 0
  rw [hk] at c0
  clear T1 A1 hk
  go_wp2_with (refine p_storeR rfl _ _ rfl (w.heap.size + 1) rfl zeroR (.slice none 0 0) rfl rfl zeroR (.slice none 0 0) Z1 ?_)
  exact bodyPost_ret (results_rec2 Try.results20 _ _ (w.heap.size + 1) _ _ _ rfl rfl (Z1.setRow _)) rfl ⟨rfl, bel_setRow B1 (by omega) _⟩
set_option maxHeartbeats 2000000 in
theorem refwith_full {r : Rc} {u : Value} {w : World} (hT : Told w u r.items) (hW : r.Wf) (k : Nat) (s : ByteArray) (hkk : k < 18446744073709551616) (hr : isR r = true) (hk : r.kind = 1) (hs2 : s.size ≤ 64) (hf : 16 < (putL r.items k s).length) :
    Calls Try.prog 20 #[.agg (recC r u), .int .u64 (k : Int), .string s] w fun e w' => e = .returned (.tuple #[.agg (recC zeroR (.slice none 0 0)), .int .i64 12]) ∧ Below w.heap.size w w' := by
  obtain ⟨a, c, rfl⟩ := told_shape hT
  have A0 := (Blk.new w (recC r (.slice a r.items.length c)) 27).alloc (.cells (recC zeroR (.slice none 0 0)) 27)
  have Z0 := Blk.new (w.alloc (.cells (recC r (.slice a r.items.length c)) 27)) (recC zeroR (.slice none 0 0)) 27
  rw [World.size_alloc] at Z0
  have B0 := ((Below.refl w.heap.size w).alloc (Nat.le_refl _) (.cells (recC r (.slice a r.items.length c)) 27)).alloc (by simp) (.cells (recC zeroR (.slice none 0 0)) 27)
  have T0 := hT.bel B0
  clear hT
  obtain ⟨V, hV⟩ : ∃ V, V = (w.alloc (.cells (recC r (.slice a r.items.length c)) 27)).alloc (.cells (recC zeroR (.slice none 0 0)) 27) := ⟨_, rfl⟩
  rw [← hV] at A0 Z0 B0 T0
  have HI := Lib.hid (refis_any T0 hW)
  rw [hr] at HI
  have hc : ¬ (64 : Int) < (s.size : Int) := by omega
  have hR := isR_iff.1 hr
  have hfill := fill_sorted hR.sorted hR.short
  have hkey := hW.key
  have hlen := hR.len
  have hl2 : r.items.length + 1 ≤ 1000000 := by omega
  clear hW hr hR
  go_enter Try.func20, Try.ntmps20
  go_upto_region 1 with (fail)
  rw [zero_rec, ← hV]
  clear hV
  go_upto_region 3 with (first
    | (refine p_loadR rfl _ rfl w.heap.size rfl r (.slice a r.items.length c) A0 ?_)
    | (go_at_call 16; (with_reducible refine HI.out.mono ?_); rintro e w1 ⟨rfl, hb1⟩))
  have A1 := A0.below hb1 A0.lt
  have Z1 := Z0.below hb1 Z0.lt
  have B1 := rstep B0 hb1
  have T1 := T0.bel hb1
  clear A0 Z0 B0 T0 hb1 HI
  have c0 : w1.cell? ⟨w.heap.size, 0, none⟩ = some (.int .i64 r.kind) := A1.cell 0
  rw [hk] at c0
  clear hk
  have c1 : w1.cell? ⟨w.heap.size, 1, none⟩ = some (.slice a r.items.length c) := A1.cell 1
  have HO := Lib.hid (of_any T1 hkey (by omega))
  rw [hfill] at HO
  clear T1 hfill hlen hkey
  have hz1 := Z1.lt
  go_upto_region 8 with (go_at_call 58; (with_reducible refine HO.out.mono ?_); rintro e w2 ⟨rfl, hH⟩)
  have HP := Lib.hid (rhas_put hH k s hs2 hl2 hkk)
  clear HO c0 c1 hs2 hl2 hkk hH
  generalize valL r.items k = pv at *
  generalize hasL r.items k = ph at *
  go_upto_region 9 with (go_at_call 59; (with_reducible refine HP.out.mono ?_); rintro e w3 ⟨rfl, hH⟩)
  clear HP
  have b3 := hH.below
  obtain ⟨u3, e3, T3⟩ := hH.told
  obtain ⟨a3, k3, rfl⟩ := told_shape T3
  have A3 := A1.below b3 A1.lt
  have Z3 := Z1.below b3 Z1.lt
  have B3 := rstep B1 b3
  clear hH b3 A1 Z1 B1
  generalize w1.heap.size = gm at *
  have hd : (16 : Int) < ((putL r.items k s).length : Int) := by omega
  generalize putL r.items k s = K at *
  clear A3 T3 hf
  go_wp2_with (refine p_storeR rfl _ _ rfl (w.heap.size + 1) rfl zeroR (.slice none 0 0) rfl rfl zeroR (.slice none 0 0) Z3 ?_)
  exact bodyPost_ret (results_rec2 Try.results20 _ _ (w.heap.size + 1) _ _ _ rfl rfl (Z3.setRow _)) rfl ⟨rfl, bel_setRow B3 (by omega) _⟩
set_option maxHeartbeats 2000000 in
theorem refwith_ok {r : Rc} {u : Value} {w : World} (hT : Told w u r.items) (hW : r.Wf) (k : Nat) (s : ByteArray) (hkk : k < 18446744073709551616) (hr : isR r = true) (hk : r.kind = 1) (hs2 : s.size ≤ 64) (hf : (putL r.items k s).length ≤ 16) :
    Calls Try.prog 20 #[.agg (recC r u), .int .u64 (k : Int), .string s] w (TellsR w ⟨1, putL r.items k s, r.nl, r.nb, 0⟩ 0) := by
  obtain ⟨a, c, rfl⟩ := told_shape hT
  have A0 := (Blk.new w (recC r (.slice a r.items.length c)) 27).alloc (.cells (recC zeroR (.slice none 0 0)) 27)
  have Z0 := Blk.new (w.alloc (.cells (recC r (.slice a r.items.length c)) 27)) (recC zeroR (.slice none 0 0)) 27
  rw [World.size_alloc] at Z0
  have B0 := ((Below.refl w.heap.size w).alloc (Nat.le_refl _) (.cells (recC r (.slice a r.items.length c)) 27)).alloc (by simp) (.cells (recC zeroR (.slice none 0 0)) 27)
  have T0 := hT.bel B0
  clear hT
  obtain ⟨V, hV⟩ : ∃ V, V = (w.alloc (.cells (recC r (.slice a r.items.length c)) 27)).alloc (.cells (recC zeroR (.slice none 0 0)) 27) := ⟨_, rfl⟩
  rw [← hV] at A0 Z0 B0 T0
  have HI := Lib.hid (refis_any T0 hW)
  rw [hr] at HI
  have hc : ¬ (64 : Int) < (s.size : Int) := by omega
  have hR := isR_iff.1 hr
  have hfill := fill_sorted hR.sorted hR.short
  have hkey := hW.key
  have hlen := hR.len
  have hl2 : r.items.length + 1 ≤ 1000000 := by omega
  clear hW hr hR
  go_enter Try.func20, Try.ntmps20
  go_upto_region 1 with (fail)
  rw [zero_rec, ← hV]
  clear hV
  go_upto_region 3 with (first
    | (refine p_loadR rfl _ rfl w.heap.size rfl r (.slice a r.items.length c) A0 ?_)
    | (go_at_call 16; (with_reducible refine HI.out.mono ?_); rintro e w1 ⟨rfl, hb1⟩))
  have A1 := A0.below hb1 A0.lt
  have Z1 := Z0.below hb1 Z0.lt
  have B1 := rstep B0 hb1
  have T1 := T0.bel hb1
  clear A0 Z0 B0 T0 hb1 HI
  have c0 : w1.cell? ⟨w.heap.size, 0, none⟩ = some (.int .i64 r.kind) := A1.cell 0
  rw [hk] at c0
  clear hk
  have c1 : w1.cell? ⟨w.heap.size, 1, none⟩ = some (.slice a r.items.length c) := A1.cell 1
  have HO := Lib.hid (of_any T1 hkey (by omega))
  rw [hfill] at HO
  clear T1 hfill hlen hkey
  have hz1 := Z1.lt
  go_upto_region 8 with (go_at_call 58; (with_reducible refine HO.out.mono ?_); rintro e w2 ⟨rfl, hH⟩)
  have HP := Lib.hid (rhas_put hH k s hs2 hl2 hkk)
  clear HO c0 c1 hs2 hl2 hkk hH
  generalize valL r.items k = pv at *
  generalize hasL r.items k = ph at *
  go_upto_region 9 with (go_at_call 59; (with_reducible refine HP.out.mono ?_); rintro e w3 ⟨rfl, hH⟩)
  clear HP
  have b3 := hH.below
  obtain ⟨u3, e3, T3⟩ := hH.told
  obtain ⟨a3, k3, rfl⟩ := told_shape T3
  have A3 := A1.below b3 A1.lt
  have Z3 := Z1.below b3 Z1.lt
  have B3 := rstep B1 b3
  clear hH b3 A1 Z1 B1
  generalize w1.heap.size = gm at *
  have hd : ¬ (16 : Int) < ((putL r.items k s).length : Int) := by omega
  generalize putL r.items k s = K at *
  go_upto_region 11 with (fail)
  have l2 : w3.cell? ⟨w.heap.size, 2, none⟩ = some (.int .i64 r.nl) := A3.cell 2
  have l3 : w3.cell? ⟨w.heap.size, 3, none⟩ = some (.int .u64 (r.nb : Int)) := A3.cell 3
  refine wp_region_tail0 7 (by kernel_rfl) (by kernel_rfl) (fun _ _ _ _ _ h => h) ?_
  simp only [List.take_succ_cons, List.take_zero, List.drop_succ_cons, List.drop_zero]
  repeat still_step
  refine wpStill_nil ?_
  have T4 := T3.bel (drew_bel w3)
  have Z4 := Z3.below (drew_bel w3) Z3.lt
  have B4 := rstep B3 (drew_bel w3)
  clear l2 l3 A3 T3 Z3 B3 e3
  generalize w3.drew = w4 at *
  go_wp2_with (refine p_storeR rfl _ _ rfl (w.heap.size + 1) rfl ⟨1, K, r.nl, r.nb, 0⟩ (.slice a3 K.length k3) rfl rfl zeroR (.slice none 0 0) Z4 ?_)
  exact bodyPost_ret (results_rec2 Try.results20 _ _ (w.heap.size + 1) _ _ _ rfl rfl (Z4.setRow _)) rfl ⟨_, rfl, told_setRow T4 Z4 (noIt_rec _ _) _, bel_setRow B4 (by omega) _⟩
/-- the document's With -/
theorem refwith_any {r : Rc} {u : Value} {w : World} (hT : Told w u r.items) (hW : r.Wf) (k : Nat) (hk8 : k < 18446744073709551616) (s : ByteArray) :
    Calls Try.prog 20 #[.agg (recC r u), .int .u64 (k : Int), .string s] w (TellsR w (withV r k s) (withE r k s)) := by
  have no : ∀ n : Nat, n ≠ 0 → withE r k s = n → (Calls Try.prog 20 #[.agg (recC r u), .int .u64 (k : Int), .string s] w fun e w' => e = .returned (.tuple #[.agg (recC zeroR (.slice none 0 0)), .int .i64 (n : Int)]) ∧ Below w.heap.size w w') →
      Calls Try.prog 20 #[.agg (recC r u), .int .u64 (k : Int), .string s] w (TellsR w (withV r k s) (withE r k s)) := by
    intro n h0 hE h
    have hV : withV r k s = zeroR := by unfold withV; rw [hE, if_neg h0]
    rw [hE, hV]
    refine h.mono ?_
    rintro e w' ⟨he, hb⟩
    exact ⟨_, he, told_nil _, hb⟩
  cases hr : isR r
  · exact no 1 (by decide) (by simp [withE, hr]) (refwith_arg hT hW k s hr)
  · by_cases hk1 : r.kind = 1
    · by_cases hs : 64 < s.size
      · exact no 2 (by decide) (by simp [withE, hr, hs, hk1]) (refwith_long hT hW k s hr hk1 hs)
      · by_cases hf : 16 < (putL r.items k s).length
        · exact no 12 (by decide) (by simp [withE, hr, hs, hf, hk1]) (refwith_full hT hW k s hk8 hr hk1 (by omega) hf)
        · have hE : withE r k s = 0 := by simp [withE, hr, hs, hf, hk1]
          have hm := (isR_iff.1 hr).mark (by omega)
          have hV : withV r k s = ⟨1, putL r.items k s, r.nl, r.nb, 0⟩ := by unfold withV; rw [hE, if_pos rfl, hm]
          rw [hE, hV]
          exact refwith_ok hT hW k s hk8 hr hk1 (by omega) (by omega)
    · exact no 13 (by decide) (by simp [withE, hr, hk1]) (refwith_kind hT hW k s hr hk1)

set_option maxHeartbeats 2000000 in
theorem refout_a {r : Rc} {u : Value} {w : World} (hT : Told w u r.items) (hW : r.Wf) (hl : r.items.length ≤ 1000000) (k : Nat) (hh : hasL r.items k = true) (hr : isR r = false) :
    Calls Try.prog 22 #[.agg (recC r u), .int .u64 (k : Int)] w (TellsB w r false) := by
  obtain ⟨a, c, rfl⟩ := told_shape hT
  have A0 := (Blk.new w (recC r (.slice a r.items.length c)) 27).alloc (.cells (recC zeroR (.slice none 0 0)) 27)
  have Z0 := Blk.new (w.alloc (.cells (recC r (.slice a r.items.length c)) 27)) (recC zeroR (.slice none 0 0)) 27
  rw [World.size_alloc] at Z0
  have B0 := ((Below.refl w.heap.size w).alloc (Nat.le_refl _) (.cells (recC r (.slice a r.items.length c)) 27)).alloc (by simp) (.cells (recC zeroR (.slice none 0 0)) 27)
  have T0 := hT.bel B0
  clear hT
  obtain ⟨V, hV⟩ : ∃ V, V = (w.alloc (.cells (recC r (.slice a r.items.length c)) 27)).alloc (.cells (recC zeroR (.slice none 0 0)) 27) := ⟨_, rfl⟩
  rw [← hV] at A0 Z0 B0 T0
  have HIS : Hid (∀ w1, Below V.heap.size V w1 → Calls Try.prog 16 #[.agg (recC r (.slice a r.items.length c))] w1 fun e w' => e = .returned (.bool false) ∧ Below w1.heap.size w1 w') := by
    intro w1 hb
    have h := refis_any (T0.bel hb) hW
    rw [hr] at h
    exact h
  have HF := Lib.hid (reffind_any T0 hl k)
  rw [hh] at HF
  clear hW hr hh hl
  generalize valL r.items k = pv at *
  go_enter Try.func22, Try.ntmps22
  go_upto_region 1 with (fail)
  rw [zero_rec, ← hV]
  clear hV
  go_upto_region 2 with (first
    | (refine p_loadR rfl _ rfl w.heap.size rfl r (.slice a r.items.length c) A0 ?_)
    | (go_at_call 24; (with_reducible refine HF.out.mono ?_); rintro e w1 ⟨rfl, hb1⟩))
  have A1 := A0.below hb1 A0.lt
  have Z1 := Z0.below hb1 Z0.lt
  have B1 := rstep B0 hb1
  have T1 := T0.bel hb1
  have HI := Lib.hid (HIS.out w1 hb1)
  clear A0 Z0 B0 T0 hb1 HF HIS
  go_upto_region 3 with (first
    | (go_guarded; with_reducible (show wpList _ _ _ _ _ _))
    | (refine p_loadR rfl _ rfl w.heap.size rfl r (.slice a r.items.length c) A1 ?_)
    | (go_at_call 16; (with_reducible refine HI.out.mono ?_); rintro e w2 ⟨rfl, hb2⟩))
  have A2 := A1.below hb2 A1.lt
  have Z2 := Z1.below hb2 Z1.lt
  have B2 := rstep B1 hb2
  have T2 := T1.bel hb2
  clear A1 Z1 B1 T1 hb2 HI
  go_wp2_with (first
    | (refine p_loadR rfl _ rfl w.heap.size rfl r (.slice a r.items.length c) A2 ?_)
    | (refine p_storeR rfl _ _ rfl (w.heap.size + 1) rfl r (.slice a r.items.length c) rfl rfl zeroR (.slice none 0 0) Z2 ?_))
  exact bodyPost_ret (results_rec2 Try.results22 _ _ (w.heap.size + 1) _ _ _ rfl rfl (Z2.setRow _)) rfl ⟨_, rfl, told_setRow T2 Z2 (noIt_rec _ _) _, bel_setRow B2 (by omega) _⟩
set_option maxHeartbeats 2000000 in
theorem refout_b {r : Rc} {u : Value} {w : World} (hT : Told w u r.items) (hW : r.Wf) (hl : r.items.length ≤ 1000000) (k : Nat) (hh : hasL r.items k = false) (hr : isR r = false) :
    Calls Try.prog 22 #[.agg (recC r u), .int .u64 (k : Int)] w (TellsB w r false) := by
  obtain ⟨a, c, rfl⟩ := told_shape hT
  have A0 := (Blk.new w (recC r (.slice a r.items.length c)) 27).alloc (.cells (recC zeroR (.slice none 0 0)) 27)
  have Z0 := Blk.new (w.alloc (.cells (recC r (.slice a r.items.length c)) 27)) (recC zeroR (.slice none 0 0)) 27
  rw [World.size_alloc] at Z0
  have B0 := ((Below.refl w.heap.size w).alloc (Nat.le_refl _) (.cells (recC r (.slice a r.items.length c)) 27)).alloc (by simp) (.cells (recC zeroR (.slice none 0 0)) 27)
  have T0 := hT.bel B0
  clear hT
  obtain ⟨V, hV⟩ : ∃ V, V = (w.alloc (.cells (recC r (.slice a r.items.length c)) 27)).alloc (.cells (recC zeroR (.slice none 0 0)) 27) := ⟨_, rfl⟩
  rw [← hV] at A0 Z0 B0 T0
  have HIS : Hid (∀ w1, Below V.heap.size V w1 → Calls Try.prog 16 #[.agg (recC r (.slice a r.items.length c))] w1 fun e w' => e = .returned (.bool false) ∧ Below w1.heap.size w1 w') := by
    intro w1 hb
    have h := refis_any (T0.bel hb) hW
    rw [hr] at h
    exact h
  have HF := Lib.hid (reffind_any T0 hl k)
  rw [hh] at HF
  clear hW hr hh hl
  generalize valL r.items k = pv at *
  go_enter Try.func22, Try.ntmps22
  go_upto_region 1 with (fail)
  rw [zero_rec, ← hV]
  clear hV
  go_upto_region 2 with (first
    | (refine p_loadR rfl _ rfl w.heap.size rfl r (.slice a r.items.length c) A0 ?_)
    | (go_at_call 24; (with_reducible refine HF.out.mono ?_); rintro e w1 ⟨rfl, hb1⟩))
  have A1 := A0.below hb1 A0.lt
  have Z1 := Z0.below hb1 Z0.lt
  have B1 := rstep B0 hb1
  have T1 := T0.bel hb1
  have HI := Lib.hid (HIS.out w1 hb1)
  clear A0 Z0 B0 T0 hb1 HF HIS
  go_upto_region 3 with (first
    | (go_guarded; with_reducible (show wpList _ _ _ _ _ _))
    | (refine p_loadR rfl _ rfl w.heap.size rfl r (.slice a r.items.length c) A1 ?_)
    | (go_at_call 16; (with_reducible refine HI.out.mono ?_); rintro e w2 ⟨rfl, hb2⟩))
  have A2 := A1.below hb2 A1.lt
  have Z2 := Z1.below hb2 Z1.lt
  have B2 := rstep B1 hb2
  have T2 := T1.bel hb2
  clear A1 Z1 B1 T1 hb2 HI
  go_wp2_with (first
    | (refine p_loadR rfl _ rfl w.heap.size rfl r (.slice a r.items.length c) A2 ?_)
    | (refine p_storeR rfl _ _ rfl (w.heap.size + 1) rfl r (.slice a r.items.length c) rfl rfl zeroR (.slice none 0 0) Z2 ?_))
  exact bodyPost_ret (results_rec2 Try.results22 _ _ (w.heap.size + 1) _ _ _ rfl rfl (Z2.setRow _)) rfl ⟨_, rfl, told_setRow T2 Z2 (noIt_rec _ _) _, bel_setRow B2 (by omega) _⟩
set_option maxHeartbeats 2000000 in
theorem refout_c {r : Rc} {u : Value} {w : World} (hT : Told w u r.items) (hW : r.Wf) (hl : r.items.length ≤ 1000000) (k : Nat) (hh : hasL r.items k = false) (hr : isR r = true) :
    Calls Try.prog 22 #[.agg (recC r u), .int .u64 (k : Int)] w (TellsB w r false) := by
  obtain ⟨a, c, rfl⟩ := told_shape hT
  have A0 := (Blk.new w (recC r (.slice a r.items.length c)) 27).alloc (.cells (recC zeroR (.slice none 0 0)) 27)
  have Z0 := Blk.new (w.alloc (.cells (recC r (.slice a r.items.length c)) 27)) (recC zeroR (.slice none 0 0)) 27
  rw [World.size_alloc] at Z0
  have B0 := ((Below.refl w.heap.size w).alloc (Nat.le_refl _) (.cells (recC r (.slice a r.items.length c)) 27)).alloc (by simp) (.cells (recC zeroR (.slice none 0 0)) 27)
  have T0 := hT.bel B0
  clear hT
  obtain ⟨V, hV⟩ : ∃ V, V = (w.alloc (.cells (recC r (.slice a r.items.length c)) 27)).alloc (.cells (recC zeroR (.slice none 0 0)) 27) := ⟨_, rfl⟩
  rw [← hV] at A0 Z0 B0 T0
  have HIS : Hid (∀ w1, Below V.heap.size V w1 → Calls Try.prog 16 #[.agg (recC r (.slice a r.items.length c))] w1 fun e w' => e = .returned (.bool true) ∧ Below w1.heap.size w1 w') := by
    intro w1 hb
    have h := refis_any (T0.bel hb) hW
    rw [hr] at h
    exact h
  have HF := Lib.hid (reffind_any T0 hl k)
  rw [hh] at HF
  clear hW hr hh hl
  generalize valL r.items k = pv at *
  go_enter Try.func22, Try.ntmps22
  go_upto_region 1 with (fail)
  rw [zero_rec, ← hV]
  clear hV
  go_upto_region 2 with (first
    | (refine p_loadR rfl _ rfl w.heap.size rfl r (.slice a r.items.length c) A0 ?_)
    | (go_at_call 24; (with_reducible refine HF.out.mono ?_); rintro e w1 ⟨rfl, hb1⟩))
  have A1 := A0.below hb1 A0.lt
  have Z1 := Z0.below hb1 Z0.lt
  have B1 := rstep B0 hb1
  have T1 := T0.bel hb1
  have HI := Lib.hid (HIS.out w1 hb1)
  clear A0 Z0 B0 T0 hb1 HF HIS
  go_upto_region 3 with (first
    | (go_guarded; with_reducible (show wpList _ _ _ _ _ _))
    | (refine p_loadR rfl _ rfl w.heap.size rfl r (.slice a r.items.length c) A1 ?_)
    | (go_at_call 16; (with_reducible refine HI.out.mono ?_); rintro e w2 ⟨rfl, hb2⟩))
  have A2 := A1.below hb2 A1.lt
  have Z2 := Z1.below hb2 Z1.lt
  have B2 := rstep B1 hb2
  have T2 := T1.bel hb2
  clear A1 Z1 B1 T1 hb2 HI
  go_wp2_with (first
    | (refine p_loadR rfl _ rfl w.heap.size rfl r (.slice a r.items.length c) A2 ?_)
    | (refine p_storeR rfl _ _ rfl (w.heap.size + 1) rfl r (.slice a r.items.length c) rfl rfl zeroR (.slice none 0 0) Z2 ?_))
  exact bodyPost_ret (results_rec2 Try.results22 _ _ (w.heap.size + 1) _ _ _ rfl rfl (Z2.setRow _)) rfl ⟨_, rfl, told_setRow T2 Z2 (noIt_rec _ _) _, bel_setRow B2 (by omega) _⟩
set_option maxHeartbeats 2000000 in
theorem refout_ok {r : Rc} {u : Value} {w : World} (hT : Told w u r.items) (hW : r.Wf) (hl : r.items.length ≤ 1000000) (k : Nat) (hh : hasL r.items k = true) (hr : isR r = true) :
    Calls Try.prog 22 #[.agg (recC r u), .int .u64 (k : Int)] w (TellsB w ⟨r.kind, dropL r.items k, r.nl, r.nb, r.mark⟩ true) := by
  obtain ⟨a, c, rfl⟩ := told_shape hT
  have A0 := (Blk.new w (recC r (.slice a r.items.length c)) 27).alloc (.cells (recC zeroR (.slice none 0 0)) 27)
  have Z0 := Blk.new (w.alloc (.cells (recC r (.slice a r.items.length c)) 27)) (recC zeroR (.slice none 0 0)) 27
  rw [World.size_alloc] at Z0
  have B0 := ((Below.refl w.heap.size w).alloc (Nat.le_refl _) (.cells (recC r (.slice a r.items.length c)) 27)).alloc (by simp) (.cells (recC zeroR (.slice none 0 0)) 27)
  have T0 := hT.bel B0
  clear hT
  obtain ⟨V, hV⟩ : ∃ V, V = (w.alloc (.cells (recC r (.slice a r.items.length c)) 27)).alloc (.cells (recC zeroR (.slice none 0 0)) 27) := ⟨_, rfl⟩
  rw [← hV] at A0 Z0 B0 T0
  have HIS : Hid (∀ w1, Below V.heap.size V w1 → Calls Try.prog 16 #[.agg (recC r (.slice a r.items.length c))] w1 fun e w' => e = .returned (.bool true) ∧ Below w1.heap.size w1 w') := by
    intro w1 hb
    have h := refis_any (T0.bel hb) hW
    rw [hr] at h
    exact h
  have hR := isR_iff.1 hr
  have hfill := fill_sorted hR.sorted hR.short
  have hkey := hW.key
  have hlen := hR.len
  clear hR
  have HF := Lib.hid (reffind_any T0 hl k)
  rw [hh] at HF
  clear hW hr hh hl
  generalize valL r.items k = pv at *
  go_enter Try.func22, Try.ntmps22
  go_upto_region 1 with (fail)
  rw [zero_rec, ← hV]
  clear hV
  go_upto_region 2 with (first
    | (refine p_loadR rfl _ rfl w.heap.size rfl r (.slice a r.items.length c) A0 ?_)
    | (go_at_call 24; (with_reducible refine HF.out.mono ?_); rintro e w1 ⟨rfl, hb1⟩))
  have A1 := A0.below hb1 A0.lt
  have Z1 := Z0.below hb1 Z0.lt
  have B1 := rstep B0 hb1
  have T1 := T0.bel hb1
  have HI := Lib.hid (HIS.out w1 hb1)
  clear A0 Z0 B0 T0 hb1 HF HIS
  go_upto_region 4 with (first
    | (go_guarded; with_reducible (show wpList _ _ _ _ _ _))
    | (refine p_loadR rfl _ rfl w.heap.size rfl r (.slice a r.items.length c) A1 ?_)
    | (go_at_call 16; (with_reducible refine HI.out.mono ?_); rintro e w2 ⟨rfl, hb2⟩))
  have A2 := A1.below hb2 A1.lt
  have Z2 := Z1.below hb2 Z1.lt
  have B2 := rstep B1 hb2
  have T2 := T1.bel hb2
  clear A1 Z1 B1 T1 hb2 HI
  have c1 : w2.cell? ⟨w.heap.size, 1, none⟩ = some (.slice a r.items.length c) := A2.cell 1
  have HO := Lib.hid (of_any T2 hkey (by omega))
  rw [hfill] at HO
  clear T2 hfill hlen hkey
  have hz2 := Z2.lt
  go_upto_region 5 with (go_at_call 58; (with_reducible refine HO.out.mono ?_); rintro e w3 ⟨rfl, hH⟩)
  have HP := Lib.hid (rhas_drop hH k)
  clear HO c1 hH
  generalize valL r.items k = dv at *
  generalize hasL r.items k = dh at *
  go_upto_region 6 with (go_at_call 62; (with_reducible refine HP.out.mono ?_); rintro e w4 ⟨rfl, hH⟩)
  clear HP
  have b4 := hH.below
  obtain ⟨u4, e4, T4⟩ := hH.told
  obtain ⟨a4, k4, rfl⟩ := told_shape T4
  have A4 := A2.below b4 A2.lt
  have Z4 := Z2.below b4 Z2.lt
  have B4 := rstep B2 b4
  clear hH b4 A2 Z2 B2
  generalize w2.heap.size = gm at *
  generalize dropL r.items k = K at *
  have l0 : w4.cell? ⟨w.heap.size, 0, none⟩ = some (.int .i64 r.kind) := A4.cell 0
  have l2 : w4.cell? ⟨w.heap.size, 2, none⟩ = some (.int .i64 r.nl) := A4.cell 2
  have l3 : w4.cell? ⟨w.heap.size, 3, none⟩ = some (.int .u64 (r.nb : Int)) := A4.cell 3
  have l4 : w4.cell? ⟨w.heap.size, 4, none⟩ = some (.int .u64 (r.mark : Int)) := A4.cell 4
  refine wp_region_tail0 11 (by kernel_rfl) (by kernel_rfl) (fun _ _ _ _ _ h => h) ?_
  simp only [List.take_succ_cons, List.take_zero, List.drop_succ_cons, List.drop_zero]
  repeat still_step
  refine wpStill_nil ?_
  have T5 := T4.bel (drew_bel w4)
  have Z5 := Z4.below (drew_bel w4) Z4.lt
  have B5 := rstep B4 (drew_bel w4)
  clear l0 l2 l3 l4 A4 T4 Z4 B4 e4
  generalize w4.drew = w5 at *
  go_wp2_with (refine p_storeR rfl _ _ rfl (w.heap.size + 1) rfl ⟨r.kind, K, r.nl, r.nb, r.mark⟩ (.slice a4 K.length k4) rfl rfl zeroR (.slice none 0 0) Z5 ?_)
  exact bodyPost_ret (results_rec2 Try.results22 _ _ (w.heap.size + 1) _ _ _ rfl rfl (Z5.setRow _)) rfl ⟨_, rfl, told_setRow T5 Z5 (noIt_rec _ _) _, bel_setRow B5 (by omega) _⟩
/-- the document's Without -/
theorem refwithout_any {r : Rc} {u : Value} {w : World} (hT : Told w u r.items) (hW : r.Wf) (hl : r.items.length ≤ 1000000) (k : Nat) :
    Calls Try.prog 22 #[.agg (recC r u), .int .u64 (k : Int)] w (TellsB w (withoutV r k) (withoutB r k)) := by
  cases hh : hasL r.items k <;> cases hr : isR r
  · have hb : withoutB r k = false := by simp [withoutB, hh]
    rw [withoutV, hb]
    exact refout_b hT hW hl k hh hr
  · have hb : withoutB r k = false := by simp [withoutB, hh]
    rw [withoutV, hb]
    exact refout_c hT hW hl k hh hr
  · have hb : withoutB r k = false := by simp [withoutB, hr]
    rw [withoutV, hb]
    exact refout_a hT hW hl k hh hr
  · have hb : withoutB r k = true := by simp [withoutB, hh, hr]
    rw [withoutV, hb, if_pos rfl]
    exact refout_ok hT hW hl k hh hr
end Go.Proofs.Ytkicndengkcojaa
