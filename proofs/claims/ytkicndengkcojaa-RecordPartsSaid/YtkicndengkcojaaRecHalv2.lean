/- A record halved: Halves, whole. -/
import Derived.Test.YtkicndengkcojaaRecHalv
import Derived.Deep.CutRange
namespace Go.Proofs.Ytkicndengkcojaa
set_option maxRecDepth 100000
open Go Go.RowKit Go.Sort

theorem results_two1 {fn : Func} {p : Tmp} (h : fn.results = #[.cell p 90]) (tmps : Array Value) (w : World) (g : Nat) (r : Rc) (u : Value) (b : Rc) (v : Value)
    (hp : tmps.getD p undef = .pointer (some ⟨g, 0, none⟩)) (hg : Blk w g (two r u b v) 90) :
    (results fn tmps).run Try.prog w = .ok (.agg (two r u b v)) w := by
  have hp' : tmps[p]?.getD undef = .pointer (some ⟨g, 0, none⟩) := by simpa using hp
  simp [results, h, hp', asAddr, run_loadVar_row w g 90 90 (two r u b v) (0, 0) _ hg Try.underlying90 rfl infoTwo]
/-- two labels in blocks of their own, made behind w -/
structure TwoL (w wx : World) (n : Int) (c0 c1 : Nat) (v3 v4 : Value) : Prop where
  ex : ∃ x3 x4 : Nat, v3 = .pointer (some ⟨x3, 0, none⟩) ∧ v4 = .pointer (some ⟨x4, 0, none⟩) ∧ Blk wx x3 (labc n c0) 25 ∧ Blk wx x4 (labc n c1) 25 ∧ w.heap.size ≤ x3 ∧ w.heap.size ≤ x4 ∧ Below w.heap.size w wx
theorem leaf_open (al : Option Addr) (m c : Nat) (n : Int) (b : Nat) : Gives Try.prog 67 #[.slice al m c, .agg #[.int .i64 n, .int .u64 (b : Int)]] (.agg #[.int .i64 1, .slice al m c, .int .i64 n, .int .u64 (b : Int), .int .u64 0]) := leaf_any al m c n b []

set_option maxHeartbeats 8000000 in
theorem halvc_kind {r : Rc} {n : Int} {b : Nat} {a : Option Addr} {c : Nat} {w : World} {g j : Nat} (hg : Blk w g (recC r (.slice a r.items.length c)) 27) (hj : Blk w j (labc n b) 25) (hT : Told w (.slice a r.items.length c) r.items) (hW : r.Wf) (hl : r.items.length ≤ 1000000) (hn : -9223372036854775808 ≤ n ∧ n ≤ 9223372036854775807) (hb : b < 18446744073709551616) (hr : isR r = true) (hq : isB n b = true) (hs : ¬ (covL r.items n b).length < r.items.length) (hk : r.kind ≠ 1 ∧ r.kind ≠ 3) :
    Calls Try.prog 64 #[.pointer (some ⟨g, 0, none⟩), .pointer (some ⟨j, 0, none⟩)] w fun e w' => e = Pan 13 ∧ Below w.heap.size w w' := by
  have hgw := hg.lt
  have hjw := hj.lt
  go_enter Try.func64, Try.ntmps64
  go_upto_region 1 with (fail)
  rw [zero_two]
  have Z0 := Blk.new w (two zeroR (.slice none 0 0) zeroR (.slice none 0 0)) 90
  have B0 := (Below.refl w.heap.size w).alloc (Nat.le_refl _) (.cells (two zeroR (.slice none 0 0) zeroR (.slice none 0 0)) 90)
  replace hg := hg.below B0 hg.lt
  replace hj := hj.below B0 hj.lt
  replace hT := hT.bel B0
  generalize w.alloc _ = W at *
  have HI := Lib.hid (is_any hT hW hl)
  have HJ : Gives Try.prog 51 #[.agg (labc n b)] (.bool (isB n b)) := fun w => isL_any n b w hn.1 hn.2 hb
  rw [hr] at HI
  rw [hq] at HJ
  clear hr hq
  go_upto_region 2 with (first
    | (refine p_loadR rfl _ rfl g rfl r _ hg ?_)
    | (go_at_call 15; (with_reducible refine HI.out.mono ?_); rintro e w1 ⟨rfl, hb1⟩; have hj1 := hj.below hb1 hj.lt)
    | (go_guarded; refine o_loadL _ rfl j rfl n b hj1 ?_)
    | (go_at_call 51; (with_reducible refine (HJ.calls _).mono ?_); rintro e w2 ⟨rfl, hb2⟩)
    | (go_at_call 34; (with_reducible refine (pass_1 _).mono ?_); rintro e w3 ⟨rfl, rfl⟩))
  have hb12 := rstep hb1 hb2
  have hg2 := hg.below hb12 hg.lt
  have hj2 := hj.below hb12 hj.lt
  have Z2 := Z0.below hb12 Z0.lt
  have B2 := rstep B0 hb12
  have T2 := hT.bel hb12
  have HKEY : Hid (∀ x ∈ r.items, x.1 < 18446744073709551616) := hW.key
  clear hT hW HI HJ hb1 hb2 hb12 hj1 hg hj Z0 B0
  have HC := Lib.hid (fun w3 (hb3 : Below w2.heap.size w2 w3) => cov_any (T2.bel hb3) hl HKEY.out n b hn hb)
  obtain ⟨m, hm⟩ : ∃ m, m = (covL r.items n b).length := ⟨_, rfl⟩
  have HC2 : Hid (∀ w3, Below w2.heap.size w2 w3 → Calls Try.prog 65 #[.slice a r.items.length c, .agg (labc n b)] w3 fun e w' => (∃ q1 q2, e = .returned (.slice q1 m q2)) ∧ Below w3.heap.size w3 w') := by
    intro w3 hb3
    refine (HC.out w3 hb3).mono ?_
    rintro e w' ⟨v, he, hT, hbb⟩
    obtain ⟨q1, q2, rfl⟩ := told_shape hT
    exact ⟨⟨q1, q2, by rw [hm]; exact he⟩, hbb⟩
  rw [← hm] at hs
  have hd : decide (m < r.items.length) = false := decide_eq_false hs
  have c1 : w2.cell? ⟨g, 1, none⟩ = some (.slice a r.items.length c) := hg2.cell 1
  have HT2 := Lib.hid T2
  clear hs hm HC T2
  have e0 : w2.cell? ⟨j, 0, none⟩ = some (.int .i64 n) := lab0 hj2
  have e1 : w2.cell? ⟨j, 1, none⟩ = some (.int .u64 (b : Int)) := lab1 hj2
  unfold labc at HC2
  refine wp_region_held_drew (S := (fun w4 => w4.cell? ⟨g, 1, none⟩ = some (.slice a r.items.length c) ∧ w4.cell? ⟨j, 0, none⟩ = some (.int .i64 n) ∧ w4.cell? ⟨j, 1, none⟩ = some (.int .u64 (b : Int)) ∧ Below w2.heap.size w2 w4)) (by kernel_rfl) ?_ (fun hHeld => ?_)
  · exact ⟨c1, e0, e1, rdrew _⟩
  refine wpAnyH_take (i := 0) (v := ?_) rfl (by kernel_rfl) (by kernel_rfl) (by kernel_rfl) (fun _ _ _ h => h) (Or.inl ⟨by rfl, ?_⟩) (by assumption) ?_
  rotate_left
  · intro w9 hSw
    (try dsimp only at hSw)
    go_simp
    (try with_reducible rfl)
  (try simp only [Act.put])
  (try simp only [List.setIfInBounds_toArray])
  (try simp only [List.set_cons_succ])
  (try simp only [List.set_cons_zero])
  refine wpAnyH_take (i := 1) (v := ?_) rfl (by kernel_rfl) (by kernel_rfl) (by kernel_rfl) (fun _ _ _ h => h) (Or.inl ⟨by rfl, ?_⟩) (by assumption) ?_
  rotate_left
  · intro w9 hSw
    (try dsimp only at hSw)
    go_simp
    (try with_reducible rfl)
  (try simp only [Act.put])
  (try simp only [List.setIfInBounds_toArray])
  (try simp only [List.set_cons_succ])
  (try simp only [List.set_cons_zero])
  refine wpAnyH_take (i := 2) (v := ?_) rfl (by kernel_rfl) (by kernel_rfl) (by kernel_rfl) (fun _ _ _ h => h) (Or.inl ⟨by rfl, ?_⟩) (by assumption) ?_
  rotate_left
  · intro w9 hSw
    (try dsimp only at hSw)
    go_simp
    (try with_reducible rfl)
  (try simp only [Act.put])
  (try simp only [List.setIfInBounds_toArray])
  (try simp only [List.set_cons_succ])
  (try simp only [List.set_cons_zero])
  refine wpAnyH_take (i := 5) (v := ?_) rfl (by kernel_rfl) (by kernel_rfl) (by kernel_rfl) (fun _ _ _ h => h) (Or.inl ⟨by rfl, ?_⟩) (by assumption) ?_
  rotate_left
  · intro w9 hSw
    (try dsimp only at hSw)
    go_simp
    (try with_reducible rfl)
  (try simp only [Act.put])
  (try simp only [List.setIfInBounds_toArray])
  (try simp only [List.set_cons_succ])
  (try simp only [List.set_cons_zero])
  refine wpAnyH_take (i := 6) (v := ?_) rfl (by kernel_rfl) (by kernel_rfl) (by kernel_rfl) (fun _ _ _ h => h) (Or.inl ⟨by rfl, ?_⟩) (by assumption) ?_
  rotate_left
  · intro w9 hSw
    (try dsimp only at hSw)
    go_simp
    (try with_reducible rfl)
  (try simp only [Act.put])
  (try simp only [List.setIfInBounds_toArray])
  (try simp only [List.set_cons_succ])
  (try simp only [List.set_cons_zero])
  refine wpAnyH_take (i := 7) (v := ?_) rfl (by kernel_rfl) (by kernel_rfl) (by kernel_rfl) (fun _ _ _ h => h) (Or.inl ⟨by rfl, ?_⟩) (by assumption) ?_
  rotate_left
  · intro w9 hSw
    (try dsimp only at hSw)
    go_simp
    (try with_reducible rfl)
  (try simp only [Act.put])
  (try simp only [List.setIfInBounds_toArray])
  (try simp only [List.set_cons_succ])
  (try simp only [List.set_cons_zero])
  refine wpAnyH_ready (rs := [3]) (by kernel_rfl) (by simp) ?_
  refine AllReadyH.cons rfl (fun K hK => ?_) ?_
  rotate_left
  · exact AllReadyH.nil
  go_simp
  go_wp2_with (go_at_call 65; (with_reducible refine (HC2.out _ hHeld.2.2.2).mono ?_); rintro e w3 ⟨⟨q1, q2, rfl⟩, hb3⟩)
  refine hK.out _ _ ?_ (fun hHeld => ?_)
  · exact ⟨(hg2.below (rstep hHeld.2.2.2 hb3) hg2.lt).cell 1, lab0 (hj2.below (rstep hHeld.2.2.2 hb3) hj2.lt), lab1 (hj2.below (rstep hHeld.2.2.2 hb3) hj2.lt), rstep hHeld.2.2.2 hb3⟩
  clear hK K
  (try simp only [Act.put])
  (try simp only [List.setIfInBounds_toArray])
  (try simp only [List.set_cons_succ])
  (try simp only [List.set_cons_zero])
  refine wpAnyH_take (i := 4) (v := ?_) rfl (by kernel_rfl) (by kernel_rfl) (by kernel_rfl) (fun _ _ _ h => h) (Or.inl ⟨by rfl, ?_⟩) (by assumption) ?_
  rotate_left
  · intro w9 hSw
    (try dsimp only at hSw)
    go_simp
    (try with_reducible rfl)
  (try simp only [Act.put])
  (try simp only [List.setIfInBounds_toArray])
  (try simp only [List.set_cons_succ])
  (try simp only [List.set_cons_zero])
  refine wpAnyH_take (i := 8) (v := ?_) rfl (by kernel_rfl) (by kernel_rfl) (by kernel_rfl) (fun _ _ _ h => h) (Or.inl ⟨by rfl, ?_⟩) (by assumption) ?_
  rotate_left
  · intro w9 hSw
    (try dsimp only at hSw)
    go_simp
    (try with_reducible rfl)
  (try simp only [Act.put])
  (try simp only [List.setIfInBounds_toArray])
  (try simp only [List.set_cons_succ])
  (try simp only [List.set_cons_zero])
  refine wpAnyH_ready (rs := [9]) (by kernel_rfl) (by simp) ?_
  refine AllReadyH.cons rfl (fun K hK => ?_) ?_
  rotate_left
  · exact AllReadyH.nil
  go_simp
  go_wp2_with (go_at_call 34; (with_reducible refine (pass_1 _).mono ?_); rintro e w4 ⟨rfl, rfl⟩)
  refine hK.out _ _ ?_ (fun hHeld => ?_)
  · exact hHeld
  clear hK K
  (try simp only [Act.put])
  (try simp only [List.setIfInBounds_toArray])
  (try simp only [List.set_cons_succ])
  (try simp only [List.set_cons_zero])
  refine wpAnyH_done (by kernel_rfl) ?_ _
  have hb23 : Below w2.heap.size w2 w3 := hHeld.2.2.2
  have hg3 := hg2.below hb23 hg2.lt
  have hj3 := hj2.below hb23 hj2.lt
  have Z3 := Z2.below hb23 Z2.lt
  have B3 := rstep B2 hb23
  have HT3 := Lib.hid (HT2.out.bel hb23)
  have hs3 := B3.size
  clear hHeld hb3 hb23 hg2 hj2 Z2 B2 HT2 c1 e0 e1 HC2 hd
  go_upto_region 3 with (fail)
  have c0 : w3.cell? ⟨g, 0, none⟩ = some (.int .i64 r.kind) := hg3.cell 0
  have k1 : (r.kind != 1) = true := by simp; omega
  have k3 : (r.kind != 3) = true := by simp; omega
  clear hk hn hb hl HKEY HT3
  go_wp2_with (go_at_call 34; (with_reducible refine (refuse_13 _).mono ?_); rintro e w5 ⟨he, rfl⟩; rw [pan_eq] at he; subst he)
  exact ⟨rfl, rfl, B3⟩

set_option maxHeartbeats 8000000 in
theorem halvc_full {r : Rc} {n : Int} {b : Nat} {a : Option Addr} {c : Nat} {w : World} {g j : Nat} (hg : Blk w g (recC r (.slice a r.items.length c)) 27) (hj : Blk w j (labc n b) 25) (hT : Told w (.slice a r.items.length c) r.items) (hW : r.Wf) (hl : r.items.length ≤ 1000000) (hn : -9223372036854775808 ≤ n ∧ n ≤ 9223372036854775807) (hb : b < 18446744073709551616) (hr : isR r = true) (hq : isB n b = true) (hs : ¬ (covL r.items n b).length < r.items.length) (hk : r.kind = 1 ∨ r.kind = 3) (hf : n = 64) :
    Calls Try.prog 64 #[.pointer (some ⟨g, 0, none⟩), .pointer (some ⟨j, 0, none⟩)] w fun e w' => e = Pan 5 ∧ Below w.heap.size w w' := by
  have hgw := hg.lt
  have hjw := hj.lt
  go_enter Try.func64, Try.ntmps64
  go_upto_region 1 with (fail)
  rw [zero_two]
  have Z0 := Blk.new w (two zeroR (.slice none 0 0) zeroR (.slice none 0 0)) 90
  have B0 := (Below.refl w.heap.size w).alloc (Nat.le_refl _) (.cells (two zeroR (.slice none 0 0) zeroR (.slice none 0 0)) 90)
  replace hg := hg.below B0 hg.lt
  replace hj := hj.below B0 hj.lt
  replace hT := hT.bel B0
  generalize w.alloc _ = W at *
  have HI := Lib.hid (is_any hT hW hl)
  have HJ : Gives Try.prog 51 #[.agg (labc n b)] (.bool (isB n b)) := fun w => isL_any n b w hn.1 hn.2 hb
  rw [hr] at HI
  rw [hq] at HJ
  have hlow0 : lowB 64 b = true := by subst hf; exact isB_low (n := 64) hq
  have HFF := Lib.hid hf
  clear hr hq hf
  go_upto_region 2 with (first
    | (refine p_loadR rfl _ rfl g rfl r _ hg ?_)
    | (go_at_call 15; (with_reducible refine HI.out.mono ?_); rintro e w1 ⟨rfl, hb1⟩; have hj1 := hj.below hb1 hj.lt)
    | (go_guarded; refine o_loadL _ rfl j rfl n b hj1 ?_)
    | (go_at_call 51; (with_reducible refine (HJ.calls _).mono ?_); rintro e w2 ⟨rfl, hb2⟩)
    | (go_at_call 34; (with_reducible refine (pass_1 _).mono ?_); rintro e w3 ⟨rfl, rfl⟩))
  have hb12 := rstep hb1 hb2
  have hg2 := hg.below hb12 hg.lt
  have hj2 := hj.below hb12 hj.lt
  have Z2 := Z0.below hb12 Z0.lt
  have B2 := rstep B0 hb12
  have T2 := hT.bel hb12
  have HKEY : Hid (∀ x ∈ r.items, x.1 < 18446744073709551616) := hW.key
  clear hT hW HI HJ hb1 hb2 hb12 hj1 hg hj Z0 B0
  have HC := Lib.hid (fun w3 (hb3 : Below w2.heap.size w2 w3) => cov_any (T2.bel hb3) hl HKEY.out n b hn hb)
  obtain ⟨m, hm⟩ : ∃ m, m = (covL r.items n b).length := ⟨_, rfl⟩
  have HC2 : Hid (∀ w3, Below w2.heap.size w2 w3 → Calls Try.prog 65 #[.slice a r.items.length c, .agg (labc n b)] w3 fun e w' => (∃ q1 q2, e = .returned (.slice q1 m q2)) ∧ Below w3.heap.size w3 w') := by
    intro w3 hb3
    refine (HC.out w3 hb3).mono ?_
    rintro e w' ⟨v, he, hT, hbb⟩
    obtain ⟨q1, q2, rfl⟩ := told_shape hT
    exact ⟨⟨q1, q2, by rw [hm]; exact he⟩, hbb⟩
  rw [← hm] at hs
  have hd : decide (m < r.items.length) = false := decide_eq_false hs
  have c1 : w2.cell? ⟨g, 1, none⟩ = some (.slice a r.items.length c) := hg2.cell 1
  have HT2 := Lib.hid T2
  clear hs hm HC T2
  have e0 : w2.cell? ⟨j, 0, none⟩ = some (.int .i64 n) := lab0 hj2
  have e1 : w2.cell? ⟨j, 1, none⟩ = some (.int .u64 (b : Int)) := lab1 hj2
  unfold labc at HC2
  refine wp_region_held_drew (S := (fun w4 => w4.cell? ⟨g, 1, none⟩ = some (.slice a r.items.length c) ∧ w4.cell? ⟨j, 0, none⟩ = some (.int .i64 n) ∧ w4.cell? ⟨j, 1, none⟩ = some (.int .u64 (b : Int)) ∧ Below w2.heap.size w2 w4)) (by kernel_rfl) ?_ (fun hHeld => ?_)
  · exact ⟨c1, e0, e1, rdrew _⟩
  refine wpAnyH_take (i := 0) (v := ?_) rfl (by kernel_rfl) (by kernel_rfl) (by kernel_rfl) (fun _ _ _ h => h) (Or.inl ⟨by rfl, ?_⟩) (by assumption) ?_
  rotate_left
  · intro w9 hSw
    (try dsimp only at hSw)
    go_simp
    (try with_reducible rfl)
  (try simp only [Act.put])
  (try simp only [List.setIfInBounds_toArray])
  (try simp only [List.set_cons_succ])
  (try simp only [List.set_cons_zero])
  refine wpAnyH_take (i := 1) (v := ?_) rfl (by kernel_rfl) (by kernel_rfl) (by kernel_rfl) (fun _ _ _ h => h) (Or.inl ⟨by rfl, ?_⟩) (by assumption) ?_
  rotate_left
  · intro w9 hSw
    (try dsimp only at hSw)
    go_simp
    (try with_reducible rfl)
  (try simp only [Act.put])
  (try simp only [List.setIfInBounds_toArray])
  (try simp only [List.set_cons_succ])
  (try simp only [List.set_cons_zero])
  refine wpAnyH_take (i := 2) (v := ?_) rfl (by kernel_rfl) (by kernel_rfl) (by kernel_rfl) (fun _ _ _ h => h) (Or.inl ⟨by rfl, ?_⟩) (by assumption) ?_
  rotate_left
  · intro w9 hSw
    (try dsimp only at hSw)
    go_simp
    (try with_reducible rfl)
  (try simp only [Act.put])
  (try simp only [List.setIfInBounds_toArray])
  (try simp only [List.set_cons_succ])
  (try simp only [List.set_cons_zero])
  refine wpAnyH_take (i := 5) (v := ?_) rfl (by kernel_rfl) (by kernel_rfl) (by kernel_rfl) (fun _ _ _ h => h) (Or.inl ⟨by rfl, ?_⟩) (by assumption) ?_
  rotate_left
  · intro w9 hSw
    (try dsimp only at hSw)
    go_simp
    (try with_reducible rfl)
  (try simp only [Act.put])
  (try simp only [List.setIfInBounds_toArray])
  (try simp only [List.set_cons_succ])
  (try simp only [List.set_cons_zero])
  refine wpAnyH_take (i := 6) (v := ?_) rfl (by kernel_rfl) (by kernel_rfl) (by kernel_rfl) (fun _ _ _ h => h) (Or.inl ⟨by rfl, ?_⟩) (by assumption) ?_
  rotate_left
  · intro w9 hSw
    (try dsimp only at hSw)
    go_simp
    (try with_reducible rfl)
  (try simp only [Act.put])
  (try simp only [List.setIfInBounds_toArray])
  (try simp only [List.set_cons_succ])
  (try simp only [List.set_cons_zero])
  refine wpAnyH_take (i := 7) (v := ?_) rfl (by kernel_rfl) (by kernel_rfl) (by kernel_rfl) (fun _ _ _ h => h) (Or.inl ⟨by rfl, ?_⟩) (by assumption) ?_
  rotate_left
  · intro w9 hSw
    (try dsimp only at hSw)
    go_simp
    (try with_reducible rfl)
  (try simp only [Act.put])
  (try simp only [List.setIfInBounds_toArray])
  (try simp only [List.set_cons_succ])
  (try simp only [List.set_cons_zero])
  refine wpAnyH_ready (rs := [3]) (by kernel_rfl) (by simp) ?_
  refine AllReadyH.cons rfl (fun K hK => ?_) ?_
  rotate_left
  · exact AllReadyH.nil
  go_simp
  go_wp2_with (go_at_call 65; (with_reducible refine (HC2.out _ hHeld.2.2.2).mono ?_); rintro e w3 ⟨⟨q1, q2, rfl⟩, hb3⟩)
  refine hK.out _ _ ?_ (fun hHeld => ?_)
  · exact ⟨(hg2.below (rstep hHeld.2.2.2 hb3) hg2.lt).cell 1, lab0 (hj2.below (rstep hHeld.2.2.2 hb3) hj2.lt), lab1 (hj2.below (rstep hHeld.2.2.2 hb3) hj2.lt), rstep hHeld.2.2.2 hb3⟩
  clear hK K
  (try simp only [Act.put])
  (try simp only [List.setIfInBounds_toArray])
  (try simp only [List.set_cons_succ])
  (try simp only [List.set_cons_zero])
  refine wpAnyH_take (i := 4) (v := ?_) rfl (by kernel_rfl) (by kernel_rfl) (by kernel_rfl) (fun _ _ _ h => h) (Or.inl ⟨by rfl, ?_⟩) (by assumption) ?_
  rotate_left
  · intro w9 hSw
    (try dsimp only at hSw)
    go_simp
    (try with_reducible rfl)
  (try simp only [Act.put])
  (try simp only [List.setIfInBounds_toArray])
  (try simp only [List.set_cons_succ])
  (try simp only [List.set_cons_zero])
  refine wpAnyH_take (i := 8) (v := ?_) rfl (by kernel_rfl) (by kernel_rfl) (by kernel_rfl) (fun _ _ _ h => h) (Or.inl ⟨by rfl, ?_⟩) (by assumption) ?_
  rotate_left
  · intro w9 hSw
    (try dsimp only at hSw)
    go_simp
    (try with_reducible rfl)
  (try simp only [Act.put])
  (try simp only [List.setIfInBounds_toArray])
  (try simp only [List.set_cons_succ])
  (try simp only [List.set_cons_zero])
  refine wpAnyH_ready (rs := [9]) (by kernel_rfl) (by simp) ?_
  refine AllReadyH.cons rfl (fun K hK => ?_) ?_
  rotate_left
  · exact AllReadyH.nil
  go_simp
  go_wp2_with (go_at_call 34; (with_reducible refine (pass_1 _).mono ?_); rintro e w4 ⟨rfl, rfl⟩)
  refine hK.out _ _ ?_ (fun hHeld => ?_)
  · exact hHeld
  clear hK K
  (try simp only [Act.put])
  (try simp only [List.setIfInBounds_toArray])
  (try simp only [List.set_cons_succ])
  (try simp only [List.set_cons_zero])
  refine wpAnyH_done (by kernel_rfl) ?_ _
  have hb23 : Below w2.heap.size w2 w3 := hHeld.2.2.2
  have hg3 := hg2.below hb23 hg2.lt
  have hj3 := hj2.below hb23 hj2.lt
  have Z3 := Z2.below hb23 Z2.lt
  have B3 := rstep B2 hb23
  have HT3 := Lib.hid (HT2.out.bel hb23)
  have hs3 := B3.size
  clear hHeld hb3 hb23 hg2 hj2 Z2 B2 HT2 c1 e0 e1 HC2 hd
  go_upto_region 3 with (fail)
  have c0 : w3.cell? ⟨g, 0, none⟩ = some (.int .i64 r.kind) := hg3.cell 0
  go_cut [] from 24 to 32 (fun wx => wx = w3)
  case first =>
    rcases hk with hk | hk
    all_goals
      rw [hk] at c0
      go_wp2_with (go_at_call 34; (with_reducible refine (pass_13 _).mono ?_); rintro e w5 ⟨rfl, rfl⟩)
      go_meet
      exact rfl
  case rest =>
    replace hcut := hcut.symm
    subst hcut
    clear c0 hk
    go_upto_region 4 with (fail)
    have hlow : lowB 64 b = true := hlow0
    have hf := HFF.out
    clear HFF
    subst hf
    have HCH0 : Gives Try.prog 29 #[.agg #[.int .i64 64, .int .u64 (b : Int)], .int .i64 0] (.tuple #[.agg #[.int .i64 0, .int .u64 0], .int .i64 5]) := fun w => child_full b 0 w hb hlow (by omega)
    clear hlow hn hb hl HKEY HT3
    refine wp_region_held_drew (S := (fun w4 => w4.cell? ⟨j, 0, none⟩ = some (.int .i64 64) ∧ w4.cell? ⟨j, 1, none⟩ = some (.int .u64 (b : Int)))) (by kernel_rfl) ?_ (fun hHeld => ?_)
    · exact ⟨lab0 (hj3.below (rdrew _) hj3.lt), lab1 (hj3.below (rdrew _) hj3.lt)⟩
    have hB := rdrew w3
    have hjl := hj3.lt
    replace hj3 := hj3.below hB hj3.lt
    generalize hy0 : w3.drew = y0 at *
    clear hy0
    refine wpAnyH_take (i := 0) (v := ?_) rfl (by kernel_rfl) (by kernel_rfl) (by kernel_rfl) (fun _ _ _ h => h) (Or.inl ⟨by rfl, ?_⟩) (by assumption) ?_
    rotate_left
    · intro w9 hSw
      (try dsimp only at hSw)
      go_simp
      (try with_reducible rfl)
    (try simp only [Act.put])
    (try simp only [List.setIfInBounds_toArray])
    (try simp only [List.set_cons_succ])
    (try simp only [List.set_cons_zero])
    refine wpAnyH_take (i := 5) (v := ?_) rfl (by kernel_rfl) (by kernel_rfl) (by kernel_rfl) (fun _ _ _ h => h) (Or.inl ⟨by rfl, ?_⟩) (by assumption) ?_
    rotate_left
    · intro w9 hSw
      (try dsimp only at hSw)
      go_simp
      (try with_reducible rfl)
    (try simp only [Act.put])
    (try simp only [List.setIfInBounds_toArray])
    (try simp only [List.set_cons_succ])
    (try simp only [List.set_cons_zero])
    refine wpAnyH_ready (rs := [1, 10, 11]) (by kernel_rfl) (by simp) ?_
    refine AllReadyH.cons rfl (fun K hK => ?_) ?_
    · go_simp
      go_wp2_with (go_at_call 29; (with_reducible refine (HCH0.calls _).mono ?_); rintro e y1 ⟨rfl, hbk⟩)
      refine hK.out _ _ ?_ (fun hHeld => ?_)
      · exact ⟨lab0 (hj3.below hbk hj3.lt), lab1 (hj3.below hbk hj3.lt)⟩
      clear hK K
      (try simp only [Act.put])
      (try simp only [List.setIfInBounds_toArray])
      (try simp only [List.set_cons_succ])
      (try simp only [List.set_cons_zero])
      replace hj3 := hj3.below hbk hj3.lt
      replace hB := rstep hB hbk
      clear hbk
      refine wpAnyH_take (i := 2) (v := ?_) rfl (by kernel_rfl) (by kernel_rfl) (by kernel_rfl) (fun _ _ _ h => h) (Or.inl ⟨by rfl, ?_⟩) (by assumption) ?_
      rotate_left
      · intro w9 hSw
        (try dsimp only at hSw)
        go_simp
        (try with_reducible rfl)
      (try simp only [Act.put])
      (try simp only [List.setIfInBounds_toArray])
      (try simp only [List.set_cons_succ])
      (try simp only [List.set_cons_zero])
      refine wpAnyH_take (i := 3) (v := ?_) rfl (by kernel_rfl) (by kernel_rfl) (by kernel_rfl) (fun _ _ _ h => h) (Or.inl ⟨by rfl, ?_⟩) (by assumption) ?_
      rotate_left
      · intro w9 hSw
        (try dsimp only at hSw)
        go_simp
        (try with_reducible rfl)
      (try simp only [Act.put])
      (try simp only [List.setIfInBounds_toArray])
      (try simp only [List.set_cons_succ])
      (try simp only [List.set_cons_zero])
      refine wpAnyH_ready (rs := [4, 10, 11]) (by kernel_rfl) (by simp) ?_
      refine AllReadyH.cons rfl (fun K hK => ?_) ?_
      · go_simp
        refine (mustL_no 0 0 5 (by decide) _).mono ?_
        rintro e w9 ⟨he, hb9⟩
        rw [pan_eq] at he
        subst he
        exact ⟨rfl, rfl, rstep B3 (rstep hB hb9)⟩
      refine AllReadyH.cons rfl (fun K hK => ?_) ?_
      · go_simp
        refine hK.out _ _ ?_ (fun hHeld => ?_)
        · exact ⟨lab0 (hj3.alloc _), lab1 (hj3.alloc _)⟩
        clear hK K
        (try simp only [Act.put])
        (try simp only [List.setIfInBounds_toArray])
        (try simp only [List.set_cons_succ])
        (try simp only [List.set_cons_zero])
        have X3 := Blk.new y1 (labc 0 0) 25
        have g3 := hB.size
        replace hj3 := hj3.alloc (.cells (labc 0 0) 25)
        replace hB := hB.alloc hB.size (.cells (labc 0 0) 25)
        try rw [lab00]
        try rw [lab00] at hHeld
        generalize hx3 : y1.heap.size = x3 at *
        generalize y1.alloc _ = y3 at *
        clear hx3
        refine wpAnyH_ready (rs := [4, 11]) (by kernel_rfl) (by simp) ?_
        refine AllReadyH.cons rfl (fun K hK => ?_) ?_
        · go_simp
          refine (mustL_no 0 0 5 (by decide) _).mono ?_
          rintro e w9 ⟨he, hb9⟩
          rw [pan_eq] at he
          subst he
          exact ⟨rfl, rfl, rstep B3 (rstep hB hb9)⟩
        refine AllReadyH.cons rfl (fun K hK => ?_) ?_
        · go_simp
          refine hK.out _ _ ?_ (fun hHeld => ?_)
          · exact ⟨lab0 (hj3.alloc _), lab1 (hj3.alloc _)⟩
          clear hK K
          (try simp only [Act.put])
          (try simp only [List.setIfInBounds_toArray])
          (try simp only [List.set_cons_succ])
          (try simp only [List.set_cons_zero])
          have X4 := Blk.new y3 (labc 0 0) 25
          have g4 := hB.size
          have hl3 := X3.lt
          replace hj3 := hj3.alloc (.cells (labc 0 0) 25)
          replace hB := hB.alloc hB.size (.cells (labc 0 0) 25)
          replace X3 := X3.alloc (.cells (labc 0 0) 25)
          try rw [lab00]
          try rw [lab00] at hHeld
          generalize hx4 : y3.heap.size = x4 at *
          generalize y3.alloc _ = y5 at *
          have hne : x3 ≠ x4 := by omega
          clear hl3
          clear hx4
          refine wpAnyH_ready (rs := [4]) (by kernel_rfl) (by simp) ?_
          refine AllReadyH.cons rfl (fun K hK => ?_) ?_
          · go_simp
            refine (mustL_no 0 0 5 (by decide) _).mono ?_
            rintro e w9 ⟨he, hb9⟩
            rw [pan_eq] at he
            subst he
            exact ⟨rfl, rfl, rstep B3 (rstep hB hb9)⟩
          exact AllReadyH.nil
        exact AllReadyH.nil
      refine AllReadyH.cons rfl (fun K hK => ?_) ?_
      · go_simp
        refine hK.out _ _ ?_ (fun hHeld => ?_)
        · exact ⟨lab0 (hj3.alloc _), lab1 (hj3.alloc _)⟩
        clear hK K
        (try simp only [Act.put])
        (try simp only [List.setIfInBounds_toArray])
        (try simp only [List.set_cons_succ])
        (try simp only [List.set_cons_zero])
        have X4 := Blk.new y1 (labc 0 0) 25
        have g4 := hB.size
        replace hj3 := hj3.alloc (.cells (labc 0 0) 25)
        replace hB := hB.alloc hB.size (.cells (labc 0 0) 25)
        try rw [lab00]
        try rw [lab00] at hHeld
        generalize hx4 : y1.heap.size = x4 at *
        generalize y1.alloc _ = y7 at *
        clear hx4
        refine wpAnyH_ready (rs := [4, 10]) (by kernel_rfl) (by simp) ?_
        refine AllReadyH.cons rfl (fun K hK => ?_) ?_
        · go_simp
          refine (mustL_no 0 0 5 (by decide) _).mono ?_
          rintro e w9 ⟨he, hb9⟩
          rw [pan_eq] at he
          subst he
          exact ⟨rfl, rfl, rstep B3 (rstep hB hb9)⟩
        refine AllReadyH.cons rfl (fun K hK => ?_) ?_
        · go_simp
          refine hK.out _ _ ?_ (fun hHeld => ?_)
          · exact ⟨lab0 (hj3.alloc _), lab1 (hj3.alloc _)⟩
          clear hK K
          (try simp only [Act.put])
          (try simp only [List.setIfInBounds_toArray])
          (try simp only [List.set_cons_succ])
          (try simp only [List.set_cons_zero])
          have X3 := Blk.new y7 (labc 0 0) 25
          have g3 := hB.size
          have hl4 := X4.lt
          replace hj3 := hj3.alloc (.cells (labc 0 0) 25)
          replace hB := hB.alloc hB.size (.cells (labc 0 0) 25)
          replace X4 := X4.alloc (.cells (labc 0 0) 25)
          try rw [lab00]
          try rw [lab00] at hHeld
          generalize hx3 : y7.heap.size = x3 at *
          generalize y7.alloc _ = y9 at *
          have hne : x3 ≠ x4 := by omega
          clear hl4
          clear hx3
          refine wpAnyH_ready (rs := [4]) (by kernel_rfl) (by simp) ?_
          refine AllReadyH.cons rfl (fun K hK => ?_) ?_
          · go_simp
            refine (mustL_no 0 0 5 (by decide) _).mono ?_
            rintro e w9 ⟨he, hb9⟩
            rw [pan_eq] at he
            subst he
            exact ⟨rfl, rfl, rstep B3 (rstep hB hb9)⟩
          exact AllReadyH.nil
        exact AllReadyH.nil
      exact AllReadyH.nil
    refine AllReadyH.cons rfl (fun K hK => ?_) ?_
    · go_simp
      refine hK.out _ _ ?_ (fun hHeld => ?_)
      · exact ⟨lab0 (hj3.alloc _), lab1 (hj3.alloc _)⟩
      clear hK K
      (try simp only [Act.put])
      (try simp only [List.setIfInBounds_toArray])
      (try simp only [List.set_cons_succ])
      (try simp only [List.set_cons_zero])
      have X3 := Blk.new y0 (labc 0 0) 25
      have g3 := hB.size
      replace hj3 := hj3.alloc (.cells (labc 0 0) 25)
      replace hB := hB.alloc hB.size (.cells (labc 0 0) 25)
      try rw [lab00]
      try rw [lab00] at hHeld
      generalize hx3 : y0.heap.size = x3 at *
      generalize y0.alloc _ = y11 at *
      clear hx3
      refine wpAnyH_ready (rs := [1, 11]) (by kernel_rfl) (by simp) ?_
      refine AllReadyH.cons rfl (fun K hK => ?_) ?_
      · go_simp
        go_wp2_with (go_at_call 29; (with_reducible refine (HCH0.calls _).mono ?_); rintro e y12 ⟨rfl, hbk⟩)
        refine hK.out _ _ ?_ (fun hHeld => ?_)
        · exact ⟨lab0 (hj3.below hbk hj3.lt), lab1 (hj3.below hbk hj3.lt)⟩
        clear hK K
        (try simp only [Act.put])
        (try simp only [List.setIfInBounds_toArray])
        (try simp only [List.set_cons_succ])
        (try simp only [List.set_cons_zero])
        replace hj3 := hj3.below hbk hj3.lt
        replace hB := rstep hB hbk
        replace X3 := X3.below hbk X3.lt
        clear hbk
        refine wpAnyH_take (i := 2) (v := ?_) rfl (by kernel_rfl) (by kernel_rfl) (by kernel_rfl) (fun _ _ _ h => h) (Or.inl ⟨by rfl, ?_⟩) (by assumption) ?_
        rotate_left
        · intro w9 hSw
          (try dsimp only at hSw)
          go_simp
          (try with_reducible rfl)
        (try simp only [Act.put])
        (try simp only [List.setIfInBounds_toArray])
        (try simp only [List.set_cons_succ])
        (try simp only [List.set_cons_zero])
        refine wpAnyH_take (i := 3) (v := ?_) rfl (by kernel_rfl) (by kernel_rfl) (by kernel_rfl) (fun _ _ _ h => h) (Or.inl ⟨by rfl, ?_⟩) (by assumption) ?_
        rotate_left
        · intro w9 hSw
          (try dsimp only at hSw)
          go_simp
          (try with_reducible rfl)
        (try simp only [Act.put])
        (try simp only [List.setIfInBounds_toArray])
        (try simp only [List.set_cons_succ])
        (try simp only [List.set_cons_zero])
        refine wpAnyH_ready (rs := [4, 11]) (by kernel_rfl) (by simp) ?_
        refine AllReadyH.cons rfl (fun K hK => ?_) ?_
        · go_simp
          refine (mustL_no 0 0 5 (by decide) _).mono ?_
          rintro e w9 ⟨he, hb9⟩
          rw [pan_eq] at he
          subst he
          exact ⟨rfl, rfl, rstep B3 (rstep hB hb9)⟩
        refine AllReadyH.cons rfl (fun K hK => ?_) ?_
        · go_simp
          refine hK.out _ _ ?_ (fun hHeld => ?_)
          · exact ⟨lab0 (hj3.alloc _), lab1 (hj3.alloc _)⟩
          clear hK K
          (try simp only [Act.put])
          (try simp only [List.setIfInBounds_toArray])
          (try simp only [List.set_cons_succ])
          (try simp only [List.set_cons_zero])
          have X4 := Blk.new y12 (labc 0 0) 25
          have g4 := hB.size
          have hl3 := X3.lt
          replace hj3 := hj3.alloc (.cells (labc 0 0) 25)
          replace hB := hB.alloc hB.size (.cells (labc 0 0) 25)
          replace X3 := X3.alloc (.cells (labc 0 0) 25)
          try rw [lab00]
          try rw [lab00] at hHeld
          generalize hx4 : y12.heap.size = x4 at *
          generalize y12.alloc _ = y14 at *
          have hne : x3 ≠ x4 := by omega
          clear hl3
          clear hx4
          refine wpAnyH_ready (rs := [4]) (by kernel_rfl) (by simp) ?_
          refine AllReadyH.cons rfl (fun K hK => ?_) ?_
          · go_simp
            refine (mustL_no 0 0 5 (by decide) _).mono ?_
            rintro e w9 ⟨he, hb9⟩
            rw [pan_eq] at he
            subst he
            exact ⟨rfl, rfl, rstep B3 (rstep hB hb9)⟩
          exact AllReadyH.nil
        exact AllReadyH.nil
      refine AllReadyH.cons rfl (fun K hK => ?_) ?_
      · go_simp
        refine hK.out _ _ ?_ (fun hHeld => ?_)
        · exact ⟨lab0 (hj3.alloc _), lab1 (hj3.alloc _)⟩
        clear hK K
        (try simp only [Act.put])
        (try simp only [List.setIfInBounds_toArray])
        (try simp only [List.set_cons_succ])
        (try simp only [List.set_cons_zero])
        have X4 := Blk.new y11 (labc 0 0) 25
        have g4 := hB.size
        have hl3 := X3.lt
        replace hj3 := hj3.alloc (.cells (labc 0 0) 25)
        replace hB := hB.alloc hB.size (.cells (labc 0 0) 25)
        replace X3 := X3.alloc (.cells (labc 0 0) 25)
        try rw [lab00]
        try rw [lab00] at hHeld
        generalize hx4 : y11.heap.size = x4 at *
        generalize y11.alloc _ = y16 at *
        have hne : x3 ≠ x4 := by omega
        clear hl3
        clear hx4
        refine wpAnyH_ready (rs := [1]) (by kernel_rfl) (by simp) ?_
        refine AllReadyH.cons rfl (fun K hK => ?_) ?_
        · go_simp
          go_wp2_with (go_at_call 29; (with_reducible refine (HCH0.calls _).mono ?_); rintro e y17 ⟨rfl, hbk⟩)
          refine hK.out _ _ ?_ (fun hHeld => ?_)
          · exact ⟨lab0 (hj3.below hbk hj3.lt), lab1 (hj3.below hbk hj3.lt)⟩
          clear hK K
          (try simp only [Act.put])
          (try simp only [List.setIfInBounds_toArray])
          (try simp only [List.set_cons_succ])
          (try simp only [List.set_cons_zero])
          replace hj3 := hj3.below hbk hj3.lt
          replace hB := rstep hB hbk
          replace X3 := X3.below hbk X3.lt
          replace X4 := X4.below hbk X4.lt
          clear hbk
          refine wpAnyH_take (i := 2) (v := ?_) rfl (by kernel_rfl) (by kernel_rfl) (by kernel_rfl) (fun _ _ _ h => h) (Or.inl ⟨by rfl, ?_⟩) (by assumption) ?_
          rotate_left
          · intro w9 hSw
            (try dsimp only at hSw)
            go_simp
            (try with_reducible rfl)
          (try simp only [Act.put])
          (try simp only [List.setIfInBounds_toArray])
          (try simp only [List.set_cons_succ])
          (try simp only [List.set_cons_zero])
          refine wpAnyH_take (i := 3) (v := ?_) rfl (by kernel_rfl) (by kernel_rfl) (by kernel_rfl) (fun _ _ _ h => h) (Or.inl ⟨by rfl, ?_⟩) (by assumption) ?_
          rotate_left
          · intro w9 hSw
            (try dsimp only at hSw)
            go_simp
            (try with_reducible rfl)
          (try simp only [Act.put])
          (try simp only [List.setIfInBounds_toArray])
          (try simp only [List.set_cons_succ])
          (try simp only [List.set_cons_zero])
          refine wpAnyH_ready (rs := [4]) (by kernel_rfl) (by simp) ?_
          refine AllReadyH.cons rfl (fun K hK => ?_) ?_
          · go_simp
            refine (mustL_no 0 0 5 (by decide) _).mono ?_
            rintro e w9 ⟨he, hb9⟩
            rw [pan_eq] at he
            subst he
            exact ⟨rfl, rfl, rstep B3 (rstep hB hb9)⟩
          exact AllReadyH.nil
        exact AllReadyH.nil
      exact AllReadyH.nil
    refine AllReadyH.cons rfl (fun K hK => ?_) ?_
    · go_simp
      refine hK.out _ _ ?_ (fun hHeld => ?_)
      · exact ⟨lab0 (hj3.alloc _), lab1 (hj3.alloc _)⟩
      clear hK K
      (try simp only [Act.put])
      (try simp only [List.setIfInBounds_toArray])
      (try simp only [List.set_cons_succ])
      (try simp only [List.set_cons_zero])
      have X4 := Blk.new y0 (labc 0 0) 25
      have g4 := hB.size
      replace hj3 := hj3.alloc (.cells (labc 0 0) 25)
      replace hB := hB.alloc hB.size (.cells (labc 0 0) 25)
      try rw [lab00]
      try rw [lab00] at hHeld
      generalize hx4 : y0.heap.size = x4 at *
      generalize y0.alloc _ = y19 at *
      clear hx4
      refine wpAnyH_ready (rs := [1, 10]) (by kernel_rfl) (by simp) ?_
      refine AllReadyH.cons rfl (fun K hK => ?_) ?_
      · go_simp
        go_wp2_with (go_at_call 29; (with_reducible refine (HCH0.calls _).mono ?_); rintro e y20 ⟨rfl, hbk⟩)
        refine hK.out _ _ ?_ (fun hHeld => ?_)
        · exact ⟨lab0 (hj3.below hbk hj3.lt), lab1 (hj3.below hbk hj3.lt)⟩
        clear hK K
        (try simp only [Act.put])
        (try simp only [List.setIfInBounds_toArray])
        (try simp only [List.set_cons_succ])
        (try simp only [List.set_cons_zero])
        replace hj3 := hj3.below hbk hj3.lt
        replace hB := rstep hB hbk
        replace X4 := X4.below hbk X4.lt
        clear hbk
        refine wpAnyH_take (i := 2) (v := ?_) rfl (by kernel_rfl) (by kernel_rfl) (by kernel_rfl) (fun _ _ _ h => h) (Or.inl ⟨by rfl, ?_⟩) (by assumption) ?_
        rotate_left
        · intro w9 hSw
          (try dsimp only at hSw)
          go_simp
          (try with_reducible rfl)
        (try simp only [Act.put])
        (try simp only [List.setIfInBounds_toArray])
        (try simp only [List.set_cons_succ])
        (try simp only [List.set_cons_zero])
        refine wpAnyH_take (i := 3) (v := ?_) rfl (by kernel_rfl) (by kernel_rfl) (by kernel_rfl) (fun _ _ _ h => h) (Or.inl ⟨by rfl, ?_⟩) (by assumption) ?_
        rotate_left
        · intro w9 hSw
          (try dsimp only at hSw)
          go_simp
          (try with_reducible rfl)
        (try simp only [Act.put])
        (try simp only [List.setIfInBounds_toArray])
        (try simp only [List.set_cons_succ])
        (try simp only [List.set_cons_zero])
        refine wpAnyH_ready (rs := [4, 10]) (by kernel_rfl) (by simp) ?_
        refine AllReadyH.cons rfl (fun K hK => ?_) ?_
        · go_simp
          refine (mustL_no 0 0 5 (by decide) _).mono ?_
          rintro e w9 ⟨he, hb9⟩
          rw [pan_eq] at he
          subst he
          exact ⟨rfl, rfl, rstep B3 (rstep hB hb9)⟩
        refine AllReadyH.cons rfl (fun K hK => ?_) ?_
        · go_simp
          refine hK.out _ _ ?_ (fun hHeld => ?_)
          · exact ⟨lab0 (hj3.alloc _), lab1 (hj3.alloc _)⟩
          clear hK K
          (try simp only [Act.put])
          (try simp only [List.setIfInBounds_toArray])
          (try simp only [List.set_cons_succ])
          (try simp only [List.set_cons_zero])
          have X3 := Blk.new y20 (labc 0 0) 25
          have g3 := hB.size
          have hl4 := X4.lt
          replace hj3 := hj3.alloc (.cells (labc 0 0) 25)
          replace hB := hB.alloc hB.size (.cells (labc 0 0) 25)
          replace X4 := X4.alloc (.cells (labc 0 0) 25)
          try rw [lab00]
          try rw [lab00] at hHeld
          generalize hx3 : y20.heap.size = x3 at *
          generalize y20.alloc _ = y22 at *
          have hne : x3 ≠ x4 := by omega
          clear hl4
          clear hx3
          refine wpAnyH_ready (rs := [4]) (by kernel_rfl) (by simp) ?_
          refine AllReadyH.cons rfl (fun K hK => ?_) ?_
          · go_simp
            refine (mustL_no 0 0 5 (by decide) _).mono ?_
            rintro e w9 ⟨he, hb9⟩
            rw [pan_eq] at he
            subst he
            exact ⟨rfl, rfl, rstep B3 (rstep hB hb9)⟩
          exact AllReadyH.nil
        exact AllReadyH.nil
      refine AllReadyH.cons rfl (fun K hK => ?_) ?_
      · go_simp
        refine hK.out _ _ ?_ (fun hHeld => ?_)
        · exact ⟨lab0 (hj3.alloc _), lab1 (hj3.alloc _)⟩
        clear hK K
        (try simp only [Act.put])
        (try simp only [List.setIfInBounds_toArray])
        (try simp only [List.set_cons_succ])
        (try simp only [List.set_cons_zero])
        have X3 := Blk.new y19 (labc 0 0) 25
        have g3 := hB.size
        have hl4 := X4.lt
        replace hj3 := hj3.alloc (.cells (labc 0 0) 25)
        replace hB := hB.alloc hB.size (.cells (labc 0 0) 25)
        replace X4 := X4.alloc (.cells (labc 0 0) 25)
        try rw [lab00]
        try rw [lab00] at hHeld
        generalize hx3 : y19.heap.size = x3 at *
        generalize y19.alloc _ = y24 at *
        have hne : x3 ≠ x4 := by omega
        clear hl4
        clear hx3
        refine wpAnyH_ready (rs := [1]) (by kernel_rfl) (by simp) ?_
        refine AllReadyH.cons rfl (fun K hK => ?_) ?_
        · go_simp
          go_wp2_with (go_at_call 29; (with_reducible refine (HCH0.calls _).mono ?_); rintro e y25 ⟨rfl, hbk⟩)
          refine hK.out _ _ ?_ (fun hHeld => ?_)
          · exact ⟨lab0 (hj3.below hbk hj3.lt), lab1 (hj3.below hbk hj3.lt)⟩
          clear hK K
          (try simp only [Act.put])
          (try simp only [List.setIfInBounds_toArray])
          (try simp only [List.set_cons_succ])
          (try simp only [List.set_cons_zero])
          replace hj3 := hj3.below hbk hj3.lt
          replace hB := rstep hB hbk
          replace X3 := X3.below hbk X3.lt
          replace X4 := X4.below hbk X4.lt
          clear hbk
          refine wpAnyH_take (i := 2) (v := ?_) rfl (by kernel_rfl) (by kernel_rfl) (by kernel_rfl) (fun _ _ _ h => h) (Or.inl ⟨by rfl, ?_⟩) (by assumption) ?_
          rotate_left
          · intro w9 hSw
            (try dsimp only at hSw)
            go_simp
            (try with_reducible rfl)
          (try simp only [Act.put])
          (try simp only [List.setIfInBounds_toArray])
          (try simp only [List.set_cons_succ])
          (try simp only [List.set_cons_zero])
          refine wpAnyH_take (i := 3) (v := ?_) rfl (by kernel_rfl) (by kernel_rfl) (by kernel_rfl) (fun _ _ _ h => h) (Or.inl ⟨by rfl, ?_⟩) (by assumption) ?_
          rotate_left
          · intro w9 hSw
            (try dsimp only at hSw)
            go_simp
            (try with_reducible rfl)
          (try simp only [Act.put])
          (try simp only [List.setIfInBounds_toArray])
          (try simp only [List.set_cons_succ])
          (try simp only [List.set_cons_zero])
          refine wpAnyH_ready (rs := [4]) (by kernel_rfl) (by simp) ?_
          refine AllReadyH.cons rfl (fun K hK => ?_) ?_
          · go_simp
            refine (mustL_no 0 0 5 (by decide) _).mono ?_
            rintro e w9 ⟨he, hb9⟩
            rw [pan_eq] at he
            subst he
            exact ⟨rfl, rfl, rstep B3 (rstep hB hb9)⟩
          exact AllReadyH.nil
        exact AllReadyH.nil
      exact AllReadyH.nil
    exact AllReadyH.nil
end Go.Proofs.Ytkicndengkcojaa
