/- A record halved: Halves. -/
import Derived.Test.YtkicndengkcojaaRecUnion
namespace Go.Proofs.Ytkicndengkcojaa
set_option maxRecDepth 100000
open Go Go.RowKit Go.Sort

/-- the items that a label covers -/
def covL (L : List It) (n : Int) (b : Nat) : List It := those L (coversB n b)
theorem covkey_any (j g : Nat) (n : Int) (b : Nat) (w : World) (hj : j < 18446744073709551616) (hn : -9223372036854775808 ≤ n ∧ n ≤ 9223372036854775807) (hb : b < 18446744073709551616) (hg : Blk w g (labc n b) 25) :
    Calls Try.prog 100 #[.int .u64 (j : Int), .pointer (some ⟨g, 0, none⟩)] w fun e w' => e = .returned (.bool (coversB n b j)) ∧ Below w.heap.size w w' := by
  have HC : Gives Try.prog 30 #[.agg (labc n b), .int .u64 (j : Int)] (.bool (coversB n b j)) := fun w => covers_any n b j w hn.1 hn.2 hb hj
  clear hn hb hj
  generalize coversB n b j = r at *
  go_enter Try.func100, Try.ntmps100
  go_wp2_with (first
    | (refine p_loadL rfl _ rfl _ rfl n b hg ?_)
    | (go_at_call 30; (with_reducible refine (HC.calls _).mono ?_); rintro e w1 ⟨rfl, hb1⟩))
  go_ret
  exact ⟨rfl, hb1⟩
theorem cov_any {w : World} {u : Value} {L : List It} (hT : Told w u L) (hl : L.length ≤ 1000000) (hkey : ∀ x ∈ L, x.1 < 18446744073709551616) (n : Int) (b : Nat) (hn : -9223372036854775808 ≤ n ∧ n ≤ 9223372036854775807) (hb : b < 18446744073709551616) :
    Calls Try.prog 65 #[u, .agg (labc n b)] w fun e w' => ∃ v, e = .returned v ∧ Told w' v (covL L n b) ∧ Below w.heap.size w w' := by
  have hmf : ∀ (fn : Fn) (first cap : Array Value) (w : World), (Instr.makeFunc fn first cap).run Try.prog w = .ok (.func fn first cap) w := fun _ _ _ _ => rfl
  have A0 := Blk.new w (labc n b) 25
  have B0 := (Below.refl w.heap.size w).alloc (Nat.le_refl _) (.cells (labc n b) 25)
  have HC : Hid (Calls Try.prog 54 #[u, .func (.func 100) #[] #[.pointer (some ⟨w.heap.size, 0, none⟩)]] (w.alloc (.cells (labc n b) 25)) fun e w' => ∃ v, e = .returned v ∧ Told w' v (covL L n b) ∧ Below (w.alloc (.cells (labc n b) 25)).heap.size (w.alloc (.cells (labc n b) 25)) w') := by
    refine (thoseCov_any (hT.bel B0) hl hkey (.pointer (some ⟨w.heap.size, 0, none⟩)) (coversB n b) (fun w3 j hj hb3 => covkey_any j w.heap.size n b w3 hj hn hb (A0.below hb3 A0.lt))).mono ?_
    rintro e w' ⟨v, he, ho, hb⟩
    exact ⟨v, he, told_own ho, hb⟩
  clear hT hl hkey hn hb
  generalize covL L n b = K at *
  go_enter Try.func65, Try.ntmps65
  go_upto_region 1 with (fail)
  generalize w.alloc _ = W at *
  clear A0
  go_wp2_with (go_at_call 54; (with_reducible refine HC.out.mono ?_); rintro e w1 ⟨v, rfl, hT1, hb1⟩)
  go_ret
  exact ⟨v, rfl, hT1, rstep B0 hb1⟩

def halvesE (r : Rc) (n : Int) (b : Nat) : Nat := if isR r = false then 1 else if isB n b = false then 1 else if (covL r.items n b).length < r.items.length then 1 else if r.kind ≠ 1 ∧ r.kind ≠ 3 then 13 else if n = 64 then 5 else 0
def half0 (r : Rc) (n : Nat) (b : Nat) : Rc := leafR (covL r.items (n + 1 : Nat) (chB n b 0)) (n + 1 : Nat) (chB n b 1)
def half1 (r : Rc) (n : Nat) (b : Nat) : Rc := leafR (covL r.items (n + 1 : Nat) (chB n b 1)) r.nl r.nb
theorem mustL_ok (n : Int) (b : Nat) : Gives Try.prog 66 #[.agg (labc n b), .int .i64 0] (.agg (labc n b)) := by
  intro w
  have A0 := (Blk.new w (labc n b) 25).alloc (.cells (labc 0 0) 25)
  have Z0 := Blk.new (w.alloc (.cells (labc n b) 25)) (labc 0 0) 25
  rw [World.size_alloc] at Z0
  have B0 := ((Below.refl w.heap.size w).alloc (Nat.le_refl _) (.cells (labc n b) 25)).alloc (by simp) (.cells (labc 0 0) 25)
  go_enter Try.func66, Try.ntmps66
  go_upto_region 1 with (fail)
  rw [lab00]
  generalize (w.alloc _).alloc _ = W at *
  go_wp2_with (first
    | (go_at_call 34; (with_reducible refine (pass_0 _).mono ?_); rintro e w2 ⟨rfl, rfl⟩)
    | (refine p_loadL rfl _ rfl _ rfl n b A0 ?_)
    | (refine p_storeL rfl _ _ rfl _ rfl n b rfl 0 0 Z0 ?_))
  exact bodyPost_ret (results_labP Try.results66 _ _ _ n b rfl (Z0.setRow _)) rfl ⟨rfl, bel_setRow B0 (by omega) _⟩
theorem mustL_no (n : Int) (b k : Nat) (hk : k ≠ 0) (w : World) : Calls Try.prog 66 #[.agg (labc n b), .int .i64 (k : Int)] w fun e w' => e = Pan k ∧ Below w.heap.size w w' := by
  have HR := Lib.hid (fun w => refuse_yes k w)
  have hd : ((k : Int) != 0) = true := by simp; omega
  have B0 := ((Below.refl w.heap.size w).alloc (Nat.le_refl _) (.cells (labc n b) 25)).alloc (by simp) (.cells (labc 0 0) 25)
  clear hk
  go_enter Try.func66, Try.ntmps66
  go_upto_region 1 with (fail)
  rw [lab00]
  generalize (w.alloc _).alloc _ = W at *
  go_wp2_with (go_at_call 34; (with_reducible refine (HR.out _).mono ?_); rintro e w2 ⟨he, rfl⟩; rw [pan_eq] at he; subst he)
  exact ⟨rfl, rfl, B0⟩

set_option maxHeartbeats 4000000 in
theorem halvc_a {r : Rc} {n : Int} {b : Nat} {a : Option Addr} {c : Nat} {w : World} {g j : Nat} (hg : Blk w g (recC r (.slice a r.items.length c)) 27) (hj : Blk w j (labc n b) 25) (hT : Told w (.slice a r.items.length c) r.items) (hW : r.Wf) (hl : r.items.length ≤ 1000000) (hn : -9223372036854775808 ≤ n ∧ n ≤ 9223372036854775807) (hb : b < 18446744073709551616) (hr : isR r = false) :
    Calls Try.prog 64 #[.pointer (some ⟨g, 0, none⟩), .pointer (some ⟨j, 0, none⟩)] w fun e w' => e = Pan 1 ∧ Below w.heap.size w w' := by
  go_enter Try.func64, Try.ntmps64
  go_upto_region 1 with (fail)
  rw [zero_two]
  have Z0 := Blk.new w (two zeroR (.slice none 0 0) zeroR (.slice none 0 0)) 90
  have B0 := (Below.refl w.heap.size w).alloc (Nat.le_refl _) (.cells (two zeroR (.slice none 0 0) zeroR (.slice none 0 0)) 90)
  replace hg := hg.below B0 hg.lt
  replace hj := hj.below B0 hj.lt
  replace hT := hT.bel B0
  generalize w.alloc _ = W at *
  have HI := Lib.hid (is_any hT hW hl)
  have HJ : Gives Try.prog 51 #[.agg (labc n b)] (.bool (isB n b)) := fun w => isL_any n b w hn.1 hn.2 hb
  rw [hr] at HI
  clear hT hW hl hr HJ
  go_wp2_with (first
    | (refine p_loadR rfl _ rfl g rfl r _ hg ?_)
    | (go_at_call 15; (with_reducible refine HI.out.mono ?_); rintro e w1 ⟨rfl, hb1⟩)
    | (go_at_call 34; (with_reducible refine (refuse_1 _).mono ?_); rintro e w2 ⟨he, rfl⟩; rw [pan_eq] at he; subst he))
  exact ⟨rfl, rfl, rstep B0 (by assumption)⟩

set_option maxHeartbeats 4000000 in
theorem halvc_b {r : Rc} {n : Int} {b : Nat} {a : Option Addr} {c : Nat} {w : World} {g j : Nat} (hg : Blk w g (recC r (.slice a r.items.length c)) 27) (hj : Blk w j (labc n b) 25) (hT : Told w (.slice a r.items.length c) r.items) (hW : r.Wf) (hl : r.items.length ≤ 1000000) (hn : -9223372036854775808 ≤ n ∧ n ≤ 9223372036854775807) (hb : b < 18446744073709551616) (hr : isR r = true) (hq : isB n b = false) :
    Calls Try.prog 64 #[.pointer (some ⟨g, 0, none⟩), .pointer (some ⟨j, 0, none⟩)] w fun e w' => e = Pan 1 ∧ Below w.heap.size w w' := by
  go_enter Try.func64, Try.ntmps64
  go_upto_region 1 with (fail)
  rw [zero_two]
  have Z0 := Blk.new w (two zeroR (.slice none 0 0) zeroR (.slice none 0 0)) 90
  have B0 := (Below.refl w.heap.size w).alloc (Nat.le_refl _) (.cells (two zeroR (.slice none 0 0) zeroR (.slice none 0 0)) 90)
  replace hg := hg.below B0 hg.lt
  replace hj := hj.below B0 hj.lt
  replace hT := hT.bel B0
  generalize w.alloc _ = W at *
  have HI := Lib.hid (is_any hT hW hl)
  have HJ : Gives Try.prog 51 #[.agg (labc n b)] (.bool (isB n b)) := fun w => isL_any n b w hn.1 hn.2 hb
  rw [hr] at HI
  rw [hq] at HJ
  clear hT hW hl hr hq
  go_wp2_with (first
    | (refine p_loadR rfl _ rfl g rfl r _ hg ?_)
    | (go_at_call 15; (with_reducible refine HI.out.mono ?_); rintro e w1 ⟨rfl, hb1⟩; have hj1 := hj.below hb1 hj.lt)
    | (go_guarded; refine o_loadL _ rfl j rfl n b hj1 ?_)
    | (go_at_call 51; (with_reducible refine (HJ.calls _).mono ?_); rintro e w2 ⟨rfl, hb2⟩)
    | (go_at_call 34; (with_reducible refine (refuse_1 _).mono ?_); rintro e w3 ⟨he, rfl⟩; rw [pan_eq] at he; subst he))
  exact ⟨rfl, rfl, rstep B0 (rstep hb1 hb2)⟩

set_option maxHeartbeats 4000000 in
theorem halvc_cov {r : Rc} {n : Int} {b : Nat} {a : Option Addr} {c : Nat} {w : World} {g j : Nat} (hg : Blk w g (recC r (.slice a r.items.length c)) 27) (hj : Blk w j (labc n b) 25) (hT : Told w (.slice a r.items.length c) r.items) (hW : r.Wf) (hl : r.items.length ≤ 1000000) (hn : -9223372036854775808 ≤ n ∧ n ≤ 9223372036854775807) (hb : b < 18446744073709551616) (hr : isR r = true) (hq : isB n b = true) (hs : (covL r.items n b).length < r.items.length) :
    Calls Try.prog 64 #[.pointer (some ⟨g, 0, none⟩), .pointer (some ⟨j, 0, none⟩)] w fun e w' => e = Pan 1 ∧ Below w.heap.size w w' := by
  go_enter Try.func64, Try.ntmps64
  go_upto_region 1 with (fail)
  rw [zero_two]
  have Z0 := Blk.new w (two zeroR (.slice none 0 0) zeroR (.slice none 0 0)) 90
  have B0 := (Below.refl w.heap.size w).alloc (Nat.le_refl _) (.cells (two zeroR (.slice none 0 0) zeroR (.slice none 0 0)) 90)
  replace hg := hg.below B0 hg.lt
  replace hj := hj.below B0 hj.lt
  replace hT := hT.bel B0
  generalize w.alloc _ = W at *
  have HI := Lib.hid (is_any hT hW hl)
  have HJ : Gives Try.prog 51 #[.agg (labc n b)] (.bool (isB n b)) := fun w => isL_any n b w hn.1 hn.2 hb
  rw [hr] at HI
  rw [hq] at HJ
  clear hr hq
  go_upto_region 2 with (first
    | (refine p_loadR rfl _ rfl g rfl r _ hg ?_)
    | (go_at_call 15; (with_reducible refine HI.out.mono ?_); rintro e w1 ⟨rfl, hb1⟩; have hj1 := hj.below hb1 hj.lt)
    | (go_guarded; refine o_loadL _ rfl j rfl n b hj1 ?_)
    | (go_at_call 51; (with_reducible refine (HJ.calls _).mono ?_); rintro e w2 ⟨rfl, hb2⟩)
    | (go_at_call 34; (with_reducible refine (pass_1 _).mono ?_); rintro e w3 ⟨rfl, rfl⟩))
  have hb12 := rstep hb1 hb2
  have hg2 := hg.below hb12 hg.lt
  have hj2 := hj.below hb12 hj.lt
  have Z2 := Z0.below hb12 Z0.lt
  have B2 := rstep B0 hb12
  have T2 := hT.bel hb12
  have HKEY : Hid (∀ x ∈ r.items, x.1 < 18446744073709551616) := hW.key
  clear hT hW HI HJ hb1 hb2 hb12 hj1 hg hj Z0 B0
  have HC := Lib.hid (fun w3 (hb3 : Below w2.heap.size w2 w3) => cov_any (T2.bel hb3) hl HKEY.out n b hn hb)
  obtain ⟨m, hm⟩ : ∃ m, m = (covL r.items n b).length := ⟨_, rfl⟩
  have HC2 : Hid (∀ w3, Below w2.heap.size w2 w3 → Calls Try.prog 65 #[.slice a r.items.length c, .agg (labc n b)] w3 fun e w' => (∃ q1 q2, e = .returned (.slice q1 m q2)) ∧ Below w3.heap.size w3 w') := by
    intro w3 hb3
    refine (HC.out w3 hb3).mono ?_
    rintro e w' ⟨v, he, hT, hbb⟩
    obtain ⟨q1, q2, rfl⟩ := told_shape hT
    exact ⟨⟨q1, q2, by rw [hm]; exact he⟩, hbb⟩
  rw [← hm] at hs
  have hd : decide (m < r.items.length) = true := decide_eq_true hs
  have c1 : w2.cell? ⟨g, 1, none⟩ = some (.slice a r.items.length c) := hg2.cell 1
  clear hs hm HC T2 hn hb hl
  have e0 : w2.cell? ⟨j, 0, none⟩ = some (.int .i64 n) := lab0 hj2
  have e1 : w2.cell? ⟨j, 1, none⟩ = some (.int .u64 (b : Int)) := lab1 hj2
  unfold labc at HC2
  refine wp_region_held_drew (S := (fun w4 => w4.cell? ⟨g, 1, none⟩ = some (.slice a r.items.length c) ∧ w4.cell? ⟨j, 0, none⟩ = some (.int .i64 n) ∧ w4.cell? ⟨j, 1, none⟩ = some (.int .u64 (b : Int)) ∧ Below w2.heap.size w2 w4)) (by kernel_rfl) ?_ (fun hHeld => ?_)
  · exact ⟨c1, e0, e1, rdrew _⟩
  refine wpAnyH_take (i := 0) (v := ?_) rfl (by kernel_rfl) (by kernel_rfl) (by kernel_rfl) (fun _ _ _ h => h) (Or.inl ⟨by rfl, ?_⟩) (by assumption) ?_
  rotate_left
  · intro w9 hSw
    (try dsimp only at hSw)
    go_simp
    (try with_reducible rfl)
  (try simp only [Act.put])
  (try simp only [List.setIfInBounds_toArray])
  (try simp only [List.set_cons_succ])
  (try simp only [List.set_cons_zero])
  refine wpAnyH_take (i := 1) (v := ?_) rfl (by kernel_rfl) (by kernel_rfl) (by kernel_rfl) (fun _ _ _ h => h) (Or.inl ⟨by rfl, ?_⟩) (by assumption) ?_
  rotate_left
  · intro w9 hSw
    (try dsimp only at hSw)
    go_simp
    (try with_reducible rfl)
  (try simp only [Act.put])
  (try simp only [List.setIfInBounds_toArray])
  (try simp only [List.set_cons_succ])
  (try simp only [List.set_cons_zero])
  refine wpAnyH_take (i := 2) (v := ?_) rfl (by kernel_rfl) (by kernel_rfl) (by kernel_rfl) (fun _ _ _ h => h) (Or.inl ⟨by rfl, ?_⟩) (by assumption) ?_
  rotate_left
  · intro w9 hSw
    (try dsimp only at hSw)
    go_simp
    (try with_reducible rfl)
  (try simp only [Act.put])
  (try simp only [List.setIfInBounds_toArray])
  (try simp only [List.set_cons_succ])
  (try simp only [List.set_cons_zero])
  refine wpAnyH_take (i := 5) (v := ?_) rfl (by kernel_rfl) (by kernel_rfl) (by kernel_rfl) (fun _ _ _ h => h) (Or.inl ⟨by rfl, ?_⟩) (by assumption) ?_
  rotate_left
  · intro w9 hSw
    (try dsimp only at hSw)
    go_simp
    (try with_reducible rfl)
  (try simp only [Act.put])
  (try simp only [List.setIfInBounds_toArray])
  (try simp only [List.set_cons_succ])
  (try simp only [List.set_cons_zero])
  refine wpAnyH_take (i := 6) (v := ?_) rfl (by kernel_rfl) (by kernel_rfl) (by kernel_rfl) (fun _ _ _ h => h) (Or.inl ⟨by rfl, ?_⟩) (by assumption) ?_
  rotate_left
  · intro w9 hSw
    (try dsimp only at hSw)
    go_simp
    (try with_reducible rfl)
  (try simp only [Act.put])
  (try simp only [List.setIfInBounds_toArray])
  (try simp only [List.set_cons_succ])
  (try simp only [List.set_cons_zero])
  refine wpAnyH_take (i := 7) (v := ?_) rfl (by kernel_rfl) (by kernel_rfl) (by kernel_rfl) (fun _ _ _ h => h) (Or.inl ⟨by rfl, ?_⟩) (by assumption) ?_
  rotate_left
  · intro w9 hSw
    (try dsimp only at hSw)
    go_simp
    (try with_reducible rfl)
  (try simp only [Act.put])
  (try simp only [List.setIfInBounds_toArray])
  (try simp only [List.set_cons_succ])
  (try simp only [List.set_cons_zero])
  refine wpAnyH_ready (rs := [3]) (by kernel_rfl) (by simp) ?_
  refine AllReadyH.cons rfl (fun K hK => ?_) ?_
  rotate_left
  · exact AllReadyH.nil
  go_simp
  go_wp2_with (go_at_call 65; (with_reducible refine (HC2.out _ hHeld.2.2.2).mono ?_); rintro e w3 ⟨⟨q1, q2, rfl⟩, hb3⟩)
  refine hK.out _ _ ?_ (fun hHeld => ?_)
  · exact ⟨(hg2.below (rstep hHeld.2.2.2 hb3) hg2.lt).cell 1, lab0 (hj2.below (rstep hHeld.2.2.2 hb3) hj2.lt), lab1 (hj2.below (rstep hHeld.2.2.2 hb3) hj2.lt), rstep hHeld.2.2.2 hb3⟩
  clear hK K
  (try simp only [Act.put])
  (try simp only [List.setIfInBounds_toArray])
  (try simp only [List.set_cons_succ])
  (try simp only [List.set_cons_zero])
  refine wpAnyH_take (i := 4) (v := ?_) rfl (by kernel_rfl) (by kernel_rfl) (by kernel_rfl) (fun _ _ _ h => h) (Or.inl ⟨by rfl, ?_⟩) (by assumption) ?_
  rotate_left
  · intro w9 hSw
    (try dsimp only at hSw)
    go_simp
    (try with_reducible rfl)
  (try simp only [Act.put])
  (try simp only [List.setIfInBounds_toArray])
  (try simp only [List.set_cons_succ])
  (try simp only [List.set_cons_zero])
  refine wpAnyH_take (i := 8) (v := ?_) rfl (by kernel_rfl) (by kernel_rfl) (by kernel_rfl) (fun _ _ _ h => h) (Or.inl ⟨by rfl, ?_⟩) (by assumption) ?_
  rotate_left
  · intro w9 hSw
    (try dsimp only at hSw)
    go_simp
    (try with_reducible rfl)
  (try simp only [Act.put])
  (try simp only [List.setIfInBounds_toArray])
  (try simp only [List.set_cons_succ])
  (try simp only [List.set_cons_zero])
  refine wpAnyH_ready (rs := [9]) (by kernel_rfl) (by simp) ?_
  refine AllReadyH.cons rfl (fun K hK => ?_) ?_
  rotate_left
  · exact AllReadyH.nil
  go_simp
  refine (refuse_1 _).mono ?_
  rintro e w4 ⟨he, rfl⟩
  rw [pan_eq] at he
  subst he
  exact ⟨rfl, rfl, rstep B2 hHeld.2.2.2⟩
end Go.Proofs.Ytkicndengkcojaa
