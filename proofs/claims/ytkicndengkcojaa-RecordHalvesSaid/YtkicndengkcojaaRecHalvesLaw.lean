/- RecordHalves: for every record and label the call returns true: halves have all items, each where its key is covered, and their union is the leaf again. No condition. -/
import Derived.Test.YtkicndengkcojaaRecPartsLaw
namespace Go.Proofs.Ytkicndengkcojaa.RecHalvesLaw
set_option maxRecDepth 100000
open Go Go.ChangeShapes Go.WideShapes Go.ChangeAt Go.RowKit Go.Sort
open Go.ChangeMaps (open_string shut_string)
open RecPartsLaw (recs_new two_blk)

theorem cut_split (n b key : Nat) (hn : n < 64) (hi : lowB n b = true) (h : cutN n key = b) : cutN (n + 1) key = b ∨ cutN (n + 1) key = b + gap (n + 1) := by
  have hb := lowB_iff.1 hi
  have hs := gap_succ n hn
  have hg := gap_pos (n + 1)
  have hkm := Nat.div_add_mod b (gap n)
  rw [cutN_mul] at h ⊢
  have e : key / gap n = key / gap (n + 1) / 2 := by rw [hs, Nat.mul_comm 2, Nat.div_div_eq_div_mul]
  have hq : b = b / gap n * 2 * gap (n + 1) := by
    have : b / gap n * 2 * gap (n + 1) = gap n * (b / gap n) := by rw [hs, Nat.mul_assoc, Nat.mul_comm (b / (2 * gap (n + 1)))]
    omega
  rw [e, hs] at h
  generalize b / gap n = q at *
  generalize key / gap (n + 1) = x at *
  generalize gap (n + 1) = g at *
  have m1 : x * g = b ↔ x = q * 2 := by rw [hq]; exact Nat.mul_left_inj (by omega)
  have m2 : x * g = b + g ↔ x = q * 2 + 1 := by
    have : b + g = (q * 2 + 1) * g := by rw [Nat.add_mul, Nat.one_mul, ← hq]
    rw [this]; exact Nat.mul_left_inj (by omega)
  have m3 : x / 2 * (2 * g) = b ↔ x / 2 = q := by
    have : b = q * (2 * g) := by rw [← Nat.mul_assoc]; exact hq
    rw [this]; exact Nat.mul_left_inj (by omega)
  have h3 := m3.1 h
  rw [m1, m2]
  omega
theorem cut_lt {n c d k j : Nat} (hd : c + gap n = d) (h : cutN n k = c) (h' : cutN n j = d) : k < j := by
  have h1 := cutN_add n k
  have h2 := cutN_le n j
  have h3 := Nat.mod_lt k (gap_pos n)
  omega
theorem cut_apart {n c d k : Nat} (hd : c + gap n = d) (h : cutN n k = c) : cutN n k ≠ d := by
  have := gap_pos n
  omega
/-- a row that rises, in two halves -/
theorem halves_join (p q : Nat → Bool) : ∀ (K : List It), Sorted K → (∀ x ∈ K, p x.1 = true ∨ q x.1 = true) → (∀ i j, p i = true → q j = true → i < j) → those K p ++ those K q = K
  | [], _, _, _ => rfl
  | x :: K, hs, hc, hlt => by
    have hs' := List.pairwise_cons.1 hs
    have ih := halves_join p q K hs'.2 (fun y hy => hc y (List.mem_cons_of_mem _ hy)) hlt
    unfold those at ih ⊢
    by_cases hp : p x.1 = true
    · have hq : q x.1 = false := by
        rw [Bool.eq_false_iff]
        intro h
        have := hlt _ _ hp h
        omega
      rw [List.filter_cons_of_pos (by simpa using hp), List.filter_cons_of_neg (by simp [hq]), List.cons_append, ih]
    · have hq : q x.1 = true := (hc x (by simp)).resolve_left hp
      have hno : K.filter (fun y => p y.1) = [] := filter_none fun y hy => by
        rw [Bool.eq_false_iff]
        intro h
        have h1 := hlt _ _ h hq
        have h2 := hs'.1 y hy
        omega
      have hall : K.filter (fun y => q y.1) = K := filter_all fun y hy => by
        rcases hc y (List.mem_cons_of_mem _ hy) with h | h
        · have h1 := hlt _ _ h hq
          have h2 := hs'.1 y hy
          omega
        · exact h
      rw [List.filter_cons_of_neg (by simpa using hp), List.filter_cons_of_pos (by simpa using hq), hno, hall, List.nil_append]
/-- what is known where it is halved -/
structure Halved (r : Rc) (nn b c0 c1 : Nat) (K0 K1 : List It) : Prop where
  h64 : nn < 64
  low : lowB nn b = true
  e0 : chB nn b 0 = c0
  e1 : chB nn b 1 = c1
  k0 : covL r.items ((nn : Int) + 1) c0 = K0
  k1 : covL r.items ((nn : Int) + 1) c1 = K1
  ra : isR (leafR K0 ((nn : Int) + 1) c1) = true
  rb : isR (leafR K1 r.nl r.nb) = true
  in0 : ∀ x ∈ K0, coversB ((nn : Int) + 1) c0 x.1 = true
  in1 : ∀ x ∈ K1, coversB ((nn : Int) + 1) c1 x.1 = true
  join : K0 ++ K1 = r.items
theorem halved {r : Rc} {n : Int} {b : Nat} (hE : halvesE r n b = 0) : ∃ (nn c0 c1 : Nat) (K0 K1 : List It), n = (nn : Int) ∧ isR r = true ∧ Halved r nn b c0 c1 K0 K1 := by
  unfold halvesE at hE
  split at hE
  · cases hE
  rename_i hr
  split at hE
  · cases hE
  rename_i hq
  split at hE
  · cases hE
  rename_i hs
  split at hE
  · cases hE
  split at hE
  · cases hE
  rename_i hf
  have hr : isR r = true := by simpa using hr
  have hq : isB n b = true := by simpa using hq
  have hlen := isB_len hq
  obtain ⟨nn, rfl⟩ := Int.eq_ofNat_of_zero_le hlen.1
  have h64 : nn < 64 := by omega
  have hlow := isB_low hq
  have hR := isR_iff.1 hr
  have hall : ∀ x ∈ r.items, coversB (nn : Int) b x.1 = true := by
    have hl : (covL r.items (nn : Int) b).length = r.items.length := by have := those_le r.items (coversB (nn : Int) b); unfold covL at *; omega
    have he := List.length_filter_eq_length_iff.1 hl
    intro x hx
    simpa using he x hx
  have cov : ∀ c k, lowB (nn + 1) c = true → (coversB ((nn : Int) + 1) c k = true ↔ cutN (nn + 1) k = c) := by
    intro c k hc
    have hi : isB ((nn : Int) + 1) c = true := isB_mk (n := nn + 1) (by omega) hc
    unfold coversB
    rw [hi, Bool.true_and, decide_eq_true_iff]
    exact Iff.rfl
  have l0 : lowB (nn + 1) (chB nn b 0) = true := chB_low h64 hlow
  have l1 : lowB (nn + 1) (chB nn b 1) = true := chB_low h64 hlow
  have e1 : chB nn b 0 + gap (nn + 1) = chB nn b 1 := rfl
  have hj : covL r.items ((nn : Int) + 1) (chB nn b 0) ++ covL r.items ((nn : Int) + 1) (chB nn b 1) = r.items := by
    refine halves_join _ _ _ hR.sorted (fun x hx => ?_) (fun i j hi hj => ?_)
    · have h1 := hall x hx
      unfold coversB at h1
      rw [Bool.and_eq_true, decide_eq_true_iff] at h1
      rw [cov _ _ l0, cov _ _ l1]
      exact cut_split nn b x.1 h64 hlow h1.2
    · exact cut_lt e1 ((cov _ _ l0).1 hi) ((cov _ _ l1).1 hj)
  have hle : ∀ c, (covL r.items ((nn : Int) + 1) c).length ≤ 16 := fun c => Nat.le_trans (those_le _ _) hR.len
  refine ⟨nn, _, _, _, _, rfl, hr, h64, hlow, rfl, rfl, rfl, rfl, isR_iff.2 ?_, isR_iff.2 ?_, fun x hx => ?_, fun x hx => ?_, hj⟩
  · exact ⟨by show (1 : Int) ≤ 1 ∧ (1 : Int) ≤ 5; omega, fun h => (by cases h), fun _ => rfl, hle _, sorted_filter hR.sorted _, fun x hx => hR.short x (List.mem_filter.1 hx).1, .inr (isB_mk (n := nn + 1) (by omega) l1)⟩
  · exact ⟨by show (1 : Int) ≤ 1 ∧ (1 : Int) ≤ 5; omega, fun h => (by cases h), fun _ => rfl, hle _, sorted_filter hR.sorted _, fun x hx => hR.short x (List.mem_filter.1 hx).1, hR.next⟩
  · simpa using (List.mem_filter.1 hx).2
  · simpa using (List.mem_filter.1 hx).2
theorem o_neqL {o : Oper} {a : Act} {w : World} {K : Act → World → Prop} {Q : Exit → Act → World → Prop} (x y : Operand) (ho : o.op = .binOp .neq 25 x y 25)
    (n : Int) (b : Nat) (m : Int) (c : Nat) (hx : a.eval x = .agg (labc n b)) (hy : a.eval y = .agg (labc m c)) {r : Bool} (hr : (!eqL n b m c) = r) (h : K (a.put o.dst (.bool r)) w) : o.wp Try.prog a w K Q := by
  unfold Oper.wp execOp
  simp only [ho, hx, hy, Sem.run_bind, run_eqGuard_agg w .neq 25 x y _ _ guardLab, run_neq_lab, hr, Sem.run_pure, Result.andThen_ok]
  exact h
theorem lab_new (w : World) (n : Int) (b : Nat) : Blk ((w.alloc (.cells (labc 0 0) 25)).setRow w.heap.size (labc n b)) w.heap.size (labc n b) 25 ∧ Below w.heap.size w ((w.alloc (.cells (labc 0 0) 25)).setRow w.heap.size (labc n b)) :=
  ⟨(Blk.new _ _ _).setRow _, bel_setRow ((Below.refl w.heap.size w).alloc (Nat.le_refl _) _) (Nat.le_refl _) _⟩
/-- the arguments, in blocks of their own -/
theorem boxes (r : Rc) (u : Value) (n : Int) (b : Nat) (w : World) : ∃ V, V = (w.alloc (.cells (recC r u) 27)).alloc (.cells (labc n b) 25) ∧
    Blk V w.heap.size (recC r u) 27 ∧ Blk V (w.heap.size + 1) (labc n b) 25 ∧ Below w.heap.size w V := by
  refine ⟨_, rfl, (Blk.new _ _ _).alloc _, ?_, ((Below.refl w.heap.size w).alloc (Nat.le_refl _) _).alloc (by simp) _⟩
  have h := Blk.new (w.alloc (.cells (recC r u) 27)) (labc n b) 25
  rwa [World.size_alloc] at h

/-- nothing is asked -/
theorem let_go {r : Rc} {u : Value} {w : World} (n : Int) (b : Nat) (hT : Told w u r.items) (h : bigB r = true) :
    Calls Try.prog 8 #[.agg (recC r u), .agg (labc n b)] w fun e w' => e = .returned (.bool true) ∧ Below w.heap.size w w' := by
  obtain ⟨V, hV, A0, L0, B0⟩ := boxes r u n b w
  have HB := big_any (hT.bel B0)
  rw [h] at HB
  clear h
  go_enter Try.func8, Try.ntmps8
  go_upto_region 1 with (fail)
  first
    | rw [← hV]
    | (simp only [recC] at hV; simp only [recC]; rw [← hV])
  clear hV L0
  go_wp2_with (first
    | (refine p_loadR rfl _ rfl w.heap.size rfl r u A0 ?_)
    | (go_at_call 9; (with_reducible refine HB.mono ?_); rintro e w1 ⟨rfl, hb1⟩))
  go_ret
  exact ⟨rfl, rstep B0 hb1⟩

set_option maxHeartbeats 2000000 in
/-- it is refused -/
theorem core_no {r : Rc} {u : Value} {w : World} (n : Int) (b : Nat) (hn : -9223372036854775808 ≤ n ∧ n ≤ 9223372036854775807) (hb8 : b < 18446744073709551616) (hT : Told w u r.items) (hW : r.Wf) (hb : bigB r = false) (hE : halvesE r n b ≠ 0) :
    Calls Try.prog 8 #[.agg (recC r u), .agg (labc n b)] w fun e w' => e = .returned (.bool true) ∧ Below w.heap.size w w' := by
  obtain ⟨V, hV, A0, L0, B0⟩ := boxes r u n b w
  have T0 := hT.bel B0
  have hl4 := big_no hb
  have hl : r.items.length ≤ 1000000 := by omega
  have HB := big_any T0
  rw [hb] at HB
  have HP : ∀ W, Told W u r.items → Calls Try.prog 25 #[.agg (recC r u), .agg (labc n b)] W (TellsH W zeroR zeroR (halvesE r n b)) := fun W hT => by
    have h := halves_any hT hW hl hn hb8
    have e1 : halvesA r n b = zeroR := by unfold halvesA; rw [if_neg hE]
    have e2 : halvesB r n b = zeroR := by unfold halvesB; rw [if_neg hE]
    rw [e1, e2] at h
    exact h
  have hd : ((halvesE r n b : Int) != 0) = true := by simp; omega
  generalize halvesE r n b = E at *
  have HR := Lib.hid recorded_any
  clear hT hb hW hl hl4 hE hn hb8
  go_enter Try.func8, Try.ntmps8
  go_upto_region 1 with (fail)
  first
    | rw [← hV]
    | (simp only [recC] at hV; simp only [recC]; rw [← hV])
  clear hV
  go_upto_region 3 with (first
    | (refine p_loadR rfl _ rfl w.heap.size rfl r u A0 ?_)
    | (go_at_call 9; (with_reducible refine HB.mono ?_); rintro e w1 ⟨rfl, hb1⟩))
  replace A0 := A0.below hb1 A0.lt
  replace L0 := L0.below hb1 L0.lt
  replace T0 := T0.bel hb1
  replace B0 := rstep B0 hb1
  clear hb1 HB
  go_upto_region 4 with (first
    | (refine p_loadR rfl _ rfl w.heap.size rfl r u A0 ?_)
    | (refine p_loadL rfl _ rfl (w.heap.size + 1) rfl n b L0 ?_)
    | (go_at_call 25; (with_reducible refine (HP _ T0).mono ?_); rintro e w5 ⟨u5, u6, rfl, t5, t6, hb1⟩; have o5 := told_one t5; have o6 := told_one t6)
    | (refine p_storeR rfl _ _ rfl w5.heap.size rfl zeroR u5 rfl o5 zeroR (.slice none 0 0) ((Blk.new _ _ _).alloc _) ?_)
    | (refine p_storeR rfl _ _ rfl (w5.heap.size + 1) rfl zeroR u6 rfl o6 zeroR (.slice none 0 0) (two_blk w5 zeroR u5) ?_))
  obtain ⟨A5, A6, T5, T6, b5⟩ := recs_new t5 t6
  replace b5 := rstep hb1 b5
  replace A0 := A0.below b5 A0.lt
  replace L0 := L0.below b5 L0.lt
  replace T0 := T0.bel b5
  replace B0 := rstep B0 b5
  try rw [zero_rec]
  clear hb1 t5 t6 b5 o5 o6 HP
  generalize w5.heap.size = g5 at *
  generalize (((w5.alloc _).alloc _).setRow _ _).setRow _ _ = W5 at *
  have B9 := Lib.hid B0
  clear A0 L0 T0 B0
  obtain ⟨a5, c5, rfl⟩ : ∃ a c, u5 = .slice a 0 c := told_shape T5
  obtain ⟨a6, c6, rfl⟩ : ∃ a c, u6 = .slice a 0 c := told_shape T6
  go_wp2_with (first
    | (go_guarded; with_reducible (show wpList _ _ _ _ _ _))
    | (go_at_call 14; (with_reducible refine (HR.out.calls _).mono ?_); rintro e w9 ⟨rfl, hb1⟩; have A5x := A5.below hb1 A5.lt; have A6x := A6.below hb1 A6.lt; have c1 : w9.cell? ⟨g5, 1, none⟩ = some (.slice a5 0 c5) := A5x.cell 1; have d1 : w9.cell? ⟨g5 + 1, 1, none⟩ = some (.slice a6 0 c6) := A6x.cell 1))
  go_ret
  exact ⟨rfl, rstep B9.out hb1⟩

set_option maxHeartbeats 8000000 in
theorem core {r : Rc} {u : Value} {w : World} {nn c0 c1 : Nat} {K0 K1 : List It} (b : Nat) (hb8 : b < 18446744073709551616) (hT : Told w u r.items) (hW : r.Wf) (hb : bigB r = false) (hE : halvesE r (nn : Int) b = 0) (HRR : isR r = true) (H : Halved r nn b c0 c1 K0 K1) :
    Calls Try.prog 8 #[.agg (recC r u), .agg (labc (nn : Int) b)] w fun e w' => e = .returned (.bool true) ∧ Below w.heap.size w w' := by
  obtain ⟨V, hV, A0, L0, B0⟩ := boxes r u (nn : Int) b w
  have T0 := hT.bel B0
  have hl4 := big_no hb
  have hl : r.items.length ≤ 1000000 := by omega
  have HB := big_any T0
  rw [hb] at HB
  have hn : -9223372036854775808 ≤ (nn : Int) ∧ (nn : Int) ≤ 9223372036854775807 := by have := H.h64; omega
  have hc0 : c0 < 18446744073709551616 := H.e0 ▸ chB_lt H.h64 hb8 H.low
  have hc1 : c1 < 18446744073709551616 := H.e1 ▸ chB_lt H.h64 hb8 H.low
  have hn1 : -9223372036854775808 ≤ (nn : Int) + 1 ∧ (nn : Int) + 1 ≤ 9223372036854775807 := by have := H.h64; omega
  have hk0 : K0.length ≤ 40 := by rw [← H.k0]; exact Nat.le_trans (those_le _ _) hl4
  have hk1 : K1.length ≤ 40 := by rw [← H.k1]; exact Nat.le_trans (those_le _ _) hl4
  obtain ⟨VA, hVA⟩ : ∃ V : Rc, V = leafR K0 ((nn : Int) + 1) c1 := ⟨_, rfl⟩
  obtain ⟨VB, hVB⟩ : ∃ V : Rc, V = leafR K1 r.nl r.nb := ⟨_, rfl⟩
  obtain ⟨VU, hVU⟩ : ∃ V : Rc, V = leafR r.items r.nl r.nb := ⟨_, rfl⟩
  have iA : VA.items = K0 := by rw [hVA]; rfl
  have iB : VB.items = K1 := by rw [hVB]; rfl
  have iU : VU.items = r.items := by rw [hVU]; rfl
  have WA : VA.Wf := by
    rw [hVA]
    refine ⟨by show -9223372036854775808 ≤ (1 : Int) ∧ (1 : Int) ≤ 9223372036854775807; omega, hn1, hc1, by show 0 < 18446744073709551616; omega, fun x hx => ?_⟩
    have hx : x ∈ covL r.items ((nn : Int) + 1) c0 := by rw [H.k0]; exact hx
    exact hW.key x (List.mem_filter.1 hx).1
  have WB : VB.Wf := by
    rw [hVB]
    refine ⟨by show -9223372036854775808 ≤ (1 : Int) ∧ (1 : Int) ≤ 9223372036854775807; omega, hW.nl, hW.nb, by show 0 < 18446744073709551616; omega, fun x hx => ?_⟩
    have hx : x ∈ covL r.items ((nn : Int) + 1) c1 := by rw [H.k1]; exact hx
    exact hW.key x (List.mem_filter.1 hx).1
  have HP : ∀ W, Told W u r.items → Calls Try.prog 25 #[.agg (recC r u), .agg (labc (nn : Int) b)] W (TellsH W VA VB 0) := fun W hT => by
    have h := halves_any hT hW hl hn hb8
    have e1 : halvesA r (nn : Int) b = VA := by unfold halvesA half0; rw [if_pos hE, hVA, Int.toNat_natCast, H.e0, H.e1, ← H.k0]; rfl
    have e2 : halvesB r (nn : Int) b = VB := by unfold halvesB half1; rw [if_pos hE, hVB, Int.toNat_natCast, H.e1, ← H.k1]; rfl
    rw [e1, e2, hE] at h
    exact h
  have HC0 : Gives Try.prog 29 #[.agg (labc (nn : Int) b), .int .i64 0] (.tuple #[.agg (labc ((nn : Int) + 1) c0), .int .i64 0]) := H.e0 ▸ child_bits nn b 0 H.h64 hb8 H.low (by omega)
  have HC1 : Gives Try.prog 29 #[.agg (labc (nn : Int) b), .int .i64 1] (.tuple #[.agg (labc ((nn : Int) + 1) c1), .int .i64 0]) := H.e1 ▸ child_bits nn b 1 H.h64 hb8 H.low (by omega)
  have HIa : ∀ W z, Told W z VA.items → Calls Try.prog 15 #[.agg (recC VA z)] W fun e w' => e = .returned (.bool true) ∧ Below W.heap.size W w' := fun W z hT => by
    have h := is_any hT WA (by rw [iA]; omega)
    rw [hVA, H.ra, ← hVA] at h
    exact h
  have HIb : ∀ W z, Told W z VB.items → Calls Try.prog 15 #[.agg (recC VB z)] W fun e w' => e = .returned (.bool true) ∧ Below W.heap.size W w' := fun W z hT => by
    have h := is_any hT WB (by rw [iB]; omega)
    rw [hVB, H.rb, ← hVB] at h
    exact h
  have HKa : ∀ x : It, x ∈ K0 → Gives Try.prog 30 #[.agg (labc ((nn : Int) + 1) c0), .int .u64 (x.1 : Int)] (.bool true) := fun x hx w => by
    have hk : x.1 < 18446744073709551616 := WA.key x (by rw [iA]; exact hx)
    have h := covers_any ((nn : Int) + 1) c0 x.1 w hn1.1 hn1.2 hc0 hk
    rw [H.in0 x hx] at h
    exact h
  have HKb : ∀ x : It, x ∈ K1 → Gives Try.prog 30 #[.agg (labc ((nn : Int) + 1) c1), .int .u64 (x.1 : Int)] (.bool true) := fun x hx w => by
    have hk : x.1 < 18446744073709551616 := WB.key x (by rw [iB]; exact hx)
    have h := covers_any ((nn : Int) + 1) c1 x.1 w hn1.1 hn1.2 hc1 hk
    rw [H.in1 x hx] at h
    exact h
  have HU : ∀ W z y, Told W z VA.items → Told W y VB.items → Calls Try.prog 27 #[.agg (recC VA z), .agg (recC VB y)] W (TellsR W VU 0) := fun W z y hT hT' => by
    have h := union_any hT hT' WA WB (by rw [iA]; omega) (by rw [iB]; omega)
    have hR := H.join
    have hz : (K0 ++ K1).length ≤ 16 := by rw [hR]; exact (isR_iff.1 HRR).len
    rw [List.length_append] at hz
    have e : unionE VA VB = 0 := by
      unfold unionE
      rw [hVA, hVB, H.ra, H.rb]
      have hs : riseB ((leafR K0 ((nn : Int) + 1) c1).items ++ (leafR K1 r.nl r.nb).items) = true := by
        show riseB (K0 ++ K1) = true
        rw [hR]
        exact riseB_iff.2 (isR_iff.1 HRR).sorted
      have hz' : ¬ 16 < (leafR K0 ((nn : Int) + 1) c1).items.length + (leafR K1 r.nl r.nb).items.length := by
        show ¬ 16 < K0.length + K1.length
        omega
      have mA : ¬ mayB (leafR K0 ((nn : Int) + 1) c1).kind = false := by show ¬ mayB 1 = false; decide
      have mB : ¬ mayB (leafR K1 r.nl r.nb).kind = false := by show ¬ mayB 1 = false; decide
      rw [hs, if_neg (by simp), if_neg (by simp), if_neg (by simp), if_neg mA, if_neg mB, if_neg hz']
    have e2 : unionV VA VB = VU := by
      unfold unionV
      rw [e, if_pos rfl, hVA, hVB, hVU, ← hR]
      rfl
    rw [e, e2] at h
    exact h
  have HS : ∀ W z, Told W z VU.items → Told W u r.items → Calls Try.prog 31 #[z, u] W fun e w' => e = .returned (.bool true) ∧ Below W.heap.size W w' := fun W z h1 h2 => by
    rw [iU] at h1
    have h := told_same h1 h2 hl
    exact h.mono fun e w' hh => ⟨by rw [hh.1]; simp, hh.2⟩
  have nA : VA.nl = (nn : Int) + 1 ∧ VA.nb = c1 := by rw [hVA]; exact ⟨rfl, rfl⟩
  have nB : VB.nl = r.nl ∧ VB.nb = r.nb := by rw [hVB]; exact ⟨rfl, rfl⟩
  have nU : VU.nl = r.nl ∧ VU.nb = r.nb ∧ VU.kind = 1 := by rw [hVU]; exact ⟨rfl, rfl, rfl⟩
  have x1 : (!eqL VA.nl VA.nb ((nn : Int) + 1) c1) = false := by rw [nA.1, nA.2]; simp [eqL_self]
  have x2 : (!eqL VB.nl VB.nb r.nl r.nb) = false := by rw [nB.1, nB.2]; simp [eqL_self]
  have x3 : eqL VU.nl VU.nb r.nl r.nb = true := by rw [nU.1, nU.2.1]; exact eqL_self _ _
  have x4 := Lib.hid nU.2.2
  have HLA : VA.items.length ≤ 1000000 := by rw [iA]; omega
  have HLB : VB.items.length ≤ 1000000 := by rw [iB]; omega
  have HIT0 := Lib.hid iA
  have HIT1 := Lib.hid iB
  have HR := Lib.hid recorded_any
  clear hT hb hW hl hl4 hE hn hb8 hc0 hc1 hn1 hk0 hk1 H hVA hVB hVU iA iB iU WA WB nA nB nU HRR
  go_enter Try.func8, Try.ntmps8
  go_upto_region 1 with (fail)
  first
    | rw [← hV]
    | (simp only [recC] at hV; simp only [recC]; rw [← hV])
  clear hV
  go_upto_region 3 with (first
    | (refine p_loadR rfl _ rfl w.heap.size rfl r u A0 ?_)
    | (go_at_call 9; (with_reducible refine HB.mono ?_); rintro e w1 ⟨rfl, hb1⟩))
  replace A0 := A0.below hb1 A0.lt
  replace L0 := L0.below hb1 L0.lt
  replace T0 := T0.bel hb1
  replace B0 := rstep B0 hb1
  clear hb1 HB
  go_upto_region 4 with (first
    | (refine p_loadR rfl _ rfl w.heap.size rfl r u A0 ?_)
    | (refine p_loadL rfl _ rfl (w.heap.size + 1) rfl (nn : Int) b L0 ?_)
    | (go_at_call 25; (with_reducible refine (HP _ T0).mono ?_); rintro e w5 ⟨u5, u6, rfl, t5, t6, hb1⟩; have o5 := told_one t5; have o6 := told_one t6)
    | (refine p_storeR rfl _ _ rfl w5.heap.size rfl VA u5 rfl o5 zeroR (.slice none 0 0) ((Blk.new _ _ _).alloc _) ?_)
    | (refine p_storeR rfl _ _ rfl (w5.heap.size + 1) rfl VB u6 rfl o6 zeroR (.slice none 0 0) (two_blk w5 VA u5) ?_))
  obtain ⟨A5, A6, T5, T6, b5⟩ := recs_new t5 t6
  replace b5 := rstep hb1 b5
  replace A0 := A0.below b5 A0.lt
  replace L0 := L0.below b5 L0.lt
  replace T0 := T0.bel b5
  replace B0 := rstep B0 b5
  try rw [zero_rec]
  clear hb1 t5 t6 b5 o5 o6 HP
  generalize w5.heap.size = g5 at *
  generalize (((w5.alloc _).alloc _).setRow _ _).setRow _ _ = W5 at *
  go_upto_region 6 with (fail)
  go_upto_region 7 with (first
    | (refine p_loadL rfl _ rfl (w.heap.size + 1) rfl (nn : Int) b L0 ?_)
    | (go_at_call 29; (with_reducible refine (HC0.calls _).mono ?_); rintro e w8 ⟨rfl, hb1⟩)
    | (refine p_storeL rfl _ _ rfl w8.heap.size rfl ((nn : Int) + 1) c0 rfl 0 0 (Blk.new _ _ _) ?_))
  try rw [lab00]
  obtain ⟨A8, b8⟩ := lab_new w8 ((nn : Int) + 1) c0
  replace b8 := rstep hb1 b8
  replace A0 := A0.below b8 A0.lt
  replace L0 := L0.below b8 L0.lt
  replace A5 := A5.below b8 A5.lt
  replace A6 := A6.below b8 A6.lt
  replace T0 := T0.bel b8
  replace T5 := T5.bel b8
  replace T6 := T6.bel b8
  replace B0 := rstep B0 b8
  clear hb1 b8 HC0
  generalize w8.heap.size = g8 at *
  generalize (w8.alloc _).setRow _ _ = W8 at *
  go_upto_region 8 with (first
    | (refine p_loadL rfl _ rfl (w.heap.size + 1) rfl (nn : Int) b L0 ?_)
    | (go_at_call 29; (with_reducible refine (HC1.calls _).mono ?_); rintro e w10 ⟨rfl, hb1⟩)
    | (refine p_storeL rfl _ _ rfl w10.heap.size rfl ((nn : Int) + 1) c1 rfl 0 0 (Blk.new _ _ _) ?_))
  try rw [lab00]
  obtain ⟨A10, b10⟩ := lab_new w10 ((nn : Int) + 1) c1
  replace b10 := rstep hb1 b10
  replace A0 := A0.below b10 A0.lt
  replace L0 := L0.below b10 L0.lt
  replace A5 := A5.below b10 A5.lt
  replace A6 := A6.below b10 A6.lt
  replace A8 := A8.below b10 A8.lt
  replace T0 := T0.bel b10
  replace T5 := T5.bel b10
  replace T6 := T6.bel b10
  replace B0 := rstep B0 b10
  clear hb1 b10 HC1 L0
  generalize w10.heap.size = g10 at *
  generalize (w10.alloc _).setRow _ _ = W10 at *
  go_upto_region 10 with (first
    | (go_guarded; with_reducible (show wpList _ _ _ _ _ _))
    | (go_guarded; refine o_loadR _ rfl g5 rfl VA u5 A5 ?_)
    | (go_at_call 15; (with_reducible refine (HIa _ _ T5).mono ?_); rintro e w11 ⟨rfl, hb1⟩; have A6x := A6.below hb1 A6.lt; have T6x := T6.bel hb1)
    | (go_guarded; refine o_loadR _ rfl (g5 + 1) rfl VB u6 A6x ?_)
    | (go_at_call 15; (with_reducible refine (HIb _ _ T6x).mono ?_); rintro e w12 ⟨rfl, hb2⟩; have hb3 := rstep hb1 hb2; have A5y := A5.below hb3 A5.lt; have A6y := A6.below hb3 A6.lt; have A10y := A10.below hb3 A10.lt; have A0y := A0.below hb3 A0.lt)
    | (go_guarded; rename_i KK hKK; refine o_midL _ rfl g5 rfl VA u5 A5y ?_; refine hKK _ _ ?_; simp only [Act.put, List.setIfInBounds_toArray, List.set_cons_succ, List.set_cons_zero])
    | (go_guarded; rename_i KK hKK; refine o_loadL _ rfl g10 rfl ((nn : Int) + 1) c1 A10y ?_; refine hKK _ _ ?_; simp only [Act.put, List.setIfInBounds_toArray, List.set_cons_succ, List.set_cons_zero])
    | (go_guarded; rename_i KK hKK; refine o_neqL _ _ rfl VA.nl VA.nb ((nn : Int) + 1) c1 rfl rfl x1 ?_; refine hKK _ _ ?_; simp only [Act.put, List.setIfInBounds_toArray, List.set_cons_succ, List.set_cons_zero])
    | (go_guarded; rename_i KK hKK; refine o_midL _ rfl (g5 + 1) rfl VB u6 A6y ?_; refine hKK _ _ ?_; simp only [Act.put, List.setIfInBounds_toArray, List.set_cons_succ, List.set_cons_zero])
    | (go_guarded; rename_i KK hKK; refine o_midL _ rfl w.heap.size rfl r u A0y ?_; refine hKK _ _ ?_; simp only [Act.put, List.setIfInBounds_toArray, List.set_cons_succ, List.set_cons_zero])
    | (go_guarded; rename_i KK hKK; refine o_neqL _ _ rfl VB.nl VB.nb r.nl r.nb rfl rfl x2 ?_; refine hKK _ _ ?_; simp only [Act.put, List.setIfInBounds_toArray, List.set_cons_succ, List.set_cons_zero])
    )
  replace A0 := A0.below hb3 A0.lt
  replace A5 := A5.below hb3 A5.lt
  replace A6 := A6.below hb3 A6.lt
  replace A8 := A8.below hb3 A8.lt
  replace A10 := A10.below hb3 A10.lt
  replace T0 := T0.bel hb3
  replace T5 := T5.bel hb3
  replace T6 := T6.bel hb3
  replace B0 := rstep B0 hb3
  clear hb1 hb2 hb3 A6x T6x A5y A6y A10y A0y HIa HIb
  obtain ⟨a5, k5, e5⟩ := told_shape T5
  obtain ⟨a6, k6, e6⟩ := told_shape T6
  obtain ⟨a0, k0, rfl⟩ := told_shape T0
  obtain ⟨m0, hm0⟩ : ∃ m, m = VA.items.length := ⟨_, rfl⟩
  obtain ⟨m1, hm1⟩ : ∃ m, m = VB.items.length := ⟨_, rfl⟩
  rw [← hm0] at e5
  rw [← hm1] at e6
  subst e5 e6
  have HM0 := Lib.hid hm0
  have HM1 := Lib.hid hm1
  have HTT0 := Lib.hid T0
  have HTT5 := Lib.hid T5
  have HTT6 := Lib.hid T6
  have HB0 := Lib.hid B0
  have h40 : m0 ≤ 1000000 := by rw [hm0]; exact HLA
  have h41 : m1 ≤ 1000000 := by rw [hm1]; exact HLB
  clear hm0 hm1 T0 T5 T6 B0 HLA HLB
  go_upto_region 11 with (fail)
  go_loopw [12] (fun i wr => ∃ k : Nat, k ≤ m0 ∧ i = .int .i64 (k : Int) ∧ Below w12.heap.size w12 wr) (fun i _ => m0 - (intOf i).toNat)
  case atStart => exact ⟨0, by omega, rfl, Below.refl _ _⟩
  case round =>
    obtain ⟨k, hk, rfl, hbw⟩ := hrel
    have HBW := Lib.hid hbw
    have zc1 : wr.cell? ⟨g5, 1, none⟩ = some (.slice a5 m0 k5) := (A5.below hbw A5.lt).cell 1
    clear hbw
    by_cases hlt : k < m0
    · obtain ⟨x, hx⟩ : ∃ x, VA.items[k]? = some x := ⟨_, List.getElem?_eq_getElem (by have := HM0.out; omega)⟩
      obtain ⟨b1, o1, e1, y1, _, _⟩ := told_at (HTT5.out.bel HBW.out) hx
      subst e1
      have HC := HKa x (by rw [← HIT0.out]; exact List.mem_of_getElem? hx)
      have A8w := A8.below HBW.out A8.lt
      clear hx
      go_upto_region 13 with (fail)
      have C1 := fun (d : Nat) (os : Array Obj) => cell_regrown zc1 d os
      have CX := fun (d : Nat) (os : Array Obj) => cell_regrown y1 d os
      refine wp_region_quiet_below (by kernel_rfl) (by kernel_rfl) ?_
      repeat (first
        | go_big_quiet_skip
        | (go_big_quiet_want
           first
           | (first
              | refine q_loadL _ rfl g8 rfl ((nn : Int) + 1) c0 A8w ?_
              simp only [Act.put, List.setIfInBounds_toArray, List.set_cons_succ, List.set_cons_zero]
              go_big_quiet_on)
           | (go_big_quiet_op
              first | go_big_quiet_on | go_big_quiet_call (first | with_reducible exact HC.grown _ _))))
      refine wpQuiet_nil ?_
      intro w2 hw'
      have hb2 := quiet_fin hw'
      clear hw' C1 CX y1 zc1
      go_wp2
      exact ⟨⟨k + 1, by omega, by go_num, rstep HBW.out hb2⟩, by simp [intOf]; omega⟩
    · obtain rfl : m0 = k := by omega
      have hbw := HBW.out
      replace A0 := A0.below hbw A0.lt
      replace A6 := A6.below hbw A6.lt
      replace A10 := A10.below hbw A10.lt
      replace A5 := A5.below hbw A5.lt
      replace HTT0 := Lib.hid (HTT0.out.bel hbw)
      replace HTT5 := Lib.hid (HTT5.out.bel hbw)
      replace HTT6 := Lib.hid (HTT6.out.bel hbw)
      replace HB0 := Lib.hid (rstep HB0.out hbw)
      clear hbw HBW A8 HKa
      go_upto_region 16 with (fail)
      clear zc1
      generalize wr = wo at *
      go_loopw [13] (fun i wr => ∃ k : Nat, k ≤ m1 ∧ i = .int .i64 (k : Int) ∧ Below wo.heap.size wo wr) (fun i _ => m1 - (intOf i).toNat)
      case atStart => exact ⟨0, by omega, rfl, Below.refl _ _⟩
      case round =>
        obtain ⟨k, hk, rfl, hbw⟩ := hrel
        have HBW := Lib.hid hbw
        have zc1 : wr.cell? ⟨g5 + 1, 1, none⟩ = some (.slice a6 m1 k6) := (A6.below hbw A6.lt).cell 1
        clear hbw
        by_cases hlt : k < m1
        · obtain ⟨x, hx⟩ : ∃ x, VB.items[k]? = some x := ⟨_, List.getElem?_eq_getElem (by have := HM1.out; omega)⟩
          obtain ⟨b1, o1, e1, y1, _, _⟩ := told_at (HTT6.out.bel HBW.out) hx
          subst e1
          have HC := HKb x (by rw [← HIT1.out]; exact List.mem_of_getElem? hx)
          have A10w := A10.below HBW.out A10.lt
          clear hx
          go_upto_region 18 with (fail)
          have C1 := fun (d : Nat) (os : Array Obj) => cell_regrown zc1 d os
          have CX := fun (d : Nat) (os : Array Obj) => cell_regrown y1 d os
          refine wp_region_quiet_below (by kernel_rfl) (by kernel_rfl) ?_
          repeat (first
            | go_big_quiet_skip
            | (go_big_quiet_want
               first
               | (first
                  | refine q_loadL _ rfl g10 rfl ((nn : Int) + 1) c1 A10w ?_
                  simp only [Act.put, List.setIfInBounds_toArray, List.set_cons_succ, List.set_cons_zero]
                  go_big_quiet_on)
               | (go_big_quiet_op
                  first | go_big_quiet_on | go_big_quiet_call (first | with_reducible exact HC.grown _ _))))
          refine wpQuiet_nil ?_
          intro w2 hw'
          have hb2 := quiet_fin hw'
          clear hw' C1 CX y1 zc1
          go_wp2
          exact ⟨⟨k + 1, by omega, by go_num, rstep HBW.out hb2⟩, by simp [intOf]; omega⟩
        · obtain rfl : m1 = k := by omega
          have hbw := HBW.out
          replace A0 := A0.below hbw A0.lt
          replace A5 := A5.below hbw A5.lt
          replace A6 := A6.below hbw A6.lt
          have T0 := HTT0.out.bel hbw
          have T5 := HTT5.out.bel hbw
          have T6 := HTT6.out.bel hbw
          have B0 := rstep HB0.out hbw
          clear hbw HBW A10 HKb HTT0 HTT5 HTT6 HB0
          go_upto_region 20 with (fail)
          clear zc1
          go_upto_region 21 with (first
            | (refine p_loadR rfl _ rfl g5 rfl VA _ A5 ?_)
            | (refine p_loadR rfl _ rfl (g5 + 1) rfl VB _ A6 ?_)
            | (go_at_call 27; (with_reducible refine (HU _ _ _ T5 T6).mono ?_); rintro e w20 ⟨u14, rfl, t14, hb1⟩)
            | (refine p_storeR rfl _ _ rfl w20.heap.size rfl VU u14 rfl (told_one t14) zeroR (.slice none 0 0) (Blk.new _ _ _) ?_))
          obtain ⟨A14, T14, b14⟩ := rec_new t14
          replace b14 := rstep hb1 b14
          replace A0 := A0.below b14 A0.lt
          replace T0 := T0.bel b14
          replace B0 := rstep B0 b14
          clear hb1 t14 b14 HU A5 A6 T5 T6
          generalize w20.heap.size = g14 at *
          generalize (w20.alloc _).setRow _ _ = W14 at *
          have B9 := Lib.hid B0
          clear B0
          obtain ⟨a14, k14, rfl⟩ := told_shape T14
          go_wp2_with (first
            | (go_guarded; with_reducible (show wpList _ _ _ _ _ _))
            | (go_at_call 14; (with_reducible refine (HR.out.calls _).mono ?_); rintro e w21 ⟨rfl, hb1⟩; have A14x := A14.below hb1 A14.lt; have A0x := A0.below hb1 A0.lt; have T14x := T14.bel hb1; have T0x := T0.bel hb1; have d0 : w21.cell? ⟨g14, 0, none⟩ = some (.int .i64 1) := x4.out ▸ A14x.cell 0; have d1 : w21.cell? ⟨g14, 1, none⟩ = some (.slice a14 VU.items.length k14) := A14x.cell 1; have d2 : w21.cell? ⟨w.heap.size, 1, none⟩ = some (.slice a0 r.items.length k0) := A0x.cell 1)
            | (go_at_call 31; (with_reducible refine (HS _ _ T14x T0x).mono ?_); rintro e w22 ⟨rfl, hb2⟩; have A14y := A14x.below hb2 A14x.lt; have A0y := A0x.below hb2 A0x.lt)
            | (go_guarded; rename_i KK hKK; refine o_midL _ rfl g14 rfl VU _ A14y ?_; refine hKK _ _ ?_; simp only [Act.put, List.setIfInBounds_toArray, List.set_cons_succ, List.set_cons_zero])
            | (go_guarded; rename_i KK hKK; refine o_midL _ rfl w.heap.size rfl r _ A0y ?_; refine hKK _ _ ?_; simp only [Act.put, List.setIfInBounds_toArray, List.set_cons_succ, List.set_cons_zero])
            | (go_guarded; rename_i KK hKK; refine o_eqlL _ _ rfl VU.nl VU.nb r.nl r.nb rfl rfl x3 ?_; refine hKK _ _ ?_; simp only [Act.put, List.setIfInBounds_toArray, List.set_cons_succ, List.set_cons_zero]))
          go_ret
          exact ⟨rfl, rstep B9.out (rstep hb1 hb2)⟩
set_option maxHeartbeats 4000000 in
theorem walk {r : Rc} {u : Value} {w : World} (hT : Told w u r.items) (hW : r.Wf) (n : Int) (b : Nat) (ok : (-9223372036854775808 ≤ n ∧ n ≤ 9223372036854775807) ∧ b < 18446744073709551616) :
    Calls Try.prog 8 #[.agg (recC r u), .agg (labc n b)] w fun e w' => e = .returned (.bool true) ∧ Below w.heap.size w w' := by
  cases hb : bigB r
  · by_cases hE : halvesE r n b = 0
    · obtain ⟨nn, c0, c1, K0, K1, rfl, hr, H⟩ := halved hE
      exact core b ok.2 hT hW hb hE hr H
    · exact core_no n b ok.1 ok.2 hT hW hb hE
  · exact let_go n b hT hb
set_option maxRecDepth 100000 in
theorem lifted (os : Os) (started : os.Started) (H : Type) (enc : TypeId × Value → H) :
    ReturnsInHanded {} Try.checked os 8 .any (Rows.recordHalvesSpec.pre6 enc Try.prog Try.f8 Rows.recordHalvesRow.domain false) (Rows.recordHalvesSpec.post enc Try.prog Try.f8 false true false false) := by
  refine returnsInHanded_of_change (C := Try.checked) own started (by kernel_rfl) Try.func8
    (ChangeSpec.witness6 (enc := enc) (C := Try.checked) false ⟨#[], #[.agg #[.int .i64 0, .slice none 0 0, .int .i64 0, .int .u64 0, .int .u64 0], .agg #[.int .i64 0, .int .u64 0]], []⟩ 8 (by kernel_rfl) (by kernel_rfl) (by kernel_rfl) (by kernel_rfl)) ?_
  intro W base args ds gs before hval0 hW hcnd _
  have hval : ∀ (j : Nat) t v, Try.f8.params[j]? = some t → args[j]? = some v → Value.okWide Try.prog W .any base t v := hval0
  have hW' := hW
  obtain ⟨p, q, hA0, hV, rfl, hfz, hnd⟩ := hW
  have hA : DataW.TrodAll enc Try.prog W 0 (fun _ => true) true Try.f8.params.toList args.toList ds p := hA0
  rw [Try.params8] at hA hval
  obtain ⟨v0, vs0, d0, ds0, p0, q0, hargs, rfl, rfl, h0, r0⟩ := trodAll_cons hA
  obtain ⟨v1, vs1, d1, ds1, p1, q1, rfl, rfl, rfl, h1, r1⟩ := trodAll_cons r0
  obtain ⟨rfl, rfl, rfl⟩ := trodAll_nil r1
  obtain rfl : args = #[v0, v1] := by cases args; simp_all
  obtain ⟨rfl, rfl⟩ := trodVars_none hV
  have k0 := h0
  have lt0 : ∀ x ∈ p0, x.block < W.heap.size := by obtain ⟨m, hm⟩ := k0; exact DataW.trod_lt m _ _ _ hm
  obtain ⟨R0, u0, wf0, rfl, tl0⟩ := open_rec (hval 0 27 v0 rfl rfl) h0
  have k1 := h1
  have lt1 : ∀ x ∈ p1, x.block < W.heap.size := by obtain ⟨m, hm⟩ := k1; exact DataW.trod_lt m _ _ _ hm
  obtain ⟨n1, b1, ok1, rfl⟩ := open_label (hval 1 25 v1 rfl rfl) h1
  clear hA0 hval0
  refine (walk tl0 wf0 n1 b1 ok1).mono fun e W' ⟨he, bel⟩ => ?_
  subst he
  exact ⟨_, rfl, _, _, _, [], _, [], hW', trodAll_mk1 (shut_bool Try.underlying4 _), (trodAll_cons_mk (Below.trod laidOut (by kernel_rfl) (of_decide_eq_true (by kernel_rfl)) k0 bel lt0) (trodAll_cons_mk (Below.trod laidOut (by kernel_rfl) (of_decide_eq_true (by kernel_rfl)) k1 bel lt1) trodAll_mk0)), rfl, bel.frame _, fun h => by cases h⟩

theorem proved : Rows.RecordHalvesSaid :=
  OpenClaim.holds_of_wide 8 Try.f8 rfl rfl rfl rfl rfl rfl rfl ⟨rfl, rfl, rfl, rfl, rfl⟩ rfl rfl rfl rfl rfl (by kernel_rfl) Try.func8 (by kernel_rfl)
    (of_decide_eq_true (by kernel_rfl)) (by unfold Func.isWrapper; first | (rw [if_pos (by decide +kernel)]; kernel_rfl) | (rw [if_neg (by decide +kernel)]; exact ⟨rfl, rfl⟩))
    (fun os started H enc _ => lifted os started H enc)
end Go.Proofs.Ytkicndengkcojaa.RecHalvesLaw
