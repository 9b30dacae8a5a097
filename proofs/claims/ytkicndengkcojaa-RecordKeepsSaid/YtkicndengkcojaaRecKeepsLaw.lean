/- RecordKeeps: for every record, two keys and a value the call returns true: an item that is put is found, others stay; dropped again, the record is as it was. No condition. -/
import Derived.Test.YtkicndengkcojaaRecRec
import Derived.Test.YtkicndengkcojaaRecOpen
import Derived.Test.YtkicndengkcojaaRecWithout
namespace Go.Proofs.Ytkicndengkcojaa.RecKeepsLaw
set_option maxRecDepth 100000
open Go Go.ChangeShapes Go.WideShapes Go.ChangeAt Go.RowKit Go.Sort
open Go.ChangeMaps (open_string shut_string)

theorem withE_zero {r : Rc} {k : Nat} {s : ByteArray} (h : withE r k s = 0) : isR r = true ∧ r.kind = 1 ∧ s.size ≤ 64 ∧ (putL r.items k s).length ≤ 16 := by
  unfold withE at h
  split at h
  · cases h
  · rename_i h1
    split at h
    · cases h
    · rename_i h2
      split at h
      · cases h
      · rename_i h3
        split at h
        · cases h
        · rename_i h4
          exact ⟨by simpa using h1, by omega, by omega, by omega⟩
/-- with an item a right leaf is a right leaf -/
theorem put_right {r : Rc} (hr : Right r) (hk : r.kind = 1) (k : Nat) (s : ByteArray) (hs : s.size ≤ 64) (hl : (putL r.items k s).length ≤ 16) : Right ⟨1, putL r.items k s, r.nl, r.nb, r.mark⟩ where
  kind := by show (1 : Int) ≤ 1 ∧ (1 : Int) ≤ 5; omega
  bare := fun h => by cases h
  mark := fun _ => hr.mark (by omega)
  len := hl
  sorted := put_sorted hr.sorted k s
  short := fun x hx => by
    rcases List.mem_append.1 hx with hx | hx
    · exact hr.short x (List.mem_filter.1 hx).1
    · rcases List.mem_cons.1 hx with rfl | hx
      · exact hs
      · exact hr.short x (List.mem_filter.1 hx).1
  next := hr.next
theorem put_wf {r : Rc} (hW : r.Wf) {k : Nat} (hk : k < 18446744073709551616) (s : ByteArray) : (⟨1, putL r.items k s, r.nl, r.nb, r.mark⟩ : Rc).Wf :=
  ⟨by show -9223372036854775808 ≤ (1 : Int) ∧ (1 : Int) ≤ 9223372036854775807; omega, hW.nl, hW.nb, hW.mark, put_bound hW.key hk⟩
theorem drop_put (L : List It) (k : Nat) (s : ByteArray) : dropL (putL L k s) k = loL L k ++ hiL L k := by
  unfold putL
  rw [drop_append]
  have h1 : dropL (loL L k) k = loL L k := filter_all fun x hx => by have := lo_lt x hx; simp; omega
  have h2 : dropL ((k, s) :: hiL L k) k = hiL L k := by
    unfold dropL
    rw [List.filter_cons_of_neg (by simp)]
    exact filter_all fun x hx => by have := hi_gt x hx; simp; omega
  rw [h1, h2]
theorem drop_put_new {L : List It} (h : Sorted L) {k : Nat} (s : ByteArray) (hh : hasL L k = false) : dropL (putL L k s) k = L := by
  rw [drop_put, ← dropL_eq h, drop_no h k hh]
theorem run_neq_lab (n : Int) (b : Nat) (m : Int) (c : Nat) (w : World) : (binOp .neq 25 (.agg (labc n b)) (.agg (labc m c))).run Try.prog w = .ok (.bool (!eqL n b m c)) w := by
  rw [run_neq_struct, run_equalIn_lab 9998]
  rfl
theorem o_neqL {o : Oper} {a : Act} {w : World} {K : Act → World → Prop} {Q : Exit → Act → World → Prop} (x y : Operand) (ho : o.op = .binOp .neq 25 x y 25)
    (n : Int) (b : Nat) (m : Int) (c : Nat) (hx : a.eval x = .agg (labc n b)) (hy : a.eval y = .agg (labc m c)) {r : Bool} (hr : (!eqL n b m c) = r) (h : K (a.put o.dst (.bool r)) w) : o.wp Try.prog a w K Q := by
  unfold Oper.wp execOp
  simp only [ho, hx, hy, Sem.run_bind, run_eqGuard_agg w .neq 25 x y _ _ guardLab, run_neq_lab, hr, Sem.run_pure, Result.andThen_ok]
  exact h

/-- nothing is asked -/
theorem let_go {r : Rc} {u : Value} {w : World} (k o : Nat) (s : ByteArray) (hT : Told w u r.items) (h : bigB r = true ∨ (bigB r = false ∧ 500 < s.size)) :
    Calls Try.prog 7 #[.agg (recC r u), .int .u64 (k : Int), .int .u64 (o : Int), .string s] w fun e w' => e = .returned (.bool true) ∧ Below w.heap.size w w' := by
  obtain ⟨A0, B0⟩ := rec_box w r u
  have HB := big_any (hT.bel B0)
  rcases h with h | ⟨h, h'⟩
  · rw [h] at HB
    clear h
    go_enter Try.func7, Try.ntmps7
    go_upto_region 1 with (fail)
    generalize w.alloc _ = W at *
    go_wp2_with (first
      | (refine p_loadR rfl _ rfl w.heap.size rfl r u A0 ?_)
      | (go_at_call 9; (with_reducible refine HB.mono ?_); rintro e w1 ⟨rfl, hb1⟩))
    go_ret
    exact ⟨rfl, rstep B0 hb1⟩
  · rw [h] at HB
    have hc : (500 : Int) < (s.size : Int) := by omega
    clear h h'
    go_enter Try.func7, Try.ntmps7
    go_upto_region 1 with (fail)
    generalize w.alloc _ = W at *
    go_wp2_with (first
      | (refine p_loadR rfl _ rfl w.heap.size rfl r u A0 ?_)
      | (go_at_call 9; (with_reducible refine HB.mono ?_); rintro e w1 ⟨rfl, hb1⟩))
    go_ret
    exact ⟨rfl, rstep B0 hb1⟩

set_option maxHeartbeats 1000000 in
/-- the item is refused -/
theorem core_no {r : Rc} {u : Value} {w : World} (k o : Nat) (s : ByteArray) (hT : Told w u r.items) (hW : r.Wf) (hb : bigB r = false) (h5 : s.size ≤ 500) (hE : withE r k s ≠ 0) :
    Calls Try.prog 7 #[.agg (recC r u), .int .u64 (k : Int), .int .u64 (o : Int), .string s] w fun e w' => e = .returned (.bool true) ∧ Below w.heap.size w w' := by
  obtain ⟨A0, B0⟩ := rec_box w r u
  have T0 := hT.bel B0
  have hl : r.items.length ≤ 1000000 := by have := big_no hb; omega
  have hc : ¬ (500 : Int) < (s.size : Int) := by omega
  have HB := big_any T0
  rw [hb] at HB
  have HP : ∀ W, Told W u r.items → Calls Try.prog 19 #[.agg (recC r u), .int .u64 (k : Int), .string s] W (TellsR W zeroR (withE r k s)) := fun W hT => by
    have h := with_any hT hW hl k s
    have hv : withV r k s = zeroR := by unfold withV; rw [if_neg hE]
    rw [hv] at h
    exact h
  have hd : ((withE r k s : Int) != 0) = true := by simp; omega
  generalize withE r k s = E at *
  have HR := Lib.hid recorded_any
  clear hT hb h5 hW hl hE
  go_enter Try.func7, Try.ntmps7
  go_upto_region 1 with (fail)
  generalize w.alloc _ = W at *
  go_upto_region 3 with (first
    | (refine p_loadR rfl _ rfl w.heap.size rfl r u A0 ?_)
    | (go_at_call 9; (with_reducible refine HB.mono ?_); rintro e w1 ⟨rfl, hb1⟩))
  replace A0 := A0.below hb1 A0.lt
  replace T0 := T0.bel hb1
  replace B0 := rstep B0 hb1
  clear hb1 HB
  go_upto_region 4 with (first
    | (refine p_loadR rfl _ rfl w.heap.size rfl r u A0 ?_)
    | (go_at_call 19; (with_reducible refine (HP _ T0).mono ?_); rintro e w5 ⟨u5, rfl, t5, hb1⟩)
    | (refine p_storeR rfl _ _ rfl w5.heap.size rfl zeroR u5 rfl (told_one t5) zeroR (.slice none 0 0) (Blk.new _ _ _) ?_))
  obtain ⟨A5, T5, b5⟩ := rec_new t5
  replace B0 := rstep B0 (rstep hb1 b5)
  clear hb1 t5 b5 HP A0 T0
  generalize w5.heap.size = g5 at *
  generalize (w5.alloc _).setRow _ _ = W5 at *
  have B9 := Lib.hid B0
  obtain ⟨a5, c5, rfl⟩ : ∃ a c, u5 = .slice a 0 c := told_shape T5
  go_wp2_with (first
    | (go_guarded; with_reducible (show wpList _ _ _ _ _ _))
    | (go_at_call 14; (with_reducible refine (HR.out.calls _).mono ?_); rintro e w9 ⟨rfl, hb1⟩; have A5x := A5.below hb1 A5.lt; have c0 : w9.cell? ⟨g5, 0, none⟩ = some (.int .i64 0) := A5x.cell 0; have c1 : w9.cell? ⟨g5, 1, none⟩ = some (.slice a5 0 c5) := A5x.cell 1))
  go_ret
  exact ⟨rfl, rstep B9.out hb1⟩

set_option maxHeartbeats 2000000 in
theorem coreSN {r : Rc} {u : Value} {w : World} (k o : Nat) (s : ByteArray) (hk : k < 18446744073709551616) (hT : Told w u r.items) (hW : r.Wf) (hb : bigB r = false) (h5 : s.size ≤ 500) (hE : withE r k s = 0) (ho : o = k) (hh : hasL r.items k = false) :
    Calls Try.prog 7 #[.agg (recC r u), .int .u64 (k : Int), .int .u64 (o : Int), .string s] w fun e w' => e = .returned (.bool true) ∧ Below w.heap.size w w' := by
  obtain ⟨A0, B0⟩ := rec_box w r u
  have T0 := hT.bel B0
  have hl : r.items.length ≤ 1000000 := by have := big_no hb; omega
  have hc : ¬ (500 : Int) < (s.size : Int) := by omega
  have HB := big_any T0
  rw [hb] at HB
  obtain ⟨hr, hk1, hs, hn⟩ := withE_zero hE
  have hR := isR_iff.1 hr
  have hAR := put_right hR hk1 k s hs hn
  have hAW := put_wf hW hk s
  obtain ⟨A, hA⟩ : ∃ A : Rc, A = ⟨1, putL r.items k s, r.nl, r.nb, r.mark⟩ := ⟨_, rfl⟩
  rw [← hA] at hAR hAW
  have hAi : A.items = putL r.items k s := by rw [hA]
  have hAl : A.items.length ≤ 1000000 := by rw [hAi]; omega
  have HP : ∀ W, Told W u r.items → Calls Try.prog 19 #[.agg (recC r u), .int .u64 (k : Int), .string s] W (TellsR W A 0) := fun W hT => by
    have h := with_any hT hW hl k s
    have hv : withV r k s = A := by unfold withV; rw [if_pos hE, hA]
    rw [hv, hE] at h
    exact h
  have HF1 : ∀ W v, Told W v A.items → Calls Try.prog 23 #[.agg (recC A v), .int .u64 (k : Int)] W fun e w' => e = .returned (.tuple #[.string s, .bool true]) ∧ Below W.heap.size W w' := fun W v hT => by
    have h := find_any hT hAl k
    rw [hAi, valL, hasL, get_put] at h
    exact h
  have HF2 : ∀ W, Told W u r.items → Calls Try.prog 23 #[.agg (recC r u), .int .u64 (o : Int)] W fun e w' => e = .returned (.tuple #[.string (valL r.items o), .bool (hasL r.items o)]) ∧ Below W.heap.size W w' := fun W hT => find_any hT hl o
  have HF3 : ∀ W v, Told W v A.items → Calls Try.prog 23 #[.agg (recC A v), .int .u64 (o : Int)] W fun e w' => e = .returned (.tuple #[.string (valL A.items o), .bool (hasL A.items o)]) ∧ Below W.heap.size W w' := fun W v hT => find_any hT hAl o
  have ho1 : ((k : Int) != (o : Int)) = false := by simp; omega
  generalize valL A.items o = av at *
  generalize hasL A.items o = ah at *
  generalize valL r.items o = bv at *
  generalize hasL r.items o = bh at *
  have HI : ∀ W v, Told W v A.items → Calls Try.prog 15 #[.agg (recC A v)] W fun e w' => e = .returned (.bool true) ∧ Below W.heap.size W w' := fun W v hT => by
    have h := is_any hT hAW hAl
    rw [isR_iff.2 hAR] at h
    exact h
  have HF4 : ∀ W, Told W u r.items → Calls Try.prog 23 #[.agg (recC r u), .int .u64 (k : Int)] W fun e w' => e = .returned (.tuple #[.string (valL r.items k), .bool false]) ∧ Below W.heap.size W w' := fun W hT => by
    have h := find_any hT hl k
    rw [hh] at h
    exact h
  generalize valL r.items k = rv at *
  obtain ⟨D, hD⟩ : ∃ D : Rc, D = ⟨1, dropL A.items k, A.nl, A.nb, A.mark⟩ := ⟨_, rfl⟩
  have hDi : D.items = dropL A.items k := by rw [hD]
  have hDl : D.items.length ≤ 1000000 := by rw [hDi]; exact Nat.le_trans (drop_len_le _ _) hAl
  have hAk : A.kind = 1 := by rw [hA]
  have HO : ∀ W v, Told W v A.items → Calls Try.prog 21 #[.agg (recC A v), .int .u64 (k : Int)] W (TellsB W D true) := fun W v hT => by
    have h := without_rec hT hAW hAl k
    have hb : withoutB A k = true := by unfold withoutB; rw [isR_iff.2 hAR, hAi, hasL, get_put]; rfl
    have hv : withoutV A k = D := by unfold withoutV; rw [hb, if_pos rfl, hAk, hD]
    rw [hb, hv] at h
    exact h
  have HF5 : ∀ W v, Told W v D.items → Calls Try.prog 23 #[.agg (recC D v), .int .u64 (k : Int)] W fun e w' => e = .returned (.tuple #[.string (valL D.items k), .bool false]) ∧ Below W.heap.size W w' := fun W v hT => by
    have h := find_any hT hDl k
    have e : hasL D.items k = false := by rw [hDi, hasL, get_drop]; rfl
    rw [e] at h
    exact h
  generalize valL D.items k = dv at *
  have hlen : (A.items.length == r.items.length) = false := by
    rw [hAi, put_length hR.sorted, hh]
    simp
  have hlenI : ((A.items.length : Int) == (r.items.length : Int)) = false := by
    rw [← hlen, Bool.eq_iff_iff]
    simp
    omega
  have hnx : (!eqL A.nl A.nb r.nl r.nb) = false := by rw [hA]; simp [eqL_self]
  have hDr : D = r := by
    rw [hD, hAi, drop_put_new hR.sorted s hh, hA, ← hk1]
  have HS : ∀ W v, Told W v D.items → Told W u r.items → Calls Try.prog 17 #[.agg (recC D v), .agg (recC r u)] W fun e w' => e = .returned (.bool true) ∧ Below W.heap.size W w' := fun W v h1 h2 => by
    have h := same_rec h1 h2 hDl
    rw [hDr, sameR_self] at h
    rw [hDr]
    exact h
  have HR := Lib.hid recorded_any
  have q2 : (bv.toList != bv.toList) = false := by simp
  have q3 : (bh != bh) = false := by simp
  have q4 : (s.toList != s.toList) = false := by simp
  clear hT hb h5 hW hl hE hr hk1 hs hn hR hAR hAW hA hAi hAl hD hDi hDl hAk hlen hh ho hk hDr
  go_enter Try.func7, Try.ntmps7
  go_upto_region 1 with (fail)
  generalize w.alloc _ = W at *
  go_upto_region 3 with (first
    | (refine p_loadR rfl _ rfl w.heap.size rfl r u A0 ?_)
    | (go_at_call 9; (with_reducible refine HB.mono ?_); rintro e w1 ⟨rfl, hb1⟩))
  replace A0 := A0.below hb1 A0.lt
  replace T0 := T0.bel hb1
  replace B0 := rstep B0 hb1
  clear hb1 HB
  go_upto_region 4 with (first
    | (refine p_loadR rfl _ rfl w.heap.size rfl r u A0 ?_)
    | (go_at_call 19; (with_reducible refine (HP _ T0).mono ?_); rintro e w5 ⟨u5, rfl, t5, hb1⟩)
    | (refine p_storeR rfl _ _ rfl w5.heap.size rfl A u5 rfl (told_one t5) zeroR (.slice none 0 0) (Blk.new _ _ _) ?_))
  obtain ⟨A5, T5, b5⟩ := rec_new t5
  replace b5 := rstep hb1 b5
  replace A0 := A0.below b5 A0.lt
  replace T0 := T0.bel b5
  replace B0 := rstep B0 b5
  clear hb1 t5 b5 HP
  generalize w5.heap.size = g5 at *
  generalize (w5.alloc _).setRow _ _ = W5 at *
  go_upto_region 7 with (first
    | (refine p_loadR rfl _ rfl g5 rfl A u5 A5 ?_)
    | (go_at_call 23; (with_reducible refine (HF1 _ _ T5).mono ?_); rintro e w6 ⟨rfl, hb1⟩))
  replace A0 := A0.below hb1 A0.lt
  replace A5 := A5.below hb1 A5.lt
  replace T0 := T0.bel hb1
  replace T5 := T5.bel hb1
  replace B0 := rstep B0 hb1
  clear hb1 HF1
  go_upto_region 8 with (first
    | (refine p_loadR rfl _ rfl w.heap.size rfl r u A0 ?_)
    | (go_at_call 23; (with_reducible refine (HF2 _ T0).mono ?_); rintro e w7 ⟨rfl, hb1⟩))
  replace A0 := A0.below hb1 A0.lt
  replace A5 := A5.below hb1 A5.lt
  replace T0 := T0.bel hb1
  replace T5 := T5.bel hb1
  replace B0 := rstep B0 hb1
  clear hb1 HF2
  go_upto_region 9 with (first
    | (refine p_loadR rfl _ rfl g5 rfl A u5 A5 ?_)
    | (go_at_call 23; (with_reducible refine (HF3 _ _ T5).mono ?_); rintro e w8 ⟨rfl, hb1⟩))
  replace A0 := A0.below hb1 A0.lt
  replace A5 := A5.below hb1 A5.lt
  replace T0 := T0.bel hb1
  replace T5 := T5.bel hb1
  replace B0 := rstep B0 hb1
  clear hb1 HF3
  go_upto_region 11 with (first
    | (go_guarded; with_reducible (show wpList _ _ _ _ _ _))
    | (go_guarded; refine o_loadR _ rfl g5 rfl A u5 A5 ?_)
    | (go_at_call 15; (with_reducible refine (HI _ _ T5).mono ?_); rintro e w9 ⟨rfl, hb1⟩; have A0x := A0.below hb1 A0.lt; have A5x := A5.below hb1 A5.lt)
    | (go_guarded; rename_i K0 hK0; refine o_midL _ rfl g5 rfl A u5 A5x ?_; refine hK0 _ _ ?_; simp only [Act.put, List.setIfInBounds_toArray, List.set_cons_succ, List.set_cons_zero])
    | (go_guarded; rename_i K0 hK0; refine o_midL _ rfl w.heap.size rfl r u A0x ?_; refine hK0 _ _ ?_; simp only [Act.put, List.setIfInBounds_toArray, List.set_cons_succ, List.set_cons_zero])
    | (go_guarded; rename_i K0 hK0; refine o_neqL _ _ rfl A.nl A.nb r.nl r.nb rfl rfl hnx ?_; refine hK0 _ _ ?_; simp only [Act.put, List.setIfInBounds_toArray, List.set_cons_succ, List.set_cons_zero])
    )
  replace A0 := A0.below hb1 A0.lt
  replace A5 := A5.below hb1 A5.lt
  replace T0 := T0.bel hb1
  replace T5 := T5.bel hb1
  replace B0 := rstep B0 hb1
  clear hb1 A0x A5x HI
  go_upto_region 12 with (first
    | (refine p_loadR rfl _ rfl w.heap.size rfl r u A0 ?_)
    | (go_at_call 23; (with_reducible refine (HF4 _ T0).mono ?_); rintro e w10 ⟨rfl, hb1⟩))
  replace A0 := A0.below hb1 A0.lt
  replace A5 := A5.below hb1 A5.lt
  replace T0 := T0.bel hb1
  replace T5 := T5.bel hb1
  replace B0 := rstep B0 hb1
  clear hb1 HF4
  go_upto_region 13 with (first
    | (refine p_loadR rfl _ rfl g5 rfl A u5 A5 ?_)
    | (go_at_call 21; (with_reducible refine (HO _ _ T5).mono ?_); rintro e w11 ⟨u6, rfl, t6, hb1⟩)
    | (refine p_storeR rfl _ _ rfl w11.heap.size rfl D u6 rfl (told_one t6) zeroR (.slice none 0 0) (Blk.new _ _ _) ?_))
  obtain ⟨A6, T6, b6⟩ := rec_new t6
  replace b6 := rstep hb1 b6
  replace A0 := A0.below b6 A0.lt
  replace A5 := A5.below b6 A5.lt
  replace T0 := T0.bel b6
  replace T5 := T5.bel b6
  replace B0 := rstep B0 b6
  clear hb1 t6 b6 HO
  generalize w11.heap.size = g6 at *
  generalize (w11.alloc _).setRow _ _ = W6 at *
  go_upto_region 14 with (first
    | (refine p_loadR rfl _ rfl g6 rfl D u6 A6 ?_)
    | (go_at_call 23; (with_reducible refine (HF5 _ _ T6).mono ?_); rintro e w12 ⟨rfl, hb1⟩))
  replace A0 := A0.below hb1 A0.lt
  replace A5 := A5.below hb1 A5.lt
  replace A6 := A6.below hb1 A6.lt
  replace T0 := T0.bel hb1
  replace T5 := T5.bel hb1
  replace T6 := T6.bel hb1
  replace B0 := rstep B0 hb1
  clear hb1 HF5
  have B9 := Lib.hid B0
  obtain ⟨a0, c0, rfl⟩ : ∃ a c, u = .slice a r.items.length c := told_shape T0
  obtain ⟨a5, c5, rfl⟩ : ∃ a c, u5 = .slice a A.items.length c := told_shape T5
  go_wp2_with (first
    | (go_guarded; with_reducible (show wpList _ _ _ _ _ _))
    | (go_at_call 14; (with_reducible refine (HR.out.calls _).mono ?_); rintro e w13 ⟨rfl, hb1⟩; have A6y := A6.below hb1 A6.lt; have A0y := A0.below hb1 A0.lt; have A5y := A5.below hb1 A5.lt; have T0y := T0.bel hb1; have T6y := T6.bel hb1)
    | (go_guarded; rename_i K0 hK0; refine o_loadR _ rfl g6 rfl D u6 A6y ?_; refine hK0 _ _ ?_; simp only [Act.put, List.setIfInBounds_toArray, List.set_cons_succ, List.set_cons_zero])
    | (go_guarded; refine o_loadR _ rfl w.heap.size rfl r _ A0y ?_)
    | (go_at_call 17; (with_reducible refine (HS _ _ T6y T0y).mono ?_); rintro e w14 ⟨rfl, hb2⟩; have A5x := A5y.below hb2 A5y.lt; have A0x := A0y.below hb2 A0y.lt; have d0 : w14.cell? ⟨w.heap.size, 1, none⟩ = some (.slice a0 r.items.length c0) := A0x.cell 1; have d5 : w14.cell? ⟨g5, 1, none⟩ = some (.slice a5 A.items.length c5) := A5x.cell 1))
  go_ret
  exact ⟨rfl, rstep (rstep B9.out hb1) hb2⟩

set_option maxHeartbeats 2000000 in
theorem coreON {r : Rc} {u : Value} {w : World} (k o : Nat) (s : ByteArray) (hk : k < 18446744073709551616) (hT : Told w u r.items) (hW : r.Wf) (hb : bigB r = false) (h5 : s.size ≤ 500) (hE : withE r k s = 0) (ho : o ≠ k) (hh : hasL r.items k = false) :
    Calls Try.prog 7 #[.agg (recC r u), .int .u64 (k : Int), .int .u64 (o : Int), .string s] w fun e w' => e = .returned (.bool true) ∧ Below w.heap.size w w' := by
  obtain ⟨A0, B0⟩ := rec_box w r u
  have T0 := hT.bel B0
  have hl : r.items.length ≤ 1000000 := by have := big_no hb; omega
  have hc : ¬ (500 : Int) < (s.size : Int) := by omega
  have HB := big_any T0
  rw [hb] at HB
  obtain ⟨hr, hk1, hs, hn⟩ := withE_zero hE
  have hR := isR_iff.1 hr
  have hAR := put_right hR hk1 k s hs hn
  have hAW := put_wf hW hk s
  obtain ⟨A, hA⟩ : ∃ A : Rc, A = ⟨1, putL r.items k s, r.nl, r.nb, r.mark⟩ := ⟨_, rfl⟩
  rw [← hA] at hAR hAW
  have hAi : A.items = putL r.items k s := by rw [hA]
  have hAl : A.items.length ≤ 1000000 := by rw [hAi]; omega
  have HP : ∀ W, Told W u r.items → Calls Try.prog 19 #[.agg (recC r u), .int .u64 (k : Int), .string s] W (TellsR W A 0) := fun W hT => by
    have h := with_any hT hW hl k s
    have hv : withV r k s = A := by unfold withV; rw [if_pos hE, hA]
    rw [hv, hE] at h
    exact h
  have HF1 : ∀ W v, Told W v A.items → Calls Try.prog 23 #[.agg (recC A v), .int .u64 (k : Int)] W fun e w' => e = .returned (.tuple #[.string s, .bool true]) ∧ Below W.heap.size W w' := fun W v hT => by
    have h := find_any hT hAl k
    rw [hAi, valL, hasL, get_put] at h
    exact h
  have HF2 : ∀ W, Told W u r.items → Calls Try.prog 23 #[.agg (recC r u), .int .u64 (o : Int)] W fun e w' => e = .returned (.tuple #[.string (valL r.items o), .bool (hasL r.items o)]) ∧ Below W.heap.size W w' := fun W hT => find_any hT hl o
  have HF3 : ∀ W v, Told W v A.items → Calls Try.prog 23 #[.agg (recC A v), .int .u64 (o : Int)] W fun e w' => e = .returned (.tuple #[.string (valL r.items o), .bool (hasL r.items o)]) ∧ Below W.heap.size W w' := fun W v hT => by
    have h := find_any hT hAl o
    rw [hAi, valL, hasL, get_put_other hR.sorted k o s ho] at h
    exact h
  have ho1 : ((k : Int) != (o : Int)) = true := by simp; omega
  generalize valL r.items o = bv at *
  generalize hasL r.items o = bh at *
  have HI : ∀ W v, Told W v A.items → Calls Try.prog 15 #[.agg (recC A v)] W fun e w' => e = .returned (.bool true) ∧ Below W.heap.size W w' := fun W v hT => by
    have h := is_any hT hAW hAl
    rw [isR_iff.2 hAR] at h
    exact h
  have HF4 : ∀ W, Told W u r.items → Calls Try.prog 23 #[.agg (recC r u), .int .u64 (k : Int)] W fun e w' => e = .returned (.tuple #[.string (valL r.items k), .bool false]) ∧ Below W.heap.size W w' := fun W hT => by
    have h := find_any hT hl k
    rw [hh] at h
    exact h
  generalize valL r.items k = rv at *
  obtain ⟨D, hD⟩ : ∃ D : Rc, D = ⟨1, dropL A.items k, A.nl, A.nb, A.mark⟩ := ⟨_, rfl⟩
  have hDi : D.items = dropL A.items k := by rw [hD]
  have hDl : D.items.length ≤ 1000000 := by rw [hDi]; exact Nat.le_trans (drop_len_le _ _) hAl
  have hAk : A.kind = 1 := by rw [hA]
  have HO : ∀ W v, Told W v A.items → Calls Try.prog 21 #[.agg (recC A v), .int .u64 (k : Int)] W (TellsB W D true) := fun W v hT => by
    have h := without_rec hT hAW hAl k
    have hb : withoutB A k = true := by unfold withoutB; rw [isR_iff.2 hAR, hAi, hasL, get_put]; rfl
    have hv : withoutV A k = D := by unfold withoutV; rw [hb, if_pos rfl, hAk, hD]
    rw [hb, hv] at h
    exact h
  have HF5 : ∀ W v, Told W v D.items → Calls Try.prog 23 #[.agg (recC D v), .int .u64 (k : Int)] W fun e w' => e = .returned (.tuple #[.string (valL D.items k), .bool false]) ∧ Below W.heap.size W w' := fun W v hT => by
    have h := find_any hT hDl k
    have e : hasL D.items k = false := by rw [hDi, hasL, get_drop]; rfl
    rw [e] at h
    exact h
  generalize valL D.items k = dv at *
  have hlen : (A.items.length == r.items.length) = false := by
    rw [hAi, put_length hR.sorted, hh]
    simp
  have hlenI : ((A.items.length : Int) == (r.items.length : Int)) = false := by
    rw [← hlen, Bool.eq_iff_iff]
    simp
    omega
  have hnx : (!eqL A.nl A.nb r.nl r.nb) = false := by rw [hA]; simp [eqL_self]
  have hDr : D = r := by
    rw [hD, hAi, drop_put_new hR.sorted s hh, hA, ← hk1]
  have HS : ∀ W v, Told W v D.items → Told W u r.items → Calls Try.prog 17 #[.agg (recC D v), .agg (recC r u)] W fun e w' => e = .returned (.bool true) ∧ Below W.heap.size W w' := fun W v h1 h2 => by
    have h := same_rec h1 h2 hDl
    rw [hDr, sameR_self] at h
    rw [hDr]
    exact h
  have HR := Lib.hid recorded_any
  have q2 : (bv.toList != bv.toList) = false := by simp
  have q3 : (bh != bh) = false := by simp
  have q4 : (s.toList != s.toList) = false := by simp
  clear hT hb h5 hW hl hE hr hk1 hs hn hR hAR hAW hA hAi hAl hD hDi hDl hAk hlen hh ho hk hDr
  go_enter Try.func7, Try.ntmps7
  go_upto_region 1 with (fail)
  generalize w.alloc _ = W at *
  go_upto_region 3 with (first
    | (refine p_loadR rfl _ rfl w.heap.size rfl r u A0 ?_)
    | (go_at_call 9; (with_reducible refine HB.mono ?_); rintro e w1 ⟨rfl, hb1⟩))
  replace A0 := A0.below hb1 A0.lt
  replace T0 := T0.bel hb1
  replace B0 := rstep B0 hb1
  clear hb1 HB
  go_upto_region 4 with (first
    | (refine p_loadR rfl _ rfl w.heap.size rfl r u A0 ?_)
    | (go_at_call 19; (with_reducible refine (HP _ T0).mono ?_); rintro e w5 ⟨u5, rfl, t5, hb1⟩)
    | (refine p_storeR rfl _ _ rfl w5.heap.size rfl A u5 rfl (told_one t5) zeroR (.slice none 0 0) (Blk.new _ _ _) ?_))
  obtain ⟨A5, T5, b5⟩ := rec_new t5
  replace b5 := rstep hb1 b5
  replace A0 := A0.below b5 A0.lt
  replace T0 := T0.bel b5
  replace B0 := rstep B0 b5
  clear hb1 t5 b5 HP
  generalize w5.heap.size = g5 at *
  generalize (w5.alloc _).setRow _ _ = W5 at *
  go_upto_region 7 with (first
    | (refine p_loadR rfl _ rfl g5 rfl A u5 A5 ?_)
    | (go_at_call 23; (with_reducible refine (HF1 _ _ T5).mono ?_); rintro e w6 ⟨rfl, hb1⟩))
  replace A0 := A0.below hb1 A0.lt
  replace A5 := A5.below hb1 A5.lt
  replace T0 := T0.bel hb1
  replace T5 := T5.bel hb1
  replace B0 := rstep B0 hb1
  clear hb1 HF1
  go_upto_region 8 with (first
    | (refine p_loadR rfl _ rfl w.heap.size rfl r u A0 ?_)
    | (go_at_call 23; (with_reducible refine (HF2 _ T0).mono ?_); rintro e w7 ⟨rfl, hb1⟩))
  replace A0 := A0.below hb1 A0.lt
  replace A5 := A5.below hb1 A5.lt
  replace T0 := T0.bel hb1
  replace T5 := T5.bel hb1
  replace B0 := rstep B0 hb1
  clear hb1 HF2
  go_upto_region 9 with (first
    | (refine p_loadR rfl _ rfl g5 rfl A u5 A5 ?_)
    | (go_at_call 23; (with_reducible refine (HF3 _ _ T5).mono ?_); rintro e w8 ⟨rfl, hb1⟩))
  replace A0 := A0.below hb1 A0.lt
  replace A5 := A5.below hb1 A5.lt
  replace T0 := T0.bel hb1
  replace T5 := T5.bel hb1
  replace B0 := rstep B0 hb1
  clear hb1 HF3
  go_upto_region 11 with (first
    | (go_guarded; with_reducible (show wpList _ _ _ _ _ _))
    | (go_guarded; refine o_loadR _ rfl g5 rfl A u5 A5 ?_)
    | (go_at_call 15; (with_reducible refine (HI _ _ T5).mono ?_); rintro e w9 ⟨rfl, hb1⟩; have A0x := A0.below hb1 A0.lt; have A5x := A5.below hb1 A5.lt)
    | (go_guarded; rename_i K0 hK0; refine o_midL _ rfl g5 rfl A u5 A5x ?_; refine hK0 _ _ ?_; simp only [Act.put, List.setIfInBounds_toArray, List.set_cons_succ, List.set_cons_zero])
    | (go_guarded; rename_i K0 hK0; refine o_midL _ rfl w.heap.size rfl r u A0x ?_; refine hK0 _ _ ?_; simp only [Act.put, List.setIfInBounds_toArray, List.set_cons_succ, List.set_cons_zero])
    | (go_guarded; rename_i K0 hK0; refine o_neqL _ _ rfl A.nl A.nb r.nl r.nb rfl rfl hnx ?_; refine hK0 _ _ ?_; simp only [Act.put, List.setIfInBounds_toArray, List.set_cons_succ, List.set_cons_zero])
    )
  replace A0 := A0.below hb1 A0.lt
  replace A5 := A5.below hb1 A5.lt
  replace T0 := T0.bel hb1
  replace T5 := T5.bel hb1
  replace B0 := rstep B0 hb1
  clear hb1 A0x A5x HI
  go_upto_region 12 with (first
    | (refine p_loadR rfl _ rfl w.heap.size rfl r u A0 ?_)
    | (go_at_call 23; (with_reducible refine (HF4 _ T0).mono ?_); rintro e w10 ⟨rfl, hb1⟩))
  replace A0 := A0.below hb1 A0.lt
  replace A5 := A5.below hb1 A5.lt
  replace T0 := T0.bel hb1
  replace T5 := T5.bel hb1
  replace B0 := rstep B0 hb1
  clear hb1 HF4
  go_upto_region 13 with (first
    | (refine p_loadR rfl _ rfl g5 rfl A u5 A5 ?_)
    | (go_at_call 21; (with_reducible refine (HO _ _ T5).mono ?_); rintro e w11 ⟨u6, rfl, t6, hb1⟩)
    | (refine p_storeR rfl _ _ rfl w11.heap.size rfl D u6 rfl (told_one t6) zeroR (.slice none 0 0) (Blk.new _ _ _) ?_))
  obtain ⟨A6, T6, b6⟩ := rec_new t6
  replace b6 := rstep hb1 b6
  replace A0 := A0.below b6 A0.lt
  replace A5 := A5.below b6 A5.lt
  replace T0 := T0.bel b6
  replace T5 := T5.bel b6
  replace B0 := rstep B0 b6
  clear hb1 t6 b6 HO
  generalize w11.heap.size = g6 at *
  generalize (w11.alloc _).setRow _ _ = W6 at *
  go_upto_region 14 with (first
    | (refine p_loadR rfl _ rfl g6 rfl D u6 A6 ?_)
    | (go_at_call 23; (with_reducible refine (HF5 _ _ T6).mono ?_); rintro e w12 ⟨rfl, hb1⟩))
  replace A0 := A0.below hb1 A0.lt
  replace A5 := A5.below hb1 A5.lt
  replace A6 := A6.below hb1 A6.lt
  replace T0 := T0.bel hb1
  replace T5 := T5.bel hb1
  replace T6 := T6.bel hb1
  replace B0 := rstep B0 hb1
  clear hb1 HF5
  have B9 := Lib.hid B0
  obtain ⟨a0, c0, rfl⟩ : ∃ a c, u = .slice a r.items.length c := told_shape T0
  obtain ⟨a5, c5, rfl⟩ : ∃ a c, u5 = .slice a A.items.length c := told_shape T5
  go_wp2_with (first
    | (go_guarded; with_reducible (show wpList _ _ _ _ _ _))
    | (go_at_call 14; (with_reducible refine (HR.out.calls _).mono ?_); rintro e w13 ⟨rfl, hb1⟩; have A6y := A6.below hb1 A6.lt; have A0y := A0.below hb1 A0.lt; have A5y := A5.below hb1 A5.lt; have T0y := T0.bel hb1; have T6y := T6.bel hb1)
    | (go_guarded; rename_i K0 hK0; refine o_loadR _ rfl g6 rfl D u6 A6y ?_; refine hK0 _ _ ?_; simp only [Act.put, List.setIfInBounds_toArray, List.set_cons_succ, List.set_cons_zero])
    | (go_guarded; refine o_loadR _ rfl w.heap.size rfl r _ A0y ?_)
    | (go_at_call 17; (with_reducible refine (HS _ _ T6y T0y).mono ?_); rintro e w14 ⟨rfl, hb2⟩; have A5x := A5y.below hb2 A5y.lt; have A0x := A0y.below hb2 A0y.lt; have d0 : w14.cell? ⟨w.heap.size, 1, none⟩ = some (.slice a0 r.items.length c0) := A0x.cell 1; have d5 : w14.cell? ⟨g5, 1, none⟩ = some (.slice a5 A.items.length c5) := A5x.cell 1))
  go_ret
  exact ⟨rfl, rstep (rstep B9.out hb1) hb2⟩

set_option maxHeartbeats 2000000 in
theorem coreSW {r : Rc} {u : Value} {w : World} (k o : Nat) (s : ByteArray) (hk : k < 18446744073709551616) (hT : Told w u r.items) (hW : r.Wf) (hb : bigB r = false) (h5 : s.size ≤ 500) (hE : withE r k s = 0) (ho : o = k) (hh : hasL r.items k = true) :
    Calls Try.prog 7 #[.agg (recC r u), .int .u64 (k : Int), .int .u64 (o : Int), .string s] w fun e w' => e = .returned (.bool true) ∧ Below w.heap.size w w' := by
  obtain ⟨A0, B0⟩ := rec_box w r u
  have T0 := hT.bel B0
  have hl : r.items.length ≤ 1000000 := by have := big_no hb; omega
  have hc : ¬ (500 : Int) < (s.size : Int) := by omega
  have HB := big_any T0
  rw [hb] at HB
  obtain ⟨hr, hk1, hs, hn⟩ := withE_zero hE
  have hR := isR_iff.1 hr
  have hAR := put_right hR hk1 k s hs hn
  have hAW := put_wf hW hk s
  obtain ⟨A, hA⟩ : ∃ A : Rc, A = ⟨1, putL r.items k s, r.nl, r.nb, r.mark⟩ := ⟨_, rfl⟩
  rw [← hA] at hAR hAW
  have hAi : A.items = putL r.items k s := by rw [hA]
  have hAl : A.items.length ≤ 1000000 := by rw [hAi]; omega
  have HP : ∀ W, Told W u r.items → Calls Try.prog 19 #[.agg (recC r u), .int .u64 (k : Int), .string s] W (TellsR W A 0) := fun W hT => by
    have h := with_any hT hW hl k s
    have hv : withV r k s = A := by unfold withV; rw [if_pos hE, hA]
    rw [hv, hE] at h
    exact h
  have HF1 : ∀ W v, Told W v A.items → Calls Try.prog 23 #[.agg (recC A v), .int .u64 (k : Int)] W fun e w' => e = .returned (.tuple #[.string s, .bool true]) ∧ Below W.heap.size W w' := fun W v hT => by
    have h := find_any hT hAl k
    rw [hAi, valL, hasL, get_put] at h
    exact h
  have HF2 : ∀ W, Told W u r.items → Calls Try.prog 23 #[.agg (recC r u), .int .u64 (o : Int)] W fun e w' => e = .returned (.tuple #[.string (valL r.items o), .bool (hasL r.items o)]) ∧ Below W.heap.size W w' := fun W hT => find_any hT hl o
  have HF3 : ∀ W v, Told W v A.items → Calls Try.prog 23 #[.agg (recC A v), .int .u64 (o : Int)] W fun e w' => e = .returned (.tuple #[.string (valL A.items o), .bool (hasL A.items o)]) ∧ Below W.heap.size W w' := fun W v hT => find_any hT hAl o
  have ho1 : ((k : Int) != (o : Int)) = false := by simp; omega
  generalize valL A.items o = av at *
  generalize hasL A.items o = ah at *
  generalize valL r.items o = bv at *
  generalize hasL r.items o = bh at *
  have HI : ∀ W v, Told W v A.items → Calls Try.prog 15 #[.agg (recC A v)] W fun e w' => e = .returned (.bool true) ∧ Below W.heap.size W w' := fun W v hT => by
    have h := is_any hT hAW hAl
    rw [isR_iff.2 hAR] at h
    exact h
  have HF4 : ∀ W, Told W u r.items → Calls Try.prog 23 #[.agg (recC r u), .int .u64 (k : Int)] W fun e w' => e = .returned (.tuple #[.string (valL r.items k), .bool true]) ∧ Below W.heap.size W w' := fun W hT => by
    have h := find_any hT hl k
    rw [hh] at h
    exact h
  generalize valL r.items k = rv at *
  obtain ⟨D, hD⟩ : ∃ D : Rc, D = ⟨1, dropL A.items k, A.nl, A.nb, A.mark⟩ := ⟨_, rfl⟩
  have hDi : D.items = dropL A.items k := by rw [hD]
  have hDl : D.items.length ≤ 1000000 := by rw [hDi]; exact Nat.le_trans (drop_len_le _ _) hAl
  have hAk : A.kind = 1 := by rw [hA]
  have HO : ∀ W v, Told W v A.items → Calls Try.prog 21 #[.agg (recC A v), .int .u64 (k : Int)] W (TellsB W D true) := fun W v hT => by
    have h := without_rec hT hAW hAl k
    have hb : withoutB A k = true := by unfold withoutB; rw [isR_iff.2 hAR, hAi, hasL, get_put]; rfl
    have hv : withoutV A k = D := by unfold withoutV; rw [hb, if_pos rfl, hAk, hD]
    rw [hb, hv] at h
    exact h
  have HF5 : ∀ W v, Told W v D.items → Calls Try.prog 23 #[.agg (recC D v), .int .u64 (k : Int)] W fun e w' => e = .returned (.tuple #[.string (valL D.items k), .bool false]) ∧ Below W.heap.size W w' := fun W v hT => by
    have h := find_any hT hDl k
    have e : hasL D.items k = false := by rw [hDi, hasL, get_drop]; rfl
    rw [e] at h
    exact h
  generalize valL D.items k = dv at *
  have hlen : (A.items.length == r.items.length) = true := by
    rw [hAi, put_length hR.sorted, hh]
    simp
  have hlenI : ((A.items.length : Int) == (r.items.length : Int)) = true := by
    rw [← hlen, Bool.eq_iff_iff]
    simp
    omega
  have hnx : (!eqL A.nl A.nb r.nl r.nb) = false := by rw [hA]; simp [eqL_self]
  have HR := Lib.hid recorded_any
  have q2 : (bv.toList != bv.toList) = false := by simp
  have q3 : (bh != bh) = false := by simp
  have q4 : (s.toList != s.toList) = false := by simp
  clear hT hb h5 hW hl hE hr hk1 hs hn hR hAR hAW hA hAi hAl hD hDi hDl hAk hlen hh ho hk
  go_enter Try.func7, Try.ntmps7
  go_upto_region 1 with (fail)
  generalize w.alloc _ = W at *
  go_upto_region 3 with (first
    | (refine p_loadR rfl _ rfl w.heap.size rfl r u A0 ?_)
    | (go_at_call 9; (with_reducible refine HB.mono ?_); rintro e w1 ⟨rfl, hb1⟩))
  replace A0 := A0.below hb1 A0.lt
  replace T0 := T0.bel hb1
  replace B0 := rstep B0 hb1
  clear hb1 HB
  go_upto_region 4 with (first
    | (refine p_loadR rfl _ rfl w.heap.size rfl r u A0 ?_)
    | (go_at_call 19; (with_reducible refine (HP _ T0).mono ?_); rintro e w5 ⟨u5, rfl, t5, hb1⟩)
    | (refine p_storeR rfl _ _ rfl w5.heap.size rfl A u5 rfl (told_one t5) zeroR (.slice none 0 0) (Blk.new _ _ _) ?_))
  obtain ⟨A5, T5, b5⟩ := rec_new t5
  replace b5 := rstep hb1 b5
  replace A0 := A0.below b5 A0.lt
  replace T0 := T0.bel b5
  replace B0 := rstep B0 b5
  clear hb1 t5 b5 HP
  generalize w5.heap.size = g5 at *
  generalize (w5.alloc _).setRow _ _ = W5 at *
  go_upto_region 7 with (first
    | (refine p_loadR rfl _ rfl g5 rfl A u5 A5 ?_)
    | (go_at_call 23; (with_reducible refine (HF1 _ _ T5).mono ?_); rintro e w6 ⟨rfl, hb1⟩))
  replace A0 := A0.below hb1 A0.lt
  replace A5 := A5.below hb1 A5.lt
  replace T0 := T0.bel hb1
  replace T5 := T5.bel hb1
  replace B0 := rstep B0 hb1
  clear hb1 HF1
  go_upto_region 8 with (first
    | (refine p_loadR rfl _ rfl w.heap.size rfl r u A0 ?_)
    | (go_at_call 23; (with_reducible refine (HF2 _ T0).mono ?_); rintro e w7 ⟨rfl, hb1⟩))
  replace A0 := A0.below hb1 A0.lt
  replace A5 := A5.below hb1 A5.lt
  replace T0 := T0.bel hb1
  replace T5 := T5.bel hb1
  replace B0 := rstep B0 hb1
  clear hb1 HF2
  go_upto_region 9 with (first
    | (refine p_loadR rfl _ rfl g5 rfl A u5 A5 ?_)
    | (go_at_call 23; (with_reducible refine (HF3 _ _ T5).mono ?_); rintro e w8 ⟨rfl, hb1⟩))
  replace A0 := A0.below hb1 A0.lt
  replace A5 := A5.below hb1 A5.lt
  replace T0 := T0.bel hb1
  replace T5 := T5.bel hb1
  replace B0 := rstep B0 hb1
  clear hb1 HF3
  go_upto_region 11 with (first
    | (go_guarded; with_reducible (show wpList _ _ _ _ _ _))
    | (go_guarded; refine o_loadR _ rfl g5 rfl A u5 A5 ?_)
    | (go_at_call 15; (with_reducible refine (HI _ _ T5).mono ?_); rintro e w9 ⟨rfl, hb1⟩; have A0x := A0.below hb1 A0.lt; have A5x := A5.below hb1 A5.lt)
    | (go_guarded; rename_i K0 hK0; refine o_midL _ rfl g5 rfl A u5 A5x ?_; refine hK0 _ _ ?_; simp only [Act.put, List.setIfInBounds_toArray, List.set_cons_succ, List.set_cons_zero])
    | (go_guarded; rename_i K0 hK0; refine o_midL _ rfl w.heap.size rfl r u A0x ?_; refine hK0 _ _ ?_; simp only [Act.put, List.setIfInBounds_toArray, List.set_cons_succ, List.set_cons_zero])
    | (go_guarded; rename_i K0 hK0; refine o_neqL _ _ rfl A.nl A.nb r.nl r.nb rfl rfl hnx ?_; refine hK0 _ _ ?_; simp only [Act.put, List.setIfInBounds_toArray, List.set_cons_succ, List.set_cons_zero])
    )
  replace A0 := A0.below hb1 A0.lt
  replace A5 := A5.below hb1 A5.lt
  replace T0 := T0.bel hb1
  replace T5 := T5.bel hb1
  replace B0 := rstep B0 hb1
  clear hb1 A0x A5x HI
  go_upto_region 12 with (first
    | (refine p_loadR rfl _ rfl w.heap.size rfl r u A0 ?_)
    | (go_at_call 23; (with_reducible refine (HF4 _ T0).mono ?_); rintro e w10 ⟨rfl, hb1⟩))
  replace A0 := A0.below hb1 A0.lt
  replace A5 := A5.below hb1 A5.lt
  replace T0 := T0.bel hb1
  replace T5 := T5.bel hb1
  replace B0 := rstep B0 hb1
  clear hb1 HF4
  go_upto_region 13 with (first
    | (refine p_loadR rfl _ rfl g5 rfl A u5 A5 ?_)
    | (go_at_call 21; (with_reducible refine (HO _ _ T5).mono ?_); rintro e w11 ⟨u6, rfl, t6, hb1⟩)
    | (refine p_storeR rfl _ _ rfl w11.heap.size rfl D u6 rfl (told_one t6) zeroR (.slice none 0 0) (Blk.new _ _ _) ?_))
  obtain ⟨A6, T6, b6⟩ := rec_new t6
  replace b6 := rstep hb1 b6
  replace A0 := A0.below b6 A0.lt
  replace A5 := A5.below b6 A5.lt
  replace T0 := T0.bel b6
  replace T5 := T5.bel b6
  replace B0 := rstep B0 b6
  clear hb1 t6 b6 HO
  generalize w11.heap.size = g6 at *
  generalize (w11.alloc _).setRow _ _ = W6 at *
  go_upto_region 14 with (first
    | (refine p_loadR rfl _ rfl g6 rfl D u6 A6 ?_)
    | (go_at_call 23; (with_reducible refine (HF5 _ _ T6).mono ?_); rintro e w12 ⟨rfl, hb1⟩))
  replace A0 := A0.below hb1 A0.lt
  replace A5 := A5.below hb1 A5.lt
  replace A6 := A6.below hb1 A6.lt
  replace T0 := T0.bel hb1
  replace T5 := T5.bel hb1
  replace T6 := T6.bel hb1
  replace B0 := rstep B0 hb1
  clear hb1 HF5
  have B9 := Lib.hid B0
  obtain ⟨a0, c0, rfl⟩ : ∃ a c, u = .slice a r.items.length c := told_shape T0
  obtain ⟨a5, c5, rfl⟩ : ∃ a c, u5 = .slice a A.items.length c := told_shape T5
  go_wp2_with (first
    | (go_guarded; with_reducible (show wpList _ _ _ _ _ _))
    | (go_at_call 14; (with_reducible refine (HR.out.calls _).mono ?_); rintro e w13 ⟨rfl, hb1⟩; have A5x := A5.below hb1 A5.lt; have A0x := A0.below hb1 A0.lt; have d0 : w13.cell? ⟨w.heap.size, 1, none⟩ = some (.slice a0 r.items.length c0) := A0x.cell 1; have d5 : w13.cell? ⟨g5, 1, none⟩ = some (.slice a5 A.items.length c5) := A5x.cell 1))
  go_ret
  exact ⟨rfl, rstep B9.out hb1⟩

set_option maxHeartbeats 2000000 in
theorem coreOW {r : Rc} {u : Value} {w : World} (k o : Nat) (s : ByteArray) (hk : k < 18446744073709551616) (hT : Told w u r.items) (hW : r.Wf) (hb : bigB r = false) (h5 : s.size ≤ 500) (hE : withE r k s = 0) (ho : o ≠ k) (hh : hasL r.items k = true) :
    Calls Try.prog 7 #[.agg (recC r u), .int .u64 (k : Int), .int .u64 (o : Int), .string s] w fun e w' => e = .returned (.bool true) ∧ Below w.heap.size w w' := by
  obtain ⟨A0, B0⟩ := rec_box w r u
  have T0 := hT.bel B0
  have hl : r.items.length ≤ 1000000 := by have := big_no hb; omega
  have hc : ¬ (500 : Int) < (s.size : Int) := by omega
  have HB := big_any T0
  rw [hb] at HB
  obtain ⟨hr, hk1, hs, hn⟩ := withE_zero hE
  have hR := isR_iff.1 hr
  have hAR := put_right hR hk1 k s hs hn
  have hAW := put_wf hW hk s
  obtain ⟨A, hA⟩ : ∃ A : Rc, A = ⟨1, putL r.items k s, r.nl, r.nb, r.mark⟩ := ⟨_, rfl⟩
  rw [← hA] at hAR hAW
  have hAi : A.items = putL r.items k s := by rw [hA]
  have hAl : A.items.length ≤ 1000000 := by rw [hAi]; omega
  have HP : ∀ W, Told W u r.items → Calls Try.prog 19 #[.agg (recC r u), .int .u64 (k : Int), .string s] W (TellsR W A 0) := fun W hT => by
    have h := with_any hT hW hl k s
    have hv : withV r k s = A := by unfold withV; rw [if_pos hE, hA]
    rw [hv, hE] at h
    exact h
  have HF1 : ∀ W v, Told W v A.items → Calls Try.prog 23 #[.agg (recC A v), .int .u64 (k : Int)] W fun e w' => e = .returned (.tuple #[.string s, .bool true]) ∧ Below W.heap.size W w' := fun W v hT => by
    have h := find_any hT hAl k
    rw [hAi, valL, hasL, get_put] at h
    exact h
  have HF2 : ∀ W, Told W u r.items → Calls Try.prog 23 #[.agg (recC r u), .int .u64 (o : Int)] W fun e w' => e = .returned (.tuple #[.string (valL r.items o), .bool (hasL r.items o)]) ∧ Below W.heap.size W w' := fun W hT => find_any hT hl o
  have HF3 : ∀ W v, Told W v A.items → Calls Try.prog 23 #[.agg (recC A v), .int .u64 (o : Int)] W fun e w' => e = .returned (.tuple #[.string (valL r.items o), .bool (hasL r.items o)]) ∧ Below W.heap.size W w' := fun W v hT => by
    have h := find_any hT hAl o
    rw [hAi, valL, hasL, get_put_other hR.sorted k o s ho] at h
    exact h
  have ho1 : ((k : Int) != (o : Int)) = true := by simp; omega
  generalize valL r.items o = bv at *
  generalize hasL r.items o = bh at *
  have HI : ∀ W v, Told W v A.items → Calls Try.prog 15 #[.agg (recC A v)] W fun e w' => e = .returned (.bool true) ∧ Below W.heap.size W w' := fun W v hT => by
    have h := is_any hT hAW hAl
    rw [isR_iff.2 hAR] at h
    exact h
  have HF4 : ∀ W, Told W u r.items → Calls Try.prog 23 #[.agg (recC r u), .int .u64 (k : Int)] W fun e w' => e = .returned (.tuple #[.string (valL r.items k), .bool true]) ∧ Below W.heap.size W w' := fun W hT => by
    have h := find_any hT hl k
    rw [hh] at h
    exact h
  generalize valL r.items k = rv at *
  obtain ⟨D, hD⟩ : ∃ D : Rc, D = ⟨1, dropL A.items k, A.nl, A.nb, A.mark⟩ := ⟨_, rfl⟩
  have hDi : D.items = dropL A.items k := by rw [hD]
  have hDl : D.items.length ≤ 1000000 := by rw [hDi]; exact Nat.le_trans (drop_len_le _ _) hAl
  have hAk : A.kind = 1 := by rw [hA]
  have HO : ∀ W v, Told W v A.items → Calls Try.prog 21 #[.agg (recC A v), .int .u64 (k : Int)] W (TellsB W D true) := fun W v hT => by
    have h := without_rec hT hAW hAl k
    have hb : withoutB A k = true := by unfold withoutB; rw [isR_iff.2 hAR, hAi, hasL, get_put]; rfl
    have hv : withoutV A k = D := by unfold withoutV; rw [hb, if_pos rfl, hAk, hD]
    rw [hb, hv] at h
    exact h
  have HF5 : ∀ W v, Told W v D.items → Calls Try.prog 23 #[.agg (recC D v), .int .u64 (k : Int)] W fun e w' => e = .returned (.tuple #[.string (valL D.items k), .bool false]) ∧ Below W.heap.size W w' := fun W v hT => by
    have h := find_any hT hDl k
    have e : hasL D.items k = false := by rw [hDi, hasL, get_drop]; rfl
    rw [e] at h
    exact h
  generalize valL D.items k = dv at *
  have hlen : (A.items.length == r.items.length) = true := by
    rw [hAi, put_length hR.sorted, hh]
    simp
  have hlenI : ((A.items.length : Int) == (r.items.length : Int)) = true := by
    rw [← hlen, Bool.eq_iff_iff]
    simp
    omega
  have hnx : (!eqL A.nl A.nb r.nl r.nb) = false := by rw [hA]; simp [eqL_self]
  have HR := Lib.hid recorded_any
  have q2 : (bv.toList != bv.toList) = false := by simp
  have q3 : (bh != bh) = false := by simp
  have q4 : (s.toList != s.toList) = false := by simp
  clear hT hb h5 hW hl hE hr hk1 hs hn hR hAR hAW hA hAi hAl hD hDi hDl hAk hlen hh ho hk
  go_enter Try.func7, Try.ntmps7
  go_upto_region 1 with (fail)
  generalize w.alloc _ = W at *
  go_upto_region 3 with (first
    | (refine p_loadR rfl _ rfl w.heap.size rfl r u A0 ?_)
    | (go_at_call 9; (with_reducible refine HB.mono ?_); rintro e w1 ⟨rfl, hb1⟩))
  replace A0 := A0.below hb1 A0.lt
  replace T0 := T0.bel hb1
  replace B0 := rstep B0 hb1
  clear hb1 HB
  go_upto_region 4 with (first
    | (refine p_loadR rfl _ rfl w.heap.size rfl r u A0 ?_)
    | (go_at_call 19; (with_reducible refine (HP _ T0).mono ?_); rintro e w5 ⟨u5, rfl, t5, hb1⟩)
    | (refine p_storeR rfl _ _ rfl w5.heap.size rfl A u5 rfl (told_one t5) zeroR (.slice none 0 0) (Blk.new _ _ _) ?_))
  obtain ⟨A5, T5, b5⟩ := rec_new t5
  replace b5 := rstep hb1 b5
  replace A0 := A0.below b5 A0.lt
  replace T0 := T0.bel b5
  replace B0 := rstep B0 b5
  clear hb1 t5 b5 HP
  generalize w5.heap.size = g5 at *
  generalize (w5.alloc _).setRow _ _ = W5 at *
  go_upto_region 7 with (first
    | (refine p_loadR rfl _ rfl g5 rfl A u5 A5 ?_)
    | (go_at_call 23; (with_reducible refine (HF1 _ _ T5).mono ?_); rintro e w6 ⟨rfl, hb1⟩))
  replace A0 := A0.below hb1 A0.lt
  replace A5 := A5.below hb1 A5.lt
  replace T0 := T0.bel hb1
  replace T5 := T5.bel hb1
  replace B0 := rstep B0 hb1
  clear hb1 HF1
  go_upto_region 8 with (first
    | (refine p_loadR rfl _ rfl w.heap.size rfl r u A0 ?_)
    | (go_at_call 23; (with_reducible refine (HF2 _ T0).mono ?_); rintro e w7 ⟨rfl, hb1⟩))
  replace A0 := A0.below hb1 A0.lt
  replace A5 := A5.below hb1 A5.lt
  replace T0 := T0.bel hb1
  replace T5 := T5.bel hb1
  replace B0 := rstep B0 hb1
  clear hb1 HF2
  go_upto_region 9 with (first
    | (refine p_loadR rfl _ rfl g5 rfl A u5 A5 ?_)
    | (go_at_call 23; (with_reducible refine (HF3 _ _ T5).mono ?_); rintro e w8 ⟨rfl, hb1⟩))
  replace A0 := A0.below hb1 A0.lt
  replace A5 := A5.below hb1 A5.lt
  replace T0 := T0.bel hb1
  replace T5 := T5.bel hb1
  replace B0 := rstep B0 hb1
  clear hb1 HF3
  go_upto_region 11 with (first
    | (go_guarded; with_reducible (show wpList _ _ _ _ _ _))
    | (go_guarded; refine o_loadR _ rfl g5 rfl A u5 A5 ?_)
    | (go_at_call 15; (with_reducible refine (HI _ _ T5).mono ?_); rintro e w9 ⟨rfl, hb1⟩; have A0x := A0.below hb1 A0.lt; have A5x := A5.below hb1 A5.lt)
    | (go_guarded; rename_i K0 hK0; refine o_midL _ rfl g5 rfl A u5 A5x ?_; refine hK0 _ _ ?_; simp only [Act.put, List.setIfInBounds_toArray, List.set_cons_succ, List.set_cons_zero])
    | (go_guarded; rename_i K0 hK0; refine o_midL _ rfl w.heap.size rfl r u A0x ?_; refine hK0 _ _ ?_; simp only [Act.put, List.setIfInBounds_toArray, List.set_cons_succ, List.set_cons_zero])
    | (go_guarded; rename_i K0 hK0; refine o_neqL _ _ rfl A.nl A.nb r.nl r.nb rfl rfl hnx ?_; refine hK0 _ _ ?_; simp only [Act.put, List.setIfInBounds_toArray, List.set_cons_succ, List.set_cons_zero])
    )
  replace A0 := A0.below hb1 A0.lt
  replace A5 := A5.below hb1 A5.lt
  replace T0 := T0.bel hb1
  replace T5 := T5.bel hb1
  replace B0 := rstep B0 hb1
  clear hb1 A0x A5x HI
  go_upto_region 12 with (first
    | (refine p_loadR rfl _ rfl w.heap.size rfl r u A0 ?_)
    | (go_at_call 23; (with_reducible refine (HF4 _ T0).mono ?_); rintro e w10 ⟨rfl, hb1⟩))
  replace A0 := A0.below hb1 A0.lt
  replace A5 := A5.below hb1 A5.lt
  replace T0 := T0.bel hb1
  replace T5 := T5.bel hb1
  replace B0 := rstep B0 hb1
  clear hb1 HF4
  go_upto_region 13 with (first
    | (refine p_loadR rfl _ rfl g5 rfl A u5 A5 ?_)
    | (go_at_call 21; (with_reducible refine (HO _ _ T5).mono ?_); rintro e w11 ⟨u6, rfl, t6, hb1⟩)
    | (refine p_storeR rfl _ _ rfl w11.heap.size rfl D u6 rfl (told_one t6) zeroR (.slice none 0 0) (Blk.new _ _ _) ?_))
  obtain ⟨A6, T6, b6⟩ := rec_new t6
  replace b6 := rstep hb1 b6
  replace A0 := A0.below b6 A0.lt
  replace A5 := A5.below b6 A5.lt
  replace T0 := T0.bel b6
  replace T5 := T5.bel b6
  replace B0 := rstep B0 b6
  clear hb1 t6 b6 HO
  generalize w11.heap.size = g6 at *
  generalize (w11.alloc _).setRow _ _ = W6 at *
  go_upto_region 14 with (first
    | (refine p_loadR rfl _ rfl g6 rfl D u6 A6 ?_)
    | (go_at_call 23; (with_reducible refine (HF5 _ _ T6).mono ?_); rintro e w12 ⟨rfl, hb1⟩))
  replace A0 := A0.below hb1 A0.lt
  replace A5 := A5.below hb1 A5.lt
  replace A6 := A6.below hb1 A6.lt
  replace T0 := T0.bel hb1
  replace T5 := T5.bel hb1
  replace T6 := T6.bel hb1
  replace B0 := rstep B0 hb1
  clear hb1 HF5
  have B9 := Lib.hid B0
  obtain ⟨a0, c0, rfl⟩ : ∃ a c, u = .slice a r.items.length c := told_shape T0
  obtain ⟨a5, c5, rfl⟩ : ∃ a c, u5 = .slice a A.items.length c := told_shape T5
  go_wp2_with (first
    | (go_guarded; with_reducible (show wpList _ _ _ _ _ _))
    | (go_at_call 14; (with_reducible refine (HR.out.calls _).mono ?_); rintro e w13 ⟨rfl, hb1⟩; have A5x := A5.below hb1 A5.lt; have A0x := A0.below hb1 A0.lt; have d0 : w13.cell? ⟨w.heap.size, 1, none⟩ = some (.slice a0 r.items.length c0) := A0x.cell 1; have d5 : w13.cell? ⟨g5, 1, none⟩ = some (.slice a5 A.items.length c5) := A5x.cell 1))
  go_ret
  exact ⟨rfl, rstep B9.out hb1⟩

theorem walk {r : Rc} {u : Value} {w : World} (hT : Told w u r.items) (hW : r.Wf) (k : Nat) (hk : k < 18446744073709551616) (o : Nat) (_ : o < 18446744073709551616) (s : ByteArray) (_ : s.size ≤ maxLen) :
    Calls Try.prog 7 #[.agg (recC r u), .int .u64 (k : Int), .int .u64 (o : Int), .string s] w fun e w' => e = .returned (.bool true) ∧ Below w.heap.size w w' := by
  cases hb : bigB r
  · by_cases h5 : s.size ≤ 500
    · by_cases hE : withE r k s = 0
      · by_cases hok : o = k
        · cases hh : hasL r.items k
          · exact coreSN k o s hk hT hW hb h5 hE hok hh
          · exact coreSW k o s hk hT hW hb h5 hE hok hh
        · cases hh : hasL r.items k
          · exact coreON k o s hk hT hW hb h5 hE hok hh
          · exact coreOW k o s hk hT hW hb h5 hE hok hh
      · exact core_no k o s hT hW hb h5 hE
    · exact let_go k o s hT (.inr ⟨hb, by omega⟩)
  · exact let_go k o s hT (.inl hb)
set_option maxRecDepth 100000 in
theorem lifted (os : Os) (started : os.Started) (H : Type) (enc : TypeId × Value → H) :
    ReturnsInHanded {} Try.checked os 7 .any (Rows.recordKeepsSpec.pre6 enc Try.prog Try.f7 Rows.recordKeepsRow.domain false) (Rows.recordKeepsSpec.post enc Try.prog Try.f7 false true false false) := by
  refine returnsInHanded_of_change (C := Try.checked) own started (by kernel_rfl) Try.func7
    (ChangeSpec.witness6 (enc := enc) (C := Try.checked) false ⟨#[], #[.agg #[.int .i64 0, .slice none 0 0, .int .i64 0, .int .u64 0, .int .u64 0], .int .u64 0, .int .u64 0, .string ⟨#[]⟩], []⟩ 8 (by kernel_rfl) (by kernel_rfl) (by kernel_rfl) (by kernel_rfl)) ?_
  intro W base args ds gs before hval0 hW hcnd _
  have hval : ∀ (j : Nat) t v, Try.f7.params[j]? = some t → args[j]? = some v → Value.okWide Try.prog W .any base t v := hval0
  have hW' := hW
  obtain ⟨p, q, hA0, hV, rfl, hfz, hnd⟩ := hW
  have hA : DataW.TrodAll enc Try.prog W 0 (fun _ => true) true Try.f7.params.toList args.toList ds p := hA0
  rw [Try.params7] at hA hval
  obtain ⟨v0, vs0, d0, ds0, p0, q0, hargs, rfl, rfl, h0, r0⟩ := trodAll_cons hA
  obtain ⟨v1, vs1, d1, ds1, p1, q1, rfl, rfl, rfl, h1, r1⟩ := trodAll_cons r0
  obtain ⟨v2, vs2, d2, ds2, p2, q2, rfl, rfl, rfl, h2, r2⟩ := trodAll_cons r1
  obtain ⟨v3, vs3, d3, ds3, p3, q3, rfl, rfl, rfl, h3, r3⟩ := trodAll_cons r2
  obtain ⟨rfl, rfl, rfl⟩ := trodAll_nil r3
  obtain rfl : args = #[v0, v1, v2, v3] := by cases args; simp_all
  obtain ⟨rfl, rfl⟩ := trodVars_none hV
  have k0 := h0
  have lt0 : ∀ x ∈ p0, x.block < W.heap.size := by obtain ⟨m, hm⟩ := k0; exact DataW.trod_lt m _ _ _ hm
  obtain ⟨R0, u0, wf0, rfl, tl0⟩ := open_rec (hval 0 27 v0 rfl rfl) h0
  have k1 := h1
  have lt1 : ∀ x ∈ p1, x.block < W.heap.size := by obtain ⟨m, hm⟩ := k1; exact DataW.trod_lt m _ _ _ hm
  obtain ⟨n1, ok1, rfl⟩ := open_u64 (hval 1 23 v1 rfl rfl) h1
  have k2 := h2
  have lt2 : ∀ x ∈ p2, x.block < W.heap.size := by obtain ⟨m, hm⟩ := k2; exact DataW.trod_lt m _ _ _ hm
  obtain ⟨n2, ok2, rfl⟩ := open_u64 (hval 2 23 v2 rfl rfl) h2
  have k3 := h3
  have lt3 : ∀ x ∈ p3, x.block < W.heap.size := by obtain ⟨m, hm⟩ := k3; exact DataW.trod_lt m _ _ _ hm
  obtain ⟨n3, rfl, _, _, ws3⟩ := open_string Try.underlying9 (hval 3 9 v3 rfl rfl) h3
  clear hA0 hval0
  refine (walk tl0 wf0 n1 ok1 n2 ok2 n3 ws3).mono fun e W' ⟨he, bel⟩ => ?_
  subst he
  exact ⟨_, rfl, _, _, _, [], _, [], hW', trodAll_mk1 (shut_bool Try.underlying4 _), (trodAll_cons_mk (Below.trod laidOut (by kernel_rfl) (of_decide_eq_true (by kernel_rfl)) k0 bel lt0) (trodAll_cons_mk (Below.trod laidOut (by kernel_rfl) (of_decide_eq_true (by kernel_rfl)) k1 bel lt1) (trodAll_cons_mk (Below.trod laidOut (by kernel_rfl) (of_decide_eq_true (by kernel_rfl)) k2 bel lt2) (trodAll_cons_mk (Below.trod laidOut (by kernel_rfl) (of_decide_eq_true (by kernel_rfl)) k3 bel lt3) trodAll_mk0)))), rfl, bel.frame _, fun h => by cases h⟩

theorem proved : Rows.RecordKeepsSaid :=
  OpenClaim.holds_of_wide 7 Try.f7 rfl rfl rfl rfl rfl rfl rfl ⟨rfl, rfl, rfl, rfl, rfl⟩ rfl rfl rfl rfl rfl (by kernel_rfl) Try.func7 (by kernel_rfl)
    (of_decide_eq_true (by kernel_rfl)) (by unfold Func.isWrapper; first | (rw [if_pos (by decide +kernel)]; kernel_rfl) | (rw [if_neg (by decide +kernel)]; exact ⟨rfl, rfl⟩))
    (fun os started H enc _ => lifted os started H enc)
end Go.Proofs.Ytkicndengkcojaa.RecKeepsLaw
