/- WireReads: for all bytes and scripts the call returns true: the program's reader and the document's answer each call of the script alike, and have as many bytes left. No condition. -/
import Derived.Test.YtgfcdkihahfnkaaWirWired
import Derived.Test.YtgfcdkihahfnkaaWirOpen
import Derived.ChangeSlices
namespace Go.Proofs.Ytgfcdkihahfnkaa.ReadsLaw
open Go.ChangeShapes Go.WideShapes Go.ChangeAt Go.RowKit Go.Sort
open Go.ChangeMaps (open_string shut_string)
set_option linter.unusedVariables false

theorem run_neq_lab (n : Int) (b : Nat) (m : Int) (c : Nat) (w : World) : (binOp .neq 26 (.agg (labc n b)) (.agg (labc m c))).run Try.prog w = .ok (.bool (!eqL n b m c)) w := by
  rw [run_neq_struct, run_equalIn_lab 9998]
  rfl
theorem p_neqL {ops : Array Oper} {rest : List Oper} {o : Oper} {a : Act} {w : World} {Q : Exit → Act → World → Prop} (hgd : o.guard = none) (x y : Operand) (ho : o.op = .binOp .neq 26 x y 26)
    (n : Int) (b : Nat) (m : Int) (c : Nat) (hx : a.eval x = .agg (labc n b)) (hy : a.eval y = .agg (labc m c)) {r : Bool} (hr : (!eqL n b m c) = r) (h : wpList Try.prog ops Q rest (a.put o.dst (.bool r)) w) : wpList Try.prog ops Q (o :: rest) a w := by
  refine wpList_plain hgd fun K hK => ?_
  unfold Oper.wp execOp
  simp only [ho, hx, hy, Sem.run_bind, run_eqGuard_agg w .neq 26 x y _ _ guardLab, run_neq_lab, hr, Sem.run_pure, Result.andThen_ok]
  exact hK _ _ h
theorem neqL_self (n : Int) (b : Nat) : (!eqL n b n b) = false := by rw [eqL_self]; rfl
theorem p_loadI {ops : Array Oper} {rest : List Oper} {o : Oper} {a : Act} {w : World} {Q : Exit → Act → World → Prop} (hgd : o.guard = none) (x : Operand) (ho : o.op = .load 24 x)
    (g : Nat) (hx : a.eval x = .pointer (some ⟨g, 0, none⟩)) (n : Nat) (hg : Blk w g (row (dig 20 n)) 24)
    (h : wpList Try.prog ops Q rest (a.put o.dst (.agg (row (dig 20 n)))) w) : wpList Try.prog ops Q (o :: rest) a w :=
  wpList_load_row hgd 24 x ho g hx 24 _ (0, 0) _ hg Try.underlying24 rfl (info_id _ (dig_length 20 n)) h
/-- what the loop keeps -/
structure Lp (w wr : World) (q c : Nat) (X : ByteArray) (p : Nat) : Prop where
  below : Below w.heap.size w wr
  r : Rd wr (w.heap.size + 1) w.heap.size c X p
  m : Sr wr q (rest X p)
  q : w.heap.size + 1 < q
theorem Lp.on {w wr w' : World} {q c : Nat} {X : ByteArray} {p : Nat} (k : Lp w wr q c X p) (hb : Below wr.heap.size wr w') : Lp w w' q c X p :=
  ⟨k.below.trans (hb.mono k.below.size), k.r.below hb, k.m.below hb, k.q⟩

set_option maxRecDepth 100000 in
set_option maxHeartbeats 4000000 in
theorem core (s : ByteArray) (a0 : Addr) (zs : List Int) (cap0 : Nat) (w : World) (hs : s.size ≤ 6000) (hn : zs.length ≤ 100) (ha : 0 < zs.length → a0.block < w.heap.size) (hc : ∀ i (h : i < zs.length), w.cell? (a0.add i) = some (.int .i64 zs[i]))
    (h5 : Gives Try.prog 13 #[] (.bool true)) :
    Calls Try.prog 4 #[.string s, .slice (some a0) zs.length cap0] w fun e w' => e = .returned (.bool true) ∧ Below w.heap.size w w' := by
  have hz6 : s.size ≤ 1000000 := by omega
  have HC := Lib.hid hc
  have HA := Lib.hid ha
  clear hc ha
  have HN := Lib.hid (new_any s w)
  go_enter Try.func4, Try.ntmps4
  go_upto_region 4 with (go_at_call 18; (with_reducible refine HN.out.mono ?_); rintro e w1 ⟨c, rfl, hr1, hb1⟩)
  have hlt1 := hr1.lt
  go_upto_region 5 with (fail)
  have hS : Sr (w1.alloc (.cells #[.string s] 45)) w1.heap.size (rest s 0) := by
    unfold Sr
    rw [show rest s 0 = bytesN s from rfl, txt_bytes]
    exact Blk.new w1 #[.string s] 45
  have K0 : Hid (Lp w (w1.alloc (.cells #[.string s] 45)) w1.heap.size c s 0) := ⟨hb1.alloc hb1.size _, hr1.below ((Below.refl _ _).alloc (Nat.le_refl _) _), hS, hlt1⟩
  clear hS hb1 hr1 HN hlt1
  generalize w1.heap.size = q at *
  generalize w1.alloc _ = W at *
  go_wp2
  go_loopw [7] (fun i wr => ∃ k p : Nat, k ≤ zs.length ∧ i = .int .i64 (k : Int) ∧ (k = 0 → p = 0) ∧ Lp w wr q c s p) (fun i _ => zs.length - (intOf i).toNat)
  case atStart => exact ⟨0, 0, by omega, rfl, fun _ => rfl, K0.out⟩
  case round =>
    clear K0
    obtain ⟨k, p, hk, rfl, hp0, K⟩ := hrel
    have K := Lib.hid K
    by_cases hlt : k < zs.length
    · have c0 : wr.cell? (a0.add k) = some (.int .i64 zs[k]) := by
        rw [K.out.below.cell (p := a0.add k) (by rw [block_add]; exact HA.out (by omega))]
        exact HC.out k hlt
      have hzr : (rest s p).length ≤ 1000000 := by rw [rest_length]; omega
      clear HC HA hp0
      generalize zs[k] = z at *
      rcases (by omega : z = 0 ∨ (z ≠ 0 ∧ z = 1) ∨ (z ≠ 0 ∧ z ≠ 1 ∧ z = 2) ∨ (z ≠ 0 ∧ z ≠ 1 ∧ z ≠ 2)) with rfl | ⟨z0, rfl⟩ | ⟨z0, z1, rfl⟩ | ⟨z0, z1, z2⟩
      · go_upto_region 14 with (fail)
        clear c0
        have HD := mN_any K.out.r hz6
        unfold Does at HD
        replace HD := Lib.hid HD
        have HG := refNumM_any q (rest s p) (rest_lt s p) hzr
        rw [rest_rest] at HG
        have HGS := Lib.hid HG
        clear HG
        generalize rNum (rest s p) = r at *
        obtain ⟨v, n, e⟩ := r
        simp only [] at HD HGS
        go_upto_region 15 with (first | (go_at_call 19; (with_reducible refine HD.out.mono ?_); rintro e1 w1 ⟨rfl, hr1, hk1⟩))
        have hq := K.out.q
        have hq2 := K.out.m.lt
        have hS1 : Sr w1 q (rest s p) := Blk.keep K.out.m hk1 (by omega) (by omega)
        have hB1 := hk1.below K.out.below K.out.below.size (by omega) (by omega)
        clear HD hk1
        have HG2 := Lib.hid (HGS.out w1 hS1)
        clear HGS hS1
        go_upto_region 16 with (first | (go_at_call 20; (with_reducible refine HG2.out.mono ?_); rintro e2 w2 ⟨rfl, hS2, hk2⟩))
        have hr2 := hr1.keep hk2 (by omega) (by omega) (by omega) (by omega)
        have hB2 := hk2.below hB1 hB1.size (by omega) (by omega)
        clear hr1 hB1 HG2 hk2
        have K2 : Hid (Lp w w2 q c s (p + n)) := ⟨hB2, hr2, hS2, hq⟩
        clear hr2 hS2 hB2 K
        go_upto_region 28 with (fail)
        have c0 := Blk.grown K2.out.m 0
        rw [show (#[.string (txt (rest s (p + n)))] : Array Value)[0]? = some (.string (txt (rest s (p + n)))) from rfl] at c0
        have hzl := txt_size (rest s (p + n))
        rw [rest_length] at hzl
        have HLq : ∀ (d : Nat) (os : Array Obj), Calls Try.prog 27 #[.pointer (some ⟨w.heap.size + 1, 0, none⟩)] (grow (redrawn w2 d) os) fun e w'' => e = .returned (.int .i64 ((s.size - (p + n) : Nat) : Int)) ∧ ∃ p : Regrown, w'' = grow (redrawn w2 p.d) p.os := fun d os => Calls.regrown_of (left_any (K2.out.r.below (below_regrown w2 d os)) hz6)
        refine wp_region_quiet_below (by kernel_rfl) (by kernel_rfl) ?_
        repeat (first
          | go_big_quiet_skip
          | (go_big_quiet_want
             go_big_quiet_op
             first | go_big_quiet_on | go_big_quiet_call (first | with_reducible exact HLq _ _)))
        refine wpQuiet_nil ?_
        intro _ hw'
        obtain ⟨⟨dq, osq⟩, hw''⟩ := hw'
        subst hw''
        have K3 := Lib.hid (K2.out.on (below_regrown _ dq osq))
        clear c0 HLq K2 hzl
        go_wp2
        exact ⟨⟨k + 1, p + n, by omega, by go_num, fun h => by omega, K3.out⟩, by simp [intOf]; omega⟩
      · have d0 : ((1 : Int) == 0) = false := rfl
        go_upto_region 19 with (fail)
        clear c0
        have HD := mT_any K.out.r hz6
        unfold Does at HD
        replace HD := Lib.hid HD
        have HG := refTxtM_any q (rest s p) (rest_lt s p) hzr
        rw [rest_rest] at HG
        have HGS := Lib.hid HG
        clear HG
        generalize rTxt (rest s p) = r at *
        obtain ⟨v, n, e⟩ := r
        simp only [] at HD HGS
        go_upto_region 20 with (first | (go_at_call 21; (with_reducible refine HD.out.mono ?_); rintro e1 w1 ⟨rfl, hr1, hk1⟩))
        have hq := K.out.q
        have hq2 := K.out.m.lt
        have hS1 : Sr w1 q (rest s p) := Blk.keep K.out.m hk1 (by omega) (by omega)
        have hB1 := hk1.below K.out.below K.out.below.size (by omega) (by omega)
        clear HD hk1
        have HG2 := Lib.hid (HGS.out w1 hS1)
        clear HGS hS1
        go_upto_region 21 with (first | (go_at_call 22; (with_reducible refine HG2.out.mono ?_); rintro e2 w2 ⟨rfl, hS2, hk2⟩))
        have hr2 := hr1.keep hk2 (by omega) (by omega) (by omega) (by omega)
        have hB2 := hk2.below hB1 hB1.size (by omega) (by omega)
        clear hr1 hB1 HG2 hk2
        have K2 : Hid (Lp w w2 q c s (p + n)) := ⟨hB2, hr2, hS2, hq⟩
        clear hr2 hS2 hB2 K
        have e9 := beq_self (txt v)
        go_upto_region 28 with (fail)
        clear e9
        have c0 := Blk.grown K2.out.m 0
        rw [show (#[.string (txt (rest s (p + n)))] : Array Value)[0]? = some (.string (txt (rest s (p + n)))) from rfl] at c0
        have hzl := txt_size (rest s (p + n))
        rw [rest_length] at hzl
        have HLq : ∀ (d : Nat) (os : Array Obj), Calls Try.prog 27 #[.pointer (some ⟨w.heap.size + 1, 0, none⟩)] (grow (redrawn w2 d) os) fun e w'' => e = .returned (.int .i64 ((s.size - (p + n) : Nat) : Int)) ∧ ∃ p : Regrown, w'' = grow (redrawn w2 p.d) p.os := fun d os => Calls.regrown_of (left_any (K2.out.r.below (below_regrown w2 d os)) hz6)
        refine wp_region_quiet_below (by kernel_rfl) (by kernel_rfl) ?_
        repeat (first
          | go_big_quiet_skip
          | (go_big_quiet_want
             go_big_quiet_op
             first | go_big_quiet_on | go_big_quiet_call (first | with_reducible exact HLq _ _)))
        refine wpQuiet_nil ?_
        intro _ hw'
        obtain ⟨⟨dq, osq⟩, hw''⟩ := hw'
        subst hw''
        have K3 := Lib.hid (K2.out.on (below_regrown _ dq osq))
        clear c0 HLq K2 hzl
        go_wp2
        exact ⟨⟨k + 1, p + n, by omega, by go_num, fun h => by omega, K3.out⟩, by simp [intOf]; omega⟩
      · go_upto_region 24 with (fail)
        clear c0
        have HD := mP_any K.out.r hz6
        unfold Does at HD
        replace HD := Lib.hid HD
        have HG := refPlM_any q (rest s p) (rest_lt s p) hzr
        rw [rest_rest] at HG
        have HGS := Lib.hid HG
        clear HG
        generalize rPl (rest s p) = r at *
        obtain ⟨v, n, e⟩ := r
        simp only [] at HD HGS
        go_upto_region 25 with (first | (go_at_call 23; (with_reducible refine HD.out.mono ?_); rintro e1 w1 ⟨rfl, hr1, hk1⟩) | (refine wpList_store_newrow rfl 24 _ _ rfl (row (dig 20 v)) rfl rfl (info_id _ (dig_length 20 _)) (row8_one _) (by rw [row_size, dig_length]; rfl) ?_))
        have hq := K.out.q
        have hq2 := K.out.m.lt
        have hS1 : Sr w1 q (rest s p) := Blk.keep K.out.m hk1 (by omega) (by omega)
        have hB1 := hk1.below K.out.below K.out.below.size (by omega) (by omega)
        have hk1s := hk1.size
        clear HD hk1
        have A1 := Blk.new w1 (row (dig 20 v)) 24
        replace hr1 := hr1.below ((Below.refl _ _).alloc (Nat.le_refl _) (.cells (row (dig 20 v)) 24))
        replace hS1 := hS1.below ((Below.refl _ _).alloc (Nat.le_refl _) (.cells (row (dig 20 v)) 24))
        replace hB1 := hB1.alloc hB1.size (.cells (row (dig 20 v)) 24)
        have hq3 : q < w1.heap.size := by have := hS1.lt; have := K.out.m.lt; have := hB1.size; rw [World.size_alloc] at *; have h9 := hk1s; omega
        generalize w1.heap.size = b1 at *
        generalize w1.alloc _ = W1 at *
        have HG2 := Lib.hid (HGS.out W1 hS1)
        clear HGS hS1
        go_upto_region 26 with (first | (go_at_call 24; (with_reducible refine HG2.out.mono ?_); rintro e2 w2 ⟨rfl, hS2, hk2⟩) | (refine wpList_store_newrow rfl 24 _ _ rfl (row (dig 20 v)) rfl rfl (info_id _ (dig_length 20 _)) (row8_one _) (by rw [row_size, dig_length]; rfl) ?_))
        have hr2 := hr1.keep hk2 (by omega) (by omega) (by omega) (by omega)
        have hB2 := hk2.below hB1 hB1.size (by omega) (by omega)
        replace A1 := A1.keep hk2 (by omega) (by omega)
        replace A1 := A1.alloc (.cells (row (dig 20 v)) 24)
        have A2 := Blk.new w2 (row (dig 20 v)) 24
        replace hr2 := hr2.below ((Below.refl _ _).alloc (Nat.le_refl _) (.cells (row (dig 20 v)) 24))
        replace hS2 := hS2.below ((Below.refl _ _).alloc (Nat.le_refl _) (.cells (row (dig 20 v)) 24))
        replace hB2 := hB2.alloc hB2.size (.cells (row (dig 20 v)) 24)
        clear hr1 hB1 HG2 hk2
        generalize w2.heap.size = b2 at *
        generalize w2.alloc _ = W2 at *
        have K2 : Hid (Lp w W2 q c s (p + n)) := ⟨hB2, hr2, hS2, hq⟩
        clear hr2 hS2 hB2 K
        go_upto_region 28 with (first | (refine p_loadI rfl _ rfl _ rfl _ (by first | with_reducible exact A1 | with_reducible exact A2) ?_) | (refine p_neq rfl _ _ rfl _ _ rfl rfl (neqB_self _) ?_))
        clear A1 A2
        have c0 := Blk.grown K2.out.m 0
        rw [show (#[.string (txt (rest s (p + n)))] : Array Value)[0]? = some (.string (txt (rest s (p + n)))) from rfl] at c0
        have hzl := txt_size (rest s (p + n))
        rw [rest_length] at hzl
        have HLq : ∀ (d : Nat) (os : Array Obj), Calls Try.prog 27 #[.pointer (some ⟨w.heap.size + 1, 0, none⟩)] (grow (redrawn W2 d) os) fun e w'' => e = .returned (.int .i64 ((s.size - (p + n) : Nat) : Int)) ∧ ∃ p : Regrown, w'' = grow (redrawn W2 p.d) p.os := fun d os => Calls.regrown_of (left_any (K2.out.r.below (below_regrown W2 d os)) hz6)
        refine wp_region_quiet_below (by kernel_rfl) (by kernel_rfl) ?_
        repeat (first
          | go_big_quiet_skip
          | (go_big_quiet_want
             go_big_quiet_op
             first | go_big_quiet_on | go_big_quiet_call (first | with_reducible exact HLq _ _)))
        refine wpQuiet_nil ?_
        intro _ hw'
        obtain ⟨⟨dq, osq⟩, hw''⟩ := hw'
        subst hw''
        have K3 := Lib.hid (K2.out.on (below_regrown _ dq osq))
        clear c0 HLq K2 hzl
        go_wp2
        exact ⟨⟨k + 1, p + n, by omega, by go_num, fun h => by omega, K3.out⟩, by simp [intOf]; omega⟩
      · have d0 : (z == 0) = false := by rw [beq_eq_false_iff_ne]; exact z0
        have d1 : (z == 1) = false := by rw [beq_eq_false_iff_ne]; exact z1
        have d2 : (z == 2) = false := by rw [beq_eq_false_iff_ne]; exact z2
        go_upto_region 9 with (fail)
        clear c0
        have HD := mL_any K.out.r hz6
        unfold Does at HD
        replace HD := Lib.hid HD
        have HG := refLabM_any q (rest s p) (rest_lt s p) hzr
        rw [rest_rest] at HG
        have HGS := Lib.hid HG
        clear HG
        generalize rLab (rest s p) = r at *
        obtain ⟨v, v2, n, e⟩ := r
        simp only [] at HD HGS
        go_upto_region 10 with (first | (go_at_call 25; (with_reducible refine HD.out.mono ?_); rintro e1 w1 ⟨rfl, hr1, hk1⟩) | (refine wpList_store_newrow rfl 26 _ _ rfl (labc (v : Nat) v2) rfl rfl infoLab (lab_all _ _) rfl ?_))
        have hq := K.out.q
        have hq2 := K.out.m.lt
        have hS1 : Sr w1 q (rest s p) := Blk.keep K.out.m hk1 (by omega) (by omega)
        have hB1 := hk1.below K.out.below K.out.below.size (by omega) (by omega)
        have hk1s := hk1.size
        clear HD hk1
        have A1 := Blk.new w1 (labc (v : Nat) v2) 26
        replace hr1 := hr1.below ((Below.refl _ _).alloc (Nat.le_refl _) (.cells (labc (v : Nat) v2) 26))
        replace hS1 := hS1.below ((Below.refl _ _).alloc (Nat.le_refl _) (.cells (labc (v : Nat) v2) 26))
        replace hB1 := hB1.alloc hB1.size (.cells (labc (v : Nat) v2) 26)
        have hq3 : q < w1.heap.size := by have := hS1.lt; have := K.out.m.lt; have := hB1.size; rw [World.size_alloc] at *; have h9 := hk1s; omega
        generalize w1.heap.size = b1 at *
        generalize w1.alloc _ = W1 at *
        have HG2 := Lib.hid (HGS.out W1 hS1)
        clear HGS hS1
        go_upto_region 11 with (first | (go_at_call 26; (with_reducible refine HG2.out.mono ?_); rintro e2 w2 ⟨rfl, hS2, hk2⟩) | (refine wpList_store_newrow rfl 26 _ _ rfl (labc (v : Nat) v2) rfl rfl infoLab (lab_all _ _) rfl ?_))
        have hr2 := hr1.keep hk2 (by omega) (by omega) (by omega) (by omega)
        have hB2 := hk2.below hB1 hB1.size (by omega) (by omega)
        replace A1 := A1.keep hk2 (by omega) (by omega)
        replace A1 := A1.alloc (.cells (labc (v : Nat) v2) 26)
        have A2 := Blk.new w2 (labc (v : Nat) v2) 26
        replace hr2 := hr2.below ((Below.refl _ _).alloc (Nat.le_refl _) (.cells (labc (v : Nat) v2) 26))
        replace hS2 := hS2.below ((Below.refl _ _).alloc (Nat.le_refl _) (.cells (labc (v : Nat) v2) 26))
        replace hB2 := hB2.alloc hB2.size (.cells (labc (v : Nat) v2) 26)
        clear hr1 hB1 HG2 hk2
        generalize w2.heap.size = b2 at *
        generalize w2.alloc _ = W2 at *
        have K2 : Hid (Lp w W2 q c s (p + n)) := ⟨hB2, hr2, hS2, hq⟩
        clear hr2 hS2 hB2 K
        go_upto_region 28 with (first | (refine p_loadL rfl _ rfl _ rfl _ _ (by first | with_reducible exact A1 | with_reducible exact A2) ?_) | (refine p_neqL rfl _ _ rfl _ _ _ _ rfl rfl (neqL_self _ _) ?_))
        clear A1 A2
        have c0 := Blk.grown K2.out.m 0
        rw [show (#[.string (txt (rest s (p + n)))] : Array Value)[0]? = some (.string (txt (rest s (p + n)))) from rfl] at c0
        have hzl := txt_size (rest s (p + n))
        rw [rest_length] at hzl
        have HLq : ∀ (d : Nat) (os : Array Obj), Calls Try.prog 27 #[.pointer (some ⟨w.heap.size + 1, 0, none⟩)] (grow (redrawn W2 d) os) fun e w'' => e = .returned (.int .i64 ((s.size - (p + n) : Nat) : Int)) ∧ ∃ p : Regrown, w'' = grow (redrawn W2 p.d) p.os := fun d os => Calls.regrown_of (left_any (K2.out.r.below (below_regrown W2 d os)) hz6)
        refine wp_region_quiet_below (by kernel_rfl) (by kernel_rfl) ?_
        repeat (first
          | go_big_quiet_skip
          | (go_big_quiet_want
             go_big_quiet_op
             first | go_big_quiet_on | go_big_quiet_call (first | with_reducible exact HLq _ _)))
        refine wpQuiet_nil ?_
        intro _ hw'
        obtain ⟨⟨dq, osq⟩, hw''⟩ := hw'
        subst hw''
        have K3 := Lib.hid (K2.out.on (below_regrown _ dq osq))
        clear c0 HLq K2 hzl
        go_wp2
        exact ⟨⟨k + 1, p + n, by omega, by go_num, fun h => by omega, K3.out⟩, by simp [intOf]; omega⟩
    · obtain rfl : k = zs.length := by omega
      have HP : Hid (∀ w', Below wr.heap.size wr w' → Calls Try.prog 27 #[.pointer (some ⟨w.heap.size + 1, 0, none⟩)] w' fun e w'' => e = .returned (.int .i64 ((s.size - p : Nat) : Int)) ∧ Below w'.heap.size w' w'') := fun w' hb => left_any (K.out.r.below hb) hz6
      have B9 := K.out.below
      clear HC HA K
      by_cases hz0 : zs.length = 0
      · obtain rfl := hp0 hz0
        rw [Nat.sub_zero] at HP
        rw [hz0]
        clear hp0 hlt
        go_wp2_with (first | (go_at_call 13; (with_reducible refine (h5.calls _).mono ?_); rintro e w8 ⟨rfl, hb8⟩) | (go_at_call 27; (with_reducible refine (HP.out _ hb8).mono ?_); rintro e w9 ⟨rfl, hb9⟩))
        go_ret
        exact ⟨rfl, B9.trans ((hb8.trans (hb9.mono hb8.size)).mono B9.size)⟩
      · have hd : decide (0 < zs.length) = true := decide_eq_true (by omega)
        go_wp2_with (go_at_call 13; (with_reducible refine (h5.calls _).mono ?_); rintro e w8 ⟨rfl, hb8⟩)
        go_ret
        exact ⟨rfl, B9.trans (hb8.mono B9.size)⟩

set_option maxRecDepth 100000 in
set_option maxHeartbeats 4000000 in
theorem core_nil (s : ByteArray) (w : World) (hs : s.size ≤ 6000)
    (h5 : Gives Try.prog 13 #[] (.bool true)) :
    Calls Try.prog 4 #[.string s, .slice none 0 0] w fun e w' => e = .returned (.bool true) ∧ Below w.heap.size w w' := by
  have hz6 : s.size ≤ 1000000 := by omega
  have HN := Lib.hid (new_any s w)
  go_enter Try.func4, Try.ntmps4
  go_upto_region 4 with (go_at_call 18; (with_reducible refine HN.out.mono ?_); rintro e w1 ⟨c, rfl, hr1, hb1⟩)
  have hlt1 := hr1.lt
  go_upto_region 5 with (fail)
  have hS : Sr (w1.alloc (.cells #[.string s] 45)) w1.heap.size (rest s 0) := by
    unfold Sr
    rw [show rest s 0 = bytesN s from rfl, txt_bytes]
    exact Blk.new w1 #[.string s] 45
  have K0 : Hid (Lp w (w1.alloc (.cells #[.string s] 45)) w1.heap.size c s 0) := ⟨hb1.alloc hb1.size _, hr1.below ((Below.refl _ _).alloc (Nat.le_refl _) _), hS, hlt1⟩
  clear hS hb1 hr1 HN hlt1
  generalize w1.heap.size = q at *
  generalize w1.alloc _ = W at *
  go_wp2
  go_loopw [7] (fun i wr => i = .int .i64 0 ∧ Lp w wr q c s 0) (fun i _ => 0)
  case atStart => exact ⟨rfl, K0.out⟩
  case round =>
    clear K0
    obtain ⟨rfl, K⟩ := hrel
    have HP : Hid (∀ w', Below wr.heap.size wr w' → Calls Try.prog 27 #[.pointer (some ⟨w.heap.size + 1, 0, none⟩)] w' fun e w'' => e = .returned (.int .i64 ((s.size - 0 : Nat) : Int)) ∧ Below w'.heap.size w' w'') := fun w' hb => left_any (K.r.below hb) hz6
    have B9 := K.below
    clear K
    rw [Nat.sub_zero] at HP
    go_wp2_with (first | (go_at_call 13; (with_reducible refine (h5.calls _).mono ?_); rintro e w8 ⟨rfl, hb8⟩) | (go_at_call 27; (with_reducible refine (HP.out _ hb8).mono ?_); rintro e w9 ⟨rfl, hb9⟩))
    go_ret
    exact ⟨rfl, B9.trans ((hb8.trans (hb9.mono hb8.size)).mono B9.size)⟩
set_option maxRecDepth 100000 in
theorem let_go (s : ByteArray) (a : Option Addr) (n cap : Nat) (w : World) (hs : s.size ≤ 9223372036854775807) (hn : n ≤ 9223372036854775807) (h : 6000 < s.size ∨ 100 < n) : Calls Try.prog 4 #[.string s, .slice a n cap] w fun e w' => e = .returned (.bool true) ∧ Below w.heap.size w w' := by
  rcases (by omega : 6000 < s.size ∨ (s.size ≤ 6000 ∧ 100 < n)) with h | ⟨h1, h2⟩
  all_goals
    go_enter Try.func4, Try.ntmps4
    go_wp2
    go_ret
    exact ⟨rfl, Below.refl _ _⟩

theorem cellsInt : Try.prog.cellsOf 3 = 1 := by kernel_rfl
set_option maxRecDepth 100000 in
theorem lifted (os : Os) (started : os.Started) (H : Type) (enc : TypeId × Value → H) :
    ReturnsInHanded {} Try.checked os 4 .any (Rows.wireReadsSpec.pre6 enc Try.prog Try.f4 Rows.wireReadsRow.domain false) (Rows.wireReadsSpec.post enc Try.prog Try.f4 false true false false) := by
  refine returnsInHanded_of_change (C := Try.checked) own started (by kernel_rfl) Try.func4
    (ChangeSpec.witness6 (enc := enc) (C := Try.checked) false ⟨#[], #[.string ⟨#[]⟩, .slice none 0 0], []⟩ 8 (by kernel_rfl) (by kernel_rfl) (by kernel_rfl) (by kernel_rfl)) ?_
  intro W base args ds gs before hval0 hW hcnd _
  have hval : ∀ (j : Nat) t v, Try.f4.params[j]? = some t → args[j]? = some v → Value.okWide Try.prog W .any base t v := hval0
  have hW' := hW
  obtain ⟨p, q, hA0, hV, rfl, hfz, hnd⟩ := hW
  have hA : DataW.TrodAll enc Try.prog W 0 (fun _ => true) true Try.f4.params.toList args.toList ds p := hA0
  rw [Try.params4] at hA hval
  obtain ⟨v0, vs0, d0, ds0, p0, q0, hargs, rfl, rfl, h0, r0⟩ := trodAll_cons hA
  obtain ⟨v1, vs1, d1, ds1, p1, q1, rfl, rfl, rfl, h1, r1⟩ := trodAll_cons r0
  obtain ⟨rfl, rfl, rfl⟩ := trodAll_nil r1
  obtain rfl : args = #[v0, v1] := by cases args; simp_all
  obtain ⟨rfl, rfl⟩ := trodVars_none hV
  have k0 := h0
  have lt0 : ∀ x ∈ p0, x.block < W.heap.size := by obtain ⟨m, hm⟩ := k0; exact DataW.trod_lt m _ _ _ hm
  obtain ⟨n0, rfl, _, _, ws0⟩ := open_string Try.underlying9 (hval 0 9 v0 rfl rfl) h0
  have k1 := h1
  have lt1 : ∀ x ∈ p1, x.block < W.heap.size := by obtain ⟨m, hm⟩ := k1; exact DataW.trod_lt m _ _ _ hm
  clear hA0 hval0
  have main : Calls Try.prog 4 #[.string n0, v1] W fun e W' => e = .returned (.bool true) ∧ Below W.heap.size W W' := by
    obtain ⟨a0, len, cap, rfl⟩ := okWide_slice Try.underlying40 (hval 1 40 v1 rfl rfl)
    obtain ⟨fuel, hf⟩ := h1
    rcases open_ints Try.underlying40 Try.underlying3 cellsInt hf with ⟨hcs, hx⟩ | ⟨a, len', cap', zs, hcs, _, hl, hm, hz, hx, hcell, hwz⟩
    · simp [Value.cells] at hcs
      obtain ⟨rfl, rfl, rfl⟩ := hcs
      by_cases hgo : 6000 < n0.size
      · exact let_go n0 none 0 0 W ws0 (by omega) (.inl hgo)
      · exact core_nil n0 W (by omega) wired_all
    · simp [Value.cells] at hcs
      obtain ⟨rfl, rfl, rfl⟩ := hcs
      simp only [Prod.mk.injEq] at hx
      obtain ⟨_, rfl⟩ := hx
      simp only [if_true] at hz
      have hm' : cap ≤ 9223372036854775807 := hm
      by_cases hgo : 6000 < n0.size ∨ 100 < len
      · exact let_go n0 (some a) len cap W ws0 (by omega) hgo
      · have hlen : (zs.take len).length = len := by rw [List.length_take]; omega
        have := core n0 a (zs.take len) cap W (by omega) (by omega) (fun hp => by
          rw [hlen] at hp
          exact lt1 (.cell a.block a.off) (MemPlace.mem_row.2 ⟨0, by omega, by simp⟩)) (fun i h => by
          rw [hlen] at h
          rw [hcell i (by omega), List.getElem_take, List.getD_eq_getElem?_getD, List.getElem?_eq_getElem (by omega)]
          rfl) wired_all
        rwa [hlen] at this
  refine main.mono fun e W' ⟨he, bel⟩ => ?_
  subst he
  exact ⟨_, rfl, _, _, _, [], _, [], hW', trodAll_mk1 (shut_bool Try.underlying4 _), (trodAll_cons_mk (Below.trod laidOut (by kernel_rfl) (of_decide_eq_true (by kernel_rfl)) k0 bel lt0) (trodAll_cons_mk (Below.trod laidOut (by kernel_rfl) (of_decide_eq_true (by kernel_rfl)) k1 bel lt1) trodAll_mk0)), rfl, bel.frame _, fun h => by cases h⟩

theorem proved : Rows.WireReadsSaid :=
  OpenClaim.holds_of_wide 4 Try.f4 rfl rfl rfl rfl rfl rfl rfl ⟨rfl, rfl, rfl, rfl, rfl⟩ rfl rfl rfl rfl rfl (by kernel_rfl) Try.func4 (by kernel_rfl)
    (of_decide_eq_true (by kernel_rfl)) (by unfold Func.isWrapper; first | (rw [if_pos (by decide +kernel)]; kernel_rfl) | (rw [if_neg (by decide +kernel)]; exact ⟨rfl, rfl⟩))
    (fun os started H enc _ => lifted os started H enc)

end Go.Proofs.Ytgfcdkihahfnkaa.ReadsLaw
