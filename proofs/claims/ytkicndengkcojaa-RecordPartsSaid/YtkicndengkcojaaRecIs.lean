/- Whether a record is right. -/
import Derived.Test.YtkicndengkcojaaRecMem
import Derived.Test.YtkicndengkcojaaPkA
namespace Go.Proofs.Ytkicndengkcojaa
set_option maxRecDepth 100000
open Go Go.RowKit Go.Sort

theorem rstep {w a b : World} (h : Below w.heap.size w a) (k : Below a.heap.size a b) : Below w.heap.size w b := h.trans (k.mono h.size)
theorem rdrew (w : World) : Below w.heap.size w w.drew := ⟨rfl, rfl, rfl, Nat.le_refl _, fun _ _ => rfl⟩
theorem quiet_fin {W w' : World} (h : ∃ p : Regrown, w' = grow (redrawn W p.d) p.os) : Below W.heap.size W w' := by
  obtain ⟨⟨d, os⟩, rfl⟩ := h
  exact below_regrown W d os
theorem told_grown {W : World} {u : Value} {K : List It} (h : Told W u K) (d : Nat) (os : Array Obj) : Told (grow (redrawn W d) os) u K := h.bel (below_regrown W d os)
theorem results_labP {fn : Func} {p : Tmp} (h : fn.results = #[.cell p 25]) (tmps : Array Value) (w : World) (g : Nat) (n : Int) (b : Nat)
    (hp : tmps.getD p undef = .pointer (some ⟨g, 0, none⟩)) (hg : Blk w g (labc n b) 25) :
    (results fn tmps).run Try.prog w = .ok (.agg (labc n b)) w := by
  have hp' : tmps[p]?.getD undef = .pointer (some ⟨g, 0, none⟩) := by simpa using hp
  simp [results, h, hp', asAddr, run_loadVar_row w g 25 25 (labc n b) (0, 0) _ hg Try.underlying25 rfl infoLab]
theorem none_lab : (#[Value.int IntKind.i64 (-1), Value.int IntKind.u64 0] : Array Value) = labc (-1) 0 := rfl
theorem none_any : Gives Try.prog 49 #[] (.agg (labc (-1) 0)) := by
  intro w
  go_enter Try.func49, Try.ntmps49
  go_upto_region 1 with (fail)
  have Z := Lib.hid (Blk.new w (labc 0 0) 25)
  have B := Lib.hid ((Below.refl w.heap.size w).alloc (Nat.le_refl _) (.cells (labc 0 0) 25))
  rw [lab00]
  generalize w.alloc _ = W at *
  go_wp2_with (first | (refine p_storeL rfl _ _ rfl _ rfl (-1) 0 rfl 0 0 Z.out ?_))
  exact bodyPost_ret (results_labP Try.results49 _ _ _ (-1) 0 rfl (Z.out.setRow _)) rfl ⟨rfl, bel_setRow B.out (Nat.le_refl _) _⟩

/-! labels in the midst of a record -/
theorem mid_lab {w : World} {g : Nat} {r : Rc} {u : Value} (hg : Blk w g (recC r u) 27) : w.rangeAt g 2 (labc r.nl r.nb).toList := by
  intro j v hv
  rw [hg.cell]
  match j, hv with
  | 0, hv => exact hv
  | 1, hv => exact hv
  | j + 2, hv => simp [labc] at hv
theorem p_midL {ops : Array Oper} {rest : List Oper} {o : Oper} {a : Act} {w : World} {Q : Exit → Act → World → Prop} (hgd : o.guard = none) (x : Operand) (ho : o.op = .load 25 x)
    (g : Nat) (hx : a.eval x = .pointer (some ⟨g, 2, none⟩)) (r : Rc) (u : Value) (hg : Blk w g (recC r u) 27)
    (h : wpList Try.prog ops Q rest (a.put o.dst (.agg (labc r.nl r.nb))) w) : wpList Try.prog ops Q (o :: rest) a w :=
  wpList_load_mid hgd 25 x ho g 2 hx (labc r.nl r.nb).toList _ (mid_lab hg) Try.underlying25 rfl infoLab (by rw [Array.toArray_toList]; exact h)
theorem q_midL {W : World} {o : Oper} {a : Act} {K : Act → Prop} (x : Operand) (ho : o.op = .load 25 x) (g : Nat) (hx : a.eval x = .pointer (some ⟨g, 2, none⟩)) (r : Rc) (u : Value)
    (hg : Blk W g (recC r u) 27) (hk : K (a.put o.dst (.agg (labc r.nl r.nb)))) : o.quiet Try.prog a (fun w' => ∃ p : Regrown, w' = grow (redrawn W p.d) p.os) K := by
  refine ⟨.agg (labc r.nl r.nb), ?_, hk⟩
  rintro w' ⟨p, rfl⟩
  have hg' := mid_lab (hg.below (below_regrown W p.d p.os) hg.lt)
  unfold Oper.quietAt execOp
  simp only [ho, hx, Instr.loadAt, Instr.sureAddr, Sem.run_bind, run_loadVar_mid _ g 2 25 (labc r.nl r.nb).toList _ hg' Try.underlying25 rfl infoLab, Sem.run_pure, Result.andThen_ok]
  exact ⟨rfl, rfl⟩
theorem run_neq_lab (n : Int) (b : Nat) (m : Int) (c : Nat) (w : World) : (binOp .neq 25 (.agg (labc n b)) (.agg (labc m c))).run Try.prog w = .ok (.bool (!eqL n b m c)) w := by
  rw [run_neq_struct, run_equalIn_lab 9998]
  rfl
theorem q_neqL {C : World → Prop} {o : Oper} {a : Act} {K : Act → Prop} (x y : Operand) (ho : o.op = .binOp .neq 25 x y 25) (n : Int) (b : Nat) (m : Int) (c : Nat) (hx : a.eval x = .agg (labc n b)) (hy : a.eval y = .agg (labc m c)) {r : Bool} (hr : (!eqL n b m c) = r)
    (hk : K (a.put o.dst (.bool r))) : o.quiet Try.prog a C K := by
  refine ⟨.bool r, ?_, hk⟩
  intro w' _
  unfold Oper.quietAt execOp
  simp only [ho, hx, hy, Sem.run_bind, run_eqGuard_agg w' .neq 25 x y _ _ guardLab, run_neq_lab, hr, Sem.run_pure, Result.andThen_ok]
  exact ⟨rfl, rfl⟩

/-! keys that rise -/
set_option maxHeartbeats 1000000 in
theorem rise_any {w : World} {u : Value} {L : List It} (h : Told w u L) (hl : L.length ≤ 1000000) : Calls Try.prog 71 #[u] w fun e w' => e = .returned (.bool (riseB L)) ∧ Below w.heap.size w w' := by
  obtain ⟨a, c, rfl⟩ := told_shape h
  obtain ⟨n, hn⟩ : ∃ n, n = L.length := ⟨_, rfl⟩
  rw [← hn] at h hl ⊢
  have HN := Lib.hid hn
  have HT := Lib.hid h
  clear h hn
  go_enter Try.func71, Try.ntmps71
  go_wp2
  go_loopw [3] (fun i wr => ∃ q : Nat, q ≤ n ∧ i = .int .i64 ((q : Int) + 1) ∧ Below w.heap.size w wr ∧ Sorted (L.take (q + 1))) (fun i _ => n + 1 - (intOf i).toNat)
  case atStart => exact ⟨0, by omega, rfl, Below.refl _ _, rise_one L⟩
  case round =>
    obtain ⟨q, hq, rfl, hB, hS⟩ := hrel
    have HS := Lib.hid hS
    have HB := Lib.hid hB
    clear hB hS
    by_cases hlt : q + 1 < n
    · obtain ⟨x, hx⟩ : ∃ x, L[q]? = some x := ⟨_, List.getElem?_eq_getElem (by have := HN.out; omega)⟩
      obtain ⟨y, hy⟩ : ∃ y, L[q + 1]? = some y := ⟨_, List.getElem?_eq_getElem (by have := HN.out; omega)⟩
      have hT : Told wr (.slice a n c) L := HT.out.bel HB.out
      obtain ⟨b1, o1, rfl, x1, x2, _⟩ := told_at hT hx
      obtain ⟨b2, o2, e2, y1, y2, _⟩ := told_at hT hy
      simp only [Option.some.injEq, Addr.mk.injEq, and_true] at e2
      obtain ⟨rfl, rfl⟩ := e2
      have HX := Lib.hid hx
      have HY := Lib.hid hy
      have hbd := Lib.hid (rstep HB.out (rdrew wr))
      have hw1 : IntKind.i64.wrap ((q : Int) + 1 - 1) = (q : Int) := by rw [show (q : Int) + 1 - 1 = q by omega]; exact IntWalk.i64_in _ (by omega)
      have hw2 : IntKind.i64.wrap ((q : Int) + 1 + 1) = (q : Int) + 1 + 1 := IntWalk.i64_in _ (by omega)
      have hb1 : (q : Int) < (n : Int) := by omega
      have hb2 : (q : Int) + 1 < (n : Int) := by omega
      have ht : ((q : Int) + 1).toNat = q + 1 := by omega
      clear hx hy hT x2 y2
      by_cases hk : x.1 < y.1
      · have hd : decide (y.1 ≤ x.1) = false := by simp; omega
        have HK := Lib.hid hk
        clear hk
        go_upto_region 4 with (fail)
        go_quiet (fail)
        go_wp2
        exact ⟨⟨q + 1, by omega, rfl, bel_drewN HB.out _, rise_take HX.out HY.out HK.out HS.out⟩, by simp [intOf]; omega⟩
      · have hd : decide (y.1 ≤ x.1) = true := by simp; omega
        have HR := Lib.hid (rise_not HX.out HY.out hk)
        clear hk
        go_upto_region 4 with (fail)
        go_quiet (fail)
        go_wp2
        go_ret
        exact ⟨by rw [HR.out]; rfl, bel_drewN HB.out _⟩
    · have HR := Lib.hid (rise_all HS.out (by have := HN.out; omega))
      clear hq
      go_wp2
      go_ret
      exact ⟨by rw [HR.out]; rfl, HB.out⟩

/-! values that are too long -/
theorem hasLong_any (k : Nat) (s : ByteArray) (w : World) : Calls Try.prog 92 #[.agg (itC k s)] w fun e w' => e = .returned (.bool (decide (64 < s.size))) ∧ Below w.heap.size w w' := by
  unfold itC
  go_enter Try.func92, Try.ntmps92
  go_wp2
  go_ret
  exact ⟨ret_bool (by rw [decide_eq_decide]; omega), (Below.refl _ _).alloc (Nat.le_refl _) _⟩
theorem short_take {L : List It} {i : Nat} {x : It} (hx : L[i]? = some x) : shortB (L.take (i + 1)) = (shortB (L.take i) && decide (x.2.size ≤ 64)) := by
  obtain ⟨h1, rfl⟩ := List.getElem?_eq_some_iff.1 hx
  rw [List.take_succ_eq_append_getElem h1, shortB_append]
  simp [shortB]
theorem short_not {L : List It} {i : Nat} {x : It} (hx : L[i]? = some x) (h : 64 < x.2.size) : shortB L = false := by
  rw [Bool.eq_false_iff]
  intro hs
  have := List.all_eq_true.1 hs x (List.mem_of_getElem? hx)
  simp at this
  omega
theorem indexLong_any {w : World} {u : Value} {L : List It} (h : Told w u L) (hl : L.length ≤ 1000000) : Calls Try.prog 110 #[u, .func (.func 92) #[] #[]] w fun e w' => ∃ z : Int, e = .returned (.int .i64 z) ∧ decide (0 ≤ z) = !shortB L ∧ Below w.heap.size w w' := by
  obtain ⟨a, c, rfl⟩ := told_shape h
  obtain ⟨n, hn⟩ : ∃ n, n = L.length := ⟨_, rfl⟩
  rw [← hn] at h hl ⊢
  have HN := Lib.hid hn
  have HT := Lib.hid h
  clear h hn
  go_enter Try.func110, Try.ntmps110
  go_wp2
  go_loopw [5, 8] (fun _ i wr => ∃ q : Nat, q ≤ n ∧ i = .int .i64 (q : Int) ∧ Below w.heap.size w wr ∧ shortB (L.take q) = true) (fun _ i _ => n - (intOf i).toNat)
  case atStart => exact ⟨0, by omega, rfl, Below.refl _ _, rfl⟩
  case round =>
    obtain ⟨q, hq, rfl, hB, hS⟩ := hrel
    have HS := Lib.hid hS
    have HB := Lib.hid hB
    clear hB hS
    by_cases hlt : q < n
    · obtain ⟨x, hx⟩ : ∃ x, L[q]? = some x := ⟨_, List.getElem?_eq_getElem (by have := HN.out; omega)⟩
      have hT : Told wr (.slice a n c) L := HT.out.bel HB.out
      obtain ⟨b1, o1, rfl, x1, x2, hr⟩ := told_at hT hx
      have HX := Lib.hid hx
      have HL := Lib.hid (hasLong_any x.1 x.2 wr)
      clear hx hT x1 x2
      by_cases hk : 64 < x.2.size
      · have hd : decide (64 < x.2.size) = true := by simpa using hk
        have HR := Lib.hid (short_not HX.out hk)
        clear hk
        go_wp2_with (first
          | (refine p_midA rfl _ rfl _ _ rfl x.1 x.2 hr ?_)
          | (go_at_call 92; (with_reducible refine HL.out.mono ?_); rintro e w1 ⟨rfl, hb1⟩))
        go_ret
        exact ⟨(q : Int), rfl, by rw [HR.out]; simp, rstep HB.out hb1⟩
      · have hd : decide (64 < x.2.size) = false := by simpa using hk
        have HR := Lib.hid (short_take HX.out)
        have HK : Hid (decide (x.2.size ≤ 64) = true) := decide_eq_true (by omega)
        clear hk
        go_wp2_with (first
          | (refine p_midA rfl _ rfl _ _ rfl x.1 x.2 hr ?_)
          | (go_at_call 92; (with_reducible refine HL.out.mono ?_); rintro e w1 ⟨rfl, hb1⟩))
        exact ⟨⟨q + 1, by omega, by go_num, rstep HB.out hb1, by rw [HR.out, HS.out, HK.out]; rfl⟩, by simp [intOf]; omega⟩
    · have HR : Hid (shortB L = true) := by
        have := HS.out
        rwa [List.take_of_length_le (by have := HN.out; omega)] at this
      clear hq
      go_wp2
      go_ret
      exact ⟨-1, rfl, by rw [HR.out]; rfl, HB.out⟩
theorem containsLong_any {w : World} {u : Value} {L : List It} (h : Told w u L) (hl : L.length ≤ 1000000) : Calls Try.prog 91 #[u, .func (.func 92) #[] #[]] w fun e w' => e = .returned (.bool (!shortB L)) ∧ Below w.heap.size w w' := by
  have HI := Lib.hid (indexLong_any h hl)
  clear h
  go_enter Try.func91, Try.ntmps91
  go_wp2_with (go_at_call 110; (with_reducible refine HI.out.mono ?_); rintro e w1 ⟨z, rfl, hz, hb1⟩)
  go_ret
  exact ⟨by rw [← hz]; rfl, hb1⟩
theorem areRight_any {w : World} {u : Value} {L : List It} (h : Told w u L) (hl : L.length ≤ 1000000) : Calls Try.prog 50 #[u] w fun e w' => e = .returned (.bool (okI L)) ∧ Below w.heap.size w w' := by
  have HR := Lib.hid (fun w1 (hb : Below w.heap.size w w1) => rise_any (h.bel hb) hl)
  have HC := Lib.hid (fun w1 (hb : Below w.heap.size w w1) => containsLong_any (h.bel hb) hl)
  obtain ⟨a, c, rfl⟩ := told_shape h
  have HO : Hid (okI L = (decide (L.length ≤ 16) && (riseB L && shortB L))) := rfl
  clear h
  generalize riseB L = rb at *
  generalize shortB L = sb at *
  generalize okI L = ok at *
  generalize L.length = n at *
  by_cases h16 : n ≤ 16
  · cases rb
    · go_enter Try.func50, Try.ntmps50
      go_wp2_with (go_at_call 71; (with_reducible refine (HR.out _ (Below.refl _ _)).mono ?_); rintro e w1 ⟨rfl, hb1⟩)
      go_ret
      exact ⟨by rw [HO.out]; simp, hb1⟩
    · go_enter Try.func50, Try.ntmps50
      go_wp2_with (first
        | (go_at_call 71; (with_reducible refine (HR.out _ (Below.refl _ _)).mono ?_); rintro e w1 ⟨rfl, hb1⟩)
        | (go_at_call 91; (with_reducible refine (HC.out _ hb1).mono ?_); rintro e w2 ⟨rfl, hb2⟩))
      go_ret
      exact ⟨by rw [HO.out]; simp [h16], rstep hb1 hb2⟩
  · have HD : Hid (decide (n ≤ 16) = false) := decide_eq_false h16
    go_enter Try.func50, Try.ntmps50
    go_wp2
    go_ret
    exact ⟨by rw [HO.out, HD.out]; rfl, Below.refl _ _⟩
end Go.Proofs.Ytkicndengkcojaa
