/- Circles: owners, fingers and arcs, of the program and of the document. -/
import Derived.Test.YtfajfmcabpmchaaCirMem
import Derived.Test.YtfajfmcabpmchaaPow
import Derived.StillTactics
import Derived.Deep.RegionHeld3
namespace Go.Proofs.Ytfajfmcabpmchaa.Cr
set_option maxRecDepth 100000
open Go Go.RowKit Go.Sort

def sizeB (n : Int) : Bool := decide (1 ≤ n) && decide (n ≤ 16)
def addrB (n : Int) : Bool := decide (0 ≤ n) && decide (n ≤ 999)
theorem isSize_any (n : Int) (w : World) : Calls Try.prog 61 #[.int .i64 n] w fun e w' => e = .returned (.bool (sizeB n)) ∧ w = w' := by
  unfold sizeB
  by_cases h1 : 1 ≤ n <;> by_cases h2 : n ≤ 16
  all_goals
    have d1 := decide_eq_true_iff (p := 1 ≤ n)
    go_enter Try.func61, Try.ntmps61
    go_wp2
    go_ret
    simp [h1, h2]
theorem isAddr_any (n : Int) (w : World) : Calls Try.prog 62 #[.int .i64 n] w fun e w' => e = .returned (.bool (addrB n)) ∧ w = w' := by
  unfold addrB
  by_cases h1 : 0 ≤ n <;> by_cases h2 : n ≤ 999
  all_goals
    have d1 := decide_eq_true_iff (p := 0 ≤ n)
    go_enter Try.func62, Try.ntmps62
    go_wp2
    go_ret
    simp [h1, h2]
theorem less_gives (a b : Nat) : Gives Try.prog 23 #[idv a, idv b] (.bool (lessB a b)) := less_all a b
theorem refLess_gives (a b : Nat) : Gives Try.prog 59 #[idv a, idv b] (.bool (lessB a b)) := refLess_all a b
theorem lessB_lt {a b : Nat} (ha : a < M) (hb : b < M) : lessB a b = decide (a < b) := by unfold lessB; rw [Nat.mod_eq_of_lt ha, Nat.mod_eq_of_lt hb]

theorem pred_any {w : World} {v : Value} {L : List Pe} (gl gi id i : Nat) (hv : Blk w gl #[v] 37) (hi : At w gi id) (hL : Lies w v L) (hlt : i < L.length) :
    Calls Try.prog 90 #[.int .i64 (i : Int), .pointer (some ⟨gl, 0, none⟩), .pointer (some ⟨gi, 0, none⟩)] w fun e w' => e = .returned (.bool (!lessB (pn L i) id)) ∧ Below w.heap.size w w' := by
  obtain ⟨b, o, c, rfl, hc, hr, hp, hb⟩ := hL.at (at_get hlt)
  have hpi := pe_id hp
  have c1 : ∀ d os, (grow (redrawn w d) os).cell? ⟨gl, 0, none⟩ = some (.slice (some ⟨b, o, none⟩) L.length c) := fun d os => hv.grown 0 d os
  have HL := less_gives (pn L i) id
  generalize lessB (pn L i) id = r at *
  generalize pn L i = p at *
  clear hr hp hv
  generalize L.length = n at *
  go_enter Try.func90, Try.ntmps90
  go_upto_region 1 with (fail)
  refine wp_region_quiet_below (by kernel_rfl) (by kernel_rfl) ?_
  repeat (first
    | go_big_quiet_skip
    | (go_big_quiet_want
       first
       | (first | (refine q_midI _ rfl _ _ rfl p (by with_reducible exact hpi) ?_) | (refine q_at _ rfl _ id rfl hi ?_)
          simp only [Act.put, List.setIfInBounds_toArray, List.set_cons_succ, List.set_cons_zero]
          go_big_quiet_on)
       | (go_big_quiet_op
          first | go_big_quiet_on | go_big_quiet_call (first | with_reducible exact HL.grown _ _))))
  refine wpQuiet_nil ?_
  intro w2 hw'
  have HB := Lib.hid (quiet_end hw')
  clear hw'
  go_wp2
  go_ret
  exact ⟨rfl, HB.out⟩

set_option maxHeartbeats 1000000 in
theorem search_any (n : Nat) (c1 c2 : Value) (p : Nat → Bool) (w : World) (hn : n ≤ 1000000) (hm : ∀ i j, i ≤ j → j < n → p i = true → p j = true)
    (HF : Hid (∀ (w1 : World) (i : Nat), i < n → Below w.heap.size w w1 → Calls Try.prog 90 #[.int .i64 (i : Int), c1, c2] w1 fun e w' => e = .returned (.bool (p i)) ∧ Below w1.heap.size w1 w')) :
    Calls Try.prog 89 #[.int .i64 (n : Int), .func (.func 90) #[] #[c1, c2]] w fun e w' => ∃ k : Nat, e = .returned (.int .i64 (k : Int)) ∧ k ≤ n ∧ (∀ i, i < k → p i = false) ∧ (k < n → p k = true) ∧ Below w.heap.size w w' := by
  have HM := Lib.hid hm
  clear hm
  go_enter Try.func89, Try.ntmps89
  go_wp2
  go_loopw [5, 6] (fun x y wr => ∃ a b : Nat, a ≤ b ∧ b ≤ n ∧ x = .int .i64 a ∧ y = .int .i64 b ∧ (∀ i, i < a → p i = false) ∧ (b < n → p b = true) ∧ Below w.heap.size w wr) (fun x y _ => (intOf y).toNat - (intOf x).toNat)
  case atStart => exact ⟨0, n, by omega, by omega, rfl, rfl, fun i hi => by omega, fun h => by omega, Below.refl _ _⟩
  case round =>
    obtain ⟨a, b, hab, hbn, rfl, rfl, h1, h2, hB⟩ := hrel
    have H1 := Lib.hid h1
    have H2 := Lib.hid h2
    have HB := Lib.hid hB
    clear h1 h2 hB
    by_cases hlt : a < b
    · have hmn : (a + b) / 2 < n := by omega
      have HA := Lib.hid (HF.out wr ((a + b) / 2) hmn HB.out)
      have e1 : (((a + b) / 2 : Nat) : Int) = ((a : Int) + (b : Int)) / 2 := by omega
      have HE := Lib.hid (rfl : p ((a + b) / 2) = p ((a + b) / 2))
      generalize hr : p ((a + b) / 2) = r at HA
      have HR := Lib.hid hr
      clear hr HE
      rw [e1] at HA
      have HI := Lib.hid e1
      clear e1
      cases r
      · go_wp2_with (go_at_call 90; (with_reducible refine HA.out.mono ?_); rintro e w1 ⟨rfl, hb1⟩)
        refine ⟨⟨(a + b) / 2 + 1, b, by omega, hbn, by rw [Int.natCast_add, HI.out]; go_num, rfl, fun i hi => ?_, H2.out, HB.out.trans (hb1.mono HB.out.size)⟩, by simp [intOf]; omega⟩
        cases hp : p i with
        | false => rfl
        | true =>
          have := HM.out i ((a + b) / 2) (by omega) hmn hp
          rw [HR.out] at this
          exact absurd this (by simp)
      · go_wp2_with (go_at_call 90; (with_reducible refine HA.out.mono ?_); rintro e w1 ⟨rfl, hb1⟩)
        exact ⟨⟨a, (a + b) / 2, by omega, by omega, rfl, by rw [HI.out], H1.out, fun _ => HR.out, HB.out.trans (hb1.mono HB.out.size)⟩, by simp [intOf]; omega⟩
    · obtain rfl : b = a := by omega
      go_wp2
      go_ret
      exact ⟨_, rfl, hbn, H1.out, H2.out, HB.out⟩
theorem _root_.Go.Proofs.Ytfajfmcabpmchaa.Rise.mono {L : List Pe} (h : Rise L) {i j : Nat} (hij : i ≤ j) (hj : j < L.length) : pn L i ≤ pn L j := by
  rcases Nat.lt_or_ge i j with h1 | h1
  · exact Nat.le_of_lt (h i j h1 hj)
  · obtain rfl : i = j := by omega
    exact Nat.le_refl _
set_option maxHeartbeats 1000000 in
theorem firstFrom_any {w : World} {v : Value} {L : List Pe} (id : Nat) (hL : Lies w v L) (hR : Rise L) (hw : Wf L) (hid : id < M) (hn : L.length ≤ 1000000) :
    Calls Try.prog 74 #[v, idv id] w fun e w' => e = .returned (.int .i64 (firstN L id : Nat)) ∧ Below w.heap.size w w' := by
  obtain ⟨a, c, rfl⟩ := hL.form
  have B0 : Below w.heap.size w ((w.alloc (.cells #[.slice a L.length c] 37)).alloc (.cells (row (dig 20 id)) 24)) := ((Below.refl w.heap.size w).alloc (Nat.le_refl _) _).alloc (by simp) _
  have V0 : Blk ((w.alloc (.cells #[.slice a L.length c] 37)).alloc (.cells (row (dig 20 id)) 24)) w.heap.size #[.slice a L.length c] 37 := (Blk.new w _ _).alloc _
  have I0 : At ((w.alloc (.cells #[.slice a L.length c] 37)).alloc (.cells (row (dig 20 id)) 24)) (w.heap.size + 1) id := by
    have := At.new (w.alloc (.cells #[.slice a L.length c] 37)) id
    rwa [World.size_alloc] at this
  rw [show idv id = .agg (row (dig 20 id)) from rfl]
  go_enter Try.func74, Try.ntmps74
  go_upto_region 1 with (fail)
  generalize hW : (w.alloc _).alloc _ = W at *
  clear hW
  have c1 : W.cell? ⟨w.heap.size, 0, none⟩ = some (.slice a L.length c) := V0.cell 0
  have HS := Lib.hid (search_any L.length (.pointer (some ⟨w.heap.size, 0, none⟩)) (.pointer (some ⟨w.heap.size + 1, 0, none⟩)) (fun i => !lessB (pn L i) id) W hn
    (fun i j hij hj hp => by
      simp only [Bool.not_eq_true', lessB_lt (hw.pn _) hid, decide_eq_false_iff_not] at hp ⊢
      have := hR.mono hij hj
      omega)
    (Lib.hid fun w1 i hi hb => pred_any w.heap.size (w.heap.size + 1) id i (V0.below hb V0.lt) (I0.below hb) ((hL.bel B0).bel hb) hi))
  have HB := Lib.hid B0
  have fin : ∀ k : Nat, k ≤ L.length → (∀ i, i < k → (!lessB (pn L i) id) = false) → (k < L.length → (!lessB (pn L k) id) = true) → firstN L id = k := fun k hk h1 h2 => by
    refine first_of hk (fun i hi => ?_) (fun h => ?_)
    · have := h1 i hi
      rw [lessB_lt (hw.pn _) hid] at this
      simpa using this
    · have := h2 h
      rw [lessB_lt (hw.pn _) hid] at this
      simpa using this
  have HF := Lib.hid fin
  clear fin B0 V0 I0 hL hR hw
  generalize pn L = q at *
  generalize L.length = n at *
  go_wp2_with (go_at_call 89; (with_reducible refine HS.out.mono ?_); rintro e w1 ⟨k, rfl, hk, h1, h2, hb⟩; have HE := Lib.hid (HF.out k hk h1 h2); clear h1 h2)
  go_ret
  refine ⟨?_, step HB.out hb⟩
  show Ending.returned (.int .i64 (k : Int)) = _
  rw [HE.out]
theorem round_any (a : Option Addr) (n c k : Nat) (h0 : 0 < n) (hk : k ≤ 1000000000) (w : World) : Calls Try.prog 47 #[.slice a n c, .int .i64 (k : Int)] w fun e w' => e = .returned (.int .i64 ((k % n : Nat) : Int)) ∧ w = w' := by
  have hz : ¬ (n : Int) = 0 := by omega
  have hp : (0 : Int) ≤ (k : Int) := by omega
  go_enter Try.func47, Try.ntmps47
  go_wp2
  go_ret
  simp
set_option maxHeartbeats 1000000 in
theorem owner_any {w : World} {v : Value} {L : List Pe} (id : Nat) (hL : Lies w v L) (hR : Rise L) (hw : Wf L) (hid : id < M) (h0 : 0 < L.length) (hn : L.length ≤ 1000000) :
    Calls Try.prog 45 #[v, idv id] w fun e w' => e = .returned (.int .i64 (ownN L id : Nat)) ∧ Below w.heap.size w w' := by
  obtain ⟨a, c, rfl⟩ := hL.form
  have B0 : Below w.heap.size w (w.alloc (.cells (row (dig 20 id)) 24)) := (Below.refl w.heap.size w).alloc (Nat.le_refl _) _
  have I0 := At.new w id
  have hF := firstFrom_any id (hL.bel B0) hR hw hid hn
  have hG := fun w => round_any a L.length c (firstN L id) h0 (by have := first_le L id; omega) w
  have HO : Hid (((firstN L id % L.length : Nat) : Int) = (ownN L id : Nat)) := rfl
  have HF := Lib.hid hF
  have HG := Lib.hid hG
  have HB := Lib.hid B0
  clear hL hR hw h0 hn hF hG B0
  generalize ownN L id = r at *
  generalize firstN L id = k at *
  generalize L.length = n at *
  rw [show idv id = .agg (row (dig 20 id)) from rfl]
  go_enter Try.func45, Try.ntmps45
  go_upto_region 1 with (fail)
  generalize w.alloc _ = W at *
  go_wp2_with (first
    | (refine p_load rfl _ rfl _ rfl id I0 ?_)
    | (go_at_call 74; (with_reducible refine HF.out.mono ?_); rintro e w1 ⟨rfl, hb⟩)
    | (go_at_call 47; (with_reducible refine (HG.out _).mono ?_); rintro e w2 ⟨rfl, rfl⟩))
  go_ret
  refine ⟨?_, step HB.out hb⟩
  rw [← HO.out]
  rfl
end Go.Proofs.Ytfajfmcabpmchaa.Cr

namespace Go.Proofs.Ytfajfmcabpmchaa.Cr
set_option maxRecDepth 100000
open Go Go.RowKit Go.Sort

/-- row[:r], in a region that draws its order -/
theorem q_to {P : Program} {C : World → Prop} {o : Oper} {a : Act} {K : Act → Prop} (T : TypeId) (s hi_ : Operand)
    (ho : o.op = .slice T s none (some hi_) none) (e : TypeId) (size : Nat) (hT : P.underlying T = some (.slice e)) (hi : (P.info? e).map (·.size) = some size)
    (b off n c r : Nat) (z : Int) (hs : a.eval s = .slice (some ⟨b, off, none⟩) n c) (hlo : a.eval hi_ = .int .i64 z) (hz : z = (r : Int)) (hr : r ≤ c)
    (hk : K (a.put o.dst (.slice (some ⟨b, off, none⟩) r c))) : o.quiet P a C K := by
  subst hz
  refine ⟨_, fun w' _ => ?_, hk⟩
  have hel : P.elem T = e := by simp [Program.elem, hT]
  have hT' : P.underlying T = some (.slice (P.elem T)) := by rw [hel]; exact hT
  obtain ⟨i, hi', hq⟩ := Option.map_eq_some_iff.1 hi
  have hr' : (Instr.sliceAt T (.slice (some ⟨b, off, none⟩) n c) none (some (.int .i64 (r : Int))) none).run P w' = .ok (sliced (some ⟨b, off, none⟩) 0 r c size) w' := by
    rw [run_sliceAt_slice w' T _ _ _ _ hT', run_slice_h w' T _ n c hT' .i64 (r : Int) (by omega) (by omega), hel]
    simp [sizeOf, typeInfo, hi', Result.andThen, hq]
  have hv : sliced (some ⟨b, off, none⟩) 0 r c size = .slice (some ⟨b, off, none⟩) r c := by
    unfold sliced; split <;> simp [Addr.add_mid]
  unfold Oper.quietAt execOp
  simp only [ho, Option.map, hs, hlo, Sem.run_bind, Result.andThen_ok, hr', hv]
  exact ⟨rfl, rfl⟩

/-- whether one has the address -/
def hasB (L : List Pe) (a : Int) : Bool := decide (∃ j, j < L.length ∧ ad L j = a)
theorem hasPred_any (x : Pe) (a : Int) (g : Nat) (w : World) (hg : Blk w g #[.int .i64 a] 3) :
    Calls Try.prog 84 #[.agg (peA x), .pointer (some ⟨g, 0, none⟩)] w fun e w' => e = .returned (.bool (x.1 == a)) ∧ Below w.heap.size w w' := by
  have B0 := (Below.refl w.heap.size w).alloc (Nat.le_refl _) (.cells (peA x) 28)
  have c0 : (w.alloc (.cells (peA x) 28)).cell? ⟨w.heap.size, 0, none⟩ = some (.int .i64 x.1) := (Blk.new w (peA x) 28).cell 0
  have c1 : (w.alloc (.cells (peA x) 28)).cell? ⟨g, 0, none⟩ = some (.int .i64 a) := (hg.alloc _).cell 0
  go_enter Try.func84, Try.ntmps84
  go_upto_region 1 with (fail)
  generalize w.alloc _ = W at *
  generalize peA x = C at *
  go_wp2
  go_ret
  exact ⟨rfl, B0⟩
set_option maxHeartbeats 1000000 in
theorem index_any {w : World} {v : Value} {L : List Pe} (a : Int) (g : Nat) (hL : Lies w v L) (hg : Blk w g #[.int .i64 a] 3) (hn : L.length ≤ 1000000) :
    Calls Try.prog 88 #[v, .func (.func 84) #[] #[.pointer (some ⟨g, 0, none⟩)]] w fun e w' => ∃ r : Int, e = .returned (.int .i64 r) ∧ decide (0 ≤ r) = hasB L a ∧ Below w.heap.size w w' := by
  obtain ⟨sa, sc, rfl⟩ := hL.form
  obtain ⟨n, hnL⟩ : ∃ n, n = L.length := ⟨_, rfl⟩
  rw [← hnL] at hL hn ⊢
  have HN := Lib.hid hnL
  have HL := Lib.hid hL
  have HG := Lib.hid hg
  clear hL hg hnL
  go_enter Try.func88, Try.ntmps88
  go_wp2
  go_loopw [8] (fun i wr => ∃ q : Nat, q ≤ n ∧ i = .int .i64 (q : Int) ∧ Below w.heap.size w wr ∧ ∀ j, j < q → ad L j ≠ a) (fun i _ => n - (intOf i).toNat)
  case atStart => exact ⟨0, by omega, rfl, Below.refl _ _, fun j hj => by omega⟩
  case round =>
    obtain ⟨q, hq, rfl, hB, hJ⟩ := hrel
    have HB := Lib.hid hB
    have HJ := Lib.hid hJ
    clear hB hJ
    by_cases hlt : q < n
    · have hx := at_get (L := L) (i := q) (by have := HN.out; omega)
      obtain ⟨b, o, c, e1, _, _, hp, _⟩ := (HL.out.bel HB.out).at hx
      simp only [Value.slice.injEq] at e1
      obtain ⟨rfl, enl, rfl⟩ := e1
      clear enl
      have HP := Lib.hid hp
      have HC := Lib.hid (hasPred_any (ad L q, pn L q) a g wr (HG.out.below HB.out HG.out.lt))
      clear hx hp
      by_cases he : ad L q = a
      · have e2 : ((ad L q, pn L q).1 == a) = true := by simpa using he
        rw [e2] at HC
        have HR : Hid (decide ((0 : Int) ≤ (q : Int)) = hasB L a) := by
          unfold Hid hasB
          rw [decide_eq_decide]
          exact ⟨fun _ => ⟨q, by have := HN.out; omega, he⟩, fun _ => by omega⟩
        clear he e2
        generalize (ad L q, pn L q) = x at *
        go_wp2_with (first
          | (refine p_midP rfl _ rfl _ _ rfl x HP.out ?_)
          | (go_at_call 84; (with_reducible refine HC.out.mono ?_); rintro e w1 ⟨rfl, hb⟩))
        go_ret
        exact ⟨_, rfl, HR.out, step HB.out hb⟩
      · have e2 : ((ad L q, pn L q).1 == a) = false := by simpa using he
        rw [e2] at HC
        have HR : Hid (∀ j, j < q + 1 → ad L j ≠ a) := fun j hj => by
          rcases Nat.lt_or_ge j q with h | h
          · exact HJ.out j h
          · obtain rfl : j = q := by omega
            exact he
        clear he e2
        generalize (ad L q, pn L q) = x at *
        go_wp2_with (first
          | (refine p_midP rfl _ rfl _ _ rfl x HP.out ?_)
          | (go_at_call 84; (with_reducible refine HC.out.mono ?_); rintro e w1 ⟨rfl, hb⟩))
        exact ⟨⟨q + 1, by omega, by go_num, step HB.out hb, HR.out⟩, by simp [intOf]; omega⟩
    · obtain rfl : n = q := by omega
      have HR : Hid (decide ((0 : Int) ≤ -1) = hasB L a) := by
        unfold Hid hasB
        rw [decide_eq_decide]
        exact ⟨fun h => by omega, fun ⟨j, hj, h⟩ => absurd h (HJ.out j (by have := HN.out; omega))⟩
      go_wp2
      go_ret
      exact ⟨_, rfl, HR.out, HB.out⟩
theorem contains_any {w : World} {v : Value} {L : List Pe} (a : Int) (g : Nat) (hL : Lies w v L) (hg : Blk w g #[.int .i64 a] 3) (hn : L.length ≤ 1000000) :
    Calls Try.prog 71 #[v, .func (.func 84) #[] #[.pointer (some ⟨g, 0, none⟩)]] w fun e w' => e = .returned (.bool (hasB L a)) ∧ Below w.heap.size w w' := by
  have HI := Lib.hid (index_any a g hL hg hn)
  clear hL hg hn
  generalize hasB L a = r at *
  go_enter Try.func71, Try.ntmps71
  go_wp2_with (go_at_call 88; (with_reducible refine HI.out.mono ?_); rintro e w1 ⟨x, rfl, hx, hb⟩)
  go_ret
  exact ⟨by rw [← hx]; rfl, hb⟩
theorem hasAddr_any {w : World} {v : Value} {L : List Pe} (a : Int) (hL : Lies w v L) (hn : L.length ≤ 1000000) :
    Calls Try.prog 63 #[v, .int .i64 a] w fun e w' => e = .returned (.bool (hasB L a)) ∧ Below w.heap.size w w' := by
  have B0 := (Below.refl w.heap.size w).alloc (Nat.le_refl _) (.cells #[.int .i64 a] 3)
  have HC := Lib.hid (contains_any a w.heap.size (hL.bel B0) (Blk.new w #[.int .i64 a] 3) hn)
  have HB := Lib.hid B0
  clear hL hn B0
  generalize hasB L a = r at *
  go_enter Try.func63, Try.ntmps63
  go_upto_region 1 with (fail)
  generalize w.alloc _ = W at *
  go_wp2_with (go_at_call 71; (with_reducible refine HC.out.mono ?_); rintro e w1 ⟨rfl, hb⟩)
  go_ret
  exact ⟨rfl, step HB.out hb⟩
end Go.Proofs.Ytfajfmcabpmchaa.Cr

namespace Go.Proofs.Ytfajfmcabpmchaa.Cr
set_option maxRecDepth 100000
open Go Go.RowKit Go.Sort

theorem take_ad {L : List Pe} {i j : Nat} (h : j < i) : ad (L.take i) j = ad L j := by
  unfold ad; rw [List.getD_eq_getElem?_getD, List.getD_eq_getElem?_getD, List.getElem?_take, if_pos h]
theorem hasB_take {L : List Pe} {i : Nat} (hi : i ≤ L.length) (a : Int) : hasB (L.take i) a = decide (∃ j, j < i ∧ ad L j = a) := by
  unfold hasB
  rw [decide_eq_decide, List.length_take, Nat.min_eq_left hi]
  exact ⟨fun ⟨j, hj, h⟩ => ⟨j, hj, by rw [← take_ad hj]; exact h⟩, fun ⟨j, hj, h⟩ => ⟨j, hj, by rw [take_ad hj]; exact h⟩⟩
theorem okAt_iff {L : List Pe} (hw : Wf L) {i : Nat} (hi : i < L.length) : okAt L i ↔ addrB (ad L i) = true ∧ hasB (L.take i) (ad L i) = false ∧ (0 < i → lessB (pn L (i - 1)) (pn L i) = true) := by
  rw [hasB_take (Nat.le_of_lt hi), lessB_lt (hw.pn _) (hw.pn _)]
  unfold okAt addrB
  simp only [Bool.and_eq_true, decide_eq_true_eq, decide_eq_false_iff_not, not_exists, not_and, ne_eq]
  exact ⟨fun ⟨a, b, c, d⟩ => ⟨⟨a, b⟩, c, d⟩, fun ⟨⟨a, b⟩, c, d⟩ => ⟨a, b, c, d⟩⟩
theorem lies_take {w : World} {b o c : Nat} {L : List Pe} (hr : w.rangeAt b o (flat L)) (hc : L.length ≤ c) {i : Nat} (hi : i ≤ L.length) : Lies w (.slice (some ⟨b, o, none⟩) i c) (L.take i) := by
  have e : (L.take i).length = i := by rw [List.length_take, Nat.min_eq_left hi]
  refine .inr ⟨b, o, c, by rw [e], by rw [e]; omega, fun j v hj => hr j v ?_⟩
  rw [← flat_take, List.getElem?_take] at hj
  split at hj
  · exact hj
  · cases hj
theorem isAddr_gives (n : Int) : Gives Try.prog 62 #[.int .i64 n] (.bool (addrB n)) := fun w => calls_below (isAddr_any n w)
set_option maxHeartbeats 4000000 in
theorem is_any {w : World} {v : Value} {L : List Pe} (hL : Lies w v L) (hw : Wf L) (hn : L.length ≤ 1000000) : Calls Try.prog 34 #[v] w fun e w' => e = .returned (.bool (isB L)) ∧ Below w.heap.size w w' := by
  obtain ⟨sa, sc, rfl⟩ := hL.form
  have HS := Lib.hid (isSize_any (L.length : Int))
  cases hs : sizeB (L.length : Int)
  · rw [hs] at HS
    have hb : isB L = false := by
      unfold isB
      rw [decide_eq_false_iff_not]
      rintro ⟨⟨h1, h2⟩, _⟩
      unfold sizeB at hs
      simp at hs
      omega
    rw [hb]
    clear hL hw hb hs
    generalize L.length = n at *
    go_enter Try.func34, Try.ntmps34
    go_wp2_with (go_at_call 61; (with_reducible refine (HS.out _).mono ?_); rintro e w1 ⟨rfl, rfl⟩)
    go_ret
    exact ⟨rfl, Below.refl _ _⟩
  · rw [hs] at HS
    have hsz : 1 ≤ L.length ∧ L.length ≤ 16 := by
      unfold sizeB at hs
      simp at hs
      omega
    obtain ⟨n, hnL⟩ : ∃ n, n = L.length := ⟨_, rfl⟩
    rw [← hnL] at hL hn HS hsz ⊢
    have HN := Lib.hid hnL
    have HL := Lib.hid hL
    have HW := Lib.hid hw
    have HZ := Lib.hid hsz
    clear hL hw hnL hs hsz
    go_enter Try.func34, Try.ntmps34
    go_wp2_with (go_at_call 61; (with_reducible refine (HS.out _).mono ?_); rintro e w1 ⟨rfl, rfl⟩)
    go_loopw [11] (fun i wr => ∃ q : Nat, q ≤ n ∧ i = .int .i64 (q : Int) ∧ Below w.heap.size w wr ∧ ∀ j, j < q → okAt L j) (fun i _ => n - (intOf i).toNat)
    case atStart => exact ⟨0, by omega, rfl, Below.refl _ _, fun j hj => by omega⟩
    case round =>
      obtain ⟨q, hq, rfl, hB, hJ⟩ := hrel
      have HB := Lib.hid hB
      have HJ := Lib.hid hJ
      clear hB hJ
      by_cases hlt : q < n
      · have hqL : q < L.length := by have := HN.out; omega
        have hx := at_get (L := L) (i := q) hqL
        obtain ⟨b, o, c, e1, hc, hr, hp, hbs⟩ := (HL.out.bel HB.out).at hx
        simp only [Value.slice.injEq] at e1
        obtain ⟨rfl, enl, rfl⟩ := e1
        have hok := Lib.hid (okAt_iff HW.out hqL)
        have hT := lies_take hr hc (Nat.le_of_lt hqL)
        have B1 := (Below.refl wr.heap.size wr).alloc (Nat.le_refl _) (.cells (peA (ad L q, pn L q)) 28)
        have X1 := Blk.new wr (peA (ad L q, pn L q)) 28
        have hprev : 0 < q → (wr.alloc (.cells (peA (ad L q, pn L q)) 28)).rangeAt b (o + (q - 1) * 21 + 1) (row (dig 20 (pn L (q - 1)))).toList := fun h0 => by
          have h1 := at_get (L := L) (i := q - 1) (by omega)
          exact range_bel (pe_id (row_peer hr h1)) B1 hbs
        have HT := Lib.hid (hT.bel B1)
        have hqn : (L.take q).length ≤ 1000000 := by rw [List.length_take]; omega
        have HP := Lib.hid hp
        have bad : ¬ okAt L q → isB L = false := fun h => by
          unfold isB
          rw [decide_eq_false_iff_not]
          exact fun hC => h (hC.2 q hqL)
        have HBad := Lib.hid bad
        have good : okAt L q → ∀ j, j < q + 1 → okAt L j := fun h j hj => by
          rcases Nat.lt_or_ge j q with h' | h'
          · exact HJ.out j h'
          · obtain rfl : j = q := by omega
            exact h
        have HGood := Lib.hid good
        clear hx hp hr hT bad good
        have hcq : q ≤ sc := by omega
        clear hc enl
        go_upto_region 6 with (first
          | (refine p_midP rfl _ rfl _ _ rfl (ad L q, pn L q) HP.out ?_)
          | (refine p_storeP rfl rfl _ _ rfl (ad L q, pn L q) rfl rfl ?_))
        simp only [Act.put]
        have c0 : ∀ d os, (grow (redrawn (wr.alloc (.cells (peA (ad L q, pn L q)) 28)) d) os).cell? ⟨wr.heap.size, 0, none⟩ = some (.int .i64 (ad L q)) := fun d os => X1.grown 0 d os
        have ri : (wr.alloc (.cells (peA (ad L q, pn L q)) 28)).rangeAt wr.heap.size 1 (row (dig 20 (pn L q))).toList := pe_id (blk_range X1)
        have HA := isAddr_gives (ad L q)
        have HH : Hid (∀ d os, Calls Try.prog 63 #[.slice (some ⟨b, o, none⟩) q sc, .int .i64 (ad L q)] (grow (redrawn (wr.alloc (.cells (peA (ad L q, pn L q)) 28)) d) os) fun e w'' => e = .returned (.bool (hasB (L.take q) (ad L q))) ∧ ∃ p : Regrown, w'' = grow (redrawn (wr.alloc (.cells (peA (ad L q, pn L q)) 28)) p.d) p.os) :=
          fun d os => Calls.regrown_of (hasAddr_any (ad L q) (HT.out.bel (below_regrown _ d os)) hqn)
        have HLs := less_gives (pn L (q - 1)) (pn L q)
        have HB1 := Lib.hid (step HB.out B1)
        clear X1 HP HT B1
        generalize ad L q = xa at *
        generalize pn L q = xi at *
        generalize pn L (q - 1) = yi at *
        generalize hWW : wr.alloc _ = W at *
        generalize wr.heap.size = g at *
        clear hWW
        generalize hasB (L.take q) xa = hh at *
        generalize lessB yi xi = ls at *
        generalize addrB xa = aa at *
        clear hqL hbs
        cases aa
        · have hbad := Lib.hid (HBad.out (fun h => by have := (hok.out.1 h).1; simp at this))
          clear hok HBad HGood hprev
          refine wp_region_quiet_below (by kernel_rfl) (by kernel_rfl) ?_
          repeat (first
            | go_big_quiet_skip
            | (go_big_quiet_want
               first
               | (first | (refine q_to 37 _ _ rfl 28 21 Try.underlying37 sizeP b o _ sc q _ rfl rfl rfl hcq ?_)
                  simp only [Act.put, List.setIfInBounds_toArray, List.set_cons_succ, List.set_cons_zero]
                  go_big_quiet_on)
               | (go_big_quiet_op
                  first | go_big_quiet_on | go_big_quiet_call (first | with_reducible exact HA.grown _ _ | with_reducible exact HH.out _ _ | with_reducible exact HLs.grown _ _))))
          refine wpQuiet_nil ?_
          intro w2 hw'
          have hb2 := quiet_end hw'
          clear hw'
          have HB2 := Lib.hid (step HB1.out hb2)
          clear hb2 c0 ri
          go_wp2
          go_ret
          exact ⟨by rw [hbad.out]; rfl, HB2.out⟩
        cases hh
        rotate_left
        · have hbad := Lib.hid (HBad.out (fun h => by have := (hok.out.1 h).2.1; simp at this))
          clear hok HBad HGood hprev
          refine wp_region_quiet_below (by kernel_rfl) (by kernel_rfl) ?_
          repeat (first
            | go_big_quiet_skip
            | (go_big_quiet_want
               first
               | (first | (refine q_to 37 _ _ rfl 28 21 Try.underlying37 sizeP b o _ sc q _ rfl rfl rfl hcq ?_)
                  simp only [Act.put, List.setIfInBounds_toArray, List.set_cons_succ, List.set_cons_zero]
                  go_big_quiet_on)
               | (go_big_quiet_op
                  first | go_big_quiet_on | go_big_quiet_call (first | with_reducible exact HA.grown _ _ | with_reducible exact HH.out _ _ | with_reducible exact HLs.grown _ _))))
          refine wpQuiet_nil ?_
          intro w2 hw'
          have hb2 := quiet_end hw'
          clear hw'
          have HB2 := Lib.hid (step HB1.out hb2)
          clear hb2 c0 ri
          go_wp2
          go_ret
          exact ⟨by rw [hbad.out]; rfl, HB2.out⟩
        rcases Nat.eq_zero_or_pos q with h0 | h0
        · have hgood := Lib.hid (HGood.out (hok.out.2 ⟨rfl, rfl, fun h => by omega⟩))
          have hg0 : decide ((0 : Int) < (q : Int)) = false := decide_eq_false (by omega)
          have hg1 : decide (0 < q) = false := decide_eq_false (by omega)
          clear hok HBad HGood hprev h0
          refine wp_region_quiet_below (by kernel_rfl) (by kernel_rfl) ?_
          repeat (first
            | go_big_quiet_skip
            | (go_big_quiet_want
               first
               | (first | (refine q_to 37 _ _ rfl 28 21 Try.underlying37 sizeP b o _ sc q _ rfl rfl rfl hcq ?_)
                  simp only [Act.put, List.setIfInBounds_toArray, List.set_cons_succ, List.set_cons_zero]
                  go_big_quiet_on)
               | (go_big_quiet_op
                  first | go_big_quiet_on | go_big_quiet_call (first | with_reducible exact HA.grown _ _ | with_reducible exact HH.out _ _ | with_reducible exact HLs.grown _ _))))
          refine wpQuiet_nil ?_
          intro w2 hw'
          have hb2 := quiet_end hw'
          clear hw'
          have HB2 := Lib.hid (step HB1.out hb2)
          clear hb2 c0 ri
          go_wp2
          exact ⟨⟨q + 1, by omega, by go_num, HB2.out, hgood.out⟩, by simp [intOf]; omega⟩
        have rp := hprev h0
        obtain ⟨s, rfl⟩ : ∃ s, q = s + 1 := ⟨q - 1, by omega⟩
        rw [Nat.add_sub_cancel] at rp
        have hg0 : decide ((0 : Int) < (s : Int) + 1) = true := decide_eq_true (by omega)
        have hw1 : IntKind.i64.wrap ((s : Int) + 1 - 1) = (s : Int) := by rw [show (s : Int) + 1 - 1 = s by omega]; exact IntWalk.i64_in _ (by omega)
        have hin : (s : Int) < (n : Int) := by omega
        cases ls
        · have hbad := Lib.hid (HBad.out (fun h => by have := (hok.out.1 h).2.2 h0; simp at this))
          clear hok HBad HGood hprev h0
          refine wp_region_quiet_below (by kernel_rfl) (by kernel_rfl) ?_
          repeat (first
            | go_big_quiet_skip
            | (go_big_quiet_want
               first
               | (first | (refine q_to 37 _ _ rfl 28 21 Try.underlying37 sizeP b o _ sc q _ rfl rfl rfl hcq ?_) | (refine q_midI _ rfl _ _ rfl xi (by with_reducible exact ri) ?_) | (refine q_midI _ rfl _ _ rfl yi (by with_reducible exact rp) ?_)
                  simp only [Act.put, List.setIfInBounds_toArray, List.set_cons_succ, List.set_cons_zero]
                  go_big_quiet_on)
               | (go_big_quiet_op
                  first | go_big_quiet_on | go_big_quiet_call (first | with_reducible exact HA.grown _ _ | with_reducible exact HH.out _ _ | with_reducible exact HLs.grown _ _))))
          refine wpQuiet_nil ?_
          intro w2 hw'
          have hb2 := quiet_end hw'
          clear hw'
          have HB2 := Lib.hid (step HB1.out hb2)
          clear hb2 c0 ri rp
          go_wp2
          go_ret
          exact ⟨by rw [hbad.out]; rfl, HB2.out⟩
        · have hgood := Lib.hid (HGood.out (hok.out.2 ⟨rfl, rfl, fun _ => rfl⟩))
          clear hok HBad HGood hprev h0
          refine wp_region_quiet_below (by kernel_rfl) (by kernel_rfl) ?_
          repeat (first
            | go_big_quiet_skip
            | (go_big_quiet_want
               first
               | (first | (refine q_to 37 _ _ rfl 28 21 Try.underlying37 sizeP b o _ sc q _ rfl rfl rfl hcq ?_) | (refine q_midI _ rfl _ _ rfl xi (by with_reducible exact ri) ?_) | (refine q_midI _ rfl _ _ rfl yi (by with_reducible exact rp) ?_)
                  simp only [Act.put, List.setIfInBounds_toArray, List.set_cons_succ, List.set_cons_zero]
                  go_big_quiet_on)
               | (go_big_quiet_op
                  first | go_big_quiet_on | go_big_quiet_call (first | with_reducible exact HA.grown _ _ | with_reducible exact HH.out _ _ | with_reducible exact HLs.grown _ _))))
          refine wpQuiet_nil ?_
          intro w2 hw'
          have hb2 := quiet_end hw'
          clear hw'
          have HB2 := Lib.hid (step HB1.out hb2)
          clear hb2 c0 ri rp
          go_wp2
          exact ⟨⟨s + 1 + 1, by omega, by go_num, HB2.out, hgood.out⟩, by simp [intOf]; omega⟩
      · obtain rfl : n = q := by omega
        have HR : Hid (isB L = true) := by
          unfold Hid isB
          rw [decide_eq_true_eq]
          exact ⟨by have := HN.out; have := HZ.out; omega, fun i hi => HJ.out i (by have := HN.out; omega)⟩
        go_wp2
        go_ret
        exact ⟨by rw [HR.out]; rfl, HB.out⟩
end Go.Proofs.Ytfajfmcabpmchaa.Cr

namespace Go.Proofs.Ytfajfmcabpmchaa.Cr
set_option maxRecDepth 100000
open Go Go.RowKit Go.Sort

theorem lies_ad {w : World} {b o : Nat} {L : List Pe} (hr : w.rangeAt b o (flat L)) {i : Nat} (hi : i < L.length) : w.cell? ⟨b, o + i * 21, none⟩ = some (.int .i64 (ad L i)) := pe_ad (row_peer hr (at_get hi))
theorem lies_id {w : World} {b o : Nat} {L : List Pe} (hr : w.rangeAt b o (flat L)) {i : Nat} (hi : i < L.length) : w.rangeAt b (o + i * 21 + 1) (row (dig 20 (pn L i))).toList := pe_id (row_peer hr (at_get hi))
theorem not_circ {L : List Pe} {q : Nat} (hq : q < L.length) (h : ¬ okAt L q) : isB L = false := by
  unfold isB
  rw [decide_eq_false_iff_not]
  exact fun hC => h (hC.2 q hq)
set_option maxHeartbeats 4000000 in
theorem refIs_any {w : World} {v : Value} {L : List Pe} (hL : Lies w v L) (hw : Wf L) (hn : L.length ≤ 1000000) : Calls Try.prog 36 #[v] w fun e w' => e = .returned (.bool (isB L)) ∧ Below w.heap.size w w' := by
  obtain ⟨sa, sc, rfl⟩ := hL.form
  by_cases hs : 1 ≤ L.length ∧ L.length ≤ 16
  rotate_left
  · have hb : isB L = false := by
      unfold isB
      rw [decide_eq_false_iff_not]
      exact fun h => hs h.1
    rw [hb]
    clear hL hw hb
    generalize L.length = n at *
    by_cases h1 : 1 ≤ n
    · have hd : decide ((n : Int) < 1) = false := decide_eq_false (by omega)
      have hd2 : decide ((16 : Int) < n) = true := decide_eq_true (by omega)
      go_enter Try.func36, Try.ntmps36
      go_wp2
      go_ret
      exact ⟨rfl, Below.refl _ _⟩
    · have hd : decide ((n : Int) < 1) = true := decide_eq_true (by omega)
      go_enter Try.func36, Try.ntmps36
      go_wp2
      go_ret
      exact ⟨rfl, Below.refl _ _⟩
  · obtain ⟨n, hnL⟩ : ∃ n, n = L.length := ⟨_, rfl⟩
    have hd : decide ((L.length : Int) < 1) = false := decide_eq_false (by omega)
    have hd2 : decide ((16 : Int) < L.length) = false := decide_eq_false (by omega)
    rw [← hnL] at hL hn hs hd hd2 ⊢
    obtain ⟨b, o, c, e1, hc0, hr0, hbs0⟩ : ∃ b o c, Value.slice sa n sc = .slice (some ⟨b, o, none⟩) n c ∧ n ≤ c ∧ w.rangeAt b o (flat L) ∧ b < w.heap.size := by
      obtain ⟨b, o, c, h1, h2, h3, h4⟩ := hL.some (by omega)
      exact ⟨b, o, c, by rw [h1, hnL], by omega, h3, h4⟩
    simp only [Value.slice.injEq, true_and] at e1
    obtain ⟨rfl, rfl⟩ := e1
    have HN := Lib.hid hnL
    have HR0 := Lib.hid hr0
    have HW := Lib.hid hw
    have HZ := Lib.hid hs
    clear hL hw hnL hs hc0 hr0
    go_enter Try.func36, Try.ntmps36
    go_wp2
    go_loopw [3] (fun i wr => ∃ q : Nat, q ≤ n ∧ i = .int .i64 (q : Int) ∧ Below w.heap.size w wr ∧ ∀ j, j < q → okAt L j) (fun i _ => n - (intOf i).toNat)
    case atStart => exact ⟨0, by omega, rfl, Below.refl _ _, fun j hj => by omega⟩
    case round =>
      obtain ⟨q, hq, rfl, hB, hJ⟩ := hrel
      have HB := Lib.hid hB
      have HJ := Lib.hid hJ
      clear hB hJ
      by_cases hlt : q < n
      · have hqL : q < L.length := by have := HN.out; omega
        have hr : wr.rangeAt b o (flat L) := range_bel HR0.out HB.out hbs0
        have hok := Lib.hid (okAt_iff HW.out hqL)
        have bad : ¬ okAt L q → isB L = false := not_circ hqL
        have HBad := Lib.hid bad
        have good : okAt L q → ∀ j, j < q + 1 → okAt L j := fun h j hj => by
          rcases Nat.lt_or_ge j q with h' | h'
          · exact HJ.out j h'
          · obtain rfl : j = q := by omega
            exact h
        have HGood := Lib.hid good
        have c1 : ∀ d os, (grow (redrawn wr d) os).cell? ⟨b, o + q * 21, none⟩ = some (.int .i64 (ad L q)) := fun d os => lies_ad (range_bel hr (below_regrown wr d os) (Nat.lt_of_lt_of_le hbs0 HB.out.size)) hqL
        have ri := lies_id hr hqL
        have hprev : 0 < q → wr.rangeAt b (o + (q - 1) * 21 + 1) (row (dig 20 (pn L (q - 1)))).toList := fun h0 => lies_id hr (by omega)
        have hfree : hasB (L.take q) (ad L q) = true ∨ hasB (L.take q) (ad L q) = false := by cases hasB (L.take q) (ad L q) <;> simp
        have HT := Lib.hid (hasB_take (Nat.le_of_lt hqL) (ad L q))
        have HLs := refLess_gives (pn L (q - 1)) (pn L q)
        clear bad good hr hfree
        generalize hxa : ad L q = xa at *
        generalize pn L q = xi at *
        generalize pn L (q - 1) = yi at *
        generalize lessB yi xi = ls at *
        have HXA := Lib.hid hxa
        clear hqL hxa
        go_upto_region 6 with (fail)
        by_cases ha : 0 ≤ xa
        rotate_left
        · have da : decide (xa < 0) = true := decide_eq_true (by omega)
          have hbad := Lib.hid (HBad.out (fun h => by have := (hok.out.1 h).1; unfold addrB at this; simp at this; omega))
          clear hok HBad HGood hprev
          refine wp_region_quiet_below (by kernel_rfl) (by kernel_rfl) ?_
          repeat (first
            | go_big_quiet_skip
            | (go_big_quiet_want
               first
               | (first | fail
                  simp only [Act.put, List.setIfInBounds_toArray, List.set_cons_succ, List.set_cons_zero]
                  go_big_quiet_on)
               | (go_big_quiet_op
                  first | go_big_quiet_on | go_big_quiet_call (first | with_reducible exact HLs.grown _ _))))
          refine wpQuiet_nil ?_
          intro w2 hw'
          have hb2 := quiet_end hw'
          clear hw'
          have HB2 := Lib.hid (step HB.out hb2)
          clear hb2 c1 ri
          go_wp2
          go_ret
          exact ⟨by rw [hbad.out]; rfl, HB2.out⟩
        have da : decide (xa < 0) = false := decide_eq_false (by omega)
        by_cases ha2 : xa ≤ 999
        rotate_left
        · have da2 : decide (999 < xa) = true := decide_eq_true (by omega)
          have hbad := Lib.hid (HBad.out (fun h => by have := (hok.out.1 h).1; unfold addrB at this; simp at this; omega))
          clear hok HBad HGood hprev
          refine wp_region_quiet_below (by kernel_rfl) (by kernel_rfl) ?_
          repeat (first
            | go_big_quiet_skip
            | (go_big_quiet_want
               first
               | (first | fail
                  simp only [Act.put, List.setIfInBounds_toArray, List.set_cons_succ, List.set_cons_zero]
                  go_big_quiet_on)
               | (go_big_quiet_op
                  first | go_big_quiet_on | go_big_quiet_call (first | with_reducible exact HLs.grown _ _))))
          refine wpQuiet_nil ?_
          intro w2 hw'
          have hb2 := quiet_end hw'
          clear hw'
          have HB2 := Lib.hid (step HB.out hb2)
          clear hb2 c1 ri
          go_wp2
          go_ret
          exact ⟨by rw [hbad.out]; rfl, HB2.out⟩
        have da2 : decide (999 < xa) = false := decide_eq_false (by omega)
        have haddr : addrB xa = true := by unfold addrB; simp; omega
        have HAD := Lib.hid haddr
        clear ha ha2 haddr
        rcases Nat.eq_zero_or_pos q with h0 | h0
        · have hg0 : decide ((0 : Int) < (q : Int)) = false := decide_eq_false (by omega)
          have hg1 : decide (0 < q) = false := decide_eq_false (by omega)
          have H0 := Lib.hid h0
          clear hprev h0
          refine wp_region_quiet_below (by kernel_rfl) (by kernel_rfl) ?_
          repeat (first
            | go_big_quiet_skip
            | (go_big_quiet_want
               first
               | (first | fail
                  simp only [Act.put, List.setIfInBounds_toArray, List.set_cons_succ, List.set_cons_zero]
                  go_big_quiet_on)
               | (go_big_quiet_op
                  first | go_big_quiet_on | go_big_quiet_call (first | with_reducible exact HLs.grown _ _))))
          refine wpQuiet_nil ?_
          intro w2 hw'
          have hb2 := quiet_end hw'
          clear hw'
          have HB2 := Lib.hid (step HB.out hb2)
          clear hb2 c1 ri hg0 hg1
          go_wp2
          go_loopw [4] (fun k wv => ∃ p : Nat, p ≤ q ∧ k = .int .i64 (p : Int) ∧ Below w.heap.size w wv ∧ ∀ j, j < p → ad L j ≠ xa) (fun k _ => q - (intOf k).toNat)
          case atStart => exact ⟨0, by omega, rfl, HB2.out, fun j hj => by omega⟩
          case round =>
            obtain ⟨p, hp, rfl, hB3, hJ3⟩ := hrel
            have HB3 := Lib.hid hB3
            have HJ3 := Lib.hid hJ3
            clear hB3 hJ3
            by_cases hlt2 : p < q
            · have hlt3 : (p : Int) < (q : Int) := by omega
              have hln : (p : Int) < (n : Int) := by omega
              have hr3 : wr.rangeAt b o (flat L) := range_bel HR0.out HB3.out hbs0
              have d1 : wr.cell? ⟨b, o + p * 21, none⟩ = some (.int .i64 (ad L p)) := lies_ad hr3 (by have := HN.out; omega)
              have d2 : wr.cell? ⟨b, o + (q) * 21, none⟩ = some (.int .i64 xa) := by rw [← HXA.out]; exact lies_ad hr3 (by have := HN.out; omega)
              have HB4 := Lib.hid (step HB3.out (drew_bel wr))
              clear hr3
              by_cases he : ad L p = xa
              · have e2 : (ad L p == xa) = true := by simpa using he
                have hbad := Lib.hid (HBad.out (fun h => by
                  have h2 := (hok.out.1 h).2.1
                  rw [HT.out, decide_eq_false_iff_not] at h2
                  exact h2 ⟨p, hlt2, he⟩))
                clear he hok HBad HGood
                generalize ad L p = ya at *
                go_wp2
                go_region
                go_wp2
                go_ret
                exact ⟨by rw [hbad.out]; rfl, HB4.out⟩
              · have e2 : (ad L p == xa) = false := by simpa using he
                have HR : Hid (∀ j, j < p + 1 → ad L j ≠ xa) := fun j hj => by
                  rcases Nat.lt_or_ge j p with h | h
                  · exact HJ3.out j h
                  · obtain rfl : j = p := by omega
                    exact he
                clear he
                generalize ad L p = ya at *
                go_wp2
                go_region
                go_wp2
                exact ⟨⟨p + 1, by omega, by go_num, HB4.out, HR.out⟩, by simp [intOf]; omega⟩
            · obtain rfl : p = q := by omega
              have hgood := Lib.hid (HGood.out (hok.out.2 ⟨HAD.out, by
                rw [HT.out, decide_eq_false_iff_not]
                rintro ⟨j, hj, h⟩
                exact HJ3.out j hj h, fun h => by have := H0.out; omega⟩))
              clear hok HBad HGood
              go_wp2
              exact ⟨⟨p + 1, by omega, by go_num, HB3.out, hgood.out⟩, by simp [intOf]; omega⟩
        have rp := hprev h0
        obtain ⟨s, rfl⟩ : ∃ s, q = s + 1 := ⟨q - 1, by omega⟩
        rw [Nat.add_sub_cancel] at rp
        have hg0 : decide ((0 : Int) < (s : Int) + 1) = true := decide_eq_true (by omega)
        have hw1 : IntKind.i64.wrap ((s : Int) + 1 - 1) = (s : Int) := by rw [show (s : Int) + 1 - 1 = s by omega]; exact IntWalk.i64_in _ (by omega)
        have hin : (s : Int) < (n : Int) := by omega
        cases ls
        · have hbad := Lib.hid (HBad.out (fun h => by have := (hok.out.1 h).2.2 h0; simp at this))
          clear hok HBad HGood hprev h0
          refine wp_region_quiet_below (by kernel_rfl) (by kernel_rfl) ?_
          repeat (first
            | go_big_quiet_skip
            | (go_big_quiet_want
               first
               | (first | (refine q_midI _ rfl _ _ rfl xi (by with_reducible exact ri) ?_) | (refine q_midI _ rfl _ _ rfl yi (by with_reducible exact rp) ?_)
                  simp only [Act.put, List.setIfInBounds_toArray, List.set_cons_succ, List.set_cons_zero]
                  go_big_quiet_on)
               | (go_big_quiet_op
                  first | go_big_quiet_on | go_big_quiet_call (first | with_reducible exact HLs.grown _ _))))
          refine wpQuiet_nil ?_
          intro w2 hw'
          have hb2 := quiet_end hw'
          clear hw'
          have HB2 := Lib.hid (step HB.out hb2)
          clear hb2 c1 ri rp
          go_wp2
          go_ret
          exact ⟨by rw [hbad.out]; rfl, HB2.out⟩
        · clear hprev h0
          refine wp_region_quiet_below (by kernel_rfl) (by kernel_rfl) ?_
          repeat (first
            | go_big_quiet_skip
            | (go_big_quiet_want
               first
               | (first | (refine q_midI _ rfl _ _ rfl xi (by with_reducible exact ri) ?_) | (refine q_midI _ rfl _ _ rfl yi (by with_reducible exact rp) ?_)
                  simp only [Act.put, List.setIfInBounds_toArray, List.set_cons_succ, List.set_cons_zero]
                  go_big_quiet_on)
               | (go_big_quiet_op
                  first | go_big_quiet_on | go_big_quiet_call (first | with_reducible exact HLs.grown _ _))))
          refine wpQuiet_nil ?_
          intro w2 hw'
          have hb2 := quiet_end hw'
          clear hw'
          have HB2 := Lib.hid (step HB.out hb2)
          clear hb2 c1 ri rp hg0 hw1 hin
          go_wp2
          go_loopw [4] (fun k wv => ∃ p : Nat, p ≤ s + 1 ∧ k = .int .i64 (p : Int) ∧ Below w.heap.size w wv ∧ ∀ j, j < p → ad L j ≠ xa) (fun k _ => s + 1 - (intOf k).toNat)
          case atStart => exact ⟨0, by omega, rfl, HB2.out, fun j hj => by omega⟩
          case round =>
            obtain ⟨p, hp, rfl, hB3, hJ3⟩ := hrel
            have HB3 := Lib.hid hB3
            have HJ3 := Lib.hid hJ3
            clear hB3 hJ3
            by_cases hlt2 : p < s + 1
            · have hlt3 : (p : Int) < (s : Int) + 1 := by omega
              have hln : (p : Int) < (n : Int) := by omega
              have hr3 : wr.rangeAt b o (flat L) := range_bel HR0.out HB3.out hbs0
              have d1 : wr.cell? ⟨b, o + p * 21, none⟩ = some (.int .i64 (ad L p)) := lies_ad hr3 (by have := HN.out; omega)
              have d2 : wr.cell? ⟨b, o + (s + 1) * 21, none⟩ = some (.int .i64 xa) := by rw [← HXA.out]; exact lies_ad hr3 (by have := HN.out; omega)
              have HB4 := Lib.hid (step HB3.out (drew_bel wr))
              clear hr3
              by_cases he : ad L p = xa
              · have e2 : (ad L p == xa) = true := by simpa using he
                have hbad := Lib.hid (HBad.out (fun h => by
                  have h2 := (hok.out.1 h).2.1
                  rw [HT.out, decide_eq_false_iff_not] at h2
                  exact h2 ⟨p, hlt2, he⟩))
                clear he hok HBad HGood
                generalize ad L p = ya at *
                go_wp2
                go_region
                go_wp2
                go_ret
                exact ⟨by rw [hbad.out]; rfl, HB4.out⟩
              · have e2 : (ad L p == xa) = false := by simpa using he
                have HR : Hid (∀ j, j < p + 1 → ad L j ≠ xa) := fun j hj => by
                  rcases Nat.lt_or_ge j p with h | h
                  · exact HJ3.out j h
                  · obtain rfl : j = p := by omega
                    exact he
                clear he
                generalize ad L p = ya at *
                go_wp2
                go_region
                go_wp2
                exact ⟨⟨p + 1, by omega, by go_num, HB4.out, HR.out⟩, by simp [intOf]; omega⟩
            · obtain rfl : p = s + 1 := by omega
              have hgood := Lib.hid (HGood.out (hok.out.2 ⟨HAD.out, by
                rw [HT.out, decide_eq_false_iff_not]
                rintro ⟨j, hj, h⟩
                exact HJ3.out j hj h, fun _ => by first | trivial | rfl⟩))
              clear hok HBad HGood
              go_wp2
              exact ⟨⟨s + 1 + 1, by omega, by go_num, HB3.out, hgood.out⟩, by simp [intOf]; omega⟩
      · obtain rfl : n = q := by omega
        have HR : Hid (isB L = true) := by
          unfold Hid isB
          rw [decide_eq_true_eq]
          exact ⟨by have := HN.out; have := HZ.out; omega, fun i hi => HJ.out i (by have := HN.out; omega)⟩
        go_wp2
        go_ret
        exact ⟨by rw [HR.out]; rfl, HB.out⟩
end Go.Proofs.Ytfajfmcabpmchaa.Cr

namespace Go.Proofs.Ytfajfmcabpmchaa.Cr
set_option maxRecDepth 100000
open Go Go.RowKit Go.Sort

theorem infoN : (Try.prog.info? 3).map (fun i => (i.zero, i.size, i.bytes)) = some (some (.int .i64 0), 1, 8) := by kernel_rfl
def ints (l : List Int) : List Value := l.map (Value.int .i64)
theorem ints_snoc (l : List Int) (x : Int) : ints l ++ [.int .i64 x] = ints (l ++ [x]) := by simp [ints]
/-- a row of numbers of the call's own -/
def Row (B : Nat) (w : World) (v : Value) (l : List Int) : Prop := w.ownsRow B 3 1 v l.length (ints l)
theorem _root_.Go.Proofs.Ytfajfmcabpmchaa.Circ.pos {L : List Pe} (h : Circ L) : 0 < L.length ∧ L.length ≤ 1000000 := by have := h.1; omega
theorem isB_yes {L : List Pe} (h : Circ L) : isB L = true := decide_eq_true h
theorem isB_no {L : List Pe} (h : ¬ Circ L) : isB L = false := decide_eq_false h

/-- whether i is a place of a circle -/
def plB (L : List Pe) (i : Int) : Bool := isB L && (decide (0 ≤ i) && decide (i < (L.length : Int)))
theorem isPlace_any {w : World} {v : Value} {L : List Pe} (i : Int) (hL : Lies w v L) (hw : Wf L) (hn : L.length ≤ 1000000) :
    Calls Try.prog 46 #[v, .int .i64 i] w fun e w' => e = .returned (.bool (plB L i)) ∧ Below w.heap.size w w' := by
  obtain ⟨a, c, rfl⟩ := hL.form
  have HI := Lib.hid (is_any hL hw hn)
  unfold plB
  clear hL hw hn
  generalize L.length = n at *
  generalize isB L = r at *
  cases r
  · go_enter Try.func46, Try.ntmps46
    go_wp2_with (go_at_call 34; (with_reducible refine HI.out.mono ?_); rintro e w1 ⟨rfl, hb⟩)
    go_ret
    exact ⟨rfl, hb⟩
  by_cases h0 : 0 ≤ i
  · by_cases h1 : i < (n : Int)
    · have e : (true && (decide (0 ≤ i) && decide (i < (n : Int)))) = true := by simp [h0, h1]
      rw [e]
      go_enter Try.func46, Try.ntmps46
      go_wp2_with (go_at_call 34; (with_reducible refine HI.out.mono ?_); rintro e w1 ⟨rfl, hb⟩)
      go_ret
      exact ⟨rfl, hb⟩
    · have e : (true && (decide (0 ≤ i) && decide (i < (n : Int)))) = false := by simp [h0, h1]
      have d : decide (i < (n : Int)) = false := decide_eq_false h1
      rw [e]
      go_enter Try.func46, Try.ntmps46
      go_wp2_with (go_at_call 34; (with_reducible refine HI.out.mono ?_); rintro e w1 ⟨rfl, hb⟩)
      go_ret
      exact ⟨rfl, hb⟩
  · have e : (true && (decide (0 ≤ i) && decide (i < (n : Int)))) = false := by simp [h0]
    have d : decide (0 ≤ i) = false := decide_eq_false h0
    rw [e]
    go_enter Try.func46, Try.ntmps46
    go_wp2_with (go_at_call 34; (with_reducible refine HI.out.mono ?_); rintro e w1 ⟨rfl, hb⟩)
    go_ret
    exact ⟨rfl, hb⟩
theorem Owner_no {w : World} {v : Value} {L : List Pe} (id : Nat) (hL : Lies w v L) (hw : Wf L) (hn : L.length ≤ 1000000) (hC : ¬ Circ L) :
    Calls Try.prog 18 #[v, idv id] w fun e w' => e = .returned (.tuple #[.int .i64 0, .int .i64 1]) ∧ Below w.heap.size w w' := by
  obtain ⟨a, c, rfl⟩ := hL.form
  have B0 : Below w.heap.size w (w.alloc (.cells (row (dig 20 id)) 24)) := (Below.refl w.heap.size w).alloc (Nat.le_refl _) _
  have hI := is_any (hL.bel B0) hw hn
  rw [isB_no hC] at hI
  have HI := Lib.hid hI
  have HB := Lib.hid B0
  clear hL hw hn hI B0
  generalize L.length = n at *
  rw [show idv id = .agg (row (dig 20 id)) from rfl]
  go_enter Try.func18, Try.ntmps18
  go_upto_region 1 with (fail)
  generalize w.alloc _ = W at *
  go_wp2_with (go_at_call 34; (with_reducible refine HI.out.mono ?_); rintro e w1 ⟨rfl, hb⟩)
  go_ret2
  exact ⟨rfl, step HB.out hb⟩
theorem Owner_yes {w : World} {v : Value} {L : List Pe} (id : Nat) (hL : Lies w v L) (hw : Wf L) (hid : id < M) (hC : Circ L) :
    Calls Try.prog 18 #[v, idv id] w fun e w' => e = .returned (.tuple #[.int .i64 (ownN L id : Nat), .int .i64 0]) ∧ Below w.heap.size w w' := by
  obtain ⟨a, c, rfl⟩ := hL.form
  obtain ⟨h0, hn⟩ := hC.pos
  have B0 : Below w.heap.size w (w.alloc (.cells (row (dig 20 id)) 24)) := (Below.refl w.heap.size w).alloc (Nat.le_refl _) _
  have I0 := At.new w id
  have hI := is_any (hL.bel B0) hw hn
  rw [isB_yes hC] at hI
  have HI := Lib.hid hI
  have HO : Hid (∀ w1, Below (w.alloc (.cells (row (dig 20 id)) 24)).heap.size (w.alloc (.cells (row (dig 20 id)) 24)) w1 → Calls Try.prog 45 #[.slice a L.length c, idv id] w1 fun e w' => e = .returned (.int .i64 (ownN L id : Nat)) ∧ Below w1.heap.size w1 w') :=
    fun w1 hb => owner_any id ((hL.bel B0).bel hb) hC.rise hw hid h0 hn
  have HB := Lib.hid B0
  clear hL hw h0 hn hC hI B0 hid
  generalize ownN L id = r at *
  generalize L.length = n at *
  rw [show idv id = .agg (row (dig 20 id)) from rfl]
  go_enter Try.func18, Try.ntmps18
  go_upto_region 1 with (fail)
  generalize w.alloc _ = W at *
  go_wp2_with (first
    | (go_at_call 34; (with_reducible refine HI.out.mono ?_); rintro e w1 ⟨rfl, hb⟩; have I1 := I0.below hb)
    | (refine p_load rfl _ rfl _ rfl id I1 ?_)
    | (go_at_call 45; (with_reducible refine (HO.out _ hb).mono ?_); rintro e w2 ⟨rfl, hb2⟩))
  go_ret2
  exact ⟨rfl, step (step HB.out hb) hb2⟩
def copyN (L : List Pe) (id : Nat) (k : Nat) : List Int := (List.range k).map fun i => (((ownN L id + i) % L.length : Nat) : Int)
theorem copyN_len (L : List Pe) (id k : Nat) : (copyN L id k).length = k := by unfold copyN; simp
theorem copyN_succ (L : List Pe) (id k : Nat) : copyN L id (k + 1) = copyN L id k ++ [(((ownN L id + k) % L.length : Nat) : Int)] := by unfold copyN; rw [List.range_succ, List.map_append]; rfl
end Go.Proofs.Ytfajfmcabpmchaa.Cr

namespace Go.Proofs.Ytfajfmcabpmchaa.Cr
set_option maxRecDepth 100000
open Go Go.RowKit Go.Sort

theorem p_min {P : Program} {ops : Array Oper} {rest : List Oper} {o : Oper} {a : Act} {w : World} {Q : Exit → Act → World → Prop} (hgd : o.guard = none) (x y : Operand) (t1 t2 : TypeId)
    (ho : o.op = .call { callee := .builtin .min, args := #[x, y], argTypes := #[t1, t2] }) (X Y : Int) (hx : a.eval x = .int .i64 X) (hy : a.eval y = .int .i64 Y) (k : Nat) (hk : (if Y < X then Y else X) = (k : Int))
    (h : wpList P ops Q rest (a.put o.dst (.int .i64 (k : Int))) w) : wpList P ops Q (o :: rest) a w := by
  refine wpList_plain hgd fun K hK => ?_
  have hr := run_min_int2 (P := P) w #[t1, t2] o.type .i64 .i64 X Y
  rw [hk] at hr
  unfold Oper.wp
  simp [execOp, ho, resolve, invoke, builtin, hx, hy, hr, Result.andThen]
  exact hK _ _ h
end Go.Proofs.Ytfajfmcabpmchaa.Cr

namespace Go.Proofs.Ytfajfmcabpmchaa.Cr
set_option maxRecDepth 100000
open Go Go.RowKit Go.Sort

/-- a place is loaded from the midst of a row, in a region that draws its order -/
theorem st_midI {ops : Array Oper} {w : World} {rest : List Oper} {o : Oper} {a : Act} {Q : Act → Prop} (hgd : o.guard = none) (x : Operand) (ho : o.op = .load 24 x)
    (g i : Nat) (hx : a.eval x = .pointer (some ⟨g, i, none⟩)) (n : Nat) (hg : w.rangeAt g i (row (dig 20 n)).toList) (h : wpStill Try.prog ops w Q rest (a.put o.dst (idv n))) : wpStill Try.prog ops w Q (o :: rest) a := by
  have hw : Region.wanted o (yielded ops a.tmps) = true := by simp [Region.wanted, hgd]
  refine wpStill_step fun K hK => ?_
  rw [if_pos hw]
  unfold Oper.still execOp
  simp only [ho, hx, Instr.loadAt, Instr.sureAddr, Sem.run_bind, run_loadVar_mid _ g i 24 (row (dig 20 n)).toList _ hg Try.underlying24 rfl (by rw [Array.length_toList, row_size, dig_length]; exact sizeId20), Sem.run_pure, Result.andThen_ok, Array.toArray_toList]
  exact ⟨rfl, hK _ h⟩
theorem run_loadAt_I (w : World) (b o n : Nat) (h : w.rangeAt b o (row (dig 20 n)).toList) : (Instr.loadAt 24 (.pointer (some ⟨b, o, none⟩))).run Try.prog w = .ok (idv n) w := by
  simp only [Instr.loadAt, Instr.sureAddr, Sem.run_bind, run_loadVar_mid _ b o 24 (row (dig 20 n)).toList _ h Try.underlying24 rfl (by rw [Array.length_toList, row_size, dig_length]; exact sizeId20), Sem.run_pure, Result.andThen_ok, Array.toArray_toList]
  rfl
theorem y_midI {ops : Array Oper} {S : World → Prop} {op : Oper} {a : Act} (hw : Region.wanted op (yielded ops a.tmps) = true) (x : Operand) (ho : op.op = .load 24 x)
    (b o : Nat) (hx : a.eval x = .pointer (some ⟨b, o, none⟩)) (n : Nat) (hS : ∀ w, S w → w.rangeAt b o (row (dig 20 n)).toList) : YieldsIf Try.prog ops S op (idv n) a := by
  have := yieldsIf_load_mid (P := Try.prog) hw 24 x ho b o hx (row (dig 20 n)).toList _ hS Try.underlying24 rfl (by rw [Array.length_toList, row_size, dig_length]; exact sizeId20)
  rwa [Array.toArray_toList] at this
theorem results_idd {fn : Func} {p q t : Tmp} (h : fn.results = #[.cell p 24, .cell q 24, .tmp t]) (tmps : Array Value) (w : World) (g1 g2 n1 n2 : Nat) (v : Value)
    (hp : tmps.getD p undef = .pointer (some ⟨g1, 0, none⟩)) (hq : tmps.getD q undef = .pointer (some ⟨g2, 0, none⟩)) (hv : tmps.getD t undef = v) (h1 : Blk w g1 (row (dig 20 n1)) 24) (h2 : Blk w g2 (row (dig 20 n2)) 24) :
    (results fn tmps).run Try.prog w = .ok (.tuple #[idv n1, idv n2, v]) w := by
  have hp' : tmps[p]?.getD undef = .pointer (some ⟨g1, 0, none⟩) := by simpa using hp
  have hq' : tmps[q]?.getD undef = .pointer (some ⟨g2, 0, none⟩) := by simpa using hq
  have hv' : tmps[t]?.getD undef = v := by simpa using hv
  have l1 := run_loadVar_row (P := Try.prog) w g1 24 24 _ (0, 0) _ h1 Try.underlying24 rfl (by rw [row_size, dig_length]; exact Try.info23)
  have l2 := run_loadVar_row (P := Try.prog) w g2 24 24 _ (0, 0) _ h2 Try.underlying24 rfl (by rw [row_size, dig_length]; exact Try.info23)
  simp [results, h, hp', hq', hv', asAddr, l1, l2, idv]
theorem row_zero : (#[Value.int IntKind.u8 0, Value.int IntKind.u8 0, Value.int IntKind.u8 0, Value.int IntKind.u8 0,
      Value.int IntKind.u8 0, Value.int IntKind.u8 0, Value.int IntKind.u8 0, Value.int IntKind.u8 0,
      Value.int IntKind.u8 0, Value.int IntKind.u8 0, Value.int IntKind.u8 0, Value.int IntKind.u8 0,
      Value.int IntKind.u8 0, Value.int IntKind.u8 0, Value.int IntKind.u8 0, Value.int IntKind.u8 0,
      Value.int IntKind.u8 0, Value.int IntKind.u8 0, Value.int IntKind.u8 0, Value.int IntKind.u8 0] : Array Value) = row (dig 20 0) := rfl
/-- the two blocks of an answer -/
structure Two (w W : World) (a b : Nat) : Prop where
  bel : Below w.heap.size w W
  one : Blk W w.heap.size (row (dig 20 a)) 24
  two : Blk W (w.heap.size + 1) (row (dig 20 b)) 24
theorem Two.made (w : World) : Two w ((w.alloc (.cells (row (dig 20 0)) 24)).alloc (.cells (row (dig 20 0)) 24)) 0 0 := by
  refine ⟨((Below.refl w.heap.size w).alloc (Nat.le_refl _) _).alloc (by simp) _, (Blk.new w _ _).alloc _, ?_⟩
  have := Blk.new (w.alloc (.cells (row (dig 20 0)) 24)) (row (dig 20 0)) 24
  rwa [World.size_alloc] at this
theorem Two.later {w W W2 : World} {a b : Nat} (h : Two w W a b) (k : Below W.heap.size W W2) : Two w W2 a b := ⟨h.bel.trans (k.mono h.bel.size), h.one.below k h.one.lt, h.two.below k h.two.lt⟩
theorem Two.put1 {w W : World} {a b : Nat} (h : Two w W a b) (n : Nat) : Two w (W.setRow w.heap.size (row (dig 20 n))) n b := ⟨bel_setRow h.bel (Nat.le_refl _) _, h.one.setRow _, h.two.setRow_other _ _ (by omega)⟩
theorem Two.put2 {w W : World} {a b : Nat} (h : Two w W a b) (n : Nat) : Two w (W.setRow (w.heap.size + 1) (row (dig 20 n))) a n := ⟨bel_setRow h.bel (by omega) _, h.one.setRow_other _ _ (by omega), h.two.setRow _⟩
theorem plB_yes {L : List Pe} {i : Int} (h : plB L i = true) : ∃ k : Nat, i = (k : Int) ∧ k < L.length ∧ Circ L := by
  unfold plB isB at h
  simp only [Bool.and_eq_true, decide_eq_true_eq] at h
  exact ⟨i.toNat, by omega, by omega, h.1⟩
set_option maxHeartbeats 2000000 in
theorem Arc_no {w : World} {v : Value} {L : List Pe} (i : Int) (hL : Lies w v L) (hw : Wf L) (hn : L.length ≤ 1000000) (hp : plB L i = false) :
    Calls Try.prog 19 #[v, .int .i64 i] w fun e w' => e = .returned (.tuple #[idv 0, idv 0, .int .i64 1]) ∧ Below w.heap.size w w' := by
  obtain ⟨a, c, rfl⟩ := hL.form
  have T0 := Two.made w
  have hI := isPlace_any i (hL.bel T0.bel) hw hn
  rw [hp] at hI
  have HI := Lib.hid hI
  clear hL hw hn hI hp
  generalize L.length = n at *
  go_enter Try.func19, Try.ntmps19
  go_upto_region 1 with (fail)
  rw [row_zero]
  generalize (w.alloc _).alloc _ = W at *
  go_upto_region 2 with (go_at_call 46; (with_reducible refine HI.out.mono ?_); rintro e w1 ⟨rfl, hb⟩; have T1 := T0.later hb)
  go_wp2_with (first
    | (refine wpList_store_id rfl _ _ rfl w.heap.size (dig 20 0) rfl rfl _ T1.one (dig_length _ _) (dig_length _ _) ?_; have T2 := T1.put1 0)
    | (refine wpList_store_id rfl _ _ rfl (w.heap.size + 1) (dig 20 0) rfl rfl _ T2.two (dig_length _ _) (dig_length _ _) ?_; have T3 := T2.put2 0))
  exact bodyPost_ret (results_idd Try.results19 _ _ _ _ 0 0 _ rfl rfl rfl T3.one T3.two) rfl ⟨rfl, T3.bel⟩
set_option maxHeartbeats 2000000 in
theorem Arc_yes {w : World} {v : Value} {L : List Pe} (i : Nat) (hL : Lies w v L) (hw : Wf L) (hC : Circ L) (hi : i < L.length) :
    Calls Try.prog 19 #[v, .int .i64 (i : Int)] w fun e w' => e = .returned (.tuple #[idv (pn L ((i + L.length - 1) % L.length)), idv (pn L i), .int .i64 0]) ∧ Below w.heap.size w w' := by
  obtain ⟨b, o, c, rfl, hc, hr, hb0⟩ := hL.some hC.pos.1
  have T0 := Two.made w
  have hI := isPlace_any (i : Int) (hL.bel T0.bel) hw hC.pos.2
  have e1 : plB L (i : Int) = true := by
    unfold plB
    rw [isB_yes hC]
    simp; omega
  rw [e1] at hI
  have HI := Lib.hid hI
  have hn0 := hC.pos
  have hj : (i + L.length - 1) % L.length < L.length := Nat.mod_lt _ hn0.1
  have HG : Hid (∀ w1, Calls Try.prog 47 #[.slice (some ⟨b, o, none⟩) L.length c, .int .i64 ((i : Int) + (L.length : Int) - 1)] w1 fun e w' => e = .returned (.int .i64 (((i + L.length - 1) % L.length : Nat) : Int)) ∧ w' = w1) := fun w1 => by
    rw [show (i : Int) + (L.length : Int) - 1 = ((i + L.length - 1 : Nat) : Int) by omega]
    exact (round_any (some ⟨b, o, none⟩) L.length c (i + L.length - 1) hn0.1 (by omega) w1).mono fun _ _ ⟨a, b⟩ => ⟨a, b.symm⟩
  have HR : Hid (∀ w1, Below w.heap.size w w1 → w1.rangeAt b (o + i * 21 + 1) (row (dig 20 (pn L i))).toList ∧ w1.rangeAt b (o + ((i + L.length - 1) % L.length) * 21 + 1) (row (dig 20 (pn L ((i + L.length - 1) % L.length)))).toList) := fun w1 hb =>
    ⟨range_bel (pe_id (row_peer hr (at_get hi))) hb hb0, range_bel (pe_id (row_peer hr (at_get hj))) hb hb0⟩
  clear hL hw hI hC hr e1 hc
  generalize (i + L.length - 1) % L.length = j at *
  generalize pn L i = x at *
  generalize pn L j = y at *
  generalize L.length = n at *
  obtain ⟨hn1, hn2⟩ := hn0
  have hw1 : IntKind.i64.wrap ((i : Int) + (n : Int)) = (i : Int) + (n : Int) := IntWalk.i64_in _ (by omega)
  have hw2 : IntKind.i64.wrap ((i : Int) + (n : Int) - 1) = (i : Int) + (n : Int) - 1 := IntWalk.i64_in _ (by omega)
  go_enter Try.func19, Try.ntmps19
  go_upto_region 1 with (fail)
  rw [row_zero]
  generalize (w.alloc _).alloc _ = W at *
  go_upto_region 3 with (go_at_call 46; (with_reducible refine HI.out.mono ?_); rintro e w1 ⟨rfl, hb⟩; have T1 := (T0.later hb).later (drew_bel _))
  obtain ⟨r1, r2⟩ := HR.out _ T1.bel
  have HT1 := Lib.hid T1
  clear T1 T0 hb
  refine wp_region_held_drew (S := (fun w9 => w9.rangeAt b (o + i * 21 + 1) (row (dig 20 x)).toList ∧ w9.rangeAt b (o + j * 21 + 1) (row (dig 20 y)).toList)) (by kernel_rfl) ?_ (fun hHeld => ?_)
  · exact ⟨r1, r2⟩
  generalize World.drew _ = W1 at *
  refine wpAnyH_take (i := 0) (v := ?_) rfl (by kernel_rfl) (by kernel_rfl) (by kernel_rfl) (fun _ _ _ h => h) (Or.inl ⟨by rfl, ?_⟩) (by assumption) ?_
  rotate_left
  · intro w9 hSw
    (try dsimp only at hSw)
    go_simp
    (try with_reducible rfl)
  (try simp only [Act.put]); (try simp only [List.setIfInBounds_toArray]); (try simp only [List.set_cons_succ]); (try simp only [List.set_cons_zero])
  refine wpAnyH_take (i := 1) (v := ?_) rfl (by kernel_rfl) (by kernel_rfl) (by kernel_rfl) (fun _ _ _ h => h) (Or.inl ⟨by rfl, ?_⟩) (by assumption) ?_
  rotate_left
  · intro w9 hSw
    (try dsimp only at hSw)
    go_simp
    (try with_reducible rfl)
  (try simp only [Act.put]); (try simp only [List.setIfInBounds_toArray]); (try simp only [List.set_cons_succ]); (try simp only [List.set_cons_zero])
  refine wpAnyH_take (i := 2) (v := ?_) rfl (by kernel_rfl) (by kernel_rfl) (by kernel_rfl) (fun _ _ _ h => h) (Or.inl ⟨by rfl, ?_⟩) (by assumption) ?_
  rotate_left
  · intro w9 hSw
    (try dsimp only at hSw)
    go_simp
    (try with_reducible rfl)
  (try simp only [Act.put]); (try simp only [List.setIfInBounds_toArray]); (try simp only [List.set_cons_succ]); (try simp only [List.set_cons_zero])
  refine wpAnyH_take (i := 3) (v := ?_) rfl (by kernel_rfl) (by kernel_rfl) (by kernel_rfl) (fun _ _ _ h => h) (Or.inl ⟨by rfl, ?_⟩) (by assumption) ?_
  rotate_left
  · intro w9 hSw
    (try dsimp only at hSw)
    go_simp
    (try with_reducible rfl)
  (try simp only [Act.put]); (try simp only [List.setIfInBounds_toArray]); (try simp only [List.set_cons_succ]); (try simp only [List.set_cons_zero])
  refine wpAnyH_take (i := 4) (v := ?_) rfl (by kernel_rfl) (by kernel_rfl) (by kernel_rfl) (fun _ _ _ h => h) (Or.inl ⟨by rfl, ?_⟩) (by assumption) ?_
  rotate_left
  · intro w9 hSw
    (try dsimp only at hSw)
    go_simp
    (try with_reducible rfl)
  (try simp only [Act.put]); (try simp only [List.setIfInBounds_toArray]); (try simp only [List.set_cons_succ]); (try simp only [List.set_cons_zero])
  refine wpAnyH_take (i := 5) (v := ?_) rfl (by kernel_rfl) (by kernel_rfl) (by kernel_rfl) (fun _ _ _ h => h) (Or.inl ⟨by rfl, ?_⟩) (by assumption) ?_
  rotate_left
  · intro w9 hSw
    (try dsimp only at hSw)
    go_simp
    (try with_reducible rfl)
  (try simp only [Act.put]); (try simp only [List.setIfInBounds_toArray]); (try simp only [List.set_cons_succ]); (try simp only [List.set_cons_zero])
  refine wpAnyH_take (i := 6) (v := ?_) rfl (by kernel_rfl) (by kernel_rfl) (by kernel_rfl) (fun _ _ _ h => h) (Or.inl ⟨by rfl, ?_⟩) (by assumption) ?_
  rotate_left
  · intro w9 hSw
    (try dsimp only at hSw)
    go_simp
    (try with_reducible rfl)
  (try simp only [Act.put]); (try simp only [List.setIfInBounds_toArray]); (try simp only [List.set_cons_succ]); (try simp only [List.set_cons_zero])
  refine wpAnyH_take (i := 11) (v := ?_) rfl (by kernel_rfl) (by kernel_rfl) (by kernel_rfl) (fun _ _ _ h => h) (Or.inl ⟨by rfl, ?_⟩) (by assumption) ?_
  rotate_left
  · intro w9 hSw
    (try dsimp only at hSw)
    go_simp
    (try with_reducible rfl)
  (try simp only [Act.put]); (try simp only [List.setIfInBounds_toArray]); (try simp only [List.set_cons_succ]); (try simp only [List.set_cons_zero])
  refine wpAnyH_take (i := 12) (v := ?_) rfl (by kernel_rfl) (by kernel_rfl) (by kernel_rfl) (fun _ _ _ h => h) (Or.inl ⟨by rfl, ?_⟩) (by assumption) ?_
  rotate_left
  · intro w9 hSw
    (try dsimp only at hSw)
    go_simp
    (try with_reducible rfl)
  (try simp only [Act.put]); (try simp only [List.setIfInBounds_toArray]); (try simp only [List.set_cons_succ]); (try simp only [List.set_cons_zero])
  refine wpAnyH_take (i := 13) (v := ?_) rfl (by kernel_rfl) (by kernel_rfl) (by kernel_rfl) (fun _ _ _ h => h) (Or.inl ⟨by rfl, ?_⟩) (by assumption) ?_
  rotate_left
  · intro w9 hSw
    (try dsimp only at hSw)
    go_simp
    (try with_reducible rfl)
  (try simp only [Act.put]); (try simp only [List.setIfInBounds_toArray]); (try simp only [List.set_cons_succ]); (try simp only [List.set_cons_zero])
  refine wpAnyH_take (i := 14) (v := ?_) rfl (by kernel_rfl) (by kernel_rfl) (by kernel_rfl) (fun _ _ _ h => h) (Or.inl ⟨by rfl, ?_⟩) (by assumption) ?_
  rotate_left
  · intro w9 hSw
    (try dsimp only at hSw)
    go_simp
    (try with_reducible rfl)
  (try simp only [Act.put]); (try simp only [List.setIfInBounds_toArray]); (try simp only [List.set_cons_succ]); (try simp only [List.set_cons_zero])
  iterate 16
    (try dsimp only [List.getElem_toArray, List.getElem_cons_succ, List.getElem_cons_zero])
    (try simp only [Act.put]); (try simp only [List.setIfInBounds_toArray]); (try simp only [List.set_cons_succ]); (try simp only [List.set_cons_zero])
  refine wpAnyH_take (i := 15) (oi := { dst := some 28, op := .load 24 (.tmp 27), type := 24, pos := "circle.go:124", after := #[{ on := 14, ground := .data }, { on := 16, ground := .gcOnly .lateStores }], guard := none }) (v := idv x) rfl (by kernel_rfl) (by kernel_rfl) (by kernel_rfl) (fun _ _ _ h => h) (y_midI (by rfl) (.tmp 27) rfl b (o + i * 21 + 1) rfl x (fun _ h => h.1)) (by assumption) ?_
  (try simp only [Act.put]); (try simp only [List.setIfInBounds_toArray]); (try simp only [List.set_cons_succ]); (try simp only [List.set_cons_zero])
  refine wpAnyH_ready (rs := [7]) (by kernel_rfl) (by simp) ?_
  refine AllReadyH.cons rfl (fun K hK => ?_) ?_
  rotate_left
  · exact AllReadyH.nil
  go_simp
  go_wp2_with (go_at_call 47; (with_reducible refine (HG.out _).mono ?_); rintro e w4 ⟨rfl, rfl⟩)
  refine hK.out _ _ ?_ (fun hHeld => ?_)
  · exact hHeld
  clear hK K
  (try simp only [Act.put]); (try simp only [List.setIfInBounds_toArray]); (try simp only [List.set_cons_succ]); (try simp only [List.set_cons_zero])
  refine wpAnyH_take (i := 8) (v := ?_) rfl (by kernel_rfl) (by kernel_rfl) (by kernel_rfl) (fun _ _ _ h => h) (Or.inl ⟨by rfl, ?_⟩) (by assumption) ?_
  rotate_left
  · intro w9 hSw
    (try dsimp only at hSw)
    go_simp
    (try with_reducible rfl)
  (try simp only [Act.put]); (try simp only [List.setIfInBounds_toArray]); (try simp only [List.set_cons_succ]); (try simp only [List.set_cons_zero])
  refine wpAnyH_take (i := 9) (v := ?_) rfl (by kernel_rfl) (by kernel_rfl) (by kernel_rfl) (fun _ _ _ h => h) (Or.inl ⟨by rfl, ?_⟩) (by assumption) ?_
  rotate_left
  · intro w9 hSw
    (try dsimp only at hSw)
    go_simp
    (try with_reducible rfl)
  (try simp only [Act.put]); (try simp only [List.setIfInBounds_toArray]); (try simp only [List.set_cons_succ]); (try simp only [List.set_cons_zero])
  iterate 4
    (try dsimp only [List.getElem_toArray, List.getElem_cons_succ, List.getElem_cons_zero])
    (try simp only [Act.put]); (try simp only [List.setIfInBounds_toArray]); (try simp only [List.set_cons_succ]); (try simp only [List.set_cons_zero])
  refine wpAnyH_take (i := 10) (oi := { dst := some 23, op := .load 24 (.tmp 22), type := 24, pos := "circle.go:124", after := #[{ on := 9, ground := .data }], guard := none }) (v := idv y) rfl (by kernel_rfl) (by kernel_rfl) (by kernel_rfl) (fun _ _ _ h => h) (y_midI (by rfl) (.tmp 22) rfl b (o + j * 21 + 1) rfl y (fun _ h => h.2)) (by assumption) ?_
  (try simp only [Act.put]); (try simp only [List.setIfInBounds_toArray]); (try simp only [List.set_cons_succ]); (try simp only [List.set_cons_zero])
  have T1 := HT1.out
  iterate 2
    (try dsimp only [List.getElem_toArray, List.getElem_cons_succ, List.getElem_cons_zero])
    (try simp only [Act.put]); (try simp only [List.setIfInBounds_toArray]); (try simp only [List.set_cons_succ]); (try simp only [List.set_cons_zero])
  refine wpAnyH_ready (rs := [16]) (by kernel_rfl) (by simp) ?_
  refine AllReadyH.cons rfl (fun K hK => ?_) ?_
  rotate_left
  · exact AllReadyH.nil
  rw [if_pos (by rfl)]
  refine wp_store_row 24 _ _ rfl w.heap.size (row (dig 20 y)) rfl rfl 24 (row (dig 20 0)) T1.one (by rw [row_size, dig_length]; exact Try.info23) (by rw [row_size, row_size, dig_length, dig_length]) (row_one _) ?_
  refine hK.out _ _ ?_ (fun hHeld => ?_)
  · exact HR.out _ (T1.put1 y).bel
  clear hK K
  (try simp only [Act.put]); (try simp only [List.setIfInBounds_toArray]); (try simp only [List.set_cons_succ]); (try simp only [List.set_cons_zero])
  have T2 := T1.put1 y
  refine wpAnyH_ready (rs := [17]) (by kernel_rfl) (by simp) ?_
  refine AllReadyH.cons rfl (fun K hK => ?_) ?_
  rotate_left
  · exact AllReadyH.nil
  rw [if_pos (by rfl)]
  refine wp_store_row 24 _ _ rfl (w.heap.size + 1) (row (dig 20 x)) rfl rfl 24 (row (dig 20 0)) T2.two (by rw [row_size, dig_length]; exact Try.info23) (by rw [row_size, row_size, dig_length, dig_length]) (row_one _) ?_
  refine hK.out _ _ ?_ (fun hHeld => ?_)
  · exact HR.out _ (T2.put2 x).bel
  clear hK K
  (try simp only [Act.put]); (try simp only [List.setIfInBounds_toArray]); (try simp only [List.set_cons_succ]); (try simp only [List.set_cons_zero])
  have T3 := T2.put2 x
  refine wpAnyH_take (i := 18) (v := ?_) rfl (by kernel_rfl) (by kernel_rfl) (by kernel_rfl) (fun _ _ _ h => h) (Or.inl ⟨by rfl, ?_⟩) (by assumption) ?_
  rotate_left
  · intro w9 hSw
    (try dsimp only at hSw)
    go_simp
    (try with_reducible rfl)
  (try simp only [Act.put]); (try simp only [List.setIfInBounds_toArray]); (try simp only [List.set_cons_succ]); (try simp only [List.set_cons_zero])
  iterate 2
    (try dsimp only [List.getElem_toArray, List.getElem_cons_succ, List.getElem_cons_zero])
    (try simp only [Act.put]); (try simp only [List.setIfInBounds_toArray]); (try simp only [List.set_cons_succ]); (try simp only [List.set_cons_zero])
  refine wpAnyH_done (by kernel_rfl) ?_ _
  clear hHeld hw1 hw2 T1 T2 HG HR HI r1 r2 HT1
  go_wp2
  exact bodyPost_ret (results_idd Try.results19 _ _ _ _ y x _ rfl rfl rfl T3.one T3.two) rfl ⟨rfl, T3.bel⟩
theorem p_buildP {ops : Array Oper} {rest : List Oper} {o : Oper} {a : Act} {w : World} {Q : Exit → Act → World → Prop} (hgd : o.guard = none) (x y : Operand) (ho : o.op = .build 28 #[(0, x), (1, y)])
    (m : Int) (n : Nat) (hx : a.eval x = .int .i64 m) (hy : a.eval y = idv n) (h : wpList Try.prog ops Q rest (a.put o.dst (.agg (peA (m, n)))) w) : wpList Try.prog ops Q (o :: rest) a w := by
  refine wpList_plain hgd fun K hK => ?_
  have e := run_build (P := Try.prog) w 28 #[(0, .int .i64 m), (1, .agg (row (dig 20 n)))] _ (builtP m n)
  unfold Oper.wp execOp
  simp only [ho, List.map_toArray, List.map_cons, List.map_nil, hx, hy, Sem.run_bind, idv, e, Sem.run_pure, Result.andThen_ok]
  exact hK _ _ h
theorem p_buildNone {ops : Array Oper} {rest : List Oper} {o : Oper} {a : Act} {w : World} {Q : Exit → Act → World → Prop} (hgd : o.guard = none) (ho : o.op = .build 28 #[(0, .const (.int .i64 (-1)))])
    (h : wpList Try.prog ops Q rest (a.put o.dst (.agg (peA (-1, 0)))) w) : wpList Try.prog ops Q (o :: rest) a w := by
  refine wpList_plain hgd fun K hK => ?_
  have e := run_build (P := Try.prog) w 28 #[(0, .int .i64 (-1))] _ builtNone
  unfold Oper.wp execOp
  simp only [ho, List.map_toArray, List.map_cons, List.map_nil, Act.eval, Sem.run_bind, e, Sem.run_pure, Result.andThen_ok]
  exact hK _ _ h
theorem none_any (w : World) : Calls Try.prog 44 #[] w fun e w' => e = .returned (.agg (peA (-1, 0))) ∧ Below w.heap.size w w' := by
  have B0 := (Below.refl w.heap.size w).alloc (Nat.le_refl _) (.cells (peA (-1, 0)) 28)
  have X0 := Blk.new w (peA (-1, 0)) 28
  go_enter Try.func44, Try.ntmps44
  go_wp2_with (first | (refine p_buildNone rfl rfl ?_) | (refine p_storeP rfl rfl _ _ rfl (-1, 0) rfl rfl ?_))
  exact bodyPost_ret (results_cell_row Try.results44 _ _ w.heap.size 28 (peA (-1, 0)) (0, 0) _ rfl X0 Try.underlying28 rfl (by rw [peA_size]; exact sizeP)) rfl ⟨rfl, B0⟩
end Go.Proofs.Ytfajfmcabpmchaa.Cr

namespace Go.Proofs.Ytfajfmcabpmchaa.Cr
set_option maxRecDepth 100000
open Go Go.RowKit Go.Sort

def fingN (L : List Pe) (i k : Nat) : List Int := (List.range k).map fun m => ((ownN L ((pn L i + 2 ^ m) % M) : Nat) : Int)
theorem fingN_len (L : List Pe) (i k : Nat) : (fingN L i k).length = k := by unfold fingN; simp
theorem fingN_succ (L : List Pe) (i k : Nat) : fingN L i (k + 1) = fingN L i k ++ [((ownN L ((pn L i + 2 ^ k) % M) : Nat) : Int)] := by unfold fingN; rw [List.range_succ, List.map_append]; rfl
theorem own_form {w : World} {B e size n : Nat} {v : Value} {xs : List Value} (h : w.ownsRow B e size v n xs) : ∃ a c, v = .slice a n c := by
  rcases h.2 with ⟨h1, rfl⟩ | ⟨g, cap, cur, hv, _⟩
  · exact ⟨_, _, h1⟩
  · exact ⟨_, _, hv⟩
/-- one more number behind a row of the call's own -/
theorem app_int {W : World} {B n : Nat} {v : Value} {l : List Int} (h : W.ownsRow B 3 1 v n (ints l)) (x : Int) (hB : B ≤ W.heap.size) (hn : n ≤ 1000000) : ∃ v' w',
    (Builtin.append_ #[26, 26] 26 #[v, .slice (some ⟨W.heap.size, 0, none⟩) 1 1]).run Try.prog (W.alloc (.cells #[.int .i64 x] 3)) = .ok v' w' ∧
    w'.ownsRow B 3 1 v' (n + 1) (ints (l ++ [x])) ∧ (W.alloc (.cells #[.int .i64 x] 3)).grownBy w' v.ownBlock := by
  obtain ⟨i0, hi, hq⟩ := Option.map_eq_some_iff.1 infoN
  simp only [Prod.mk.injEq] at hq
  obtain ⟨q1, q2, q3⟩ := hq
  have hb := Blk.new W #[.int .i64 x] 3
  obtain ⟨v', w', hr, h2, h3, _, h5⟩ := run_append_own_at (P := Try.prog) (W.alloc (.cells #[.int .i64 x] 3)) B 26 26 3 i0 _ 1 8 Try.underlying26 hi q1 q2 q3 rfl (by omega) v n (ints l) (h.alloc _) ⟨W.heap.size, 0, none⟩ 1 1 (ints [x]) rfl
    (fun j u hj => by
      rw [Addr.add_mid, Nat.zero_add, hb.cell]
      simpa [ints] using hj) (fun u hu => by simp [ints] at hu; subst hu; rfl) (by unfold maxLen; omega) (by omega) (by simp; omega)
  refine ⟨v', w', hr, ?_, h3⟩
  rw [← ints_snoc]
  exact h2
theorem o_app {o : Oper} {a : Act} {w w' : World} {K : Act → World → Prop} {Q : Exit → Act → World → Prop} (s x : Operand)
    (ho : o.op = .call { callee := .builtin .append, args := #[s, x], argTypes := #[26, 26] }) (ht : o.type = 26) (v v' u : Value) (hs : a.eval s = v) (hx : a.eval x = u)
    (hr : (Builtin.append_ #[26, 26] 26 #[v, u]).run Try.prog w = .ok v' w') (h : K (a.put o.dst v') w') : o.wp Try.prog a w K Q := by
  unfold Oper.wp execOp
  simp only [ho, ht, resolve, invoke, builtin, Sem.run_bind, Sem.run_pure, Result.andThen_ok, List.map_toArray, List.map_cons, List.map_nil, hs, hx, hr]
  exact h
theorem range_kept {w w' : World} {g o : Nat} {cs : List Value} {own : Option Nat} (h : w.rangeAt g o cs) (k : w.grownBy w' own) (hg : g < w.heap.size) (hne : own ≠ some g) : w'.rangeAt g o cs := fun j v hv => by
  have hc := h j v hv
  exact (World.cell?_of_block (a := ⟨g, o + j, none⟩) (k.block g hg (fun e => hne e.symm))).trans hc
theorem Fingers_no {w : World} {v : Value} {L : List Pe} (i : Int) (hL : Lies w v L) (hw : Wf L) (hn : L.length ≤ 1000000) (hp : plB L i = false) :
    Calls Try.prog 66 #[v, .int .i64 i] w fun e w' => e = .returned (.tuple #[.slice none 0 0, .int .i64 1]) ∧ Below w.heap.size w w' := by
  obtain ⟨a, c, rfl⟩ := hL.form
  have hI := isPlace_any i hL hw hn
  rw [hp] at hI
  have HI := Lib.hid hI
  clear hL hw hn hI hp
  generalize L.length = n at *
  go_enter Try.func66, Try.ntmps66
  go_wp2_with (go_at_call 46; (with_reducible refine HI.out.mono ?_); rintro e w1 ⟨rfl, hb⟩)
  go_ret2
  exact ⟨rfl, hb⟩
/-- what a round leaves -/
structure Fing (w0 W : World) (v : Value) (q : Nat) (l : List Int) : Prop where
  own : W.ownsRow w0.heap.size 3 1 v q (ints l)
  bel : Below w0.heap.size w0 W
set_option maxHeartbeats 4000000 in
theorem Fingers_yes {w : World} {v : Value} {L : List Pe} (i : Nat) (hL : Lies w v L) (hw : Wf L) (hC : Circ L) (hi : i < L.length) :
    Calls Try.prog 66 #[v, .int .i64 (i : Int)] w fun e w' => ∃ u, e = .returned (.tuple #[u, .int .i64 0]) ∧ Row w.heap.size w' u (fingN L i 160) ∧ Below w.heap.size w w' := by
  obtain ⟨b, o, c, e0, hc, hr, hb0⟩ := hL.some hC.pos.1
  subst e0
  have hI := isPlace_any (i : Int) hL hw hC.pos.2
  have e1 : plB L (i : Int) = true := by
    unfold plB
    rw [isB_yes hC]
    simp; omega
  rw [e1] at hI
  have HI := Lib.hid hI
  have hn0 := hC.pos
  have HR : Hid (∀ w1, Below w.heap.size w w1 → w1.rangeAt b (o + i * 21 + 1) (row (dig 20 (pn L i))).toList) := fun w1 hb => range_bel (pe_id (row_peer hr (at_get hi))) hb hb0
  have HO : Hid (∀ q w1, Below w.heap.size w w1 → Calls Try.prog 45 #[.slice (some ⟨b, o, none⟩) L.length c, idv (pn L i + 2 ^ q)] w1 fun e w' => e = .returned (.int .i64 ((ownN L ((pn L i + 2 ^ q) % M) : Nat) : Int)) ∧ Below w1.heap.size w1 w') := fun q w1 hb => by
    rw [← idv_mod]
    exact owner_any _ (hL.bel hb) hC.rise hw (Nat.mod_lt _ M_pos) hn0.1 hn0.2
  have HS : Hid (∀ k, fingN L i k ++ [((ownN L ((pn L i + 2 ^ k) % M) : Nat) : Int)] = fingN L i (k + 1)) := fun k => (fingN_succ L i k).symm
  have HCL : Hid (∀ k, (fingN L i k).length = k) := fingN_len L i
  have HC0 : Hid (fingN L i 0 = []) := rfl
  clear hL hw hI hC hr e1 hc
  generalize hov : (fun q => ownN L ((pn L i + 2 ^ q) % M)) = ov at *
  have HOV : Hid (∀ q, ownN L ((pn L i + 2 ^ q) % M) = ov q) := fun q => by rw [← hov]
  clear hov
  have HO : Hid (∀ q w1, Below w.heap.size w w1 → Calls Try.prog 45 #[.slice (some ⟨b, o, none⟩) L.length c, idv (pn L i + 2 ^ q)] w1 fun e w' => e = .returned (.int .i64 ((ov q : Nat) : Int)) ∧ Below w1.heap.size w1 w') := fun q w1 hb => by
    rw [← HOV.out q]; exact HO.out q w1 hb
  have HS2 : Hid (∀ k, fingN L i k ++ [((ov k : Nat) : Int)] = fingN L i (k + 1)) := fun k => by rw [← HOV.out k]; exact HS.out k
  clear HOV
  generalize fingN L i = fp at *
  generalize pn L i = x at *
  generalize L.length = n at *
  go_enter Try.func66, Try.ntmps66
  go_wp2_with (go_at_call 46; (with_reducible refine HI.out.mono ?_); rintro e w1 ⟨rfl, hb⟩)
  have HB1 := Lib.hid hb
  clear hb HI
  go_loopw [6, 14] (fun v k wr => ∃ q : Nat, q ≤ 160 ∧ k = .int .i64 (q : Int) ∧ Fing w wr v q (fp q)) (fun _ k _ => 160 - (intOf k).toNat)
  case atStart => exact ⟨0, by omega, rfl, by rw [HC0.out]; exact ⟨World.ownsRow_nil _ _ _ _, HB1.out⟩⟩
  case round =>
    obtain ⟨q, hq, rfl, hF⟩ := hrel
    have HF := Lib.hid hF
    clear hF
    by_cases hlt : q < 160
    · obtain ⟨fa, fc, hv⟩ := own_form HF.out.own
      subst hv
      have HP := Lib.hid (fun w1 => power_yes q w1 hlt)
      go_upto_region 8 with (first
        | (go_at_call 87; (with_reducible refine (HP.out _).mono ?_); rintro e w2 ⟨rfl, hb2⟩)
        | (refine wpList_store_new rfl rfl _ _ rfl (2 ^ q) rfl rfl ?_))
      (try simp only [Act.put])
      have B2 : Below wr.heap.size wr (w2.alloc (.cells (row (dig 20 (2 ^ q))) 24)) := hb2.alloc hb2.size _
      have I2 := At.new w2 (2 ^ q)
      have g2 : wr.heap.size ≤ w2.heap.size := hb2.size
      generalize hW : w2.alloc _ = W at *
      have hgl : w2.heap.size < W.heap.size := by rw [← hW, World.size_alloc]; omega
      clear hW hb2 HP
      generalize w2.heap.size = g at *
      have BW := HF.out.bel.trans (B2.mono HF.out.bel.size)
      have OW := own_bel HF.out.own B2
      have r1 := HR.out W BW
      have r2 : W.rangeAt g 0 (row (dig 20 (2 ^ q))).toList := blk_range I2
      have hne : (Value.slice fa q fc).ownBlock ≠ some g := fun e => by have := (HF.out.own.lt g e).2; omega
      have HN := Lib.hid hne
      clear B2 I2 g2 hne HF
      have hdrew : Below W.heap.size W W.drew := drew_bel W
      have HPl := Lib.hid (fun w1 => plus_any x (2 ^ q) w1)
      refine wp_region_held_drew (S := (fun w9 => w9.rangeAt b (o + i * 21 + 1) (row (dig 20 x)).toList ∧ w9.rangeAt g 0 (row (dig 20 (2 ^ q))).toList)) (by kernel_rfl) ?_ (fun hHeld => ?_)
      · exact ⟨r1, r2⟩
      have hX : Below W.heap.size W W.drew := drew_bel W
      generalize W.drew = W1 at *
      refine wpAnyH_take (i := 0) (v := ?_) rfl (by kernel_rfl) (by kernel_rfl) (by kernel_rfl) (fun _ _ _ h => h) (Or.inl ⟨by rfl, ?_⟩) (by assumption) ?_
      rotate_left
      · intro w9 hSw
        (try dsimp only at hSw)
        go_simp
        (try with_reducible rfl)
      (try simp only [Act.put]); (try simp only [List.setIfInBounds_toArray]); (try simp only [List.set_cons_succ]); (try simp only [List.set_cons_zero])
      refine wpAnyH_take (i := 1) (v := ?_) rfl (by kernel_rfl) (by kernel_rfl) (by kernel_rfl) (fun _ _ _ h => h) (Or.inl ⟨by rfl, ?_⟩) (by assumption) ?_
      rotate_left
      · intro w9 hSw
        (try dsimp only at hSw)
        go_simp
        (try with_reducible rfl)
      (try simp only [Act.put]); (try simp only [List.setIfInBounds_toArray]); (try simp only [List.set_cons_succ]); (try simp only [List.set_cons_zero])
      refine wpAnyH_take (i := 2) (v := ?_) rfl (by kernel_rfl) (by kernel_rfl) (by kernel_rfl) (fun _ _ _ h => h) (Or.inl ⟨by rfl, ?_⟩) (by assumption) ?_
      rotate_left
      · intro w9 hSw
        (try dsimp only at hSw)
        go_simp
        (try with_reducible rfl)
      (try simp only [Act.put]); (try simp only [List.setIfInBounds_toArray]); (try simp only [List.set_cons_succ]); (try simp only [List.set_cons_zero])
      refine wpAnyH_take (i := 3) (v := ?_) rfl (by kernel_rfl) (by kernel_rfl) (by kernel_rfl) (fun _ _ _ h => h) (Or.inl ⟨by rfl, ?_⟩) (by assumption) ?_
      rotate_left
      · intro w9 hSw
        (try dsimp only at hSw)
        go_simp
        (try with_reducible rfl)
      (try simp only [Act.put]); (try simp only [List.setIfInBounds_toArray]); (try simp only [List.set_cons_succ]); (try simp only [List.set_cons_zero])
      refine wpAnyH_take (i := 4) (v := ?_) rfl (by kernel_rfl) (by kernel_rfl) (by kernel_rfl) (fun _ _ _ h => h) (Or.inl ⟨by rfl, ?_⟩) (by assumption) ?_
      rotate_left
      · intro w9 hSw
        (try dsimp only at hSw)
        go_simp
        (try with_reducible rfl)
      (try simp only [Act.put]); (try simp only [List.setIfInBounds_toArray]); (try simp only [List.set_cons_succ]); (try simp only [List.set_cons_zero])
      refine wpAnyH_take (i := 5) (v := ?_) rfl (by kernel_rfl) (by kernel_rfl) (by kernel_rfl) (fun _ _ _ h => h) (Or.inl ⟨by rfl, ?_⟩) (by assumption) ?_
      rotate_left
      · intro w9 hSw
        (try dsimp only at hSw)
        go_simp
        (try with_reducible rfl)
      (try simp only [Act.put]); (try simp only [List.setIfInBounds_toArray]); (try simp only [List.set_cons_succ]); (try simp only [List.set_cons_zero])
      iterate 6
        (try dsimp only [List.getElem_toArray, List.getElem_cons_succ, List.getElem_cons_zero])
        (try simp only [Act.put]); (try simp only [List.setIfInBounds_toArray]); (try simp only [List.set_cons_succ]); (try simp only [List.set_cons_zero])
      refine wpAnyH_take (i := 6) (oi := { dst := some 28, op := .load 24 (.tmp 27), type := 24, pos := "circle.go:114", after := #[{ on := 5, ground := .data }], guard := none }) (v := idv x) rfl (by kernel_rfl) (by kernel_rfl) (by kernel_rfl) (fun _ _ _ h => h) (y_midI (by rfl) (.tmp 27) rfl b (o + i * 21 + 1) rfl x (fun _ h => h.1)) (by assumption) ?_
      (try simp only [Act.put]); (try simp only [List.setIfInBounds_toArray]); (try simp only [List.set_cons_succ]); (try simp only [List.set_cons_zero])
      refine wpAnyH_take (i := 7) (oi := { dst := some 29, op := .load 24 (.tmp 8), type := 24, pos := "circle.go:114", after := #[], guard := none }) (v := idv (2 ^ q)) rfl (by kernel_rfl) (by kernel_rfl) (by kernel_rfl) (fun _ _ _ h => h) (y_midI (by rfl) (.tmp 8) rfl g 0 rfl (2 ^ q) (fun _ h => h.2)) (by assumption) ?_
      (try simp only [Act.put]); (try simp only [List.setIfInBounds_toArray]); (try simp only [List.set_cons_succ]); (try simp only [List.set_cons_zero])
      refine wpAnyH_ready (rs := [8]) (by kernel_rfl) (by simp) ?_
      refine AllReadyH.cons rfl (fun K hK => ?_) ?_
      rotate_left
      · exact AllReadyH.nil
      go_simp
      go_wp2_with (go_at_call 22; (with_reducible refine (HPl.out _).mono ?_); rintro e w3 ⟨rfl, hb3⟩; have hX3 := step hX hb3)
      refine hK.out _ _ ?_ (fun hHeld => ?_)
      · exact ⟨HR.out _ (BW.trans (hX3.mono BW.size)), range_bel r2 hX3 hgl⟩
      clear hK K
      (try simp only [Act.put]); (try simp only [List.setIfInBounds_toArray]); (try simp only [List.set_cons_succ]); (try simp only [List.set_cons_zero])
      refine wpAnyH_ready (rs := [9]) (by kernel_rfl) (by simp) ?_
      refine AllReadyH.cons rfl (fun K hK => ?_) ?_
      rotate_left
      · exact AllReadyH.nil
      go_simp
      go_wp2_with (go_at_call 45; (with_reducible refine (HO.out q _ (BW.trans (hX3.mono BW.size))).mono ?_); rintro e w4 ⟨rfl, hb4⟩; have hX4 := step hX3 hb4)
      refine hK.out _ _ ?_ (fun hHeld => ?_)
      · exact ⟨HR.out _ (BW.trans (hX4.mono BW.size)), range_bel r2 hX4 hgl⟩
      clear hK K
      (try simp only [Act.put]); (try simp only [List.setIfInBounds_toArray]); (try simp only [List.set_cons_succ]); (try simp only [List.set_cons_zero])
      have OW4 := own_bel OW hX4
      have BW4 := BW.trans (hX4.mono BW.size)
      obtain ⟨v', w6, hrun, hO6, hG6⟩ := app_int OW4 ((ov q : Nat) : Int) BW4.size (by omega)
      have BW5 := BW4.alloc BW4.size (.cells #[.int .i64 ((ov q : Nat) : Int)] 3)
      have B6 : Below w.heap.size w w6 := BW5.grown hG6 (by simp; have := BW4.size; omega) (fun k hk => (OW4.lt k hk).1)
      refine wpAnyH_ready (rs := [10]) (by kernel_rfl) (by simp) ?_
      refine AllReadyH.cons rfl (fun K hK => ?_) ?_
      rotate_left
      · exact AllReadyH.nil
      go_simp
      skip
      refine hK.out _ _ ?_ (fun hHeld => ?_)
      · exact ⟨HR.out _ BW5, range_bel r2 (hX4.alloc hX4.size _) hgl⟩
      clear hK K
      (try simp only [Act.put]); (try simp only [List.setIfInBounds_toArray]); (try simp only [List.set_cons_succ]); (try simp only [List.set_cons_zero])
      refine wpAnyH_ready (rs := [11]) (by kernel_rfl) (by simp) ?_
      refine AllReadyH.cons rfl (fun K hK => ?_) ?_
      rotate_left
      · exact AllReadyH.nil
      rw [if_pos (by rfl)]
      refine o_app _ _ rfl rfl _ v' _ rfl rfl hrun ?_
      refine hK.out _ _ ?_ (fun hHeld => ?_)
      · exact ⟨HR.out _ B6, range_kept (range_bel r2 (hX4.alloc hX4.size (.cells #[.int .i64 ((ov q : Nat) : Int)] 3)) hgl) hG6 (by rw [World.size_alloc]; have := hX4.size; omega) HN.out⟩
      clear hK K
      (try simp only [Act.put]); (try simp only [List.setIfInBounds_toArray]); (try simp only [List.set_cons_succ]); (try simp only [List.set_cons_zero])
      refine wpAnyH_take (i := 12) (v := ?_) rfl (by kernel_rfl) (by kernel_rfl) (by kernel_rfl) (fun _ _ _ h => h) (Or.inl ⟨by rfl, ?_⟩) (by assumption) ?_
      rotate_left
      · intro w9 hSw
        (try dsimp only at hSw)
        go_simp
        (try with_reducible rfl)
      (try simp only [Act.put]); (try simp only [List.setIfInBounds_toArray]); (try simp only [List.set_cons_succ]); (try simp only [List.set_cons_zero])
      iterate 4
        (try dsimp only [List.getElem_toArray, List.getElem_cons_succ, List.getElem_cons_zero])
        (try simp only [Act.put]); (try simp only [List.setIfInBounds_toArray]); (try simp only [List.set_cons_succ]); (try simp only [List.set_cons_zero])
      refine wpAnyH_done (by kernel_rfl) ?_ _
      have FIN : Fing w w6 v' (q + 1) (fp (q + 1)) := ⟨by rw [← HS2.out]; exact hO6, B6⟩
      have HFIN := Lib.hid FIN
      clear hHeld hX hX3 hX4 OW OW4 BW BW4 BW5 B6 hG6 hO6 hrun r1 r2 HPl hb3 hb4 FIN hgl HN hdrew
      go_wp2
      exact ⟨⟨q + 1, by omega, by go_num, HFIN.out⟩, by simp [intOf]; omega⟩
    · obtain rfl : q = 160 := by omega
      go_wp2
      go_ret2
      refine ⟨_, rfl, ?_, HF.out.bel⟩
      unfold Row
      rw [HCL.out]
      exact HF.out.own
end Go.Proofs.Ytfajfmcabpmchaa.Cr

namespace Go.Proofs.Ytfajfmcabpmchaa.Cr
set_option maxRecDepth 100000
open Go Go.RowKit Go.Sort

theorem refOwner_no {w : World} {v : Value} {L : List Pe} (id : Nat) (hL : Lies w v L) (hw : Wf L) (hn : L.length ≤ 1000000) (hC : ¬ Circ L) :
    Calls Try.prog 68 #[v, idv id] w fun e w' => e = .returned (.tuple #[.int .i64 0, .int .i64 1]) ∧ Below w.heap.size w w' := by
  obtain ⟨a, c, rfl⟩ := hL.form
  have B0 : Below w.heap.size w (w.alloc (.cells (row (dig 20 id)) 24)) := (Below.refl w.heap.size w).alloc (Nat.le_refl _) _
  have hI := refIs_any (hL.bel B0) hw hn
  rw [isB_no hC] at hI
  have HI := Lib.hid hI
  have HB := Lib.hid B0
  clear hL hw hn hI B0
  generalize L.length = n at *
  rw [show idv id = .agg (row (dig 20 id)) from rfl]
  go_enter Try.func68, Try.ntmps68
  go_upto_region 1 with (fail)
  generalize w.alloc _ = W at *
  go_wp2_with (go_at_call 36; (with_reducible refine HI.out.mono ?_); rintro e w1 ⟨rfl, hb⟩)
  go_ret2
  exact ⟨rfl, step HB.out hb⟩
set_option maxHeartbeats 2000000 in
theorem refOwner_yes {w : World} {v : Value} {L : List Pe} (id : Nat) (hL : Lies w v L) (hw : Wf L) (hid : id < M) (hC : Circ L) :
    Calls Try.prog 68 #[v, idv id] w fun e w' => e = .returned (.tuple #[.int .i64 (ownN L id : Nat), .int .i64 0]) ∧ Below w.heap.size w w' := by
  have hL0 := hL
  obtain ⟨b, o, c, e0, hc, hr, hb0⟩ := hL.some hC.pos.1
  subst e0
  have hn0 := hC.pos
  have B0 : Below w.heap.size w (w.alloc (.cells (row (dig 20 id)) 24)) := (Below.refl w.heap.size w).alloc (Nat.le_refl _) _
  have I0 := At.new w id
  have hI := refIs_any (hL0.bel B0) hw hn0.2
  rw [isB_yes hC] at hI
  have HI := Lib.hid hI
  obtain ⟨n, hnL⟩ : ∃ n, n = L.length := ⟨_, rfl⟩
  have hstop : ∀ q, q < L.length → (∀ j, j < q → lessB (pn L j) id = true) → lessB (pn L q) id = false → ownN L id = q := fun q hq h1 h2 => by
    have : firstN L id = q := first_of (by omega) (fun j hj => by have := h1 j hj; rw [lessB_lt (hw.pn _) hid] at this; simpa using this) (fun _ => by rw [lessB_lt (hw.pn _) hid] at h2; simpa using h2)
    rw [own_if, this, if_pos hq]
  have hend : (∀ j, j < L.length → lessB (pn L j) id = true) → ownN L id = 0 := fun h1 => by
    have : firstN L id = L.length := first_of (Nat.le_refl _) (fun j hj => by have := h1 j hj; rw [lessB_lt (hw.pn _) hid] at this; simpa using this) (fun h => by omega)
    rw [own_if, this, if_neg (by omega)]
  rw [← hnL] at hI hstop hend hn0 HI ⊢
  have HR : Hid (∀ q w1, q < n → Below w.heap.size w w1 → w1.rangeAt b (o + q * 21 + 1) (row (dig 20 (pn L q))).toList) := fun q w1 hq hb => range_bel (lies_id hr (by omega)) hb hb0
  have HSt := Lib.hid hstop
  have HEn := Lib.hid hend
  clear hL hL0 hw hid hC hI hr hc hstop hend hnL
  generalize ownN L id = r at *
  generalize pn L = p at *
  rw [show idv id = .agg (row (dig 20 id)) from rfl]
  go_enter Try.func68, Try.ntmps68
  go_upto_region 1 with (fail)
  generalize w.alloc _ = W at *
  go_wp2_with (go_at_call 36; (with_reducible refine HI.out.mono ?_); rintro e w1 ⟨rfl, hb⟩)
  have I1 := Lib.hid (I0.below hb)
  have HB1 := Lib.hid (step B0 hb)
  have hgl : w.heap.size < w1.heap.size := I1.out.lt
  clear I0 hb B0 HI
  go_loopw [6] (fun i wr => ∃ q : Nat, q ≤ n ∧ i = .int .i64 (q : Int) ∧ Below w1.heap.size w1 wr ∧ ∀ j, j < q → lessB (p j) id = true) (fun i _ => n - (intOf i).toNat)
  case atStart => exact ⟨0, by omega, rfl, Below.refl _ _, fun j hj => by omega⟩
  case round =>
    obtain ⟨q, hq, rfl, hB, hJ⟩ := hrel
    have HB := Lib.hid hB
    have HJ := Lib.hid hJ
    clear hB hJ
    by_cases hlt : q < n
    · have hi : At wr w.heap.size id := I1.out.below HB.out
      have ri := HR.out q wr hlt (step HB1.out HB.out)
      have HL := refLess_gives (p q) id
      cases hls : lessB (p q) id
      · have HX := Lib.hid (HSt.out q hlt HJ.out hls)
        rw [hls] at HL
        clear hls
        generalize p q = x at *
        go_upto_region 6 with (fail)
        refine wp_region_quiet_below (by kernel_rfl) (by kernel_rfl) ?_
        repeat (first
          | go_big_quiet_skip
          | (go_big_quiet_want
             first
             | (first | (refine q_midI _ rfl _ _ rfl x (by with_reducible exact ri) ?_) | (refine q_at _ rfl _ id rfl hi ?_)
                simp only [Act.put, List.setIfInBounds_toArray, List.set_cons_succ, List.set_cons_zero]
                go_big_quiet_on)
             | (go_big_quiet_op
                first | go_big_quiet_on | go_big_quiet_call (first | with_reducible exact HL.grown _ _))))
        refine wpQuiet_nil ?_
        intro w2 hw'
        have hb2 := quiet_end hw'
        clear hw'
        have HB2 := Lib.hid (step (step HB1.out HB.out) hb2)
        clear hb2 ri hi
        go_wp2
        go_ret2
        exact ⟨by rw [HX.out]; rfl, HB2.out⟩
      · have HX : Hid (∀ j, j < q + 1 → lessB (p j) id = true) := fun j hj => by
          rcases Nat.lt_or_ge j q with h | h
          · exact HJ.out j h
          · obtain rfl : j = q := by omega
            exact hls
        rw [hls] at HL
        clear hls
        generalize hpq : p q = x at *
        clear hpq
        go_upto_region 6 with (fail)
        refine wp_region_quiet_below (by kernel_rfl) (by kernel_rfl) ?_
        repeat (first
          | go_big_quiet_skip
          | (go_big_quiet_want
             first
             | (first | (refine q_midI _ rfl _ _ rfl x (by with_reducible exact ri) ?_) | (refine q_at _ rfl _ id rfl hi ?_)
                simp only [Act.put, List.setIfInBounds_toArray, List.set_cons_succ, List.set_cons_zero]
                go_big_quiet_on)
             | (go_big_quiet_op
                first | go_big_quiet_on | go_big_quiet_call (first | with_reducible exact HL.grown _ _))))
        refine wpQuiet_nil ?_
        intro w2 hw'
        have hb2 := quiet_end hw'
        clear hw'
        have HB2 := Lib.hid (step HB.out hb2)
        clear hb2 ri hi
        go_wp2
        exact ⟨⟨q + 1, by omega, by go_num, HB2.out, HX.out⟩, by simp [intOf]; omega⟩
    · obtain rfl : n = q := by omega
      have HX := Lib.hid (HEn.out HJ.out)
      have HB2 := Lib.hid (step HB1.out HB.out)
      go_wp2
      go_ret2
      exact ⟨by rw [HX.out]; rfl, HB2.out⟩
end Go.Proofs.Ytfajfmcabpmchaa.Cr

namespace Go.Proofs.Ytfajfmcabpmchaa.Cr
set_option maxRecDepth 100000
open Go Go.RowKit Go.Sort

theorem plB_no {L : List Pe} {i : Int} (h : plB L i = false) : isB L = false ∨ (isB L = true ∧ i < 0) ∨ (isB L = true ∧ 0 ≤ i ∧ (L.length : Int) ≤ i) := by
  unfold plB at h
  cases hb : isB L
  · exact .inl rfl
  · rw [hb] at h
    simp only [Bool.true_and, Bool.and_eq_false_iff, decide_eq_false_iff_not] at h
    by_cases h0 : 0 ≤ i
    · exact .inr (.inr ⟨rfl, h0, by omega⟩)
    · exact .inr (.inl ⟨rfl, by omega⟩)
theorem refFingers_no {w : World} {v : Value} {L : List Pe} (i : Int) (hL : Lies w v L) (hw : Wf L) (hn : L.length ≤ 1000000) (hp : plB L i = false) :
    Calls Try.prog 38 #[v, .int .i64 i] w fun e w' => e = .returned (.tuple #[.slice none 0 0, .int .i64 1]) ∧ Below w.heap.size w w' := by
  have hL0 := hL
  obtain ⟨a, c, rfl⟩ := hL.form
  have hI := refIs_any hL0 hw hn
  have key : ∀ r, isB L = r → (r = false ∨ (r = true ∧ i < 0) ∨ (r = true ∧ 0 ≤ i ∧ (L.length : Int) ≤ i)) := fun r hr => by rw [← hr]; exact plB_no hp
  generalize hb : isB L = r at *
  have key := key r rfl
  have HI := Lib.hid hI
  clear hL hL0 hw hn hI hp hb
  generalize L.length = n at *
  rcases key with rfl | ⟨rfl, h0⟩ | ⟨rfl, h0, h1⟩
  · go_enter Try.func38, Try.ntmps38
    go_wp2_with (go_at_call 36; (with_reducible refine HI.out.mono ?_); rintro e w1 ⟨rfl, hb⟩)
    go_ret2
    exact ⟨rfl, hb⟩
  · have d0 : decide (i < 0) = true := decide_eq_true h0
    go_enter Try.func38, Try.ntmps38
    go_wp2_with (go_at_call 36; (with_reducible refine HI.out.mono ?_); rintro e w1 ⟨rfl, hb⟩)
    go_ret2
    exact ⟨rfl, hb⟩
  · have d0 : decide (i < 0) = false := decide_eq_false (by omega)
    have d1 : decide ((n : Int) ≤ i) = true := decide_eq_true h1
    go_enter Try.func38, Try.ntmps38
    go_wp2_with (go_at_call 36; (with_reducible refine HI.out.mono ?_); rintro e w1 ⟨rfl, hb⟩)
    go_ret2
    exact ⟨rfl, hb⟩
theorem refPlus_gives (a b : Nat) : Gives Try.prog 69 #[idv a, idv b] (idv (a + b)) := refPlus_any a b
set_option maxHeartbeats 4000000 in
theorem refFingers_yes {w : World} {v : Value} {L : List Pe} (i : Nat) (hL : Lies w v L) (hw : Wf L) (hC : Circ L) (hi : i < L.length) :
    Calls Try.prog 38 #[v, .int .i64 (i : Int)] w fun e w' => ∃ u, e = .returned (.tuple #[u, .int .i64 0]) ∧ Row w.heap.size w' u (fingN L i 160) ∧ Below w.heap.size w w' := by
  have hL0 := hL
  obtain ⟨b, o, c, e0, hc, hr, hb0⟩ := hL.some hC.pos.1
  subst e0
  have hI := refIs_any hL0 hw hC.pos.2
  rw [isB_yes hC] at hI
  have HI := Lib.hid hI
  have hn0 := hC.pos
  have HR : Hid (∀ w1, Below w.heap.size w w1 → w1.rangeAt b (o + i * 21 + 1) (row (dig 20 (pn L i))).toList) := fun w1 hb => range_bel (lies_id hr hi) hb hb0
  obtain ⟨ov, hov⟩ : ∃ ov : Nat → Nat, ∀ q, ov q = ownN L ((pn L i + 2 ^ q) % M) := ⟨_, fun _ => rfl⟩
  have HO : Hid (∀ q w1, Below w.heap.size w w1 → Calls Try.prog 68 #[.slice (some ⟨b, o, none⟩) L.length c, idv (pn L i + 2 ^ q)] w1 fun e w' => e = .returned (.tuple #[.int .i64 ((ov q : Nat) : Int), .int .i64 0]) ∧ Below w1.heap.size w1 w') := fun q w1 hb => by
    rw [← idv_mod, hov q]
    exact refOwner_yes _ (hL0.bel hb) hw (Nat.mod_lt _ M_pos) hC
  have HS : Hid (∀ k, ints (fingN L i k) ++ [.int .i64 ((ov k : Nat) : Int)] = ints (fingN L i (k + 1))) := fun k => by rw [ints_snoc, fingN_succ, hov k]
  have HCL : Hid (∀ k, (fingN L i k).length = k) := fingN_len L i
  have HC0 : Hid (fingN L i 0 = []) := rfl
  have d0 : decide ((i : Int) < 0) = false := decide_eq_false (by omega)
  have d1 : decide ((L.length : Int) ≤ (i : Int)) = false := decide_eq_false (by omega)
  have d2 : decide (L.length ≤ i) = false := decide_eq_false (by omega)
  have hin : (i : Int) < (L.length : Int) := by omega
  clear hL hL0 hw hI hC hr hc hov
  generalize fingN L i = fp at *
  generalize pn L i = x at *
  generalize L.length = n at *
  go_enter Try.func38, Try.ntmps38
  go_wp2_with (go_at_call 36; (with_reducible refine HI.out.mono ?_); rintro e w1 ⟨rfl, hb⟩)
  have HB1 := Lib.hid hb
  clear hb HI
  go_loopw [6, 7] (fun v k wr => ∃ q : Nat, q ≤ 160 ∧ k = .int .i64 (q : Int) ∧ Fing w wr v q (fp q)) (fun _ k _ => 160 - (intOf k).toNat)
  case atStart => exact ⟨0, by omega, rfl, by rw [HC0.out]; exact ⟨World.ownsRow_nil _ _ _ _, HB1.out⟩⟩
  case round =>
    obtain ⟨q, hq, rfl, hF⟩ := hrel
    have HF := Lib.hid hF
    clear hF
    by_cases hlt : q < 160
    · have HP := Lib.hid (fun w1 => refPower_yes q w1 hlt)
      have HS2 := Lib.hid (HS.out q)
      go_upto_region 8 with (first
        | (go_at_call 67; (with_reducible refine (HP.out _).mono ?_); rintro e w2 ⟨rfl, hb2⟩)
        | (refine wpList_store_new rfl rfl _ _ rfl (2 ^ q) rfl rfl ?_))
      (try simp only [Act.put])
      have B2 : Below wr.heap.size wr (w2.alloc (.cells (row (dig 20 (2 ^ q))) 24)) := hb2.alloc hb2.size _
      have I2 := At.new w2 (2 ^ q)
      generalize w2.alloc _ = W at *
      generalize w2.heap.size = g at *
      have BW := Lib.hid (HF.out.bel.trans (B2.mono HF.out.bel.size))
      have OW := Lib.hid (own_bel HF.out.own B2)
      have ri := HR.out W BW.out
      have HL := refPlus_gives x (2 ^ q)
      have HO2 : Hid (∀ d os, Calls Try.prog 68 #[.slice (some ⟨b, o, none⟩) n c, idv (x + 2 ^ q)] (grow (redrawn W d) os) fun e w'' => e = .returned (.tuple #[.int .i64 ((ov q : Nat) : Int), .int .i64 0]) ∧ ∃ p : Regrown, w'' = grow (redrawn W p.d) p.os) :=
        fun d os => Calls.regrown_of (HO.out q _ (BW.out.trans ((below_regrown W d os).mono BW.out.size)))
      clear hb2 HP B2 HF
      generalize ov q = y at *
      refine wp_region_quiet_below (by kernel_rfl) (by kernel_rfl) ?_
      repeat (first
        | go_big_quiet_skip
        | (go_big_quiet_want
           first
           | (first | (refine q_midI _ rfl _ _ rfl x (by with_reducible exact ri) ?_) | (refine q_at _ rfl _ (2 ^ q) rfl I2 ?_)
              simp only [Act.put, List.setIfInBounds_toArray, List.set_cons_succ, List.set_cons_zero]
              go_big_quiet_on)
           | (go_big_quiet_op
              first | go_big_quiet_on | go_big_quiet_call (first | with_reducible exact HL.grown _ _ | with_reducible exact HO2.out _ _))))
      refine wpQuiet_nil ?_
      intro w2 hw'
      have hb2 := quiet_end hw'
      clear hw'
      have OW2 := Lib.hid (own_bel OW.out hb2)
      have BW2 := Lib.hid (BW.out.trans (hb2.mono BW.out.size))
      clear hb2 ri I2 OW BW HO2 HL
      go_wp2_with (refine wpList_append1 rfl _ _ 26 rfl w.heap.size 3 (.int .i64 0) 8 Try.underlying26 infoN rfl _ q _ rfl OW2.out (.int .i64 (y : Int)) rfl rfl (by omega) (by omega) BW2.out BW2.out.size ?_; intro v' w' hO' B')
      rw [HS2.out] at hO'
      exact ⟨⟨q + 1, by omega, by go_num, hO', B'⟩, by simp [intOf]; omega⟩
    · obtain rfl : q = 160 := by omega
      go_wp2
      go_ret2
      refine ⟨_, rfl, ?_, HF.out.bel⟩
      unfold Row
      rw [HCL.out]
      exact HF.out.own
end Go.Proofs.Ytfajfmcabpmchaa.Cr
