/- Whether a row of peers is a circle. -/
import Derived.Test.YtmlejcfnnjnggaaDoorCirFind
namespace Go.Proofs.YtmlejcfnnjnggaaDoor
set_option maxRecDepth 100000
open Go Go.RowKit Go.Sort

/-- row[:r], in a region that draws its order -/
theorem q_to {P : Program} {C : World → Prop} {o : Oper} {a : Act} {K : Act → Prop} (T : TypeId) (s hi_ : Operand)
    (ho : o.op = .slice T s none (some hi_) none) (e : TypeId) (size : Nat) (hT : P.underlying T = some (.slice e)) (hi : (P.info? e).map (·.size) = some size)
    (b off n c r : Nat) (z : Int) (hs : a.eval s = .slice (some ⟨b, off, none⟩) n c) (hlo : a.eval hi_ = .int .i64 z) (hz : z = (r : Int)) (hr : r ≤ c)
    (hk : K (a.put o.dst (.slice (some ⟨b, off, none⟩) r c))) : o.quiet P a C K := by
  subst hz
  refine ⟨_, fun w' _ => ?_, hk⟩
  have hel : P.elem T = e := by simp [Program.elem, hT]
  have hT' : P.underlying T = some (.slice (P.elem T)) := by rw [hel]; exact hT
  obtain ⟨i, hi', hq⟩ := Option.map_eq_some_iff.1 hi
  have hr' : (Instr.sliceAt T (.slice (some ⟨b, off, none⟩) n c) none (some (.int .i64 (r : Int))) none).run P w' = .ok (sliced (some ⟨b, off, none⟩) 0 r c size) w' := by
    rw [run_sliceAt_slice w' T _ _ _ _ hT', run_slice_h w' T _ n c hT' .i64 (r : Int) (by omega) (by omega), hel]
    simp [sizeOf, typeInfo, hi', Result.andThen, hq]
  have hv : sliced (some ⟨b, off, none⟩) 0 r c size = .slice (some ⟨b, off, none⟩) r c := by
    unfold sliced; split <;> simp [Addr.add_mid]
  unfold Oper.quietAt execOp
  simp only [ho, Option.map, hs, hlo, Sem.run_bind, Result.andThen_ok, hr', hv]
  exact ⟨rfl, rfl⟩

/-- whether one has the address -/
def hasB (L : List Pe) (a : Int) : Bool := decide (∃ j, j < L.length ∧ ad L j = a)
theorem hasPred_any (x : Pe) (a : Int) (g : Nat) (w : World) (hg : Blk w g #[.int .i64 a] 3) :
    Calls Tryd.prog 54 #[.agg (peA x), .pointer (some ⟨g, 0, none⟩)] w fun e w' => e = .returned (.bool (x.1 == a)) ∧ Below w.heap.size w w' := by
  have B0 := (Below.refl w.heap.size w).alloc (Nat.le_refl _) (.cells (peA x) 43)
  have c0 : (w.alloc (.cells (peA x) 43)).cell? ⟨w.heap.size, 0, none⟩ = some (.int .i64 x.1) := (Blk.new w (peA x) 43).cell 0
  have c1 : (w.alloc (.cells (peA x) 43)).cell? ⟨g, 0, none⟩ = some (.int .i64 a) := (hg.alloc _).cell 0
  go_enter Tryd.func54, Tryd.ntmps54
  go_upto_region 1 with (fail)
  generalize w.alloc _ = W at *
  generalize peA x = C at *
  go_wp2
  go_ret
  exact ⟨rfl, B0⟩
set_option maxHeartbeats 1000000 in
theorem index_any {w : World} {v : Value} {L : List Pe} (a : Int) (g : Nat) (hL : Lies w v L) (hg : Blk w g #[.int .i64 a] 3) (hn : L.length ≤ 1000000) :
    Calls Tryd.prog 65 #[v, .func (.func 54) #[] #[.pointer (some ⟨g, 0, none⟩)]] w fun e w' => ∃ r : Int, e = .returned (.int .i64 r) ∧ decide (0 ≤ r) = hasB L a ∧ Below w.heap.size w w' := by
  obtain ⟨sa, sc, rfl⟩ := hL.form
  obtain ⟨n, hnL⟩ : ∃ n, n = L.length := ⟨_, rfl⟩
  rw [← hnL] at hL hn ⊢
  have HN := Lib.hid hnL
  have HL := Lib.hid hL
  have HG := Lib.hid hg
  clear hL hg hnL
  go_enter Tryd.func65, Tryd.ntmps65
  go_wp2
  go_loopw [8] (fun i wr => ∃ q : Nat, q ≤ n ∧ i = .int .i64 (q : Int) ∧ Below w.heap.size w wr ∧ ∀ j, j < q → ad L j ≠ a) (fun i _ => n - (intOf i).toNat)
  case atStart => exact ⟨0, by omega, rfl, Below.refl _ _, fun j hj => by omega⟩
  case round =>
    obtain ⟨q, hq, rfl, hB, hJ⟩ := hrel
    have HB := Lib.hid hB
    have HJ := Lib.hid hJ
    clear hB hJ
    by_cases hlt : q < n
    · have hx := at_get (L := L) (i := q) (by have := HN.out; omega)
      obtain ⟨b, o, c, e1, _, _, hp, _⟩ := (HL.out.bel HB.out).at hx
      simp only [Value.slice.injEq] at e1
      obtain ⟨rfl, enl, rfl⟩ := e1
      clear enl
      have HP := Lib.hid hp
      have HC := Lib.hid (hasPred_any (ad L q, pn L q) a g wr (HG.out.below HB.out HG.out.lt))
      clear hx hp
      by_cases he : ad L q = a
      · have e2 : ((ad L q, pn L q).1 == a) = true := by simpa using he
        rw [e2] at HC
        have HR : Hid (decide ((0 : Int) ≤ (q : Int)) = hasB L a) := by
          unfold Hid hasB
          rw [decide_eq_decide]
          exact ⟨fun _ => ⟨q, by have := HN.out; omega, he⟩, fun _ => by omega⟩
        clear he e2
        generalize (ad L q, pn L q) = x at *
        go_wp2_with (first
          | (refine p_midP rfl _ rfl _ _ rfl x HP.out ?_)
          | (go_at_call 54; (with_reducible refine HC.out.mono ?_); rintro e w1 ⟨rfl, hb⟩))
        go_ret
        exact ⟨_, rfl, HR.out, step HB.out hb⟩
      · have e2 : ((ad L q, pn L q).1 == a) = false := by simpa using he
        rw [e2] at HC
        have HR : Hid (∀ j, j < q + 1 → ad L j ≠ a) := fun j hj => by
          rcases Nat.lt_or_ge j q with h | h
          · exact HJ.out j h
          · obtain rfl : j = q := by omega
            exact he
        clear he e2
        generalize (ad L q, pn L q) = x at *
        go_wp2_with (first
          | (refine p_midP rfl _ rfl _ _ rfl x HP.out ?_)
          | (go_at_call 54; (with_reducible refine HC.out.mono ?_); rintro e w1 ⟨rfl, hb⟩))
        exact ⟨⟨q + 1, by omega, by go_num, step HB.out hb, HR.out⟩, by simp [intOf]; omega⟩
    · obtain rfl : n = q := by omega
      have HR : Hid (decide ((0 : Int) ≤ -1) = hasB L a) := by
        unfold Hid hasB
        rw [decide_eq_decide]
        exact ⟨fun h => by omega, fun ⟨j, hj, h⟩ => absurd h (HJ.out j (by have := HN.out; omega))⟩
      go_wp2
      go_ret
      exact ⟨_, rfl, HR.out, HB.out⟩
theorem contains_any {w : World} {v : Value} {L : List Pe} (a : Int) (g : Nat) (hL : Lies w v L) (hg : Blk w g #[.int .i64 a] 3) (hn : L.length ≤ 1000000) :
    Calls Tryd.prog 53 #[v, .func (.func 54) #[] #[.pointer (some ⟨g, 0, none⟩)]] w fun e w' => e = .returned (.bool (hasB L a)) ∧ Below w.heap.size w w' := by
  have HI := Lib.hid (index_any a g hL hg hn)
  clear hL hg hn
  generalize hasB L a = r at *
  go_enter Tryd.func53, Tryd.ntmps53
  go_wp2_with (go_at_call 65; (with_reducible refine HI.out.mono ?_); rintro e w1 ⟨x, rfl, hx, hb⟩)
  go_ret
  exact ⟨by rw [← hx]; rfl, hb⟩
theorem hasAddr_any {w : World} {v : Value} {L : List Pe} (a : Int) (hL : Lies w v L) (hn : L.length ≤ 1000000) :
    Calls Tryd.prog 38 #[v, .int .i64 a] w fun e w' => e = .returned (.bool (hasB L a)) ∧ Below w.heap.size w w' := by
  have B0 := (Below.refl w.heap.size w).alloc (Nat.le_refl _) (.cells #[.int .i64 a] 3)
  have HC := Lib.hid (contains_any a w.heap.size (hL.bel B0) (Blk.new w #[.int .i64 a] 3) hn)
  have HB := Lib.hid B0
  clear hL hn B0
  generalize hasB L a = r at *
  go_enter Tryd.func38, Tryd.ntmps38
  go_upto_region 1 with (fail)
  generalize w.alloc _ = W at *
  go_wp2_with (go_at_call 53; (with_reducible refine HC.out.mono ?_); rintro e w1 ⟨rfl, hb⟩)
  go_ret
  exact ⟨rfl, step HB.out hb⟩
end Go.Proofs.YtmlejcfnnjnggaaDoor
