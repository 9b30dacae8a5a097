/- A timer rises to its place. -/
import Derived.Test.YtboojbgcleknlaaTimSwap
import Derived.ScopeJumps
import Derived.WalkMore
namespace Go.Proofs.Ytboojbgcleknlaa
open Go Go.RowKit Go.Sort

/-- a body that begins with a label, to which it jumps back -/
theorem wp_scope_here {P : Program} {a : Act} {w : World} {Q : Exit → Act → World → Prop} {c : Code} (l : Nat) (J : Act → World → Prop) (μ : Act → World → Nat) (hJ : J a w)
    (pass : ∀ a w, J a w → c.wp P (Exit.jump l (fun a' w' => J a' w' ∧ μ a' w' < μ a w) Q) a w) : (Code.scope ((Code.label l).seq c)).wp P Q a w := by
  have mono : ∀ n e a w, Exit.jump l (fun a' w' => J a' w' ∧ μ a' w' < n) Q e a w → Exit.jump l J Q e a w := by
    intro n e a w h
    cases e with
    | goto l' => exact ⟨h.1, h.2.1⟩
    | _ => exact h
  refine wp_scope_jumps (rest := .seq .skip c) l J μ (by simp [findLabel]) ?_ ?_
  · exact wp_seq (wp_label (Code.wp_mono (mono _) (pass a w hJ)))
  · intro a w hJ
    exact wp_seq (wp_skip (pass a w hJ))
theorem range_lt {w : World} {g o : Nat} {cs : List Value} (h : w.rangeAt g o cs) (hn : cs ≠ []) : g < w.heap.size := by
  cases cs with
  | nil => exact absurd rfl hn
  | cons v r => exact World.block_lt_of_cell? w _ (h 0 v rfl)
theorem range_bel {w w' : World} {g o B : Nat} {cs : List Value} (h : w.rangeAt g o cs) (hb : Below B w w') (hg : g < B) : w'.rangeAt g o cs := fun j v hv => by
  have hc := h j v hv
  exact (World.cell?_of_block (a := ⟨g, o + j, none⟩) (hb.block g hg)).trans hc
theorem q_midD {W : World} {o : Oper} {a : Act} {K : Act → Prop} (x : Operand) (ho : o.op = .load 53 x) (g i : Nat) (hx : a.eval x = .pointer (some ⟨g, i, none⟩)) (d : Du)
    (hg : W.rangeAt g i (duC d).toList) (hk : K (a.put o.dst (.agg #[.int .i64 d.id, .int .i64 d.tm]))) : o.quiet Try.prog a (fun w' => ∃ p : Regrown, w' = grow (redrawn W p.d) p.os) K := by
  refine ⟨.agg (duC d), ?_, hk⟩
  rintro w' ⟨p, rfl⟩
  have hg' : (grow (redrawn W p.d) p.os).rangeAt g i (duC d).toList := range_bel hg (below_regrown W p.d p.os) (range_lt hg (by simp [duC]))
  unfold Oper.quietAt execOp
  simp only [ho, hx, Instr.loadAt, Instr.sureAddr, Sem.run_bind, run_loadVar_mid _ g i 53 (duC d).toList _ hg' Try.underlying53 rfl sizeD, Sem.run_pure, Result.andThen_ok]
  exact ⟨rfl, rfl⟩
theorem before_gives (a b : Du) : Gives Try.prog 27 #[.agg #[.int .i64 a.id, .int .i64 a.tm], .agg #[.int .i64 b.id, .int .i64 b.tm]] (.bool (aheadB a b)) := before_any a b
/-- a region that draws, and only makes memory -/
theorem quiet_end {W w' : World} (h : ∃ p : Regrown, w' = grow (redrawn W p.d) p.os) : Below W.heap.size W w' := by
  obtain ⟨⟨d, os⟩, rfl⟩ := h
  exact below_regrown W d os

def intOf : Value → Int | .int _ q => q | _ => 0
/-- what stands while a timer rises -/
structure Ris (w w' : World) (g mb : Nat) (now : Int) (b n c : Nat) (h : Nat → Du) (N : Nat) (E : List Int) (p0 p : Nat) (h' : Nat → Du) (f' : Int → Option Nat) : Prop where
  mem : Hq w' g mb now b n c h' N f'
  kp : Kp w w' g mb (some b)
  up : Up h' n p0 p
  gd : Gd h' n f' E
  al : Alike h h' n
  lt : p < n
/-- .. at the label -/
def RisJ (w : World) (g mb : Nat) (now : Int) (b n c : Nat) (h : Nat → Du) (N : Nat) (E : List Int) (p0 m : Nat) (a' : Act) (w' : World) : Prop :=
  ∃ (p : Nat) (h' : Nat → Du) (f' : Int → Option Nat) (u4 u5 u6 u7 u8 u9 u10 u11 u12 u13 u14 u15 u16 u17 u18 u19 u20 u21 u22 u23 u24 u25 u26 u27 u28 u29 u30 u31 : Value),
    a' = { tmps := #[.pointer (some ⟨g, 0, none⟩), .int .i64 (p : Int), undef, undef, u4, u5, u6, u7, u8, u9, u10, u11, u12, u13, u14, u15, u16, u17, u18, u19, u20, u21, u22, u23, u24, u25, u26, u27, u28, u29, u30, u31], defers := [] } ∧ Ris w w' g mb now b n c h N E p0 p h' f' ∧ p < m
def mu1 (a' : Act) (_ : World) : Nat := (intOf (a'.tmps.getD 1 undef)).toNat
section
variable {w : World} {g mb : Nat} {now : Int} {b n c : Nat} {h : Nat → Du} {N : Nat} {f : Int → Option Nat}
theorem RisJ.mk {w w' : World} {E : List Int} {p0 p m : Nat} {h' : Nat → Du} {f' : Int → Option Nat} (R : Ris w w' g mb now b n c h N E p0 p h' f') (hm : p < m) (u4 u5 u6 u7 u8 u9 u10 u11 u12 u13 u14 u15 u16 u17 u18 u19 u20 u21 u22 u23 u24 u25 u26 u27 u28 u29 u30 u31 : Value) :
    RisJ w g mb now b n c h N E p0 m { tmps := #[.pointer (some ⟨g, 0, none⟩), .int .i64 (p : Int), undef, undef, u4, u5, u6, u7, u8, u9, u10, u11, u12, u13, u14, u15, u16, u17, u18, u19, u20, u21, u22, u23, u24, u25, u26, u27, u28, u29, u30, u31], defers := [] } w' := ⟨p, h', f', u4, u5, u6, u7, u8, u9, u10, u11, u12, u13, u14, u15, u16, u17, u18, u19, u20, u21, u22, u23, u24, u25, u26, u27, u28, u29, u30, u31, rfl, R, hm⟩
/-- the end of it -/
def RisE (w w' : World) (g mb : Nat) (now : Int) (b n c : Nat) (h : Nat → Du) (N : Nat) (E : List Int) (p0 : Nat) : Prop := ∃ h' f', Hq w' g mb now b n c h' N f' ∧ Kp w w' g mb (some b) ∧ Sink h' n p0 ∧ Gd h' n f' E ∧ Alike h h' n
theorem Ris.stop {w w' : World} {E : List Int} {p0 p : Nat} {h' : Nat → Du} {f' : Int → Option Nat} (R : Ris w w' g mb now b n c h N E p0 p h' f') (hs : 0 < p → ¬ ahead (h' p) (h' ((p - 1) / 2))) : RisE w w' g mb now b n c h N E p0 :=
  ⟨h', f', R.mem, R.kp, R.up.stop hs, R.gd, R.al⟩
theorem Ris.bel {w w' w2 : World} {E : List Int} {p0 p : Nat} {h' : Nat → Du} {f' : Int → Option Nat} (R : Ris w w' g mb now b n c h N E p0 p h' f') (hb : Below w'.heap.size w' w2) : Ris w w2 g mb now b n c h N E p0 p h' f' :=
  ⟨R.mem.bel hb, R.kp.trans (Kp.of hb g mb (some b)), R.up, R.gd, R.al, R.lt⟩
set_option maxRecDepth 100000 in
set_option maxHeartbeats 4000000 in
theorem rise_any (H : Hq w g mb now b n c h N f) {p0 : Nat} (hp : p0 < n) (hN : N ≤ 1000) {E : List Int} (G : Gd h n f E) (U : Up h n p0 p0) :
    Calls Try.prog 25 #[.pointer (some ⟨g, 0, none⟩), .int .i64 (p0 : Int)] w fun e w' => e = .returned (.tuple #[]) ∧ RisE w w' g mb now b n c h N E p0 := by
  have HI := Lib.hid (⟨H, Kp.refl w g mb (some b), U, G, Alike.refl h n, hp⟩ : Ris w w g mb now b n c h N E p0 p0 h f)
  clear H G U
  go_enter Try.func25, Try.ntmps25
  refine wp_scope_here 0 (RisJ w g mb now b n c h N E p0 n) mu1 (RisJ.mk HI.out hp undef undef undef undef undef undef undef undef undef undef undef undef undef undef undef undef undef undef undef undef undef undef undef undef undef undef undef undef) ?_
  rintro a' w1 ⟨p, h1, f1, u4, u5, u6, u7, u8, u9, u10, u11, u12, u13, u14, u15, u16, u17, u18, u19, u20, u21, u22, u23, u24, u25, u26, u27, u28, u29, u30, u31, rfl, R, hpn⟩
  have HR := Lib.hid R
  have hmu : ∀ (x : Act) (y : World), RisJ w g mb now b n c h N E p0 p x y → RisJ w g mb now b n c h N E p0 n x y ∧ mu1 x y < mu1 { tmps := #[.pointer (some ⟨g, 0, none⟩), .int .i64 (p : Int), undef, undef, u4, u5, u6, u7, u8, u9, u10, u11, u12, u13, u14, u15, u16, u17, u18, u19, u20, u21, u22, u23, u24, u25, u26, u27, u28, u29, u30, u31], defers := [] } w1 := by
    rintro x y ⟨p', h', f', v4, v5, v6, v7, v8, v9, v10, v11, v12, v13, v14, v15, v16, v17, v18, v19, v20, v21, v22, v23, v24, v25, v26, v27, v28, v29, v30, v31, rfl, R', hm⟩
    refine ⟨⟨p', h', f', v4, v5, v6, v7, v8, v9, v10, v11, v12, v13, v14, v15, v16, v17, v18, v19, v20, v21, v22, v23, v24, v25, v26, v27, v28, v29, v30, v31, rfl, R', R'.lt⟩, ?_⟩
    show ((p' : Nat) : Int).toNat < ((p : Nat) : Int).toNat
    omega
  refine Code.wp_mono (Q := Exit.jump 0 (RisJ w g mb now b n c h N E p0 p) (bodyPost Try.prog Try.f25 fun e w' => e = .returned (.tuple #[]) ∧ RisE w w' g mb now b n c h N E p0)) (fun e x y k => by
    cases e with
    | goto l => exact ⟨k.1, hmu x y k.2⟩
    | _ => exact k) ?_
  clear hmu
  have c1 := R.mem.c1
  have C1 := fun d os => cell_regrown c1 d os
  have hbl := R.mem.row.lt
  have hnl := R.mem.len
  by_cases h0 : 0 < p
  · obtain ⟨r, hr⟩ : ∃ r, p = r + 1 := ⟨p - 1, by omega⟩
    obtain ⟨q, hq⟩ : ∃ q, q = r / 2 := ⟨_, rfl⟩
    have hqn : q < n := by omega
    have hd : decide ((0 : Int) < (p : Int)) = true := by simp; omega
    have hp1 : (p : Int) < (n : Int) := by omega
    have hq1 : (q : Int) < (n : Int) := by omega
    have hp2 : (0 : Int) ≤ (p : Int) := by omega
    have hq2 : (0 : Int) ≤ (q : Int) := by omega
    have e1 : IntKind.i64.wrap ((p : Int) - 1) = (r : Int) := by rw [IntWalk.i64_in _ (by omega)]; omega
    have e2 : RowKit.wrap64 ((r : Int) / 2) = (q : Int) := by rw [← IntWalk.i64_left, IntWalk.i64_in _ (by omega)]; omega
    have r1 := R.mem.row.range hpn
    have r2 := R.mem.row.range hqn
    have HB := Lib.hid (before_gives (h1 p) (h1 q))
    have HQ := Lib.hid hq
    have HP := Lib.hid hr
    clear hq hr R
    go_upto_region 1 with (fail)
    refine wp_region_quiet_below (by kernel_rfl) (by kernel_rfl) ?_
    repeat (first
      | go_big_quiet_skip
      | (go_big_quiet_want
         first
         | (first | (refine q_midD _ rfl _ _ rfl (h1 p) (by with_reducible exact r1) ?_) | (refine q_midD _ rfl _ _ rfl (h1 q) (by with_reducible exact r2) ?_)
            simp only [Act.put, List.setIfInBounds_toArray, List.set_cons_succ, List.set_cons_zero]
            go_big_quiet_on)
         | (go_big_quiet_op
            first | go_big_quiet_on | go_big_quiet_call (first | with_reducible exact HB.out.grown _ _))))
    refine wpQuiet_nil ?_
    intro w2 hw'
    have hb := quiet_end hw'
    have HR2 := Lib.hid (HR.out.bel hb)
    clear hw' hb r1 r2 c1 C1
    simp only [e2]
    clear e1 e2
    cases ha : aheadB (h1 p) (h1 q) with
    | true =>
      have hup : ahead (h1 p) (h1 ((p - 1) / 2)) := by
        have e : (p - 1) / 2 = q := by rw [HP.out, HQ.out, Nat.add_sub_cancel]
        rw [e]
        exact (aheadB_iff _ _).1 ha
      have HC : Hid (Calls Try.prog 28 #[.pointer (some ⟨g, 0, none⟩), .int .i64 (p : Int), .int .i64 (q : Int)] w2 fun e w' => e = .returned (.tuple #[]) ∧ Hid (∃ f', Ris w w' g mb now b n c h N E p0 q (swp h1 p q) f' ∧ q < p)) := by
        have R := HR2.out
        have e : (p - 1) / 2 = q := by rw [HP.out, HQ.out, Nat.add_sub_cancel]
        refine (swap_any R.mem hpn hqn hN R.gd).mono ?_
        rintro e w3 ⟨rfl, H3, K3⟩
        refine ⟨rfl, _, ⟨H3, R.kp.trans K3, ?_, R.gd.swap hpn hqn (by omega), R.al.trans (Alike.swap h1 hpn hqn), hqn⟩, by omega⟩
        have := R.up.swap h0 hpn hup
        rwa [e] at this
      go_wp2_with (go_at_call 28; (with_reducible refine HC.out.mono ?_); rintro e w3 ⟨rfl, hF⟩)
      go_step3
      obtain ⟨f', R', hm⟩ := hF.out
      exact ⟨rfl, RisJ.mk R' hm _ _ _ _ _ _ _ _ _ _ _ _ _ _ _ _ _ _ _ _ _ _ _ _ _ _ _ _⟩
    | false =>
      go_wp2
      simp only [Exit.jump]
      refine bodyPost_end (results_none rfl _ _ _) rfl ⟨rfl, HR2.out.stop fun _ => ?_⟩
      have e : (p - 1) / 2 = q := by rw [HP.out, HQ.out, Nat.add_sub_cancel]
      rw [e]
      exact fun k => by rw [(aheadB_iff _ _).2 k] at ha; cases ha
  · obtain rfl : p = 0 := by omega
    have hd : decide ((0 : Int) < ((0 : Nat) : Int)) = false := by simp
    go_upto_region 1 with (fail)
    go_quiet (fail)
    go_wp2
    simp only [Exit.jump]
    refine bodyPost_end (results_none rfl _ _ _) rfl ⟨rfl, (HR.out.bel (bel_drewN (Below.refl _ _) _)).stop (fun h => absurd h (by omega))⟩
end
end Go.Proofs.Ytboojbgcleknlaa
