/- A timer sinks to its place. -/
import Derived.Test.YtboojbgcleknlaaTimRise
namespace Go.Proofs.Ytboojbgcleknlaa
open Go Go.RowKit Go.Sort

/-- of a timer and those below it that were asked, q is due first -/
structure Fst (h : Nat → Du) (n p k q : Nat) : Prop where
  lo : 2 * p + 1 ≤ k
  hi : k ≤ 2 * p + 3
  or : q = p ∨ (0 < q ∧ (q - 1) / 2 = p ∧ ahead (h q) (h p))
  lt : q < n
  mn : ∀ i, 0 < i → i < n → (i - 1) / 2 = p → i < k → ¬ ahead (h i) (h q)
theorem Fst.start {h : Nat → Du} {n p : Nat} (hp : p < n) : Fst h n p (2 * p + 1) p := ⟨Nat.le_refl _, by omega, .inl rfl, hp, fun i h1 h2 h3 h4 => by omega⟩
theorem Fst.take {h : Nat → Du} {n p k q : Nat} (F : Fst h n p k q) (h1 : k ≤ 2 * p + 2) (h2 : k < n) (h3 : ahead (h k) (h q)) : Fst h n p (k + 1) k := by
  obtain ⟨f1, f2, f3, f4, f5⟩ := F
  refine ⟨by omega, by omega, .inr ⟨by omega, by omega, ?_⟩, h2, fun i a1 a2 a3 a4 => ?_⟩
  · rcases f3 with rfl | ⟨_, _, k3⟩
    · exact h3
    · exact ahead_trans h3 k3
  · by_cases e : i = k
    · subst e; exact ahead_irrefl _
    · exact fun x => f5 i a1 a2 a3 (by omega) (ahead_trans x h3)
theorem Fst.keep {h : Nat → Du} {n p k q : Nat} (F : Fst h n p k q) (h1 : k ≤ 2 * p + 2) (h3 : ¬ ahead (h k) (h q)) : Fst h n p (k + 1) q := by
  obtain ⟨f1, f2, f3, f4, f5⟩ := F
  refine ⟨by omega, by omega, f3, f4, fun i a1 a2 a3 a4 => ?_⟩
  by_cases e : i = k
  · subst e; exact h3
  · exact f5 i a1 a2 a3 (by omega)
theorem Fst.done {h : Nat → Du} {n p k q : Nat} (F : Fst h n p k q) (hd : 2 * p + 2 < k ∨ n ≤ k) : ∀ i, 0 < i → i < n → (i - 1) / 2 = p → ¬ ahead (h i) (h q) := fun i h1 h2 h3 => F.mn i h1 h2 h3 (by omega)

/-- what stands while a timer sinks -/
structure Sin (w w' : World) (g mb : Nat) (now : Int) (b n c : Nat) (h : Nat → Du) (N : Nat) (E : List Int) (p : Nat) (h' : Nat → Du) (f' : Int → Option Nat) : Prop where
  mem : Hq w' g mb now b n c h' N f'
  kp : Kp w w' g mb (some b)
  sk : Sink h' n p
  gd : Gd h' n f' E
  al : Alike h h' n
theorem Sin.bel {w w' w2 : World} {g mb : Nat} {now : Int} {b n c : Nat} {h : Nat → Du} {N : Nat} {E : List Int} {p : Nat} {h' : Nat → Du} {f' : Int → Option Nat} (R : Sin w w' g mb now b n c h N E p h' f') (hb : Below w'.heap.size w' w2) : Sin w w2 g mb now b n c h N E p h' f' :=
  ⟨R.mem.bel hb, R.kp.trans (Kp.of hb g mb (some b)), R.sk, R.gd, R.al⟩
/-- .. at the label -/
def SinJ (w : World) (g mb : Nat) (now : Int) (b n c : Nat) (h : Nat → Du) (N : Nat) (E : List Int) (m : Nat) (a' : Act) (w' : World) : Prop :=
  ∃ (p : Nat) (h' : Nat → Du) (f' : Int → Option Nat) (u4 u5 u6 u7 u8 u9 u10 u11 u12 u13 u14 u15 u16 u17 u18 u19 u20 u21 u22 u23 u24 u25 u26 u27 u28 u29 u30 u31 u32 u33 u34 u35 u36 u37 u38 u39 u40 u41 u42 u43 u44 u45 u46 u47 u48 u49 : Value),
    a' = { tmps := #[.pointer (some ⟨g, 0, none⟩), .int .i64 (p : Int), undef, undef, u4, u5, u6, u7, u8, u9, u10, u11, u12, u13, u14, u15, u16, u17, u18, u19, u20, u21, u22, u23, u24, u25, u26, u27, u28, u29, u30, u31, u32, u33, u34, u35, u36, u37, u38, u39, u40, u41, u42, u43, u44, u45, u46, u47, u48, u49], defers := [] } ∧ Sin w w' g mb now b n c h N E p h' f' ∧ p < n ∧ m ≤ p
def mu2 (n : Nat) (a' : Act) (_ : World) : Nat := n - (intOf (a'.tmps.getD 1 undef)).toNat
/-- the end of it -/
def SinE (w w' : World) (g mb : Nat) (now : Int) (b n c : Nat) (h : Nat → Du) (N : Nat) (E : List Int) : Prop := ∃ h' f', Hq w' g mb now b n c h' N f' ∧ Kp w w' g mb (some b) ∧ Heap h' n ∧ Gd h' n f' E ∧ Alike h h' n
section
variable {w : World} {g mb : Nat} {now : Int} {b n c : Nat} {h : Nat → Du} {N : Nat} {f : Int → Option Nat}
theorem SinJ.mk {w w' : World} {E : List Int} {p m : Nat} {h' : Nat → Du} {f' : Int → Option Nat} (R : Sin w w' g mb now b n c h N E p h' f') (hp : p < n) (hm : m ≤ p) (u4 u5 u6 u7 u8 u9 u10 u11 u12 u13 u14 u15 u16 u17 u18 u19 u20 u21 u22 u23 u24 u25 u26 u27 u28 u29 u30 u31 u32 u33 u34 u35 u36 u37 u38 u39 u40 u41 u42 u43 u44 u45 u46 u47 u48 u49 : Value) :
    SinJ w g mb now b n c h N E m { tmps := #[.pointer (some ⟨g, 0, none⟩), .int .i64 (p : Int), undef, undef, u4, u5, u6, u7, u8, u9, u10, u11, u12, u13, u14, u15, u16, u17, u18, u19, u20, u21, u22, u23, u24, u25, u26, u27, u28, u29, u30, u31, u32, u33, u34, u35, u36, u37, u38, u39, u40, u41, u42, u43, u44, u45, u46, u47, u48, u49], defers := [] } w' := ⟨p, h', f', u4, u5, u6, u7, u8, u9, u10, u11, u12, u13, u14, u15, u16, u17, u18, u19, u20, u21, u22, u23, u24, u25, u26, u27, u28, u29, u30, u31, u32, u33, u34, u35, u36, u37, u38, u39, u40, u41, u42, u43, u44, u45, u46, u47, u48, u49, rfl, R, hp, hm⟩
set_option maxRecDepth 100000 in
set_option maxHeartbeats 8000000 in
theorem sink_any (H : Hq w g mb now b n c h N f) {p0 : Nat} (hp : p0 < n) (hN : N ≤ 1000) {E : List Int} (G : Gd h n f E) (U : Sink h n p0) :
    Calls Try.prog 26 #[.pointer (some ⟨g, 0, none⟩), .int .i64 (p0 : Int)] w fun e w' => e = .returned (.tuple #[]) ∧ SinE w w' g mb now b n c h N E := by
  have HI := Lib.hid (⟨H, Kp.refl w g mb (some b), U, G, Alike.refl h n⟩ : Sin w w g mb now b n c h N E p0 h f)
  have hnl := H.len
  clear H G U
  go_enter Try.func26, Try.ntmps26
  refine wp_scope_here 0 (SinJ w g mb now b n c h N E 0) (mu2 n) (SinJ.mk HI.out hp (Nat.zero_le _) undef undef undef undef undef undef undef undef undef undef undef undef undef undef undef undef undef undef undef undef undef undef undef undef undef undef undef undef undef undef undef undef undef undef undef undef undef undef undef undef undef undef undef undef undef undef) ?_
  rintro a' w1 ⟨p, h1, f1, u4, u5, u6, u7, u8, u9, u10, u11, u12, u13, u14, u15, u16, u17, u18, u19, u20, u21, u22, u23, u24, u25, u26, u27, u28, u29, u30, u31, u32, u33, u34, u35, u36, u37, u38, u39, u40, u41, u42, u43, u44, u45, u46, u47, u48, u49, rfl, R, hpn, _⟩
  have HR := Lib.hid R
  have hmu : ∀ (x : Act) (y : World), SinJ w g mb now b n c h N E (p + 1) x y → SinJ w g mb now b n c h N E 0 x y ∧ mu2 n x y < mu2 n { tmps := #[.pointer (some ⟨g, 0, none⟩), .int .i64 (p : Int), undef, undef, u4, u5, u6, u7, u8, u9, u10, u11, u12, u13, u14, u15, u16, u17, u18, u19, u20, u21, u22, u23, u24, u25, u26, u27, u28, u29, u30, u31, u32, u33, u34, u35, u36, u37, u38, u39, u40, u41, u42, u43, u44, u45, u46, u47, u48, u49], defers := [] } w1 := by
    rintro x y ⟨p', h', f', v4, v5, v6, v7, v8, v9, v10, v11, v12, v13, v14, v15, v16, v17, v18, v19, v20, v21, v22, v23, v24, v25, v26, v27, v28, v29, v30, v31, v32, v33, v34, v35, v36, v37, v38, v39, v40, v41, v42, v43, v44, v45, v46, v47, v48, v49, rfl, R', hp', hm⟩
    refine ⟨⟨p', h', f', v4, v5, v6, v7, v8, v9, v10, v11, v12, v13, v14, v15, v16, v17, v18, v19, v20, v21, v22, v23, v24, v25, v26, v27, v28, v29, v30, v31, v32, v33, v34, v35, v36, v37, v38, v39, v40, v41, v42, v43, v44, v45, v46, v47, v48, v49, rfl, R', hp', Nat.zero_le _⟩, ?_⟩
    show n - ((p' : Nat) : Int).toNat < n - ((p : Nat) : Int).toNat
    omega
  refine Code.wp_mono (Q := Exit.jump 0 (SinJ w g mb now b n c h N E (p + 1)) (bodyPost Try.prog Try.f26 fun e w' => e = .returned (.tuple #[]) ∧ SinE w w' g mb now b n c h N E)) (fun e x y k => by
    cases e with
    | goto l => exact ⟨k.1, hmu x y k.2⟩
    | _ => exact k) ?_
  clear hmu HI
  have e1 : IntKind.i64.wrap (2 * (p : Int)) = 2 * (p : Int) := IntWalk.i64_in _ (by omega)
  have e2 : IntKind.i64.wrap (2 * (p : Int) + 1) = 2 * (p : Int) + 1 := IntWalk.i64_in _ (by omega)
  have e3 : IntKind.i64.wrap (2 * (p : Int) + 2) = 2 * (p : Int) + 2 := IntWalk.i64_in _ (by omega)
  have HS := Lib.hid (Fst.start (h := h1) hpn)
  clear R
  go_wp2
  go_loopw [4, 5] (fun x y wr => ∃ q k : Nat, x = .int .i64 q ∧ y = .int .i64 k ∧ Fst h1 n p k q ∧ Below w1.heap.size w1 wr) (fun _ y _ => 2 * p + 4 - (intOf y).toNat)
  case atStart => exact ⟨p, 2 * p + 1, rfl, by go_num, HS.out, Below.refl _ _⟩
  case round =>
    obtain ⟨q, k, rfl, rfl, F, hB⟩ := hrel
    have HF := Lib.hid F
    have HB := Lib.hid hB
    have HR2 := Lib.hid (HR.out.bel hB)
    have klo := F.lo
    have khi := F.hi
    have hqn := F.lt
    have c1 := HR2.out.mem.c1
    clear hB
    by_cases hk : k ≤ 2 * p + 2
    · have hk1 : (k : Int) ≤ 2 * (p : Int) + 2 := by omega
      by_cases hkn : k < n
      · have hk2 : (k : Int) < (n : Int) := by omega
        have hk3 : (0 : Int) ≤ (k : Int) := by omega
        have hq1 : (q : Int) < (n : Int) := by omega
        have hq2 : (0 : Int) ≤ (q : Int) := by omega
        have e4 : IntKind.i64.wrap ((k : Int) + 1) = (k : Int) + 1 := IntWalk.i64_in _ (by omega)
        have C1 := fun d os => cell_regrown c1 d os
        have r1 := HR2.out.mem.row.range hkn
        have r2 := HR2.out.mem.row.range hqn
        have HA := Lib.hid (before_gives (h1 k) (h1 q))
        clear F
        go_upto_region 4 with (fail)
        refine wp_region_quiet_below (by kernel_rfl) (by kernel_rfl) ?_
        repeat (first
          | go_big_quiet_skip
          | (go_big_quiet_want
             first
             | (first | (refine q_midD _ rfl _ _ rfl (h1 k) (by with_reducible exact r1) ?_) | (refine q_midD _ rfl _ _ rfl (h1 q) (by with_reducible exact r2) ?_)
                simp only [Act.put, List.setIfInBounds_toArray, List.set_cons_succ, List.set_cons_zero]
                go_big_quiet_on)
             | (go_big_quiet_op
                first | go_big_quiet_on | go_big_quiet_call (first | with_reducible exact HA.out.grown _ _))))
        refine wpQuiet_nil ?_
        intro w2 hw'
        have HB2 := Lib.hid (HB.out.trans ((quiet_end hw').mono HB.out.size))
        clear hw' r1 r2 c1 C1
        cases ha : aheadB (h1 k) (h1 q) with
        | true =>
          have HF2 := Lib.hid (HF.out.take hk hkn ((aheadB_iff _ _).1 ha))
          go_wp2
          exact ⟨⟨k, k + 1, rfl, by go_num, HF2.out, HB2.out⟩, by simp [intOf]; omega⟩
        | false =>
          have HF2 := Lib.hid (HF.out.keep hk (fun x => by rw [(aheadB_iff _ _).2 x] at ha; cases ha))
          go_wp2
          exact ⟨⟨q, k + 1, rfl, by go_num, HF2.out, HB2.out⟩, by simp [intOf]; omega⟩
      · have hk2 : ¬ ((k : Int) < (n : Int)) := by omega
        have HD := Lib.hid (HF.out.done (.inr (by omega)))
        clear F
        by_cases hqp : q = p
        · have hz : ((q : Int) != (p : Int)) = false := by simp [hqp]
          have HE : Hid (SinE w wr g mb now b n c h N E) := by
            have R := HR2.out
            refine ⟨h1, f1, R.mem, R.kp, R.sk.stop ?_, R.gd, R.al⟩
            have := HD.out
            rw [hqp] at this
            exact this
          clear hqp
          go_wp2
          simp only [Exit.jump]
          refine bodyPost_end (results_none rfl _ _ _) rfl ⟨rfl, HE.out⟩
        · have hz : ((q : Int) != (p : Int)) = true := by simp; omega
          have HC : Hid (Calls Try.prog 28 #[.pointer (some ⟨g, 0, none⟩), .int .i64 (p : Int), .int .i64 (q : Int)] wr fun e w' => e = .returned (.tuple #[]) ∧ Hid (∃ f', Sin w w' g mb now b n c h N E q (swp h1 p q) f' ∧ p + 1 ≤ q)) := by
            have R := HR2.out
            obtain ⟨o1, o2, o3⟩ := HF.out.or.resolve_left hqp
            refine (swap_any R.mem hpn hqn hN R.gd).mono ?_
            rintro e w3 ⟨rfl, H3, K3⟩
            exact ⟨rfl, _, ⟨H3, R.kp.trans K3, R.sk.swap hqn o2 o1 o3 HD.out, R.gd.swap hpn hqn (by omega), R.al.trans (Alike.swap h1 hpn hqn)⟩, by omega⟩
          clear hqp
          go_wp2_with (go_at_call 28; (with_reducible refine HC.out.mono ?_); rintro e w3 ⟨rfl, hF⟩)
          go_step3
          obtain ⟨f', R', hm⟩ := hF.out
          exact ⟨rfl, SinJ.mk R' hqn hm _ _ _ _ _ _ _ _ _ _ _ _ _ _ _ _ _ _ _ _ _ _ _ _ _ _ _ _ _ _ _ _ _ _ _ _ _ _ _ _ _ _ _ _ _ _⟩
    · have hk1 : ¬ ((k : Int) ≤ 2 * (p : Int) + 2) := by omega
      have HD := Lib.hid (HF.out.done (.inl (by omega)))
      clear F
      by_cases hqp : q = p
      · have hz : ((q : Int) != (p : Int)) = false := by simp [hqp]
        have HE : Hid (SinE w wr g mb now b n c h N E) := by
          have R := HR2.out
          refine ⟨h1, f1, R.mem, R.kp, R.sk.stop ?_, R.gd, R.al⟩
          have := HD.out
          rw [hqp] at this
          exact this
        clear hqp
        go_wp2
        simp only [Exit.jump]
        refine bodyPost_end (results_none rfl _ _ _) rfl ⟨rfl, HE.out⟩
      · have hz : ((q : Int) != (p : Int)) = true := by simp; omega
        have HC : Hid (Calls Try.prog 28 #[.pointer (some ⟨g, 0, none⟩), .int .i64 (p : Int), .int .i64 (q : Int)] wr fun e w' => e = .returned (.tuple #[]) ∧ Hid (∃ f', Sin w w' g mb now b n c h N E q (swp h1 p q) f' ∧ p + 1 ≤ q)) := by
          have R := HR2.out
          obtain ⟨o1, o2, o3⟩ := HF.out.or.resolve_left hqp
          refine (swap_any R.mem hpn hqn hN R.gd).mono ?_
          rintro e w3 ⟨rfl, H3, K3⟩
          exact ⟨rfl, _, ⟨H3, R.kp.trans K3, R.sk.swap hqn o2 o1 o3 HD.out, R.gd.swap hpn hqn (by omega), R.al.trans (Alike.swap h1 hpn hqn)⟩, by omega⟩
        clear hqp
        go_wp2_with (go_at_call 28; (with_reducible refine HC.out.mono ?_); rintro e w3 ⟨rfl, hF⟩)
        go_step3
        obtain ⟨f', R', hm⟩ := hF.out
        exact ⟨rfl, SinJ.mk R' hqn hm _ _ _ _ _ _ _ _ _ _ _ _ _ _ _ _ _ _ _ _ _ _ _ _ _ _ _ _ _ _ _ _ _ _ _ _ _ _ _ _ _ _ _ _ _ _⟩
end
end Go.Proofs.Ytboojbgcleknlaa
