/- A timer is set, or cancelled. -/
import Derived.Test.YtboojbgcleknlaaTimTm
namespace Go.Proofs.Ytboojbgcleknlaa
open Go Go.RowKit Go.Sort
section
variable {w w' : World} {g mb : Nat} {v : Value} {now : Int} {K : List Du}
theorem set_nil (k t : Int) (w : World) : Calls Try.prog 8 #[.pointer none, .int .i64 k, .int .i64 t] w fun e w' => e = .returned (.int .i64 6) ∧ w' = w := by
  go_enter Try.func8, Try.ntmps8
  go_wp2
  go_ret
  exact ⟨rfl, rfl⟩
theorem set_past (T : Tm w g mb v now K) {t : Int} (ht : t < now) (k : Int) : Calls Try.prog 8 #[.pointer (some ⟨g, 0, none⟩), .int .i64 k, .int .i64 t] w fun e w' => e = .returned (.int .i64 1) ∧ w' = w := by
  have c0 := T.c0
  clear T
  go_enter Try.func8, Try.ntmps8
  go_wp2
  go_ret
  exact ⟨rfl, rfl⟩
set_option maxHeartbeats 1000000 in
theorem set_full (T : Tm w g mb v now K) {t : Int} (ht : ¬ t < now) {k : Int} (hk : Fit k) (hn : hasK k K = false) (hf : 1000 ≤ K.length) : Calls Try.prog 8 #[.pointer (some ⟨g, 0, none⟩), .int .i64 k, .int .i64 t] w fun e w' => e = .returned (.int .i64 12) ∧ w' = w := by
  have c0 := T.c0
  have c1 := T.c1
  obtain ⟨a, c, rfl⟩ := T.form
  obtain ⟨h, f, T⟩ := T
  have c2 : w.cell? ⟨g, 2, none⟩ = some (.map (some mb)) := T.me.blk.cell 2
  have hfk : f k = none := by
    cases e : f k with
    | none => rfl
    | some p => have := (Gd.some T.con T.gd e).2.2; rw [hn] at this; cases this
  have hlk := T.me.map.has_no hfk hk
  have hf1 : (1000 : Int) ≤ (K.length : Int) := by omega
  clear T hfk
  generalize K.length = n at *
  go_enter Try.func8, Try.ntmps8
  go_wp2
  go_ret
  exact ⟨rfl, rfl⟩
set_option maxRecDepth 100000 in
set_option maxHeartbeats 2000000 in
theorem set_old (T : Tm w g mb v now K) {t : Int} (ht : ¬ t < now) {k : Int} (hk : Fit k) (hn : hasK k K = true) :
    Calls Try.prog 8 #[.pointer (some ⟨g, 0, none⟩), .int .i64 k, .int .i64 t] w fun e w' => e = .returned (.int .i64 0) ∧ TmN w w' g mb v now (setK k t K) := by
  have c0 := T.c0
  obtain ⟨h, f, T⟩ := T
  have c2 : w.cell? ⟨g, 2, none⟩ = some (.map (some mb)) := T.me.blk.cell 2
  obtain ⟨p, hfk⟩ : ∃ p, f k = some p := by
    cases e : f k with
    | none => have := (Gd.none T.con T.gd e).2; rw [hn] at this; cases this
    | some p => exact ⟨p, rfl⟩
  obtain ⟨hp, hpk, _⟩ := Gd.some T.con T.gd hfk
  have hlk := T.me.map.has_yes hfk hk
  obtain ⟨b, c, rfl, H⟩ := T.me.hq (Nat.lt_of_le_of_lt (Nat.zero_le _) hp)
  have hl := H.len
  have HS : Hid (Calls Try.prog 21 #[.pointer (some ⟨g, 0, none⟩), .int .i64 (p : Int), .agg #[.int .i64 k, .int .i64 t]] w fun e w1 => e = .returned (.tuple #[]) ∧
      Hid (Calls Try.prog 22 #[.pointer (some ⟨g, 0, none⟩), .int .i64 (p : Int)] w1 fun e w' => e = .returned (.tuple #[]) ∧ Hid (TmN w w' g mb (.slice (some ⟨b, 0, none⟩) K.length c) now (setK k t K)))) := by
    refine (stand_any H hp (d := ⟨k, t⟩) hk (by omega)).mono ?_
    rintro e w1 ⟨rfl, H1, K1⟩
    rw [show cntN f K.length k = K.length from cntN_some hfk] at H1
    have H1' := H1.ext (f' := f) (fun j => by
      by_cases e : j = k
      · subst e; rw [upf_at, hfk]
      · rw [upf_ne e])
    have G1 := T.gd.set_old hp t
    have C1 := T.con.set_old T.gd hp t
    rw [hpk] at G1 C1
    refine ⟨rfl, ?_⟩
    refine (settle_any H1' hp (by omega) G1 (Up.of T.heap)).mono ?_
    rintro e w2 ⟨rfl, h2, f2, H2, K2, P2, G2, A2⟩
    have C2 := C1.alike A2
    have hlen := C2.len
    refine ⟨rfl, .slice (some ⟨b, 0, none⟩) (setK k t K).length c, ⟨h2, f2, ?_, ?_, ?_, ?_⟩, K1.trans K2, .inl rfl⟩
    · have := H2.me; rw [hlen] at this; exact this
    · rw [← hlen]; exact P2
    · rw [← hlen]; exact G2
    · rw [← hlen]; exact C2
  clear T H hfk hp hpk hn hl
  go_enter Try.func8, Try.ntmps8
  go_wp2_with (first
    | (go_at_call 21; (with_reducible refine HS.out.mono ?_); rintro e w1 ⟨rfl, hC⟩)
    | (go_at_call 22; (with_reducible refine hC.out.mono ?_); rintro e w2 ⟨rfl, hF⟩))
  go_ret
  exact ⟨rfl, hF.out⟩
set_option maxRecDepth 100000 in
set_option maxHeartbeats 2000000 in
theorem set_new (T : Tm w g mb v now K) {t : Int} (ht : ¬ t < now) {k : Int} (hk : Fit k) (hn : hasK k K = false) (hf : K.length < 1000) :
    Calls Try.prog 8 #[.pointer (some ⟨g, 0, none⟩), .int .i64 k, .int .i64 t] w fun e w' => e = .returned (.int .i64 0) ∧ TmN w w' g mb v now (setK k t K) := by
  have c0 := T.c0
  have c1 := T.c1
  obtain ⟨a, c, hv⟩ := T.form
  have d1 := (T.bel ((Below.refl _ _).alloc (Nat.le_refl _) (.cells #[.int .i64 0, .int .i64 0] 53))).c1
  have hgl := T.lt
  obtain ⟨h, f, T⟩ := T
  have c2 : w.cell? ⟨g, 2, none⟩ = some (.map (some mb)) := T.me.blk.cell 2
  have hfk : f k = none := by
    cases e : f k with
    | none => rfl
    | some p => have := (Gd.some T.con T.gd e).2.2; rw [hn] at this; cases this
  have hne := (Gd.none T.con T.gd hfk).1
  have hlk := T.me.map.has_no hfk hk
  obtain ⟨b, c', W, hap, q1, q2, H, K0, hbo⟩ := T.me.app hf
  have hl := H.len
  have HS : Hid (Calls Try.prog 21 #[.pointer (some ⟨g, 0, none⟩), .int .i64 (K.length : Int), .agg #[.int .i64 k, .int .i64 t]] (W.setCell ⟨g, 1, none⟩ (.slice (some ⟨b, 0, none⟩) (K.length + 1) c')) fun e w1 => e = .returned (.tuple #[]) ∧
      Hid (Calls Try.prog 22 #[.pointer (some ⟨g, 0, none⟩), .int .i64 (K.length : Int)] w1 fun e w' => e = .returned (.tuple #[]) ∧ Hid (TmN w w' g mb v now (setK k t K)))) := by
    refine (stand_any H (Nat.lt_succ_self _) (d := ⟨k, t⟩) hk (by omega)).mono ?_
    rintro e w1 ⟨rfl, H1, K1⟩
    have hcn : cntN f K.length k = K.length + 1 := by unfold cntN; rw [hfk]; rfl
    have hup : upd (upd h K.length ⟨0, 0⟩) K.length ⟨k, t⟩ = upd h K.length ⟨k, t⟩ := by
      funext i
      by_cases e : i = K.length
      · rw [e, upd_at, upd_at]
      · rw [upd_ne e, upd_ne e, upd_ne e]
    rw [show cntN f K.length (⟨k, t⟩ : Du).id = K.length + 1 from hcn, hup] at H1
    have C1 := T.con.set_new hne t
    refine ⟨rfl, ?_⟩
    refine (settle_any H1 (Nat.lt_succ_self _) (by omega) (T.gd.set_new hfk t) (Up.of_new T.heap)).mono ?_
    rintro e w2 ⟨rfl, h2, f2, H2, K2, P2, G2, A2⟩
    have C2 := C1.alike A2
    have hlen := C2.len
    refine ⟨rfl, .slice (some ⟨b, 0, none⟩) (setK k t K).length c', ⟨h2, f2, ?_, ?_, ?_, ?_⟩, (K0.step (K1.trans K2) ?_), ?_⟩
    · have := H2.me; rw [hlen] at this; exact this
    · rw [← hlen]; exact P2
    · rw [← hlen]; exact G2
    · rw [← hlen]; exact C2
    · rcases hbo with e | e
      · exact .inl e.symm
      · exact .inr ⟨b, rfl, e⟩
    · rcases hbo with e | e
      · exact .inl e.symm
      · exact .inr ⟨b, rfl, e⟩
  have HA := Lib.hid hap
  have hf1 : ¬ (1000 : Int) ≤ (K.length : Int) := by omega
  obtain ⟨n, hnn⟩ : ∃ n, n = K.length := ⟨_, rfl⟩
  rw [← hnn] at HA HS hv hf1
  have HV := Lib.hid hv
  clear T H hfk hn hl hap hne K0 hbo hf hnn
  subst hv
  go_enter Try.func8, Try.ntmps8
  go_wp2_with (first
    | (at_builtin; refine Lib.wpList_append_run _ rfl _ _ 48 48 rfl _ _ rfl rfl _ _ HA.out ?_)
    | (go_at_call 21; (with_reducible refine HS.out.mono ?_); rintro e w1 ⟨rfl, hC⟩)
    | (go_at_call 22; (with_reducible refine hC.out.mono ?_); rintro e w2 ⟨rfl, hF⟩))
  go_ret
  exact ⟨rfl, hF.out⟩
theorem cancel_nil (k : Int) (w : World) : Calls Try.prog 10 #[.pointer none, .int .i64 k] w fun e w' => e = .returned (.bool false) ∧ w' = w := by
  go_enter Try.func10, Try.ntmps10
  go_wp2
  go_ret
  exact ⟨rfl, rfl⟩
set_option maxHeartbeats 1000000 in
theorem cancel_no (T : Tm w g mb v now K) {k : Int} (hk : Fit k) (hn : hasK k K = false) : Calls Try.prog 10 #[.pointer (some ⟨g, 0, none⟩), .int .i64 k] w fun e w' => e = .returned (.bool false) ∧ w' = w := by
  obtain ⟨h, f, T⟩ := T
  have c2 : w.cell? ⟨g, 2, none⟩ = some (.map (some mb)) := T.me.blk.cell 2
  have hfk : f k = none := by
    cases e : f k with
    | none => rfl
    | some p => have := (Gd.some T.con T.gd e).2.2; rw [hn] at this; cases this
  have hlk := T.me.map.has_no hfk hk
  clear T hfk hn
  go_enter Try.func10, Try.ntmps10
  go_wp2
  go_ret
  exact ⟨rfl, rfl⟩
/-- some ids are forgotten that are no timer's any more -/
theorem Gd.gone {h : Nat → Du} {n : Nat} {f : Int → Option Nat} {E : List Int} (G : Gd h n f E) : Gd h n (rml f E) [] := by
  have hx : ∀ i, i < n → (h i).id ∉ E := fun i hi hm => (G.ext _ hm).2 i hi rfl
  refine ⟨fun i hi => ?_, fun k hk => ?_, (fun k hk => by cases hk), List.nodup_nil⟩
  · unfold rml; rw [if_neg (hx i hi)]; exact G.fits i hi
  · unfold rml at hk
    split at hk
    · exact absurd rfl hk
    · rename_i hm
      rcases G.back k hk with h | h
      · exact .inl h
      · exact absurd h hm
/-- .. if there is none left, all -/
theorem Gd.all {h : Nat → Du} {f : Int → Option Nat} {E : List Int} (G : Gd h 0 f E) : ∀ k, rml f E k = Option.none := fun k => by
  unfold rml
  split
  · rfl
  · rename_i hm
    cases e : f k with
    | none => rfl
    | some p =>
      rcases G.back k (by rw [e]; simp) with ⟨i, hi, _⟩ | h
      · omega
      · exact absurd h hm
/-- .. in memory -/
theorem forget_any {b n c N : Nat} {h : Nat → Du} {f : Int → Option Nat} {E : List Int} {u : Value} (H : Hq w g mb now b n c h N f) (G : Gd h n f E) (hN : N = n + E.length) (hN2 : N ≤ 1000) (hu : IsI w u E) (hF : ∀ k ∈ E, Fit k) :
    Calls Try.prog 24 #[.pointer (some ⟨g, 0, none⟩), u] w fun e w' => e = .returned (.tuple #[]) ∧ Hq w' g mb now b n c h n (rml f E) ∧ Gd h n (rml f E) [] ∧ Kp w w' g mb (some b) ∧ w.grownBy w' (some mb) := by
  rcases Nat.eq_zero_or_pos n with h0 | h0
  · subst h0
    refine (forget_all H.blk H.map).mono ?_
    rintro e w1 ⟨rfl, m1, g1⟩
    exact ⟨rfl, H.mapped g1 (m1.ext G.all), G.gone, Kp.map g1, g1⟩
  · refine (forget_each H.blk h0 H.map hu (fun k hk => ⟨(G.ext k hk).1, hF k hk⟩) G.nodup (by omega)).mono ?_
    rintro e w1 ⟨rfl, m1, g1⟩
    rw [show N - E.length = n by omega] at m1
    exact ⟨rfl, H.mapped g1 m1, G.gone, Kp.map g1, g1⟩
set_option maxRecDepth 100000 in
set_option maxHeartbeats 2000000 in
theorem cancel_yes (T : Tm w g mb v now K) {k : Int} (hk : Fit k) (hn : hasK k K = true) : Calls Try.prog 10 #[.pointer (some ⟨g, 0, none⟩), .int .i64 k] w fun e w' => e = .returned (.bool true) ∧ TmN w w' g mb v now (delK k K) := by
  obtain ⟨h, f, T⟩ := T
  have c2 : w.cell? ⟨g, 2, none⟩ = some (.map (some mb)) := T.me.blk.cell 2
  obtain ⟨p, hfk⟩ : ∃ p, f k = some p := by
    cases e : f k with
    | none => have := (Gd.none T.con T.gd e).2; rw [hn] at this; cases this
    | some p => exact ⟨p, rfl⟩
  obtain ⟨hp, hpk, _⟩ := Gd.some T.con T.gd hfk
  have hlk := T.me.map.has_yes hfk hk
  obtain ⟨b, c, rfl, H⟩ := T.me.hq (Nat.lt_of_le_of_lt (Nat.zero_le _) hp)
  have hl := H.len
  obtain ⟨m, hm⟩ : ∃ m, K.length = m + 1 := ⟨K.length - 1, by omega⟩
  have HS : Hid (Calls Try.prog 23 #[.pointer (some ⟨g, 0, none⟩), .int .i64 (p : Int)] w fun e w1 => e = .returned (.tuple #[]) ∧
      Hid (Calls Try.prog 24 #[.pointer (some ⟨g, 0, none⟩), .slice (some ⟨w1.heap.size, 0, none⟩) 1 1] (w1.alloc (.cells #[.int .i64 k] 3)) fun e w' => e = .returned (.tuple #[]) ∧ Hid (TmN w w' g mb (.slice (some ⟨b, 0, none⟩) K.length c) now (delK k K)))) := by
    have H' := H
    have G' := T.gd
    have P' := T.heap
    have C' := T.con
    rw [hm] at H' G' P' C' hp
    refine (take_any H' hp (by omega) G' P').mono ?_
    rintro e w1 ⟨rfl, h1, f1, H1, K1, P1, G1, B1⟩
    rw [List.nil_append, hpk] at G1
    have C1 := C'.del G' hp B1
    rw [hpk] at C1
    have hlen := C1.len
    have hB : Below w1.heap.size w1 (w1.alloc (.cells #[.int .i64 k] 3)) := (Below.refl _ _).alloc (Nat.le_refl _) _
    refine ⟨rfl, ?_⟩
    refine (forget_any (H1.bel hB) G1 (by simp) (by omega) (E := [k]) ⟨_, _, rfl, .inr ⟨_, _, rfl, Blk.new w1 #[.int .i64 k] 3, fun j x hj => ?_⟩⟩ (fun j hj => by obtain rfl := List.mem_singleton.1 hj; exact hk)).mono ?_
    · cases j with
      | zero => simp at hj; simp [hj]
      | succ j => simp at hj
    · rintro e w2 ⟨rfl, H2, G2, K2, _⟩
      refine ⟨rfl, .slice (some ⟨b, 0, none⟩) (delK k K).length c, ⟨h1, rml f1 [k], ?_, ?_, ?_, ?_⟩, (K1.trans (Kp.of hB g mb _)).trans K2, .inl rfl⟩
      · have := H2.me; rw [hlen] at this; exact this
      · rw [← hlen]; exact P1
      · rw [← hlen]; exact G2
      · rw [← hlen]; exact C1
  clear T H hfk hp hpk hn hl hm
  go_enter Try.func10, Try.ntmps10
  go_wp2_with (first
    | (go_at_call 23; (with_reducible refine HS.out.mono ?_); rintro e w1 ⟨rfl, hC⟩)
    | (go_at_call 24; (with_reducible refine hC.out.mono ?_); rintro e w2 ⟨rfl, hF⟩))
  go_ret
  exact ⟨rfl, hF.out⟩
end
end Go.Proofs.Ytboojbgcleknlaa
