/- What stands at a place is taken out of the heap. -/
import Derived.Test.YtboojbgcleknlaaTimSink
import Derived.Laws.Slices
import Derived.Deep.Slices
namespace Go.Proofs.Ytboojbgcleknlaa
open Go Go.RowKit Go.Sort

section
variable {w : World} {g mb : Nat} {now : Int} {b n c : Nat} {h : Nat → Du} {N : Nat} {f : Int → Option Nat}
set_option maxHeartbeats 1000000 in
theorem settle_any (H : Hq w g mb now b n c h N f) {p : Nat} (hp : p < n) (hN : N ≤ 1000) {E : List Int} (G : Gd h n f E) (U : Up h n p p) :
    Calls Try.prog 22 #[.pointer (some ⟨g, 0, none⟩), .int .i64 (p : Int)] w fun e w' => e = .returned (.tuple #[]) ∧ SinE w w' g mb now b n c h N E := by
  have HA := Lib.hid (rise_any H hp hN G U)
  have HB : Hid (∀ w1, RisE w w1 g mb now b n c h N E p → Calls Try.prog 26 #[.pointer (some ⟨g, 0, none⟩), .int .i64 (p : Int)] w1 fun e w' => e = .returned (.tuple #[]) ∧ Hid (SinE w w' g mb now b n c h N E)) := by
    rintro w1 ⟨h1, f1, H1, K1, S1, G1, A1⟩
    refine (sink_any H1 hp hN G1 S1).mono ?_
    rintro e w2 ⟨rfl, h2, f2, H2, K2, P2, G2, A2⟩
    exact ⟨rfl, h2, f2, H2, K1.trans K2, P2, G2, A1.trans A2⟩
  clear H G U
  go_enter Try.func22, Try.ntmps22
  go_wp2_with (first
    | (go_at_call 25; (with_reducible refine HA.out.mono ?_); rintro e w1 ⟨rfl, hR⟩; have HC := Lib.hid (HB.out w1 hR); clear hR)
    | (go_at_call 26; (with_reducible refine HC.out.mono ?_); rintro e w2 ⟨rfl, hF⟩))
  refine bodyPost_end (results_none rfl _ _ _) rfl ⟨rfl, hF.out⟩
end

/-- row[:r] -/
theorem wpList_to {P : Program} {ops : Array Oper} {w : World} {rest : List Oper} {o : Oper} {a : Act} {Q : Exit → Act → World → Prop} (hgd : o.guard = none) (T : TypeId) (s hi_ : Operand)
    (ho : o.op = .slice T s none (some hi_) none) (e : TypeId) (size : Nat) (hT : P.underlying T = some (.slice e)) (hi : (P.info? e).map (·.size) = some size)
    (b off n c r : Nat) (z : Int) (hs : a.eval s = .slice (some ⟨b, off, none⟩) n c) (hlo : a.eval hi_ = .int .i64 z) (hz : z = (r : Int)) (hr : r ≤ c)
    (h : wpList P ops Q rest (a.put o.dst (.slice (some ⟨b, off, none⟩) r c)) w) : wpList P ops Q (o :: rest) a w := by
  subst hz
  have hel : P.elem T = e := by simp [Program.elem, hT]
  have hT' : P.underlying T = some (.slice (P.elem T)) := by rw [hel]; exact hT
  obtain ⟨i, hi', hq⟩ := Option.map_eq_some_iff.1 hi
  have hr' : (Instr.sliceAt T (.slice (some ⟨b, off, none⟩) n c) none (some (.int .i64 (r : Int))) none).run P w = .ok (sliced (some ⟨b, off, none⟩) 0 r c size) w := by
    rw [run_sliceAt_slice w T _ _ _ _ hT', run_slice_h w T _ n c hT' .i64 (r : Int) (by omega) (by omega), hel]
    simp [sizeOf, typeInfo, hi', Result.andThen, hq]
  have hv : sliced (some ⟨b, off, none⟩) 0 r c size = .slice (some ⟨b, off, none⟩) r c := by
    unfold sliced; split <;> simp [Addr.add_mid]
  rw [hv] at hr'
  refine wpList_plain hgd fun K hK => ?_
  unfold Oper.wp execOp
  simp only [ho, hs, hlo, Option.map, hr', Sem.run_bind, Sem.run_pure, Result.andThen_ok]
  exact hK _ _ h
/-- a timer of the row is loaded -/
theorem p_midD {ops : Array Oper} {rest : List Oper} {o : Oper} {a : Act} {w : World} {Q : Exit → Act → World → Prop} (hgd : o.guard = none) (x : Operand) (ho : o.op = .load 53 x)
    (b i : Nat) (hx : a.eval x = .pointer (some ⟨b, i, none⟩)) (d : Du) (hg : w.rangeAt b i (duC d).toList)
    (h : wpList Try.prog ops Q rest (a.put o.dst (.agg #[.int .i64 d.id, .int .i64 d.tm])) w) : wpList Try.prog ops Q (o :: rest) a w :=
  wpList_load_mid hgd 53 x ho b i hx (duC d).toList _ hg Try.underlying53 rfl sizeD h

theorem Gd.last {h : Nat → Du} {m : Nat} {f : Int → Option Nat} {E : List Int} (G : Gd h (m + 1) f E) : Gd h m f (E ++ [(h m).id]) := by
  refine ⟨fun i hi => G.fits i (by omega), fun k hk => ?_, fun k hk => ?_, ?_⟩
  · rcases G.back k hk with ⟨i, hi, e⟩ | he
    · by_cases ei : i = m
      · subst ei; exact .inr (by simp [e])
      · exact .inl ⟨i, by omega, e⟩
    · exact .inr (by simp [he])
  · rcases List.mem_append.1 hk with hk | hk
    · obtain ⟨h1, h2⟩ := G.ext k hk
      exact ⟨h1, fun i hi => h2 i (by omega)⟩
    · obtain rfl := List.mem_singleton.1 hk
      exact ⟨by rw [G.fits m (by omega)]; simp, fun i hi e => by have := G.inj (by omega) (by omega) e; omega⟩
  · refine List.nodup_append.2 ⟨G.nodup, by simp, fun a ha x hx => ?_⟩
    obtain rfl := List.mem_singleton.1 hx
    exact fun e => (G.ext a ha).2 m (by omega) e.symm
theorem Gd.mid {h : Nat → Du} {m p : Nat} {f : Int → Option Nat} {E : List Int} (G : Gd h (m + 1) f E) (hp : p < m) : Gd (upd h p (h m)) m (upf f (h m).id p) (E ++ [(h p).id]) := by
  have hpm : (h p).id ≠ (h m).id := fun e => by have := G.inj (by omega) (by omega) e; omega
  refine ⟨fun i hi => ?_, fun k hk => ?_, fun k hk => ?_, ?_⟩
  · by_cases e : i = p
    · subst e; rw [upd_at, upf_at]
    · rw [upd_ne e, upf_ne (fun x => by have := G.inj (i := i) (j := m) (by omega) (by omega) x; omega)]
      exact G.fits i (by omega)
  · by_cases ek : k = (h m).id
    · exact .inl ⟨p, hp, by rw [upd_at, ek]⟩
    · rw [upf_ne ek] at hk
      rcases G.back k hk with ⟨i, hi, e⟩ | he
      · by_cases ei : i = m
        · subst ei; exact absurd e.symm ek
        · by_cases ep : i = p
          · subst ep; exact .inr (by simp [e])
          · exact .inl ⟨i, by omega, by rw [upd_ne ep]; exact e⟩
      · exact .inr (by simp [he])
  · rcases List.mem_append.1 hk with hk | hk
    · obtain ⟨h1, h2⟩ := G.ext k hk
      refine ⟨by rw [upf_ne (fun e => h2 m (by omega) e.symm)]; exact h1, fun i hi => ?_⟩
      by_cases e : i = p
      · subst e; rw [upd_at]; exact h2 m (by omega)
      · rw [upd_ne e]; exact h2 i (by omega)
    · obtain rfl := List.mem_singleton.1 hk
      refine ⟨by rw [upf_ne hpm, G.fits p (by omega)]; simp, fun i hi => ?_⟩
      by_cases e : i = p
      · subst e; rw [upd_at]; exact fun x => hpm x.symm
      · rw [upd_ne e]; exact fun x => e (G.inj (by omega) (by omega) x)
  · refine List.nodup_append.2 ⟨G.nodup, by simp, fun a ha x hx => ?_⟩
    obtain rfl := List.mem_singleton.1 hx
    exact fun e => (G.ext a ha).2 p (by omega) e.symm
/-- all but what stood at p -/
def But (h h' : Nat → Du) (m p : Nat) : Prop := ∀ d, (∃ i, i < m ∧ h' i = d) ↔ ∃ i, i < m + 1 ∧ i ≠ p ∧ h i = d
theorem But.last (h : Nat → Du) (m : Nat) : But h h m m := fun d =>
  ⟨fun ⟨i, hi, e⟩ => ⟨i, by omega, by omega, e⟩, fun ⟨i, hi, hn, e⟩ => ⟨i, by omega, e⟩⟩
theorem But.mid (h : Nat → Du) {m p : Nat} (hp : p < m) : But h (upd h p (h m)) m p := fun d => by
  constructor
  · rintro ⟨i, hi, e⟩
    by_cases ei : i = p
    · subst ei; rw [upd_at] at e; exact ⟨m, by omega, by omega, e⟩
    · rw [upd_ne ei] at e; exact ⟨i, by omega, ei, e⟩
  · rintro ⟨i, hi, hn, e⟩
    by_cases ei : i = m
    · subst ei; exact ⟨p, hp, by rw [upd_at]; exact e⟩
    · exact ⟨i, by omega, by rw [upd_ne hn]; exact e⟩
theorem But.alike {h h1 h2 : Nat → Du} {m p : Nat} (B : But h h1 m p) (A : Alike h1 h2 m) : But h h2 m p := fun d => (A d).trans (B d)
/-- behind a timer that was taken from place p -/
def TakE (w w' : World) (g mb : Nat) (now : Int) (b m c : Nat) (h : Nat → Du) (N : Nat) (E : List Int) (p : Nat) : Prop :=
  ∃ h' f', Hq w' g mb now b m c h' N f' ∧ Kp w w' g mb (some b) ∧ Heap h' m ∧ Gd h' m f' (E ++ [(h p).id]) ∧ But h h' m p
section
variable {w : World} {g mb : Nat} {now : Int} {b m c : Nat} {h : Nat → Du} {N : Nat} {f : Int → Option Nat}
/-- the row is cut -/
theorem Hq.cut (H : Hq w g mb now b (m + 1) c h N f) : Hq (w.setCell ⟨g, 1, none⟩ (.slice (some ⟨b, 0, none⟩) m c)) g mb now b m c h N f := by
  have e : ∀ j, j ≠ g → (w.setCell ⟨g, 1, none⟩ (.slice (some ⟨b, 0, none⟩) m c)).heap[j]? = w.heap[j]? := fun j hj => heap_setCell_other _ ⟨g, 1, none⟩ j _ hj
  exact ⟨H.blk.put 1 _, (H.row.same (e b H.ne)).less (Nat.le_succ _), H.map.same (e mb (Ne.symm H.gm)), H.ne, H.cap, fun i hi => H.ids i (by omega), by have := H.len; omega⟩
set_option maxRecDepth 100000 in
set_option maxHeartbeats 2000000 in
theorem take_any (H : Hq w g mb now b (m + 1) c h N f) {p : Nat} (hp : p < m + 1) (hN : N ≤ 1000) {E : List Int} (G : Gd h (m + 1) f E) (P : Heap h (m + 1)) :
    Calls Try.prog 23 #[.pointer (some ⟨g, 0, none⟩), .int .i64 (p : Int)] w fun e w' => e = .returned (.tuple #[]) ∧ TakE w w' g mb now b m c h N E p := by
  have c1 := H.c1
  have r1 := H.row.range (Nat.lt_succ_self m)
  have hl := H.len
  have hgl := H.lt
  have hf := H.blk.free 1
  have hcap : m + 1 ≤ c := by obtain ⟨cur, _, _, k, _⟩ := H.row; exact k
  have hsz : (w.setCell ⟨g, 1, none⟩ (.slice (some ⟨b, 0, none⟩) m c)).heap.size = w.heap.size := by simp [World.setCell]
  have hB : Below (w.setCell ⟨g, 1, none⟩ (.slice (some ⟨b, 0, none⟩) m c)).heap.size (w.setCell ⟨g, 1, none⟩ (.slice (some ⟨b, 0, none⟩) m c)) ((w.setCell ⟨g, 1, none⟩ (.slice (some ⟨b, 0, none⟩) m c)).alloc (.cells #[.int .i64 (h m).id, .int .i64 (h m).tm] 53)) := (Below.refl _ _).alloc (Nat.le_refl _) _
  have b0 := Blk.new w #[.int .i64 (h m).id, .int .i64 (h m).tm] 53
  have b2 := Blk.new (w.setCell ⟨g, 1, none⟩ (.slice (some ⟨b, 0, none⟩) m c)) #[.int .i64 (h m).id, .int .i64 (h m).tm] 53
  rw [hsz] at b2
  have H2 := H.cut.bel hB
  have K2 : Kp w ((w.setCell ⟨g, 1, none⟩ (.slice (some ⟨b, 0, none⟩) m c)).alloc (.cells #[.int .i64 (h m).id, .int .i64 (h m).tm] 53)) g mb (some b) := (Kp.own w g mb (some b) 1 _).trans (Kp.of hB g mb (some b))
  have H1 := H.bel ((Below.refl _ _).alloc (Nat.le_refl _) (.cells #[.int .i64 (h m).id, .int .i64 (h m).tm] 53))
  have d1 := H1.c1
  have hf1 := H1.blk.free 1
  obtain ⟨n, hn⟩ : ∃ n, n = m + 1 := ⟨_, rfl⟩
  have hz : IntKind.i64.wrap ((n : Int) - 1) = (m : Int) := by rw [IntWalk.i64_in _ (by omega)]; omega
  have hmn : (m : Int) < (n : Int) := by omega
  have hm0 : (0 : Int) ≤ (m : Int) := by omega
  have HS : Hid (p < m → Calls Try.prog 21 #[.pointer (some ⟨g, 0, none⟩), .int .i64 (p : Int), .agg #[.int .i64 (h m).id, .int .i64 (h m).tm]] ((w.setCell ⟨g, 1, none⟩ (.slice (some ⟨b, 0, none⟩) m c)).alloc (.cells #[.int .i64 (h m).id, .int .i64 (h m).tm] 53)) fun e w1 => e = .returned (.tuple #[]) ∧
      Hid (Calls Try.prog 22 #[.pointer (some ⟨g, 0, none⟩), .int .i64 (p : Int)] w1 fun e w' => e = .returned (.tuple #[]) ∧ Hid (TakE w w' g mb now b m c h N E p))) := by
    intro hpm
    refine (stand_any H2 hpm (d := h m) (H.ids m (by omega)) hN).mono ?_
    rintro e w3 ⟨rfl, H3, K3⟩
    rw [cntN_some (G.fits m (by omega))] at H3
    refine ⟨rfl, ?_⟩
    refine (settle_any H3 hpm hN (G.mid hpm) (Up.of (P.less (Nat.le_succ m)))).mono ?_
    rintro e w4 ⟨rfl, h4, f4, H4, K4, P4, G4, A4⟩
    exact ⟨rfl, h4, f4, H4, (K2.trans K3).trans K4, P4, G4, (But.mid h hpm).alike A4⟩
  have HE : Hid (p = m → TakE w ((w.setCell ⟨g, 1, none⟩ (.slice (some ⟨b, 0, none⟩) m c)).alloc (.cells #[.int .i64 (h m).id, .int .i64 (h m).tm] 53)) g mb now b m c h N E p) := by
    rintro rfl
    exact ⟨h, f, H2, K2, P.less (Nat.le_succ _), G.last, But.last h p⟩
  have HR := Lib.hid r1
  have q0 := b2.cell 0
  have q1 := b2.cell 1
  rw [← hn] at c1 d1
  have HN := Lib.hid hn
  clear H G P H1 H2 K2 b2 hB b0 r1 hsz
  by_cases hpm : p < m
  · have hpm1 : (p : Int) < (m : Int) := by omega
    have HS1 := Lib.hid (HS.out hpm)
    clear hn
    go_enter Try.func23, Try.ntmps23
    go_wp2_with (first
      | (refine p_midD rfl _ rfl b (m * 2) rfl (h m) HR.out ?_)
      | (refine wpList_to rfl 48 _ _ rfl 53 2 Try.underlying48 sizeD b 0 n c m (m : Int) rfl rfl rfl (by omega) ?_)
      | (go_at_call 21; (with_reducible refine HS1.out.mono ?_); rintro e w1 ⟨rfl, hC⟩)
      | (go_at_call 22; (with_reducible refine hC.out.mono ?_); rintro e w2 ⟨rfl, hF⟩))
    refine bodyPost_end (results_none rfl _ _ _) rfl ⟨rfl, hF.out⟩
  · have hpm1 : ¬ (p : Int) < (m : Int) := by omega
    have hpe : p = m := by omega
    have HE1 := Lib.hid (HE.out hpe)
    clear hn hpe
    go_enter Try.func23, Try.ntmps23
    go_wp2_with (first
      | (refine p_midD rfl _ rfl b (m * 2) rfl (h m) HR.out ?_)
      | (refine wpList_to rfl 48 _ _ rfl 53 2 Try.underlying48 sizeD b 0 n c m (m : Int) rfl rfl rfl (by omega) ?_))
    refine bodyPost_end (results_none rfl _ _ _) rfl ⟨rfl, HE1.out⟩
end
end Go.Proofs.Ytboojbgcleknlaa
