/- The document's timers: Next, Set. -/
import Derived.Test.YtboojbgcleknlaaTimRef
namespace Go.Proofs.Ytboojbgcleknlaa
open Go Go.RowKit Go.Sort

/-- the one that is due first among the first p, or none -/
def Least (L : List Du) (p : Nat) (m : Du) : Prop := (p = 0 ∧ m = ⟨0, 0⟩) ∨ (m ∈ L.take p ∧ ∀ d ∈ L.take p, ¬ ahead d m)
theorem Least.step {L : List Du} {p : Nat} {m d : Du} (h : Least L p m) (hd : L[p]? = some d) : (p = 0 ∨ aheadB d m = true → Least L (p + 1) d) ∧ (p ≠ 0 → aheadB d m = false → Least L (p + 1) m) := by
  have e := take_snoc hd
  constructor
  · intro hc
    refine .inr ⟨by rw [e]; simp, fun x hx => ?_⟩
    rw [e] at hx
    rcases List.mem_append.1 hx with hx | hx
    · rcases h with ⟨rfl, _⟩ | ⟨_, h2⟩
      · simp at hx
      · rcases hc with rfl | hc
        · simp at hx
        · exact fun k => h2 x hx (ahead_trans k ((aheadB_iff _ _).1 hc))
    · rw [List.mem_singleton.1 hx]; exact ahead_irrefl _
  · intro hp hc
    rcases h with ⟨h0, _⟩ | ⟨h1, h2⟩
    · exact absurd h0 hp
    · refine .inr ⟨by rw [e]; exact List.mem_append_left _ h1, fun x hx => ?_⟩
      rw [e] at hx
      rcases List.mem_append.1 hx with hx | hx
      · exact h2 x hx
      · rw [List.mem_singleton.1 hx]
        exact fun k => by rw [(aheadB_iff _ _).2 k] at hc; cases hc
/-- what is told of a row in any order is what is told of it in order -/
theorem Least.next {L K : List Du} {m : Du} (h : Least L L.length m) (hp : L.Perm K) (ho : Ord K) : nextV K = .tuple #[.int .i64 m.id, .int .i64 m.tm, .bool (decide (0 < L.length))] := by
  cases K with
  | nil =>
    obtain rfl : L = [] := hp.eq_nil
    rcases h with ⟨_, rfl⟩ | ⟨h1, _⟩
    · rfl
    · cases h1
  | cons d K =>
    have hl := hp.length_eq
    rw [List.length_cons] at hl
    rcases h with ⟨h0, _⟩ | ⟨h1, h2⟩
    · omega
    · rw [List.take_length] at h1 h2
      have e : m = d := by
        rcases List.mem_cons.1 ((hp.mem_iff).1 h1) with e | e
        · exact e
        · exact absurd ((List.pairwise_cons.1 ho).1 _ e) (h2 d ((hp.mem_iff).2 (List.mem_cons_self ..)))
      rw [e]
      simp only [nextV]
      rw [show decide (0 < L.length) = true by simp; omega]
section
variable {w w' : World} {r : Nat} {v : Value} {now : Int} {L : List Du}
theorem zeroO (w : World) : (zeroValue 57).run Try.prog w = .ok (.agg #[.int .i64 0, .int .i64 0]) w := by kernel_rfl
set_option maxRecDepth 100000 in
set_option maxHeartbeats 8000000 in
theorem refnext_least (R : Rf w r v now L) :
    Calls Try.prog 16 #[.pointer (some ⟨r, 0, none⟩)] w fun e w' => (∃ m, Least L L.length m ∧ e = .returned (.tuple #[.int .i64 m.id, .int .i64 m.tm, .bool (decide (0 < L.length))])) ∧ Below w.heap.size w w' := by
  have HR := Lib.hid R
  have hlen := R.len
  obtain ⟨n, hn⟩ : ∃ n, n = L.length := ⟨_, rfl⟩
  have HN := Lib.hid hn
  rw [← hn] at hlen ⊢
  obtain ⟨va, vc, hv⟩ := R.form
  rw [← hn] at hv
  have HV := Lib.hid hv
  have B0 := Lib.hid (Blk.new w #[.int .i64 0, .int .i64 0] 57)
  have hB0 : Below w.heap.size w (w.alloc (.cells #[.int .i64 0, .int .i64 0] 57)) := (Below.refl _ _).alloc (Nat.le_refl _) _
  have HB0 := Lib.hid hB0
  clear R hn hv hB0
  go_enter Try.func16, Try.ntmps16
  go_wp2
  go_loopw [6] (fun kv wr => ∃ (p : Nat) (m : Du), p ≤ n ∧ kv = .int .i64 p ∧ Least L p m ∧ Blk wr w.heap.size (duC m) 57 ∧ Below w.heap.size w wr) (fun kv _ => n - (intOf kv).toNat)
  case atStart => exact ⟨0, ⟨0, 0⟩, by omega, rfl, .inl ⟨rfl, rfl⟩, B0.out, HB0.out⟩
  case round =>
    obtain ⟨p, m, hp, rfl, hL, hM, hB⟩ := hrel
    have HL := Lib.hid hL
    have HM := Lib.hid hM
    have HB := Lib.hid hB
    have hsz := hM.lt
    have m0 : wr.cell? ⟨w.heap.size, 0, none⟩ = some (.int .i64 m.id) := hM.cell 0
    have m1 : wr.cell? ⟨w.heap.size, 1, none⟩ = some (.int .i64 m.tm) := hM.cell 1
    have c0 := (HR.out.bel hB).c0
    rw [HV.out] at c0
    clear hL hM hB
    by_cases hlt : p < n
    · obtain ⟨x, hx⟩ : ∃ x, L[p]? = some x := ⟨_, List.getElem?_eq_getElem (by have := HN.out; omega)⟩
      obtain ⟨b, c', hv', d0, d1, d2⟩ := (HR.out.bel HB.out).item hx
      rw [← HN.out] at hv'
      obtain rfl : va = some ⟨b, 0, none⟩ := by
        have := HV.out.symm.trans hv'
        simp only [Value.slice.injEq] at this
        exact this.1
      have B1 := Blk.new wr #[.int .i64 x.id, .int .i64 x.tm] 57
      have x0 : (wr.alloc (.cells #[.int .i64 x.id, .int .i64 x.tm] 57)).cell? ⟨wr.heap.size, 0, none⟩ = some (.int .i64 x.id) := B1.cell 0
      have x1 : (wr.alloc (.cells #[.int .i64 x.id, .int .i64 x.tm] 57)).cell? ⟨wr.heap.size, 1, none⟩ = some (.int .i64 x.tm) := B1.cell 1
      have M1 := Lib.hid (HM.out.alloc (.cells #[.int .i64 x.id, .int .i64 x.tm] 57))
      have HB1 := Lib.hid (HB.out.alloc HB.out.size (.cells #[.int .i64 x.id, .int .i64 x.tm] 57))
      have HS := Lib.hid (HL.out.step hx)
      clear d0 hv' hx B1
      obtain ⟨mi, mt⟩ := m
      obtain ⟨xi, xt⟩ := x
      simp only at d1 d2 m0 m1 x0 x1
      by_cases hp0 : p = 0
      · subst hp0
        have HL2 := Lib.hid (HS.out.1 (.inl rfl))
        go_upto_region 6 with (refine p_midO rfl _ rfl b (0 * 2) rfl ⟨xi, xt⟩ d1 d2 ?_)
        go_upto_region 7 with (fail)
        go_wp2_with (refine p_storeO rfl _ _ rfl w.heap.size rfl ⟨xi, xt⟩ rfl _ rfl M1.out ?_)
        exact ⟨⟨0 + 1, ⟨xi, xt⟩, by omega, by go_num, HL2.out, M1.out.setRow _, bel_setRow HB1.out (Nat.le_refl _) _⟩, by simp [intOf]; omega⟩
      · have hq1 : ((p : Int) == 0) = false := by simp; omega
        have hq2 : ¬ ((p : Int) = 0) := by omega
        by_cases h1 : xt < mt
        · have HL2 := Lib.hid (HS.out.1 (.inr (by simp [aheadB, h1])))
          go_upto_region 6 with (refine p_midO rfl _ rfl b (p * 2) rfl ⟨xi, xt⟩ d1 d2 ?_)
          go_upto_region 7 with (fail)
          go_wp2_with (refine p_storeO rfl _ _ rfl w.heap.size rfl ⟨xi, xt⟩ rfl _ rfl M1.out ?_)
          exact ⟨⟨p + 1, ⟨xi, xt⟩, by omega, by go_num, HL2.out, M1.out.setRow _, bel_setRow HB1.out (Nat.le_refl _) _⟩, by simp [intOf]; omega⟩
        · by_cases h2 : xt = mt
          · subst h2
            by_cases h3 : xi < mi
            · have HL2 := Lib.hid (HS.out.1 (.inr (by simp [aheadB, h3])))
              go_upto_region 6 with (refine p_midO rfl _ rfl b (p * 2) rfl ⟨xi, xt⟩ d1 d2 ?_)
              go_upto_region 7 with (fail)
              go_wp2_with (refine p_storeO rfl _ _ rfl w.heap.size rfl ⟨xi, xt⟩ rfl _ rfl M1.out ?_)
              exact ⟨⟨p + 1, ⟨xi, xt⟩, by omega, by go_num, HL2.out, M1.out.setRow _, bel_setRow HB1.out (Nat.le_refl _) _⟩, by simp [intOf]; omega⟩
            · have HL2 := Lib.hid (HS.out.2 hp0 (by simp [aheadB]; omega))
              go_upto_region 6 with (refine p_midO rfl _ rfl b (p * 2) rfl ⟨xi, xt⟩ d1 d2 ?_)
              go_wp2
              exact ⟨⟨p + 1, ⟨mi, xt⟩, by omega, by go_num, HL2.out, M1.out, HB1.out⟩, by simp [intOf]; omega⟩
          · have HL2 := Lib.hid (HS.out.2 hp0 (by simp [aheadB, h1, h2]))
            go_upto_region 6 with (refine p_midO rfl _ rfl b (p * 2) rfl ⟨xi, xt⟩ d1 d2 ?_)
            go_wp2
            exact ⟨⟨p + 1, ⟨mi, mt⟩, by omega, by go_num, HL2.out, M1.out, HB1.out⟩, by simp [intOf]; omega⟩
    · obtain rfl : n = p := by omega
      have HE : Hid (Least L n m) := HL.out
      go_upto_region 8 with (fail)
      go_quiet (fail)
      go_wp2
      go_ret3
      refine ⟨⟨m, HE.out, ?_⟩, bel_drewN HB.out _⟩
      simp
end
end Go.Proofs.Ytboojbgcleknlaa
