/- The document's timers: Set, Tick. -/
import Derived.Test.YtboojbgcleknlaaTimRef2
namespace Go.Proofs.Ytboojbgcleknlaa
open Go Go.RowKit Go.Sort
section
variable {w w' : World} {r : Nat} {v : Value} {now : Int} {L K : List Du}
theorem refnext_any (R : Rf w r v now L) (hp : L.Perm K) (ho : Ord K) : Calls Try.prog 16 #[.pointer (some ⟨r, 0, none⟩)] w fun e w' => e = .returned (nextV K) ∧ Below w.heap.size w w' := by
  refine (refnext_least R).mono ?_
  rintro e w1 ⟨⟨m, hm, rfl⟩, hb⟩
  exact ⟨by rw [hm.next hp ho], hb⟩
theorem refset_past (R : Rf w r v now L) {t : Int} (ht : t < now) (k : Int) : Calls Try.prog 9 #[.pointer (some ⟨r, 0, none⟩), .int .i64 k, .int .i64 t] w fun e w' => e = .returned (.int .i64 1) ∧ w' = w := by
  have c1 := R.c1
  clear R
  go_enter Try.func9, Try.ntmps9
  go_wp2
  go_ret
  exact ⟨rfl, rfl⟩
theorem hasK_take {k : Int} {p : Nat} {d : Du} (hd : L[p]? = some d) : hasK k (L.take (p + 1)) = (hasK k (L.take p) || (d.id == k)) := by
  rw [take_snoc hd]
  by_cases h : d.id = k
  · simp [hasK, h]
  · simp [hasK, h]
theorem hasK_all (k : Int) (L : List Du) : hasK k (L.take L.length) = hasK k L := by rw [List.take_length]
/-- the end of Set, behind Cancel -/
def AppO (w w1 : World) (r : Nat) (v : Value) (now : Int) (M : List Du) (d : Du) : Prop := ∃ a c, w1.cell? ⟨r, 0, none⟩ = some (.slice a M.length c) ∧ ∃ q c' w3,
  (Builtin.append_ #[26, 26] 26 #[.slice a M.length c, .slice (some ⟨w1.heap.size, 0, none⟩) 1 1]).run Try.prog (w1.alloc (.cells #[.int .i64 d.id, .int .i64 d.tm] 57)) = .ok (.slice (some ⟨q, 0, none⟩) (M.length + 1) c') w3 ∧
  w3.cell? ⟨r, 0, none⟩ = some (.slice a M.length c) ∧ w3.frozen? ⟨r, 0, none⟩ = false ∧ RfN w (w3.setCell ⟨r, 0, none⟩ (.slice (some ⟨q, 0, none⟩) (M.length + 1) c')) r v now (M ++ [d])
theorem RfN.app {w1 : World} {M : List Du} (hN : RfN w w1 r v now M) (hl : M.length ≤ 10000) (d : Du) : AppO w w1 r v now M d := by
  obtain ⟨v1, R1, K1, hv1⟩ := hN
  obtain ⟨a, c, rfl⟩ := R1.form
  obtain ⟨q, c', w3, hr, o3, g3, hq⟩ := app_one R1.own d (Nat.zero_le _) (by omega)
  have hs := R1.lt
  have hrr : w3.heap[r]? = w1.heap[r]? := (g3.block r (by simp; omega) (fun e => R1.ne e.symm)).trans (Below.heap_alloc w1 _ r hs)
  have hb : Blk w3 r _ _ := hrr.trans R1.blk
  refine ⟨a, c, R1.c0, q, c', w3, hr, hb.cell 0, hb.free 0, ?_⟩
  have hp := R1.put hrr o3 (by simp; omega)
  have h1 : Kp w1 w3 r r (Value.ownBlock (.slice a M.length c)) := (Kp.of ((Below.refl _ _).alloc (Nat.le_refl _) _) r r _).trans (Kp.row g3)
  have h2 := h1.trans (Kp.own w3 r r (Value.ownBlock (.slice a M.length c)) 0 (.slice (some ⟨q, 0, none⟩) (M.length + 1) c'))
  have hks := K1.size
  refine ⟨_, hp, ?_, ?_⟩
  · refine ⟨h2.os.trans K1.os, h2.tape.trans K1.tape, h2.output.trans K1.output, Nat.le_trans K1.size h2.size, fun j hj e1 e2 e3 => ?_⟩
    refine (h2.block j (by omega) e1 e2 ?_).trans (K1.block j hj e1 e2 e3)
    rcases hv1 with hv1 | hv1
    · rw [hv1]; exact e3
    · intro e; have := hv1 j e; omega
  · rcases hq with hq | hq
    · rcases hv1 with hv1 | hv1
      · exact .inl (hq.symm.trans hv1)
      · exact .inr fun b hb => hv1 b (hq.trans hb)
    · exact .inr fun b hb => by have : q = b := Option.some.inj hb; omega
/-- the end of Set -/
def SetE (n : Nat) (b : Bool) (e : Ending) (w w' : World) (r : Nat) (v : Value) (now : Int) (M : List Du) : Prop := if b = false ∧ 1000 ≤ n then e = .returned (.int .i64 12) ∧ w' = w else e = .returned (.int .i64 0) ∧ RfN w w' r v now M
theorem SetE.full {n : Nat} {M : List Du} (hf : 1000 ≤ n) : SetE n false (.returned (.int .i64 12)) w w r v now M := by unfold SetE; rw [if_pos ⟨rfl, hf⟩]; exact ⟨rfl, rfl⟩
theorem SetE.ok {n : Nat} {b : Bool} {M : List Du} (hf : b = true ∨ ¬ 1000 ≤ n) (h : RfN w w' r v now M) : SetE n b (.returned (.int .i64 0)) w w' r v now M := by
  unfold SetE
  rw [if_neg (fun ⟨h1, h2⟩ => by
    rcases hf with hf | hf
    · rw [h1] at hf; cases hf
    · exact hf h2)]
  exact ⟨rfl, h⟩
set_option maxRecDepth 100000 in
set_option maxHeartbeats 4000000 in
theorem refset_any (R : Rf w r v now L) (hl : L.length ≤ 2000) {t : Int} (ht : ¬ t < now) (k : Int) : Calls Try.prog 9 #[.pointer (some ⟨r, 0, none⟩), .int .i64 k, .int .i64 t] w fun e w' => SetE L.length (hasK k L) e w w' r v now (delK k L ++ [⟨k, t⟩]) := by
  have c0 := R.c0
  have c1 := R.c1
  have HR := Lib.hid R
  have HC := Lib.hid (refcancel_any R k)
  have hd := delK_le k L
  obtain ⟨n, hn⟩ : ∃ n, n = L.length := ⟨_, rfl⟩
  have HN := Lib.hid hn
  obtain ⟨va, vc, rfl⟩ := R.form
  rw [← hn] at hl c0 HR HC hd ⊢
  have HA := Lib.hid (hasK_all k L)
  clear R hn
  go_enter Try.func9, Try.ntmps9
  go_wp2
  go_loop [7, 8] (fun s i => ∃ p : Nat, p ≤ n ∧ i = .int .i64 p ∧ s = .bool (hasK k (L.take p))) (fun _ i => n - (intOf i).toNat)
  case atStart => exact ⟨0, by omega, rfl, rfl⟩
  case round =>
    obtain ⟨p, hp, rfl, rfl⟩ := hrel
    by_cases hlt : p < n
    · obtain ⟨x, hx⟩ : ∃ x, L[p]? = some x := ⟨_, List.getElem?_eq_getElem (by have := HN.out; omega)⟩
      obtain ⟨b, c', hv', d0, d1, d2⟩ := HR.out.item hx
      have hT := hasK_take (k := k) hx
      obtain rfl : va = some ⟨b, 0, none⟩ := by
        rw [← HN.out] at hv'
        simp only [Value.slice.injEq] at hv'
        exact hv'.1
      clear hv' d0 hx
      have HT := Lib.hid hT
      clear hT
      have hlt1 : (p : Int) < (n : Int) := by omega
      have hp0 : (0 : Int) ≤ (p : Int) := by omega
      cases hs : hasK k (L.take p) with
      | true =>
        rw [hs] at HT
        go_wp2
        exact ⟨⟨p + 1, by omega, by go_num, by rw [HT.out]; rfl⟩, by simp [intOf]; omega⟩
      | false =>
        rw [hs] at HT
        go_wp2
        exact ⟨⟨p + 1, by omega, by go_num, by rw [HT.out]; simp⟩, by simp [intOf]; omega⟩
    · obtain rfl : n = p := by omega
      rw [show hasK k (L.take n) = hasK k L by rw [HN.out]; exact HA.out]
      have hnn : ¬ ((n : Int) < (n : Int)) := by omega
      cases hs : hasK k L with
      | true =>
        have HD : Hid (∀ w1, RfN w w1 r (.slice va n vc) now (delK k L) → AppO w w1 r (.slice va n vc) now (delK k L) ⟨k, t⟩) := fun w1 h => h.app (by omega) ⟨k, t⟩
        clear hd
        generalize (delK k L ++ [(⟨k, t⟩ : Du)]) = M2 at *
        go_wp2_with (first
          | (go_at_call 11; (with_reducible refine HC.out.mono ?_); rintro e w1 ⟨rfl, hN⟩; obtain ⟨a1, a2, k0, q, c3, w3, hap, k1, k2, hE⟩ := HD.out w1 hN; have HAP := Lib.hid hap; have HE := Lib.hid hE; clear hap hE hN)
          | (at_builtin; refine Lib.wpList_append_run _ rfl _ _ 26 26 rfl _ _ rfl rfl _ _ HAP.out ?_))
        go_ret
        exact SetE.ok (.inl (by first | rfl | exact hs)) HE.out
      | false =>
        by_cases hf : 1000 ≤ n
        · have hf1 : (1000 : Int) ≤ (n : Int) := by omega
          go_wp2
          go_ret
          exact SetE.full hf
        · have hf1 : ¬ (1000 : Int) ≤ (n : Int) := by omega
          have HD : Hid (∀ w1, RfN w w1 r (.slice va n vc) now (delK k L) → AppO w w1 r (.slice va n vc) now (delK k L) ⟨k, t⟩) := fun w1 h => h.app (by omega) ⟨k, t⟩
          clear hd
          generalize (delK k L ++ [(⟨k, t⟩ : Du)]) = M2 at *
          go_wp2_with (first
            | (go_at_call 11; (with_reducible refine HC.out.mono ?_); rintro e w1 ⟨rfl, hN⟩; obtain ⟨a1, a2, k0, q, c3, w3, hap, k1, k2, hE⟩ := HD.out w1 hN; have HAP := Lib.hid hap; have HE := Lib.hid hE; clear hap hE hN)
            | (at_builtin; refine Lib.wpList_append_run _ rfl _ _ 26 26 rfl _ _ rfl rfl _ _ HAP.out ?_))
          go_ret
          exact SetE.ok (.inr hf) HE.out
end
end Go.Proofs.Ytboojbgcleknlaa
