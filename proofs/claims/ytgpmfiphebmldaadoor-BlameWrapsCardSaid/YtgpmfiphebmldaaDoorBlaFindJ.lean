/- The program's search through a join, and whole. -/
import Derived.Test.YtgpmfiphebmldaaDoorBlaFindW
namespace Go.Proofs.YtgpmfiphebmldaaDoor
open Go.RowKit Go.Sort

section
variable {K x : Nat} {f : Int → Bool} {St : World → Prop} {Fin : Int → World → Prop}

theorem find1_any (v : Value) (t : ET) (x3 : Nat) (w : World) (h3 : Blk w x3 #[fnv K x] 37) (h : Calls Tryd.prog 28 #[v, fnv K x] w fun e w' => ∃ r, e = .returned (.bool r) ∧ Fnd x f St Fin t.codes w r w') :
    Calls Tryd.prog 37 #[v, .pointer (some ⟨x3, 0, none⟩)] w fun e w' => ∃ r, e = .returned (.bool r) ∧ Fnd x f St Fin t.codes w r w' := by
  have c3 : w.cell? ⟨x3, 0, none⟩ = some (fnv K x) := h3.cell 0
  unfold fnv at *
  go_enter Tryd.func37, Tryd.ntmps37
  go_wp2_with (go_at_call 28; (with_reducible refine h.mono ?_); rintro e w' ⟨r, rfl, hF⟩)
  go_ret
  exact ⟨_, rfl, hF⟩

theorem find_snoc {l m : List Int} (h : l.find? f = none) : (l ++ m).find? f = m.find? f := by rw [List.find?_append, h]; rfl
theorem codesL_split (ts : List ET) (k : Nat) (t : ET) (h : ts[k]? = some t) : ET.codesL ts = ET.codesL (ts.take k) ++ (t.codes ++ ET.codesL (ts.drop (k + 1))) := by
  have hk : k < ts.length := (List.getElem?_eq_some_iff.1 h).1
  conv => lhs; rw [← List.take_append_drop k ts, codesL_append, List.drop_eq_getElem_cons hk, ET.codesL]
  rw [List.getElem?_eq_getElem hk] at h
  rw [Option.some.inj h]

set_option maxHeartbeats 1000000 in
theorem index_any (A : Ask K x f St Fin) (g cap x3 : Nat) (n : Nat) (vs : List Value) (ts : List ET) (hnn : ts.length = n) (H : ∀ t, t ∈ ts → ∀ v, Seeks K x f St Fin v t) (w : World) (h3 : Blk w x3 #[fnv K x] 37) (hx3 : x3 ≠ x) (hg : g < x) (hl : vs.length = n) (hv : w.rangeAt g 0 vs)
    (hE : ∀ (j : Nat) v t, vs[j]? = some v → ts[j]? = some t → Er w (fun k => k < x) v t) (hS : St w) (hG : Glob w) (hB : x < w.heap.size) (hn : n ≤ 1000000) :
    Calls Tryd.prog 49 #[.slice (some ⟨g, 0, none⟩) n cap, .func (.func 37) #[] #[.pointer (some ⟨x3, 0, none⟩)]] w fun e w' => ∃ i : Int, e = .returned (.int .i64 i) ∧ Fnd x f St Fin (ET.codesL ts) w (decide (0 ≤ i)) w' := by
  have HV := Lib.hid hv
  have HE := Lib.hid hE
  have HH := Lib.hid H
  clear hv hE H
  have HW := Lib.hid hnn
  go_enter Tryd.func49, Tryd.ntmps49
  go_wp2
  go_loopw [5, 8] (fun _ i wr => ∃ k : Nat, k ≤ n ∧ i = .int .i64 k ∧ Off x w wr ∧ St wr ∧ (ET.codesL (ts.take k)).find? f = none) (fun _ i _ => n - (intOf i).toNat)
  case atStart => exact ⟨0, by omega, rfl, Off.of (Below.refl _ _), hS, by simp [ET.codesL]⟩
  case round =>
    obtain ⟨k, hk, rfl, hO, hS1, hN⟩ := hrel
    have HO := Lib.hid hO
    have HS := Lib.hid hS1
    have HN := Lib.hid hN
    clear hO hS1 hN
    by_cases hlt : k < n
    · obtain ⟨v, hvk⟩ : ∃ v, vs[k]? = some v := ⟨_, List.getElem?_eq_getElem (by omega)⟩
      obtain ⟨t, htk⟩ : ∃ t, ts[k]? = some t := ⟨_, List.getElem?_eq_getElem (by omega)⟩
      have bx : Below x w wr := HO.out.bel (by omega)
      have hc : wr.cell? ⟨g, k, none⟩ = some v := by
        have h1 := HV.out k v hvk
        rw [Nat.zero_add] at h1
        exact (bx.cell hg).trans h1
      have hC := find1_any v t x3 wr (HO.out.at h3 hx3) (HH.out t (List.mem_of_getElem? htk) v wr ((HE.out k v t hvk htk).bel bx) HS.out (hG.below bx A.big) (Nat.lt_of_lt_of_le hB HO.out.size))
      have HC := Lib.hid hC
      clear hC bx
      have hd : decide ((k : Int) < n) = true := by simp; omega
      have hsp := codesL_split ts k t htk
      have htk1 := take_snoc ts k t htk
      go_wp2_with (go_at_call 37; (with_reducible refine HC.out.mono ?_); rintro e w' ⟨_ | _, rfl, hF⟩)
      · refine ⟨⟨k + 1, by omega, by go_num, HO.out.trans hF.1, ?_⟩, by simp [intOf]; omega⟩
        rcases hF.2 with ⟨_, h1, h2⟩ | ⟨c, h0, _⟩
        · exact ⟨h2, by rw [htk1, codesL_snoc, find_snoc HN.out, h1]⟩
        · cases h0
      · go_ret
        refine ⟨_, rfl, HO.out.trans hF.1, ?_⟩
        rcases hF.2 with ⟨h0, _⟩ | ⟨c, _, h1, h2⟩
        · cases h0
        · exact .inr ⟨c, by simp, by rw [hsp, find_snoc HN.out, List.find?_append, h1]; rfl, h2⟩
    · obtain rfl : n = k := by omega
      go_wp2
      go_ret
      refine ⟨_, rfl, HO.out, .inl ⟨by decide, ?_, HS.out⟩⟩
      have := HN.out
      rwa [← HW.out, List.take_length] at this

theorem contains_any (F : Value) (s : Value) (w : World) (R : Bool → World → Prop) (h : Calls Tryd.prog 49 #[s, F] w fun e w' => ∃ i : Int, e = .returned (.int .i64 i) ∧ R (decide (0 ≤ i)) w') :
    Calls Tryd.prog 36 #[s, F] w fun e w' => ∃ r, e = .returned (.bool r) ∧ R r w' := by
  go_enter Tryd.func36, Tryd.ntmps36
  go_wp2_with (go_at_call 49; (with_reducible refine h.mono ?_); rintro e w' ⟨i, rfl, hR⟩)
  go_ret
  exact ⟨_, rfl, hR⟩

set_option maxRecDepth 100000 in
theorem find_join (A : Ask K x f St Fin) (ts : List ET) (hn : ts.length ≤ 1000000) (H : ∀ t, t ∈ ts → ∀ v, Seeks K x f St Fin v t) (v0 : Value) : Seeks K x f St Fin v0 (.join ts) := by
  intro w hE hS hG hB
  cases hE with
  | join b g cap vs _ hp hpg hne hb hc hl hv hE =>
  have tw := t_jw
  have tj := t_jj
  have mf := hmf
  have bel : Below w.heap.size w (w.alloc (.cells #[fnv K x] 37)) := (Below.refl _ _).alloc (Nat.le_refl _) _
  have k1 : (w.alloc (.cells #[fnv K x] 37)).cell? ⟨b, 0, none⟩ = some (.slice (some ⟨g, 0, none⟩) ts.length cap) := (hb.alloc _).cell 0
  have hgl : g < w.heap.size := by omega
  have hI := contains_any _ _ _ _ (index_any A g cap w.heap.size ts.length vs ts rfl H (w.alloc (.cells #[fnv K x] 37)) (Blk.new w _ _) (by omega) hpg hl (range_kept hv (p := fun _ => True) (fun k hk _ => bel.block k hk) trivial) (fun j v t h1 h2 => (hE j v t h1 h2).bel (bel.mono (by omega))) (A.st _ _ bel hS) (hG.below bel hG.size) (by rw [World.size_alloc]; omega) hn)
  have HI := Lib.hid hI
  have HB := Lib.hid bel
  clear hI bel hE
  unfold fnv at *
  go_enter Tryd.func28, Tryd.ntmps28
  go_wp2_with (go_at_call 36; (with_reducible refine HI.out.mono ?_); rintro e w' ⟨r, rfl, hF⟩)
  go_ret
  refine ⟨_, rfl, ?_⟩
  rw [ET.codes]
  exact hF.ahead (Off.of HB.out)

theorem find_any (A : Ask K x f St Fin) (t : ET) (ht : t.wt ≤ 1000000) : ∀ v, Seeks K x f St Fin v t := by
  induction t using ET.ind with
  | hc c =>
    intro v w hE hS hG hB
    cases hE with
    | code _ h => exact find_code A c h w hS hG hB
  | hw op t ih => rw [ET.wt] at ht; exact find_wrap A op t (ih (by omega))
  | hj l ih =>
    rw [ET.wt] at ht
    have := wtL_length l
    exact find_join A l (by omega) fun t h => ih t h (by have := wtL_mem h; omega)
end
end Go.Proofs.YtgpmfiphebmldaaDoor
