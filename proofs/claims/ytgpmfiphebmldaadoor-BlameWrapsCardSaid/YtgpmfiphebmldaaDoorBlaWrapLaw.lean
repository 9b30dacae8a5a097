/- BlameWraps: for all scripts, texts and codes the call returns true. No condition but that the package variables read as the program's text lays them. -/
import Derived.Test.YtgpmfiphebmldaaDoorBlaBuilt
import Derived.Test.YtgpmfiphebmldaaDoorBlaOpen
import Derived.Test.YtgpmfiphebmldaaDoorBlaLaid
import Derived.Test.YtgpmfiphebmldaaDoorBlaJoinLaw
import Derived.Test.YtgpmfiphebmldaaDoorBlaSame
import Derived.Test.YtgpmfiphebmldaaDoorBlaRefT
import Derived.Deep.RegionHeld3
namespace Go.Proofs.YtgpmfiphebmldaaDoor.WrapLaw
open Go Go.ChangeShapes Go.WideShapes Go.ChangeAt Go.RowKit Go.Sort
open Go.ChangeMaps (open_string shut_string)
theorem step {w a b : World} (h : Below w.heap.size w a) (k : Below a.heap.size a b) : Below w.heap.size w b := h.trans (k.mono h.size)
theorem method_wrap (v : Value) (w : World) : (Go.method 260 66 v "Error").run Tryd.prog w = .ok (87, v) w := by kernel_rfl
theorem wrap_codes (op : ByteArray) (t : ET) : (ET.wrap op t).codes = t.codes := by rw [ET.codes]
theorem wrap_first (op : ByteArray) (t : ET) : firstO (some (.wrap op t)) = firstO (some t) := by
  show (ET.wrap op t).codes.headD 0 = t.codes.headD 0
  rw [wrap_codes]
theorem wrap_has (op : ByteArray) (t : ET) (c : Int) : hasO (some (.wrap op t)) c = hasO (some t) c := by
  show (ET.wrap op t).codes.contains c = t.codes.contains c
  rw [wrap_codes]
theorem wrap_again (op : ByteArray) (t : ET) : againO (some (.wrap op t)) = againO (some t) := by
  rw [again_has, again_has, wrap_has, wrap_has, wrap_has]
theorem sl_tail {w : World} {g n cap : Nat} {op : ByteArray} {l : List ByteArray} (hn : n = l.length) (h : w.rangeAt g 0 (strV (op :: l))) (a : Option Addr) (ha : 0 < n → a = some ⟨g, 1, none⟩) : Sl w (.slice a n cap) l := by
  by_cases he : l = []
  · subst he
    subst hn
    exact .inl ⟨rfl, _, _, rfl⟩
  · have hp := List.length_pos_iff.2 he
    rw [ha (by omega), hn]
    refine .inr ⟨he, g, 1, cap, rfl, fun j v hj => ?_⟩
    have := h (1 + j) v (by rw [Nat.add_comm]; exact hj)
    rwa [Nat.zero_add] at this

set_option maxRecDepth 100000 in
set_option maxHeartbeats 8000000 in
theorem walk (l : List Stp) (v : Value) (w : World) (hS : Scr w v l) (op : ByteArray) (c : Int) (hG : Glob w) : Calls Tryd.prog 4 #[v, .string op, .int .i64 c] w fun e w' => e = .returned (.bool true) ∧ Below w.heap.size w w' := by
  have hF := few_any v l w hS
  have hB := fun (h : l.length ≤ 60 ∧ opsum l ≤ 2000) => built_any v l w hS h.1 h.2
  have b0 := Below.refl w.heap.size w
  obtain ⟨al0, nl0, cl0, rfl⟩ : ∃ a n c, v = .slice a n c := by
    rcases hS with ⟨_, rfl⟩ | ⟨b, o, c, rfl, _⟩ <;> exact ⟨_, _, _, rfl⟩
  by_cases h500 : 500 < op.size
  · have hd : decide ((500 : Int) < (op.size : Int)) = true := by simp; omega
    go_enter Tryd.func4, Tryd.ntmps4
    go_wp2_with (go_at_call 7; (with_reducible refine hF.mono ?_); rintro e w1 ⟨r, rfl, hr, rfl⟩; cases r)
    all_goals
      go_ret
      exact ⟨rfl, b0⟩
  have hd : decide ((500 : Int) < (op.size : Int)) = false := by simp; omega
  go_enter Tryd.func4, Tryd.ntmps4
  go_upto_region 4 with (first
    | (go_at_call 7; (with_reducible refine hF.mono ?_); rintro e w1 ⟨r, rfl, hr, rfl⟩; cases r)
    | (go_at_call 8; (with_reducible refine (hB (hr trivial)).mono ?_); rintro e w2 ⟨lv, mv, us, xs, rfl, hL, hM, b1⟩))
  · go_ret
    exact ⟨rfl, b0⟩
  obtain ⟨h60, h2000⟩ := hr trivial
  have hwt : wts (runO l) ≤ 4200 := by
    have := wts_run l l.length
    rw [List.take_length] at this
    omega
  clear hB hF hr hS
  generalize runO l = L at *
  obtain ⟨n, hn⟩ : ∃ n, n = L.length := ⟨_, rfl⟩
  have hlen := wts_length L
  have HN := Lib.hid hn
  obtain ⟨al, cl, rfl⟩ := own_shape hL.own
  rw [← hn] at hL hlen ⊢
  have hlo := hL.own
  rw [← hn] at hlo
  have hn1 : n ≤ 2100 := by omega
  have hG2 := hG.below b1 hG.size
  have hE2 := (hL.is.mono (q := fun k => k < w2.heap.size) fun i hi _ => hi)
  have HE2 := Lib.hid hE2
  have HLO := Lib.hid hlo
  have h5 : op.size ≤ 500 := by omega
  clear hL hM hn hE2 hlo h500 hd
  go_wp2
  go_loopw [9, 10, 11] (fun i _ _ wr => ∃ k : Nat, k ≤ n ∧ i = .int .i64 (k : Int) ∧ Below w2.heap.size w2 wr) (fun i _ _ _ => n - (intOf i).toNat)
  case atStart => exact ⟨0, by omega, rfl, Below.refl _ _⟩
  case round =>
    obtain ⟨k, hk, rfl, hb⟩ := hrel
    by_cases hlt : k < n
    · obtain ⟨o, ho⟩ : ∃ o, L[k]? = some o := ⟨_, List.getElem?_eq_getElem (by rw [← HN.out]; omega)⟩
      obtain ⟨v, hv⟩ : ∃ v, us[k]? = some v := ⟨_, List.getElem?_eq_getElem (by rw [HE2.out.length, ← HN.out]; omega)⟩
      obtain ⟨g, c1, hal, _, hgl, _, hgr⟩ := own_range HLO.out (by omega)
      simp only [Value.slice.injEq, true_and] at hal
      obtain ⟨rfl, rfl⟩ := hal
      have hvo := HE2.out.get k v o hv ho
      have hwo : wtO o ≤ 4200 := by have := wts_get L k o ho; omega
      have z0 : w2.cell? ⟨g, k, none⟩ = some v := by have := hgr k v hv; rwa [Nat.zero_add] at this
      have HS : Hid (∀ w', Below w2.heap.size w2 w' → w'.cell? ⟨g, k, none⟩ = some v) := fun w' hb => (hb.cell (p := ⟨g, k, none⟩) hgl).trans z0
      have hC : Hid (∀ w', Below w2.heap.size w2 w' → Calls Tryd.prog 9 #[v] w' fun e w'' => e = .returned (.int .i64 (firstO o)) ∧ Below w'.heap.size w' w'') := fun w' hb => code_any _ v o w' (hvo.bel hb) (hG2.below hb hG2.size) (by omega)
      have hH : Hid (∀ w', Below w2.heap.size w2 w' → Calls Tryd.prog 11 #[v, .int .i64 c] w' fun e w'' => e = .returned (.bool (hasO o c)) ∧ Below w'.heap.size w' w'') := fun w' hb => has_any _ v o c w' (hvo.bel hb) (hG2.below hb hG2.size) (by omega)
      have hA : Hid (∀ w', Below w2.heap.size w2 w' → Calls Tryd.prog 13 #[v] w' fun e w'' => e = .returned (.bool (againO o)) ∧ Below w'.heap.size w' w'') := fun w' hb => again_any _ v o w' (hvo.bel hb) (hG2.below hb hG2.size) (by omega)
      have hcw := HS.out _ hb
      clear z0 hgr hv ho
      cases o with
      | none =>
        cases hvo
        generalize firstO none = f1 at *
        generalize hasO none c = f2 at *
        generalize againO none = f3 at *
        have n1 : (f1 != f1) = false := by simp
        have n2 : (f2 != f2) = false := by simp
        have n3 : (f3 != f3) = false := by simp
        have hW := wrap_none op wr
        go_upto_region 8 with (go_at_call 21; (with_reducible refine hW.mono ?_); rintro e wa ⟨rfl, k1⟩; have hb := step hb k1)
        have hbw := hb
        replace hb := hb.drew
        go_region_held3 (fun w' => w'.cell? ⟨g, k, none⟩ = some .nilIface)
          (first | exact HS.out _ hb | exact HS.out _ hbw)
          (first
            | (go_at_call 9; (with_reducible refine (hC.out _ hb).mono ?_); rintro e wa ⟨rfl, k1⟩; have hb := step hb k1)
            | (go_at_call 11; (with_reducible refine (hH.out _ hb).mono ?_); rintro e wa ⟨rfl, k1⟩; have hb := step hb k1)
            | (go_at_call 13; (with_reducible refine (hA.out _ hb).mono ?_); rintro e wa ⟨rfl, k1⟩; have hb := step hb k1))
        all_goals
          go_wp2
          exact ⟨⟨k + 1, by omega, by go_num, hb⟩, by simp [intOf] <;> omega⟩
      | some t =>
        have hvo : Er w2 (fun k => k < w2.heap.size) v t := hvo
        have hvr : Er wr (fun k => k < wr.heap.size) v t := (Er.bel hvo hb).mono fun i hi _ => hi
        have hok := hvo.ok
        have hW := wrap_some _ op v t wr hvr
        have hwt2 : wtO (some (.wrap op t)) ≤ 1000000 := by
          show op.size + 4 + t.wt ≤ 1000000
          have : t.wt ≤ 4200 := hwo
          omega
        have hT : Hid (∀ w', Below w2.heap.size w2 w' → Calls Tryd.prog 16 #[v] w' fun e w'' => ∃ u, e = .returned u ∧ Txs w'.heap.size u t.trail w'' ∧ Below w'.heap.size w' w'') := fun w' hb => trail_any _ v (some t) w' (Eo.bel (o := some t) hvo hb) (by omega)
        have hX1 : Hid (∀ w', Below w2.heap.size w2 w' → Calls Tryd.prog 18 #[v] w' fun e w'' => e = .returned (.string (bs t.text)) ∧ Below w'.heap.size w' w'') := fun w' hb => text_any _ v (some t) w' (Eo.bel (o := some t) hvo hb) (hG2.below hb hG2.size) (by omega)
        have hne := eo_eql (o := some t) hvo
        have hgu := eo_guard (o := some t) hvo
        have hlt2 : t.text.length ≤ 4200 := Nat.le_trans (text_le t hok) hwo
        have htl : t.trail.length ≤ 4200 := Nat.le_trans (trail_le t) hwo
        go_upto_region 8 with (go_at_call 21; (with_reducible refine hW.mono ?_); rintro e wa ⟨b, rfl, hwE, k1⟩; have hb := step hb k1)
        have hwE := hwE.mono (q := fun k => k < wa.heap.size) fun i hi _ => hi
        have hGa := hG2.below hb hG2.size
        have HSa : Hid (∀ w', Below wa.heap.size wa w' → w'.cell? ⟨g, k, none⟩ = some v) := fun w' h => HS.out _ (step hb h)
        have hba := Below.refl wa.heap.size wa
        have hC2 : Hid (∀ w', Below wa.heap.size wa w' → Calls Tryd.prog 9 #[.iface 66 (.pointer (some ⟨b, 0, none⟩))] w' fun e w'' => e = .returned (.int .i64 (firstO (some t))) ∧ Below w'.heap.size w' w'') := fun w' hb => by
          have h := code_any _ _ (some (.wrap op t)) w' (Eo.bel (o := some (.wrap op t)) hwE hb) (hGa.below hb hGa.size) hwt2
          rwa [wrap_first] at h
        have hH2 : Hid (∀ w', Below wa.heap.size wa w' → Calls Tryd.prog 11 #[.iface 66 (.pointer (some ⟨b, 0, none⟩)), .int .i64 c] w' fun e w'' => e = .returned (.bool (hasO (some t) c)) ∧ Below w'.heap.size w' w'') := fun w' hb => by
          have h := has_any _ _ (some (.wrap op t)) c w' (Eo.bel (o := some (.wrap op t)) hwE hb) (hGa.below hb hGa.size) hwt2
          rwa [wrap_has] at h
        have hA2 : Hid (∀ w', Below wa.heap.size wa w' → Calls Tryd.prog 13 #[.iface 66 (.pointer (some ⟨b, 0, none⟩))] w' fun e w'' => e = .returned (.bool (againO (some t))) ∧ Below w'.heap.size w' w'') := fun w' hb => by
          have h := again_any _ _ (some (.wrap op t)) w' (Eo.bel (o := some (.wrap op t)) hwE hb) (hGa.below hb hGa.size) hwt2
          rwa [wrap_again] at h
        have hT2 : Hid (∀ w', Below wa.heap.size wa w' → Calls Tryd.prog 16 #[.iface 66 (.pointer (some ⟨b, 0, none⟩))] w' fun e w'' => ∃ u, e = .returned u ∧ Txs w'.heap.size u (op :: t.trail) w'' ∧ Below w'.heap.size w' w'') := fun w' hb => trail_any _ _ (some (.wrap op t)) w' (Eo.bel (o := some (.wrap op t)) hwE hb) hwt2
        have hs : (op ++ ⟨#[58, 32]⟩) ++ bs t.text = bs (ET.wrap op t).text := by
          rw [ET.text, ← bs_append, ← bs_append, bs_of]; rfl
        have hX2 : Hid (∀ w', Below wa.heap.size wa w' → Calls Tryd.prog 18 #[.iface 66 (.pointer (some ⟨b, 0, none⟩))] w' fun e w'' => e = .returned (.string ((op ++ ⟨#[58, 32]⟩) ++ bs t.text)) ∧ Below w'.heap.size w' w'') := fun w' hb => by
          rw [hs]
          exact text_any _ _ (some (.wrap op t)) w' (Eo.bel (o := some (.wrap op t)) hwE hb) (hGa.below hb hGa.size) hwt2
        have hX3 : Hid (∀ w', Below wa.heap.size wa w' → Calls Tryd.prog 87 #[.pointer (some ⟨b, 0, none⟩)] w' fun e w'' => e = .returned (.string ((op ++ ⟨#[58, 32]⟩) ++ bs t.text)) ∧ Below w'.heap.size w' w'') := fun w' hb => by
          rw [hs]
          exact error_wrap _ b (.wrap op t) w' (Er.bel hwE hb) (hGa.below hb hGa.size) hwt2
        have hne2 := eo_eql (o := some (.wrap op t)) hwE
        have hgu2 := eo_guard (o := some (.wrap op t)) hwE
        have a1 := room op ⟨#[58, 32]⟩ (by have r0 : (⟨#[58, 32]⟩ : ByteArray).size = 2 := rfl; omega)
        have a2 := room (op ++ ⟨#[58, 32]⟩) (bs t.text) (by have r0 : (⟨#[58, 32]⟩ : ByteArray).size = 2 := rfl; rw [ByteArray.size_append, bs_size]; omega)
        have a3 : ¬ 9223372036854775807 < op.size + 2 := by omega
        have a4 : ¬ 9223372036854775807 < op.size + 2 + (bs t.text).size := by rw [bs_size]; omega
        have a5 : ¬ 9223372036854775807 < op.size + (⟨#[58, 32]⟩ : ByteArray).size + (bs t.text).size := a4
        have n7 : (((op ++ ⟨#[58, 32]⟩) ++ bs t.text).toList != ((op ++ ⟨#[58, 32]⟩) ++ bs t.text).toList) = false := by rw [bne, beq_self]; rfl
        have n8 := beq_self ((op ++ ⟨#[58, 32]⟩) ++ bs t.text)
        have n9 : (op.toList != op.toList) = false := by rw [bne, beq_self]; rfl
        have n10 := beq_self op
        have hmeth := method_wrap
        obtain ⟨m, hm⟩ : ∃ m, m = t.trail.length := ⟨_, rfl⟩
        have HMT := Lib.hid hm
        have hcw2 := HSa.out _ hba
        clear hs hwE hvo hvr hW hm
        generalize firstO (some t) = f1 at *
        generalize hasO (some t) c = f2 at *
        generalize againO (some t) = f3 at *
        generalize bs t.text = f4 at *
        generalize t.trail = f5 at *
        have n1 : (f1 != f1) = false := by simp
        have n2 : (f2 != f2) = false := by simp
        have n3 : (f3 != f3) = false := by simp
        have hbw := hb
        have hbaw := hba
        replace hb := hb.drew
        replace hba := hba.drew
        go_region_held3 (fun w' => w'.cell? ⟨g, k, none⟩ = some v)
          (first | exact HSa.out _ hba | exact HSa.out _ hbaw)
          (first
            | (go_at_call 9; (with_reducible refine (hC.out _ hb).mono ?_); rintro e wx ⟨rfl, k1⟩; have hb := step hb k1; have hba := step hba k1)
            | (go_at_call 9; (with_reducible refine (hC2.out _ hba).mono ?_); rintro e wx ⟨rfl, k1⟩; have hb := step hb k1; have hba := step hba k1)
            | (go_at_call 11; (with_reducible refine (hH.out _ hb).mono ?_); rintro e wx ⟨rfl, k1⟩; have hb := step hb k1; have hba := step hba k1)
            | (go_at_call 11; (with_reducible refine (hH2.out _ hba).mono ?_); rintro e wx ⟨rfl, k1⟩; have hb := step hb k1; have hba := step hba k1)
            | (go_at_call 13; (with_reducible refine (hA.out _ hb).mono ?_); rintro e wx ⟨rfl, k1⟩; have hb := step hb k1; have hba := step hba k1)
            | (go_at_call 13; (with_reducible refine (hA2.out _ hba).mono ?_); rintro e wx ⟨rfl, k1⟩; have hb := step hb k1; have hba := step hba k1))
        all_goals
          go_upto_region 12 with (go_at_call 16; (with_reducible refine (hT2.out _ hba).mono ?_); rintro e wt ⟨ua, rfl, ta, k1⟩; have hb := step hb k1; have hba := step hba k1)
          have hR := own_range ta (by simp)
          rw [List.length_cons, ← HMT.out] at hR
          obtain ⟨gt, ct, rfl, _, hgt, hct, hrt⟩ := hR
          have y0 : wt.cell? ⟨gt, 0, none⟩ = some (.string op) := hrt 0 _ rfl
          have HSt : Hid (∀ w', Below wt.heap.size wt w' → w'.cell? ⟨g, k, none⟩ = some v ∧ w'.cell? ⟨gt, 0, none⟩ = some (.string op)) := fun w' h => ⟨HSa.out _ (step hba h), (h.cell (p := ⟨gt, 0, none⟩) hgt).trans y0⟩
          have HSL : Hid (∀ w' (a : Option Addr) (cc : Nat), Below wt.heap.size wt w' → (0 < m → a = some ⟨gt, 1, none⟩) → Sl w' (.slice a m cc) f5) := fun w' a cc h ha => sl_tail HMT.out (range_kept hrt (p := fun _ => True) (fun i hi _ => h.block i hi) trivial) a ha
          have hbt := Below.refl wt.heap.size wt
          have hbtw := hbt
          have htl5 : f5.length ≤ 1000000 := by omega
          clear ta hrt y0
          replace hb := hb.drew
          replace hba := hba.drew
          replace hbt := hbt.drew
          by_cases hc1 : ct = 1
          all_goals
            have hm0 : ct = 1 → m = 0 := by omega
            have hf0 : Hid (ct = 1 → f5 = []) := fun h => List.length_eq_zero_iff.1 (by have := HMT.out; omega)
            have hx1 : (1 : Int) ≤ ((m + 1 : Nat) : Int) := by omega
            have hx2 : (1 : Int) ≤ (m : Int) + 1 := by omega
            have hx3 : (0 : Int) ≤ m := by omega
            go_region_held3 (fun w' => w'.cell? ⟨g, k, none⟩ = some v ∧ w'.cell? ⟨gt, 0, none⟩ = some (.string op))
              (first | exact HSt.out _ hbt | exact HSt.out _ hbtw)
              (first
                | (go_at_call 16; (with_reducible refine (hT.out _ hb).mono ?_); rintro e wx ⟨ub, rfl, tb, k1⟩; have sb := tb.sl; have hb := step hb k1; have hba := step hba k1; have hbt := step hbt k1)
                | (go_at_call 15; (with_reducible refine (same_any _ _ f5 _ ?_ sb htl5).mono ?_); (focus (first | exact Or.inl ⟨hf0.out hc1, _, _, rfl⟩ | exact HSL.out _ _ _ hbt (fun _ => rfl) | exact HSL.out _ _ _ hbt (fun h => absurd (hm0 hc1) (by omega)))); rintro e wx ⟨rfl, k1⟩; have hb := step hb k1; have hba := step hba k1; have hbt := step hbt k1)
                | (go_at_call 18; (with_reducible refine (hX1.out _ hb).mono ?_); rintro e wx ⟨rfl, k1⟩; have hb := step hb k1; have hba := step hba k1; have hbt := step hbt k1)
                | (go_at_call 18; (with_reducible refine (hX2.out _ hba).mono ?_); rintro e wx ⟨rfl, k1⟩; have hb := step hb k1; have hba := step hba k1; have hbt := step hbt k1)
                | (go_at_call 15; trace_state; fail)
                | (go_at_call 87; (with_reducible refine (hX3.out _ hba).mono ?_); rintro e wx ⟨rfl, k1⟩; have hb := step hb k1; have hba := step hba k1; have hbt := step hbt k1))
            all_goals
              go_wp2
              exact ⟨⟨k + 1, by omega, by go_num, hb⟩, by simp [intOf] <;> omega⟩
    · have hBl := blamed_any wr (hG2.below hb hG2.size)
      go_wp2_with (go_at_call 20; (with_reducible refine hBl.mono ?_); rintro e wa ⟨rfl, k1⟩; have hb := step hb k1)
      go_ret
      exact ⟨rfl, step b1 hb⟩
theorem walk2 (w : World) (hG : Glob w) (l : List Stp) (v : Value) (hS : Scr w v l) (op : ByteArray) (c : Int) (_ : -9223372036854775808 ≤ c) (_ : c ≤ 9223372036854775807) : Calls Tryd.prog 4 #[v, .string op, .int .i64 c] w fun e w' => e = .returned (.bool true) ∧ Below w.heap.size w w' := walk l v w hS op c hG
theorem int_bounds {n : Int} (h : (Lit.int .i64 n).wf = true) : -9223372036854775808 ≤ n ∧ n ≤ 9223372036854775807 := int_bounds0 h

set_option maxRecDepth 100000 in
theorem lifted (os : Os) (started : os.Started) (H : Type) (enc : TypeId × Value → H) :
    ReturnsInHanded {} Tryd.checked os 4 .any (fun w args => (Rows.blameWrapsSpec.pre enc Tryd.prog Tryd.f4 [] false w args ∧ laidMetH Tryd.prog LD w) ∧ sizedMet enc Tryd.prog Tryd.f4 (OpenSpec.ofChange Rows.blameWrapsSpec) false w args)
      (Rows.blameWrapsSpec.post enc Tryd.prog Tryd.f4 false true false false) := by
  refine returnsInHanded_of_change_and (C := Tryd.checked) (X := fun w _ => laidMetH Tryd.prog LD w) (fun _ _ _ hh h => h.of_heap hh) own started (by kernel_rfl) Tryd.func4
    (ChangeSpec.witness_shaped (enc := enc) (C := Tryd.checked) (os := os) (X := fun w _ => laidMetH Tryd.prog LD w) false (World.doorLaid Tryd.prog 31 os) #[.slice none 0 0, .string ⟨#[]⟩, .int .i64 0] 8 rfl (World.shaped_of_RefB (by kernel_rfl) (by kernel_rfl)) (by kernel_rfl) (by kernel_rfl) (by kernel_rfl) (door_met os _)) ?_
  intro W base args ds gs before hval0 hW _ hsz hL _
  have hval : ∀ (j : Nat) t v, Tryd.f4.params[j]? = some t → args[j]? = some v → Value.okWide Tryd.prog W .any base t v := hval0
  have hW' := hW
  obtain ⟨p, q, hA0, hV, rfl, hfz, hnd⟩ := hW
  have hA : DataW.TrodAll enc Tryd.prog W 0 (fun _ => true) true Tryd.f4.params.toList args.toList ds p := hA0
  rw [Tryd.params4] at hA hval
  obtain ⟨v0, vs0, d0, ds0, p0, q0, hargs, rfl, rfl, h0, r0⟩ := trodAll_cons hA
  obtain ⟨v1, vs1, d1, ds1, p1, q1, rfl, rfl, rfl, h1, r1⟩ := trodAll_cons r0
  obtain ⟨v2, vs2, d2, ds2, p2, q2, rfl, rfl, rfl, h2, r2⟩ := trodAll_cons r1
  obtain ⟨rfl, rfl, rfl⟩ := trodAll_nil r2
  obtain rfl : args = #[v0, v1, v2] := by cases args; simp_all
  obtain ⟨rfl, rfl⟩ := trodVars_none hV
  have k0 := h0
  have lt0 : ∀ x ∈ p0, x.block < W.heap.size := by obtain ⟨m, hm⟩ := k0; exact DataW.trod_lt m _ _ _ hm
  have hz0 : ∀ k ∈ d0.weights Tryd.prog 22, k ≤ reachBytes := fun k hk => by simpa using List.all_eq_true.1 hsz k (DataW.weights_mem_each (j := 0) rfl rfl k hk)
  obtain ⟨st0, sc0⟩ := open_script (hval 0 22 v0 rfl rfl) h0 hz0
  have k1 := h1
  have lt1 : ∀ x ∈ p1, x.block < W.heap.size := by obtain ⟨m, hm⟩ := k1; exact DataW.trod_lt m _ _ _ hm
  obtain ⟨n1, rfl, _, _, ws1⟩ := open_string Tryd.underlying9 (hval 1 9 v1 rfl rfl) h1
  have k2 := h2
  have lt2 : ∀ x ∈ p2, x.block < W.heap.size := by obtain ⟨m, hm⟩ := k2; exact DataW.trod_lt m _ _ _ hm
  obtain ⟨n2, rfl, _, _, wf2⟩ := open_int Tryd.underlying23 (hval 2 23 v2 rfl rfl) h2
  have bd2 := int_bounds wf2
  have hG := glob_of_laid hL
  clear hA0 hval0
  refine (walk2 W hG st0 v0 sc0 n1 n2 bd2.1 bd2.2).mono fun e W' ⟨he, bel⟩ => ?_
  subst he
  exact ⟨_, rfl, _, _, _, [], _, [], hW', trodAll_mk1 (shut_bool Tryd.underlying4 _), (trodAll_cons_mk (Below.trod laidOut (by kernel_rfl) (of_decide_eq_true (by kernel_rfl)) k0 bel lt0) (trodAll_cons_mk (Below.trod laidOut (by kernel_rfl) (of_decide_eq_true (by kernel_rfl)) k1 bel lt1) (trodAll_cons_mk (Below.trod laidOut (by kernel_rfl) (of_decide_eq_true (by kernel_rfl)) k2 bel lt2) trodAll_mk0))), rfl, bel.frame _, fun h => by cases h⟩

theorem proved : Rows.BlameWrapsSaid :=
  OpenClaim.holds_of_wide 4 Tryd.f4 rfl rfl rfl rfl rfl rfl rfl ⟨rfl, rfl, rfl, rfl, rfl⟩ rfl rfl rfl rfl rfl (by kernel_rfl) Tryd.func4 (by kernel_rfl)
    (of_decide_eq_true (by kernel_rfl)) (by unfold Func.isWrapper; first | (rw [if_pos (by decide +kernel)]; kernel_rfl) | (rw [if_neg (by decide +kernel)]; exact ⟨rfl, rfl⟩))
    (fun os started H enc _ => lifted os started H enc)
theorem card : Rows.BlameWrapsCardSaid :=
  Claim7.holds_tied_plain_at .later [] [.data, .data, .data, .handle] true _ true
    proved (fun _ h => by cases h) (by kernel_rfl) (fun _ h => by cases h) blameWraps_row_tie rfl ⟨rfl, rfl⟩ (by kernel_rfl) rfl
    (fun f fn hf hfn => by
      obtain rfl : f = 4 := Option.some.inj ((show Tryd.prog.funcNamed Rows.blameWrapsRow.func = some 4 by kernel_rfl).symm.trans hf) |>.symm
      obtain rfl : fn = Tryd.f4 := (Option.some.inj (Tryd.func4.symm.trans hfn)).symm
      exact ⟨by kernel_rfl, fun j t ht => by
        rw [Tryd.params4] at ht
        have hm : t ∈ [22, 9, 23] := by simpa using Array.mem_of_getElem? ht
        have hall : ([22, 9, 23].all fun u => !Tryd.prog.wantsStandIn u) = true := by kernel_rfl
        exact (show Tryd.prog.wantsStandIn t = false by simpa using List.all_eq_true.1 hall t hm)⟩)
    (by kernel_rfl)

end Go.Proofs.YtgpmfiphebmldaaDoor.WrapLaw
