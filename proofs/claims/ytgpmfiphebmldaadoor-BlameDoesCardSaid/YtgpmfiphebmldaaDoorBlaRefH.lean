/- The document's Code, Has and Again. -/
import Derived.Test.YtgpmfiphebmldaaDoorBlaCodes
import Derived.Test.YtgpmfiphebmldaaDoorBlaCode
namespace Go.Proofs.YtgpmfiphebmldaaDoor
open Go.RowKit Go.Sort

theorem o_loadT {o : Oper} {a : Act} {w : World} {K : Act → World → Prop} {Q : Exit → Act → World → Prop} (x : Operand) (ho : o.op = .load 32 x)
    (g : Nat) (hx : a.eval x = .pointer (some ⟨g, 0, none⟩)) (X : Array Value) (hX : X.size = 4) (hg : Blk w g X 32) (h : K (a.put o.dst (.agg X)) w) : o.wp Tryd.prog a w K Q :=
  wp_load_row 32 x ho g hx 32 _ (0, 0) _ hg Tryd.underlying32 rfl (sizeT hX) h
def codesO : Option ET → List Int
  | none => []
  | some t => t.codes

set_option maxRecDepth 100000 in
theorem codes_any (p : Nat → Prop) (X : Array Value) (o : Option ET) (w : World) (hE : To w p X o) (ho : wtO o ≤ 1000000) :
    Calls Tryd.prog 31 #[.agg X] w fun e w' => ∃ v, e = .returned v ∧ Ints w.heap.size v (codesO o) w' ∧ Below w.heap.size w w' := by
  cases o with
  | none =>
    cases hE
    have b1 := Blk.new w zeroT 32
    have bel : Below w.heap.size w (w.alloc (.cells zeroT 32)) := (Below.refl _ _).alloc (Nat.le_refl _) _
    go_enter Tryd.func31, Tryd.ntmps31
    go_upto_region 1 with (fail)
    generalize hW : w.alloc _ = W
    rw [show w.alloc (.cells zeroT 32) = W from hW] at b1 bel
    have c0 : W.cell? ⟨w.heap.size, 0, none⟩ = some (.int .i64 0) := b1.cell 0
    have c3 : W.cell? ⟨w.heap.size, 3, none⟩ = some (.slice none 0 0) := b1.cell 3
    go_wp2
    refine wp_loop_rounds 1 ?_
    rw [rounds_succ]
    go_wp2
    go_ret
    exact ⟨_, rfl, World.ownsRow_nil _ _ _ _, bel⟩
  | some t =>
    have hT : Tr w p X t := hE
    exact cds_any t ho X w (hT.mono fun _ _ _ => trivial)

set_option maxRecDepth 100000 in
theorem refcode_any (p : Nat → Prop) (X : Array Value) (o : Option ET) (w : World) (hE : To w p X o) (ho : wtO o ≤ 1000000) :
    Calls Tryd.prog 10 #[.agg X] w fun e w' => e = .returned (.int .i64 (firstO o)) ∧ Below w.heap.size w w' := by
  have hX := hE.size
  have bel : Below w.heap.size w (w.alloc (.cells X 32)) := (Below.refl _ _).alloc (Nat.le_refl _) _
  have b1 := Blk.new w X 32
  have hC := codes_any p X o (w.alloc (.cells X 32)) (hE.kept fun k hk _ => bel.block k hk) ho
  have hf : (codesO o = [] → firstO o = 0) ∧ (∀ a l, codesO o = a :: l → firstO o = a) := by
    cases o with
    | none => exact ⟨fun _ => rfl, fun a l h => by cases h⟩
    | some t => exact ⟨fun h => by show t.first = 0; unfold ET.first; rw [show t.codes = [] from h]; rfl, fun a l h => by show t.first = a; unfold ET.first; rw [show t.codes = a :: l from h]; rfl⟩
  have HC := Lib.hid hC
  have HF := Lib.hid hf
  clear hC hf hE
  generalize codesO o = L at *
  generalize firstO o = F at *
  go_enter Tryd.func10, Tryd.ntmps10
  go_upto_region 1 with (fail)
  generalize w.alloc _ = W at *
  go_upto_region 2 with (first
    | (refine p_loadT rfl _ rfl w.heap.size rfl X hX b1 ?_)
    | (go_at_call 31; (with_reducible refine HC.out.mono ?_); rintro e w2 ⟨v, rfl, hv, hb⟩))
  cases L with
  | nil =>
    have HF1 := Lib.hid (HF.out.1 rfl)
    clear HF
    obtain ⟨a, c, rfl⟩ : ∃ a c, v = .slice a 0 c := by
      rcases hv.2 with ⟨h, _⟩ | ⟨g, cap, cur, h, _⟩
      · exact ⟨_, _, h⟩
      · exact ⟨_, _, h⟩
    go_wp2
    go_ret
    exact ⟨by rw [HF1.out]; rfl, bel.trans (hb.mono bel.size)⟩
  | cons x l =>
    have HF1 := Lib.hid (HF.out.2 x l rfl)
    clear HF
    obtain ⟨g2, cap2, rfl, hg2, hl2, hc2, hr2⟩ := own_range hv (by simp)
    have cx : w2.cell? ⟨g2, 0, none⟩ = some (.int .i64 x) := hr2 0 _ rfl
    have hn : ((l.length : Int) + 1 == 0) = false := by simp; omega
    go_wp2
    go_ret
    exact ⟨by rw [HF1.out]; rfl, bel.trans (hb.mono bel.size)⟩

set_option maxHeartbeats 1000000 in
set_option maxRecDepth 100000 in
theorem refhas_any (p : Nat → Prop) (X : Array Value) (o : Option ET) (c : Int) (w : World) (hE : To w p X o) (ho : wtO o ≤ 1000000) :
    Calls Tryd.prog 12 #[.agg X, .int .i64 c] w fun e w' => e = .returned (.bool (hasO o c)) ∧ Below w.heap.size w w' := by
  have hX := hE.size
  have bel : Below w.heap.size w (w.alloc (.cells X 32)) := (Below.refl _ _).alloc (Nat.le_refl _) _
  have b1 := Blk.new w X 32
  have hC := codes_any p X o (w.alloc (.cells X 32)) (hE.kept fun k hk _ => bel.block k hk) ho
  have c0 : (w.alloc (.cells X 32)).cell? ⟨w.heap.size, 0, none⟩ = some (.int .i64 (kindO o)) := by
    obtain ⟨a, b, d, n, cap, rfl⟩ := to_shape hE
    exact b1.cell 0
  by_cases h0 : c = 0
  · subst h0
    have hr : hasO o 0 = (kindO o == 0) := by
      rw [kind_zero]
      cases o with
      | none => rfl
      | some t => exact ok_zero t (Tr.ok hE)
    rw [hr]
    generalize kindO o = kd at *
    clear hC hE
    go_enter Tryd.func12, Tryd.ntmps12
    go_upto_region 1 with (fail)
    generalize w.alloc _ = W at *
    go_wp2
    go_ret
    exact ⟨rfl, bel⟩
  · have hc : (c == 0) = false := by simpa using h0
    have hr : hasO o c = (codesO o).contains c := by
      cases o with
      | none => show (c == 0) = _; rw [hc]; rfl
      | some t => rfl
    have hl : (codesO o).length ≤ 1000000 := by
      cases o with
      | none => simp [codesO]
      | some t => exact Nat.le_trans (codes_le t) ho
    rw [hr]
    have HC := Lib.hid hC
    clear hC hE hr
    generalize codesO o = L at *
    obtain ⟨r, hrr⟩ : ∃ r, r = L.contains c := ⟨_, rfl⟩
    rw [← hrr]
    have HQ := Lib.hid hrr
    clear hrr
    go_enter Tryd.func12, Tryd.ntmps12
    go_upto_region 1 with (fail)
    generalize w.alloc _ = W at *
    go_upto_region 4 with (first
      | (refine p_loadT rfl _ rfl w.heap.size rfl X hX b1 ?_)
      | (go_at_call 31; (with_reducible refine HC.out.mono ?_); rintro e w2 ⟨v, rfl, hv, hb⟩))
    have hbb : Below w.heap.size w w2 := bel.trans (hb.mono bel.size)
    by_cases he : L = []
    · subst he
      obtain ⟨a, c, rfl⟩ : ∃ a c, v = .slice a 0 c := by
        rcases hv.2 with ⟨h, _⟩ | ⟨g, cap, cur, h, _⟩
        · exact ⟨_, _, h⟩
        · exact ⟨_, _, h⟩
      go_wp2
      refine wp_loop_rounds 1 ?_
      rw [rounds_succ]
      go_wp2
      go_ret
      exact ⟨by rw [HQ.out]; rfl, hbb⟩
    · obtain ⟨g2, cap2, rfl, hg2, hl2, hc2, hr2⟩ := own_range hv (List.length_pos_iff.2 he)
      have HR := Lib.hid hr2
      obtain ⟨n, hn⟩ : ∃ n, n = L.length := ⟨_, rfl⟩
      have HN := Lib.hid hn
      rw [← hn] at hl hc2
      rw [← hn]
      clear hv hr2 hn hb
      go_wp2
      go_loop [6] (fun i => ∃ k : Nat, k ≤ n ∧ i = .int .i64 k ∧ (L.take k).contains c = false) (fun i => n - (intOf i).toNat)
      case atStart => exact ⟨0, by omega, rfl, rfl⟩
      case round =>
        obtain ⟨k, hk, rfl, hno⟩ := hrel
        have HO := Lib.hid hno
        clear hno
        by_cases hlt : k < n
        · obtain ⟨d, hd⟩ : ∃ d, L[k]? = some d := ⟨_, List.getElem?_eq_getElem (by rw [← HN.out]; omega)⟩
          have cd : w2.cell? ⟨g2, k, none⟩ = some (.int .i64 d) := by
            have := HR.out k (.int .i64 d) (by unfold intV; rw [List.getElem?_map, hd]; rfl)
            rwa [Nat.zero_add] at this
          have hsn := take_snoc L k d hd
          have hmem := List.mem_of_getElem? hd
          have HM := Lib.hid hmem
          have HS := Lib.hid hsn
          clear hmem hsn
          by_cases hdc : d = c
          · have hb1 : (d == c) = true := by simpa using hdc
            go_wp2
            go_ret
            refine ⟨?_, hbb⟩
            have : L.contains c = true := by rw [← hdc]; simpa using HM.out
            rw [HQ.out, this]; rfl
          · have hb1 : (d == c) = false := by simpa using hdc
            go_wp2
            refine ⟨⟨k + 1, by omega, by go_num, ?_⟩, by simp [intOf]; omega⟩
            rw [HS.out, List.contains_eq_any_beq, List.any_append, ← List.contains_eq_any_beq, HO.out]
            have : (c == d) = false := by simpa using fun e => hdc e.symm
            simp [this]
        · obtain rfl : n = k := by omega
          have hno := HO.out
          rw [HN.out, List.take_length] at hno
          have HO2 := Lib.hid hno
          clear hno HO
          go_wp2
          go_ret
          exact ⟨by rw [HQ.out, HO2.out]; rfl, hbb⟩

set_option maxRecDepth 100000 in
theorem refagain_any (p : Nat → Prop) (X : Array Value) (o : Option ET) (w : World) (hE : To w p X o) (ho : wtO o ≤ 1000000) :
    Calls Tryd.prog 14 #[.agg X] w fun e w' => e = .returned (.bool (againO o)) ∧ Below w.heap.size w w' := by
  have hr : againO o = again3 (hasO o 8) (hasO o 10) (hasO o 11) := by cases o <;> rfl
  have hX := hE.size
  have hA := hE.all (Nat.le_refl w.heap.size)
  have bel : Below w.heap.size w (w.alloc (.cells X 32)) := (Below.refl _ _).alloc (Nat.le_refl _) _
  have b1 := Blk.new w X 32
  have h1 := fun w' (hb : Below w.heap.size w w') => refhas_any (fun k => k < w.heap.size) X o 8 w' (hA.bel hb) ho
  have h2 := fun w' (hb : Below w.heap.size w w') => refhas_any (fun k => k < w.heap.size) X o 10 w' (hA.bel hb) ho
  have h3 := fun w' (hb : Below w.heap.size w w') => refhas_any (fun k => k < w.heap.size) X o 11 w' (hA.bel hb) ho
  rw [hr]
  generalize hasO o 8 = a at *
  generalize hasO o 10 = b at *
  generalize hasO o 11 = c at *
  have H1 := Lib.hid h1
  have H2 := Lib.hid h2
  have H3 := Lib.hid h3
  clear h1 h2 h3 hE hr hA
  cases a <;> cases b <;> cases c
  all_goals
    go_enter Tryd.func14, Tryd.ntmps14
    go_upto_region 1 with (fail)
    generalize w.alloc _ = W at *
    go_wp2_with (first
      | (refine p_loadT rfl _ rfl w.heap.size rfl X hX b1 ?_)
      | (go_at_call 12; (with_reducible refine (H1.out _ bel).mono ?_); rintro e w1 ⟨rfl, hb1'⟩; have hb1 := bel.trans (hb1'.mono bel.size); have b2 := b1.below hb1' b1.lt)
      | (go_guarded; refine o_loadT _ rfl w.heap.size rfl X hX b3 ?_; simp only [Act.put, List.setIfInBounds_toArray, List.set_cons_succ, List.set_cons_zero])
      | (go_guarded; refine o_loadT _ rfl w.heap.size rfl X hX b2 ?_; simp only [Act.put, List.setIfInBounds_toArray, List.set_cons_succ, List.set_cons_zero])
      | (go_at_call 12; (with_reducible refine (H2.out _ hb1).mono ?_); rintro e w2 ⟨rfl, hb2'⟩; have hb2 := hb1.trans (hb2'.mono hb1.size); have b3 := b2.below hb2' b2.lt)
      | (go_at_call 12; (with_reducible refine (H3.out _ hb2).mono ?_); rintro e w3 ⟨rfl, hb3'⟩; have hb3 := hb2.trans (hb3'.mono hb2.size)))
    go_ret
    first | exact ⟨rfl, hb3⟩ | exact ⟨rfl, hb2⟩ | exact ⟨rfl, hb1⟩
end Go.Proofs.YtgpmfiphebmldaaDoor
