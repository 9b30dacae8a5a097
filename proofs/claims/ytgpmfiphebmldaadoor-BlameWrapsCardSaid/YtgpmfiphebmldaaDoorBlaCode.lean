/- The program's calls Code, Has and Again. -/
import Derived.Test.YtgpmfiphebmldaaDoorBlaFindJ
namespace Go.Proofs.YtgpmfiphebmldaaDoor
open Go.RowKit Go.Sort

theorem Off.setCell {x : Nat} {w w' : World} (h : Off x w w') (i : Nat) (v : Value) : Off x w (w'.setCell ⟨x, i, none⟩ v) :=
  h.trans ⟨rfl, rfl, rfl, by simp [World.setCell], fun k _ hk => Below.heap_setCell _ _ _ _ (fun e => hk (by rw [e]))⟩
theorem Off.to {x : Nat} {w w' : World} (h : Off x w w') (hx : w.heap.size ≤ x) : Below w.heap.size w w' := ⟨h.os, h.tape, h.output, h.size, fun k hk => h.block k hk (by simp; omega)⟩

/-! Code -/
theorem code1_any (x : Nat) (old : Int) (d : Int) (w : World) (hS : Blk w x #[.int .i64 old] 59) (hG : Glob w) :
    Calls Tryd.prog 29 #[.iface 59 (.int .i64 d), .pointer (some ⟨x, 0, none⟩)] w fun e w' => e = .returned (.bool true) ∧ Off x w w' ∧ Blk w' x #[.int .i64 d] 59 := by
  have h := as_hit d ⟨x, 0, none⟩ (.int .i64 old) w hG.ty (hS.cell 0) (hS.free 0)
  go_enter Tryd.func29, Tryd.ntmps29
  go_wp2_with (go_at_call 30; (with_reducible refine h.mono ?_); rintro e w' ⟨rfl, hw⟩)
  go_ret
  subst hw
  refine ⟨rfl, ?_, ((((hS.alloc _).alloc _).alloc _).alloc _).put 0 _⟩
  exact Off.setCell (Off.of ((((((Below.refl w.heap.size w).alloc (Nat.le_refl _) _).alloc (by rw [World.size_alloc]; omega) _).alloc (by rw [World.size_alloc, World.size_alloc]; omega) _).alloc (by rw [World.size_alloc, World.size_alloc, World.size_alloc]; omega) _))) 0 _
theorem ask_code (x : Nat) (hx : 4 ≤ x) : Ask 29 x (fun _ => true) (fun w => Blk w x #[.int .i64 13] 59) (fun c w => Blk w x #[.int .i64 c] 59) where
  enters := enters_of Tryd.func29 (by kernel_rfl) rfl
  call := fun c w _ hS hG _ => (code1_any x 13 c w hS hG).mono fun e w' ⟨h1, h2, h3⟩ => ⟨h1, h2, (fun h => nomatch h), fun _ => h3⟩
  st := fun w w' hb h => h.below hb h.lt
  big := hx

theorem first_find (t : ET) (h : t.ok) : t.codes.find? (fun _ => true) = some t.first := by
  unfold ET.first
  cases hc : t.codes with
  | nil => exact absurd hc (codes_ne t h)
  | cons a l => rfl
set_option maxRecDepth 100000 in
theorem code_any (p : Nat → Prop) (v : Value) (o : Option ET) (w : World) (hE : Eo w p v o) (hG : Glob w) (ho : wtO o ≤ 1000000) :
    Calls Tryd.prog 9 #[v] w fun e w' => e = .returned (.int .i64 (firstO o)) ∧ Below w.heap.size w w' := by
  have mf := hmf
  cases o with
  | none =>
    cases hE
    go_enter Tryd.func9, Tryd.ntmps9
    go_wp2
    go_ret
    exact ⟨rfl, Below.refl _ _⟩
  | some t =>
    have hE : Er w p v t := hE
    have hf := first_find t hE.ok
    have hne := er_eql hE
    have hgu := er_guard hE
    have bel : Below w.heap.size w (w.alloc (.cells #[.int .i64 13] 59)) := (Below.refl _ _).alloc (Nat.le_refl _) _
    have hC := find_any (ask_code w.heap.size hG.size) t ho v (w.alloc (.cells #[.int .i64 13] 59)) ((hE.all (Nat.le_refl _)).bel bel) (Blk.new w _ _) (hG.below bel hG.size) (by rw [World.size_alloc]; omega)
    unfold fnv at hC
    have HC := Lib.hid hC
    have HB := Lib.hid bel
    clear hC bel hE
    go_enter Tryd.func9, Tryd.ntmps9
    go_upto_region 4 with (fail)
    have hsz : (w.alloc (.cells #[.int .i64 13] 59)).heap.size = w.heap.size + 1 := World.size_alloc ..
    go_upto_region 5 with (go_at_call 28; (with_reducible refine HC.out.mono ?_); rintro e w' ⟨r, rfl, hO, hF⟩)
    rcases hF with ⟨_, h0, _⟩ | ⟨c, _, h1, h2⟩
    · rw [hf] at h0; cases h0
    · rw [hf] at h1
      obtain rfl := Option.some.inj h1
      have c0 := h2.cell 0
      have HO := Lib.hid hO
      clear hO
      go_wp2
      go_ret
      exact ⟨rfl, HB.out.trans ⟨HO.out.os, HO.out.tape, HO.out.output, HO.out.size, fun k hk => HO.out.block k (by rw [hsz]; omega) (by simp; omega)⟩⟩

/-! Has -/
theorem has1_any (x : Nat) (c d : Int) (w : World) (hS : Blk w x #[.int .i64 c] 23) :
    Calls Tryd.prog 32 #[.iface 59 (.int .i64 d), .pointer (some ⟨x, 0, none⟩)] w fun e w' => e = .returned (.bool (d == c)) ∧ w' = w := by
  have c0 := hS.cell 0
  go_enter Tryd.func32, Tryd.ntmps32
  go_wp2_with (go_at_call 33; (with_reducible refine (is_code _ _ _).mono ?_); rintro e w' ⟨rfl, rfl⟩)
  go_ret
  exact ⟨rfl, rfl⟩
theorem has1_nil (x : Nat) (c : Int) (w : World) (hS : Blk w x #[.int .i64 c] 23) :
    Calls Tryd.prog 32 #[.nilIface, .pointer (some ⟨x, 0, none⟩)] w fun e w' => e = .returned (.bool false) ∧ w' = w := by
  have c0 := hS.cell 0
  go_enter Tryd.func32, Tryd.ntmps32
  go_wp2_with (go_at_call 33; (with_reducible refine (is_nil _ _).mono ?_); rintro e w' ⟨rfl, rfl⟩)
  go_ret
  exact ⟨rfl, rfl⟩
theorem ask_has (x : Nat) (c : Int) (hx : 4 ≤ x) : Ask 32 x (fun d => d == c) (fun w => Blk w x #[.int .i64 c] 23) (fun _ _ => True) where
  enters := enters_of Tryd.func32 (by kernel_rfl) rfl
  call := fun d w _ hS _ _ => (has1_any x c d w hS).mono fun e w' ⟨h1, h2⟩ => ⟨h1, (by rw [h2]; exact Off.of (Below.refl _ _)), (fun _ => by rw [h2]; exact hS), fun _ => trivial⟩
  st := fun w w' hb h => h.below hb h.lt
  big := hx
theorem find2_nil (x : Nat) (c : Int) (w : World) (x3 x7 : Nat) (h3 : Blk w x3 #[fnv 32 x] 37) (h7 : Blk w x7 #[.nilIface] 30) (hS : Blk w x #[.int .i64 c] 23) :
    Calls Tryd.prog 39 #[.pointer (some ⟨x3, 0, none⟩), .pointer (some ⟨x7, 0, none⟩)] w fun e w' => ∃ r, e = .returned (.bool r) ∧ r = false ∧ w' = w := by
  have c3 : w.cell? ⟨x3, 0, none⟩ = some (.func (.func 32) #[] #[.pointer (some ⟨x, 0, none⟩)]) := h3.cell 0
  have c7 : w.cell? ⟨x7, 0, none⟩ = some .nilIface := h7.cell 0
  go_enter Tryd.func39, Tryd.ntmps39
  go_wp2_with (go_at_call 32; (with_reducible refine (has1_nil x c w hS).mono ?_); rintro e w' ⟨rfl, rfl⟩)
  go_ret
  exact ⟨_, rfl, rfl, rfl⟩
set_option maxRecDepth 100000 in
theorem find_nil (x : Nat) (c : Int) (w : World) (hS : Blk w x #[.int .i64 c] 23) :
    Calls Tryd.prog 28 #[.nilIface, fnv 32 x] w fun e w' => e = .returned (.bool false) ∧ Below w.heap.size w w' := by
  have mf := hmf
  have b1 : Blk ((w.alloc (.cells #[fnv 32 x] 37)).alloc (.cells #[.nilIface] 30)) w.heap.size #[fnv 32 x] 37 := (Blk.new w _ _).alloc _
  have b2 : Blk ((w.alloc (.cells #[fnv 32 x] 37)).alloc (.cells #[.nilIface] 30)) (w.heap.size + 1) #[.nilIface] 30 := by
    have h := Blk.new (w.alloc (.cells #[fnv 32 x] 37)) #[.nilIface] 30
    rwa [World.size_alloc] at h
  have bel : Below w.heap.size w ((w.alloc (.cells #[fnv 32 x] 37)).alloc (.cells #[.nilIface] 30)) := ((Below.refl _ _).alloc (Nat.le_refl _) _).alloc (by rw [World.size_alloc]; omega) _
  have G := guarded_any _ _ _ _ (find2_nil x c _ w.heap.size (w.heap.size + 1) b1 b2 ((hS.alloc _).alloc _))
  have tw := t_nw
  have tj := t_nj
  unfold fnv at *
  go_enter Tryd.func28, Tryd.ntmps28
  go_wp2_with (go_at_call 38; (with_reducible refine G.mono ?_); rintro e w' ⟨r, rfl, rfl, hw⟩)
  go_ret
  exact ⟨rfl, hw ▸ bel⟩

theorem has_find (l : List Int) (c : Int) : (l.find? (fun d => d == c)).isSome = l.contains c := by
  induction l with
  | nil => rfl
  | cons a l ih =>
    rw [List.find?_cons, List.contains_cons]
    by_cases h : a = c
    · subst h; simp
    · have h1 : (a == c) = false := by simpa using h
      have h2 : (c == a) = false := by simpa using fun e => h e.symm
      rw [h1, h2, ← ih]; simp
theorem ok_zero (t : ET) (h : t.ok) : t.codes.contains 0 = false := by
  rw [Bool.eq_false_iff]
  intro hc
  exact (codes_ok t h 0 (by simpa using hc)).1 rfl
set_option maxRecDepth 100000 in
theorem has_any (p : Nat → Prop) (v : Value) (o : Option ET) (c : Int) (w : World) (hE : Eo w p v o) (hG : Glob w) (ho : wtO o ≤ 1000000) :
    Calls Tryd.prog 11 #[v, .int .i64 c] w fun e w' => e = .returned (.bool (hasO o c)) ∧ Below w.heap.size w w' := by
  have mf := hmf
  have bel : Below w.heap.size w (w.alloc (.cells #[.int .i64 c] 23)) := (Below.refl _ _).alloc (Nat.le_refl _) _
  have hne := eo_eql hE
  have hgu := eo_guard hE
  by_cases h0 : c = 0
  · subst h0
    have hr : hasO o 0 = o.isNone := by
      cases o with
      | none => rfl
      | some t => exact ok_zero t (Er.ok hE)
    rw [hr]
    go_enter Tryd.func11, Tryd.ntmps11
    go_wp2
    go_ret
    exact ⟨rfl, bel⟩
  · have hc : (c == 0) = false := by simpa using h0
    cases o with
    | none =>
      cases hE
      have hF := find_nil w.heap.size c (w.alloc (.cells #[.int .i64 c] 23)) (Blk.new w _ _)
      unfold fnv at hF
      go_enter Tryd.func11, Tryd.ntmps11
      go_wp2_with (go_at_call 28; (with_reducible refine hF.mono ?_); rintro e w' ⟨rfl, hb⟩)
      go_ret
      exact ⟨by show Ending.returned (.bool false) = .returned (.bool (c == 0)); rw [hc], bel.trans (hb.mono bel.size)⟩
    | some t =>
      have hE : Er w p v t := hE
      have hF := find_any (ask_has w.heap.size c hG.size) t ho v (w.alloc (.cells #[.int .i64 c] 23)) ((hE.all (Nat.le_refl _)).bel bel) (Blk.new w _ _) (hG.below bel hG.size) (by rw [World.size_alloc]; omega)
      unfold fnv at hF
      have hsz : (w.alloc (.cells #[.int .i64 c] 23)).heap.size = w.heap.size + 1 := World.size_alloc ..
      have hh := has_find t.codes c
      have HF := Lib.hid hF
      have HH := Lib.hid hh
      clear hF hh hE
      go_enter Tryd.func11, Tryd.ntmps11
      go_wp2_with (go_at_call 28; (with_reducible refine HF.out.mono ?_); rintro e w' ⟨r, rfl, hO⟩)
      go_ret
      refine ⟨?_, bel.trans ⟨hO.1.os, hO.1.tape, hO.1.output, hO.1.size, fun k hk => hO.1.block k (by rw [hsz]; omega) (by simp; omega)⟩⟩
      have h1 : hasO (some t) c = t.codes.contains c := rfl
      rw [h1, ← HH.out]
      rcases hO.2 with ⟨rfl, h2, _⟩ | ⟨d, rfl, h2, _⟩
      · rw [h2]; rfl
      · rw [h2]; rfl

/-! Again -/
def again3 (a b c : Bool) : Bool := a || (b || c)
theorem again_any (p : Nat → Prop) (v : Value) (o : Option ET) (w : World) (hE : Eo w p v o) (hG : Glob w) (ho : wtO o ≤ 1000000) :
    Calls Tryd.prog 13 #[v] w fun e w' => e = .returned (.bool (againO o)) ∧ Below w.heap.size w w' := by
  have hr : againO o = again3 (hasO o 8) (hasO o 10) (hasO o 11) := by cases o <;> rfl
  have h1 := has_any p v o 8 w hE hG ho
  have h2 := fun w' (hb : Below w.heap.size w w') => has_any (fun k => k < w.heap.size) v o 10 w' ((hE.all (Nat.le_refl _)).bel hb) (hG.below hb hG.size) ho
  have h3 := fun w' (hb : Below w.heap.size w w') => has_any (fun k => k < w.heap.size) v o 11 w' ((hE.all (Nat.le_refl _)).bel hb) (hG.below hb hG.size) ho
  rw [hr]
  generalize hasO o 8 = a at *
  generalize hasO o 10 = b at *
  generalize hasO o 11 = c at *
  have H1 := Lib.hid h1
  have H2 := Lib.hid h2
  have H3 := Lib.hid h3
  clear h1 h2 h3 hE hr
  cases a <;> cases b <;> cases c
  all_goals
    go_enter Tryd.func13, Tryd.ntmps13
    go_wp2_with (first
      | (go_at_call 11; (with_reducible refine H1.out.mono ?_); rintro e w1 ⟨rfl, hb1⟩)
      | (go_at_call 11; (with_reducible refine (H2.out _ hb1).mono ?_); rintro e w2 ⟨rfl, hb2'⟩; have hb2 := hb1.trans (hb2'.mono hb1.size))
      | (go_at_call 11; (with_reducible refine (H3.out _ hb2).mono ?_); rintro e w3 ⟨rfl, hb3'⟩; have hb3 := hb2.trans (hb3'.mono hb2.size)))
    go_ret
    first | exact ⟨rfl, hb3⟩ | exact ⟨rfl, hb2⟩ | exact ⟨rfl, hb1⟩
end Go.Proofs.YtgpmfiphebmldaaDoor
