/- A record without an item: Without. -/
import Derived.Test.YtkicndengkcojaaRecWith3
import Derived.Test.YtkicndengkcojaaRecFind
namespace Go.Proofs.Ytkicndengkcojaa
set_option maxRecDepth 100000
open Go Go.RowKit Go.Sort

def withoutB (r : Rc) (k : Nat) : Bool := hasL r.items k && isR r
def withoutV (r : Rc) (k : Nat) : Rc := if withoutB r k then ⟨r.kind, dropL r.items k, r.nl, r.nb, r.mark⟩ else r
/-- what a call answers that tells a record and whether it did something -/
def TellsB (w : World) (r : Rc) (b : Bool) (e : Ending) (w' : World) : Prop := ∃ u, e = .returned (.tuple #[.agg (recC r u), .bool b]) ∧ Told w' u r.items ∧ Below w.heap.size w w'
set_option maxHeartbeats 2000000 in
theorem without_rec {r : Rc} {u : Value} {w : World} (hT : Told w u r.items) (hW : r.Wf) (hl : r.items.length ≤ 1000000) (k : Nat) :
    Calls Try.prog 21 #[.agg (recC r u), .int .u64 (k : Int)] w (TellsB w (withoutV r k) (withoutB r k)) := by
  have hmf : ∀ (fn : Fn) (first cap : Array Value) (w : World), (Instr.makeFunc fn first cap).run Try.prog w = .ok (.func fn first cap) w := fun _ _ _ _ => rfl
  obtain ⟨w1, h1⟩ : ∃ w1, w1 = w.alloc (.cells (recC r u) 27) := ⟨_, rfl⟩
  obtain ⟨w2, h2⟩ : ∃ w2, w2 = w1.alloc (.cells #[.int .u64 (k : Int)] 23) := ⟨_, rfl⟩
  obtain ⟨w4, h4⟩ : ∃ w4, w4 = w2.alloc (.cells (recC zeroR (.slice none 0 0)) 27) := ⟨_, rfl⟩
  have s1 : w1.heap.size = w.heap.size + 1 := by rw [h1]; simp
  have s2 : w2.heap.size = w.heap.size + 2 := by rw [h2]; simp [s1]
  have b1 : Below w.heap.size w w1 := h1 ▸ (Below.refl _ _).alloc (Nat.le_refl _) _
  have b2 : Below w.heap.size w w2 := h2 ▸ b1.alloc b1.size _
  have b4 : Below w.heap.size w w4 := h4 ▸ b2.alloc b2.size _
  have hg : Blk w4 w.heap.size (recC r u) 27 := by
    rw [h4, h2]; exact ((h1 ▸ Blk.new w _ _ : Blk w1 w.heap.size (recC r u) 27).alloc _).alloc _
  have hk : Blk w4 (w.heap.size + 1) #[.int .u64 (k : Int)] 23 := by
    rw [h4]; exact ((s1 ▸ (h2 ▸ Blk.new w1 _ _ : Blk w2 w1.heap.size #[.int .u64 (k : Int)] 23) : Blk w2 (w.heap.size + 1) #[.int .u64 (k : Int)] 23).alloc _)
  have hz : Blk w4 (w.heap.size + 2) (recC zeroR (.slice none 0 0)) 27 := s2 ▸ (h4 ▸ Blk.new w2 _ _ : Blk w4 w2.heap.size (recC zeroR (.slice none 0 0)) 27)
  have hW4 : ((w.alloc (.cells #[.int .i64 r.kind, u, .int .i64 r.nl, .int .u64 (r.nb : Int), .int .u64 (r.mark : Int)] 27)).alloc (.cells #[.int .u64 (k : Int)] 23)).alloc (.cells (recC zeroR (.slice none 0 0)) 27) = w4 := by rw [h4, h2, h1]; rfl
  have hT4 := hT.bel b4
  have HF := Lib.hid (find_any hT4 hl k)
  have HI := Lib.hid (fun w5 (hb : Below w4.heap.size w4 w5) => is_any (hT4.bel hb) hW hl)
  have HC := Lib.hid (fun w5 (hb : Below w4.heap.size w4 w5) => clone_rec (hT4.bel hb) hl)
  have HD : Hid (∀ w5, Below w4.heap.size w4 w5 → Calls Try.prog 54 #[u, .func (.func 61) #[] #[.pointer (some ⟨w.heap.size + 1, 0, none⟩)]] w5 fun e w' => ∃ v, e = .returned v ∧ Told w' v (dropL r.items k) ∧ Below w5.heap.size w5 w') := by
    intro w5 hb
    have hk5 := hk.below hb hk.lt
    refine (thoseNot_any (hT4.bel hb) hl hW.key (.pointer (some ⟨w.heap.size + 1, 0, none⟩)) (fun j => decide (j ≠ k)) (fun w3 j _ hb3 => keynot_any j k (w.heap.size + 1) w3 (hk5.below hb3 hk5.lt))).mono ?_
    rintro e w' ⟨v, he, ho, hb⟩
    exact ⟨v, he, told_own ho, hb⟩
  have HB := Lib.hid b4
  have HG := Lib.hid hg
  have HZ := Lib.hid hz
  have ck : w4.cell? ⟨w.heap.size + 1, 0, none⟩ = some (.int .u64 (k : Int)) := hk.cell 0
  obtain ⟨a, c, rfl⟩ := told_shape hT
  have HV : Hid (withoutV r k = if hasL r.items k && isR r then ⟨r.kind, dropL r.items k, r.nl, r.nb, r.mark⟩ else r) := rfl
  have HVB : Hid (withoutB r k = (hasL r.items k && isR r)) := rfl
  clear hW h1 h2 h4 s1 s2 b1 b2 b4 hk hT hT4
  cases hhas : hasL r.items k <;> cases hr : isR r
  all_goals rw [hhas] at HF HV HVB; rw [hr] at HI HV HVB
  all_goals
    clear hhas hr
    simp only [Bool.false_and, Bool.true_and, if_true, if_false, Bool.false_eq_true] at HV HVB
    rw [HV.out, HVB.out]
    generalize valL r.items k = val at *
    go_enter Try.func21, Try.ntmps21
    simp only [recC]
    go_upto_region 1 with (fail)
    rw [zero_rec, hW4]
    clear hW4 HV HVB
    go_upto_region 2 with (first
      | (refine p_loadR rfl _ rfl w.heap.size rfl r _ hg ?_)
      | (go_at_call 23; (with_reducible refine HF.out.mono ?_); rintro e w5 ⟨rfl, hb5⟩))
    have hg5 := hg.below hb5 hg.lt
    have Z5 := hz.below hb5 hz.lt
    have HB5 := Lib.hid (HB.out.trans (hb5.mono HB.out.size))
    have c1 : w5.cell? ⟨w.heap.size, 1, none⟩ = some (.slice a r.items.length c) := hg5.cell 1
    clear hg hz ck HF
  · go_upto_region 4 with (go_at_call 60; (with_reducible refine (HC.out _ hb5).mono ?_); rintro e W6 ⟨v6, rfl, hT6, hb6⟩; obtain ⟨a6, q6, rfl⟩ := told_shape hT6; have hg6 := hg5.below hb6 hg5.lt; have Z6 := Z5.below hb6 Z5.lt; have HB6 := Lib.hid (HB5.out.trans (hb6.mono HB5.out.size)); have d1 : W6.cell? ⟨w.heap.size, 1, none⟩ = some (.slice a r.items.length c) := hg6.cell 1; have f1 : W6.frozen? ⟨w.heap.size, 1, none⟩ = false := hg6.free 1)
    have hg7 : Blk (W6.setCell ⟨w.heap.size, 1, none⟩ (.slice a6 r.items.length q6)) w.heap.size (recC r (.slice a6 r.items.length q6)) 27 := hg6.put 1 _
    have Z7 := Z6.other w.heap.size 1 (.slice a6 r.items.length q6) (by omega)
    have T7 := told_setCell hT6 hg6 (noIt_rec _ _) 1 (.slice a6 r.items.length q6)
    have B7 : Below w.heap.size w (W6.setCell ⟨w.heap.size, 1, none⟩ (.slice a6 r.items.length q6)) := HB6.out.setCell (p := ⟨w.heap.size, 1, none⟩) (Nat.le_refl _) _
    clear hg6 Z6 HB6 hT6 d1 f1
    generalize W6.setCell _ _ = W7 at *
    go_wp2_with (first
      | (refine p_loadR rfl _ rfl w.heap.size rfl r (.slice a6 r.items.length q6) hg7 ?_)
      | (refine p_storeR rfl _ _ rfl (w.heap.size + 2) rfl r (.slice a6 r.items.length q6) rfl rfl zeroR (.slice none 0 0) Z7 ?_))
    exact bodyPost_ret (results_rec2 Try.results21 _ _ (w.heap.size + 2) r _ _ rfl rfl (Z7.setRow _)) rfl ⟨_, rfl, told_setRow T7 Z7 (noIt_rec _ _) _, bel_setRow B7 (by omega) _⟩
  · go_upto_region 4 with (go_at_call 60; (with_reducible refine (HC.out _ hb5).mono ?_); rintro e W6 ⟨v6, rfl, hT6, hb6⟩; obtain ⟨a6, q6, rfl⟩ := told_shape hT6; have hg6 := hg5.below hb6 hg5.lt; have Z6 := Z5.below hb6 Z5.lt; have HB6 := Lib.hid (HB5.out.trans (hb6.mono HB5.out.size)); have d1 : W6.cell? ⟨w.heap.size, 1, none⟩ = some (.slice a r.items.length c) := hg6.cell 1; have f1 : W6.frozen? ⟨w.heap.size, 1, none⟩ = false := hg6.free 1)
    have hg7 : Blk (W6.setCell ⟨w.heap.size, 1, none⟩ (.slice a6 r.items.length q6)) w.heap.size (recC r (.slice a6 r.items.length q6)) 27 := hg6.put 1 _
    have Z7 := Z6.other w.heap.size 1 (.slice a6 r.items.length q6) (by omega)
    have T7 := told_setCell hT6 hg6 (noIt_rec _ _) 1 (.slice a6 r.items.length q6)
    have B7 : Below w.heap.size w (W6.setCell ⟨w.heap.size, 1, none⟩ (.slice a6 r.items.length q6)) := HB6.out.setCell (p := ⟨w.heap.size, 1, none⟩) (Nat.le_refl _) _
    clear hg6 Z6 HB6 hT6 d1 f1
    generalize W6.setCell _ _ = W7 at *
    go_wp2_with (first
      | (refine p_loadR rfl _ rfl w.heap.size rfl r (.slice a6 r.items.length q6) hg7 ?_)
      | (refine p_storeR rfl _ _ rfl (w.heap.size + 2) rfl r (.slice a6 r.items.length q6) rfl rfl zeroR (.slice none 0 0) Z7 ?_))
    exact bodyPost_ret (results_rec2 Try.results21 _ _ (w.heap.size + 2) r _ _ rfl rfl (Z7.setRow _)) rfl ⟨_, rfl, told_setRow T7 Z7 (noIt_rec _ _) _, bel_setRow B7 (by omega) _⟩
  · go_upto_region 3 with (first
      | (go_guarded; refine o_loadR _ rfl w.heap.size rfl r _ hg5 ?_)
      | (go_at_call 15; (with_reducible refine (HI.out _ hb5).mono ?_); rintro e w8 ⟨rfl, hb8⟩))
    have hg8 := hg5.below hb8 hg5.lt
    have Z8 := Z5.below hb8 Z5.lt
    have HB8 := Lib.hid (HB5.out.trans (hb8.mono HB5.out.size))
    have hb58 : Below w4.heap.size w4 w8 := rstep hb5 hb8
    clear c1 hg5 Z5 HB5
    have c1 : w8.cell? ⟨w.heap.size, 1, none⟩ = some (.slice a r.items.length c) := hg8.cell 1
    go_upto_region 4 with (go_at_call 60; (with_reducible refine (HC.out _ hb58).mono ?_); rintro e W6 ⟨v6, rfl, hT6, hb6⟩; obtain ⟨a6, q6, rfl⟩ := told_shape hT6; have hg6 := hg8.below hb6 hg8.lt; have Z6 := Z8.below hb6 Z8.lt; have HB6 := Lib.hid (HB8.out.trans (hb6.mono HB8.out.size)); have d1 : W6.cell? ⟨w.heap.size, 1, none⟩ = some (.slice a r.items.length c) := hg6.cell 1; have f1 : W6.frozen? ⟨w.heap.size, 1, none⟩ = false := hg6.free 1)
    have hg7 : Blk (W6.setCell ⟨w.heap.size, 1, none⟩ (.slice a6 r.items.length q6)) w.heap.size (recC r (.slice a6 r.items.length q6)) 27 := hg6.put 1 _
    have Z7 := Z6.other w.heap.size 1 (.slice a6 r.items.length q6) (by omega)
    have T7 := told_setCell hT6 hg6 (noIt_rec _ _) 1 (.slice a6 r.items.length q6)
    have B7 : Below w.heap.size w (W6.setCell ⟨w.heap.size, 1, none⟩ (.slice a6 r.items.length q6)) := HB6.out.setCell (p := ⟨w.heap.size, 1, none⟩) (Nat.le_refl _) _
    clear hg6 Z6 HB6 hT6 d1 f1
    generalize W6.setCell _ _ = W7 at *
    go_wp2_with (first
      | (refine p_loadR rfl _ rfl w.heap.size rfl r (.slice a6 r.items.length q6) hg7 ?_)
      | (refine p_storeR rfl _ _ rfl (w.heap.size + 2) rfl r (.slice a6 r.items.length q6) rfl rfl zeroR (.slice none 0 0) Z7 ?_))
    exact bodyPost_ret (results_rec2 Try.results21 _ _ (w.heap.size + 2) r _ _ rfl rfl (Z7.setRow _)) rfl ⟨_, rfl, told_setRow T7 Z7 (noIt_rec _ _) _, bel_setRow B7 (by omega) _⟩
  · go_upto_region 5 with (first
      | (go_guarded; refine o_loadR _ rfl w.heap.size rfl r _ hg5 ?_)
      | (go_at_call 15; (with_reducible refine (HI.out _ hb5).mono ?_); rintro e w8 ⟨rfl, hb8⟩))
    have hg8 := hg5.below hb8 hg5.lt
    have Z8 := Z5.below hb8 Z5.lt
    have HB8 := Lib.hid (HB5.out.trans (hb8.mono HB5.out.size))
    have hb58 : Below w4.heap.size w4 w8 := rstep hb5 hb8
    clear c1 hg5 Z5 HB5
    have c1 : w8.cell? ⟨w.heap.size, 1, none⟩ = some (.slice a r.items.length c) := hg8.cell 1
    go_upto_region 6 with (go_at_call 54; (with_reducible refine (HD.out _ hb58).mono ?_); rintro e W6 ⟨v6, rfl, hT6, hb6⟩; obtain ⟨a6, q6, rfl⟩ := told_shape hT6; have hg6 := hg8.below hb6 hg8.lt; have Z6 := Z8.below hb6 Z8.lt; have HB6 := Lib.hid (HB8.out.trans (hb6.mono HB8.out.size)); have d1 : W6.cell? ⟨w.heap.size, 1, none⟩ = some (.slice a r.items.length c) := hg6.cell 1; have f1 : W6.frozen? ⟨w.heap.size, 1, none⟩ = false := hg6.free 1)
    have hg7 : Blk (W6.setCell ⟨w.heap.size, 1, none⟩ (.slice a6 (dropL r.items k).length q6)) w.heap.size (recC (⟨r.kind, dropL r.items k, r.nl, r.nb, r.mark⟩ : Rc) (.slice a6 (dropL r.items k).length q6)) 27 := hg6.put 1 _
    have Z7 := Z6.other w.heap.size 1 (.slice a6 (dropL r.items k).length q6) (by omega)
    have T7 := told_setCell hT6 hg6 (noIt_rec _ _) 1 (.slice a6 (dropL r.items k).length q6)
    have B7 : Below w.heap.size w (W6.setCell ⟨w.heap.size, 1, none⟩ (.slice a6 (dropL r.items k).length q6)) := HB6.out.setCell (p := ⟨w.heap.size, 1, none⟩) (Nat.le_refl _) _
    clear hg6 Z6 HB6 hT6 d1 f1
    generalize W6.setCell _ _ = W7 at *
    go_wp2_with (first
      | (refine p_loadR rfl _ rfl w.heap.size rfl (⟨r.kind, dropL r.items k, r.nl, r.nb, r.mark⟩ : Rc) (.slice a6 (dropL r.items k).length q6) hg7 ?_)
      | (refine p_storeR rfl _ _ rfl (w.heap.size + 2) rfl (⟨r.kind, dropL r.items k, r.nl, r.nb, r.mark⟩ : Rc) (.slice a6 (dropL r.items k).length q6) rfl rfl zeroR (.slice none 0 0) Z7 ?_))
    exact bodyPost_ret (results_rec2 Try.results21 _ _ (w.heap.size + 2) (⟨r.kind, dropL r.items k, r.nl, r.nb, r.mark⟩ : Rc) _ _ rfl rfl (Z7.setRow _)) rfl ⟨_, rfl, told_setRow T7 Z7 (noIt_rec _ _) _, bel_setRow B7 (by omega) _⟩
end Go.Proofs.Ytkicndengkcojaa
