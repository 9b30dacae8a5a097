/- An item put into a record: With, of any record. -/
import Derived.Test.YtkicndengkcojaaRecWith2
namespace Go.Proofs.Ytkicndengkcojaa
set_option maxRecDepth 100000
open Go Go.RowKit Go.Sort

def withE (r : Rc) (k : Nat) (s : ByteArray) : Nat := if isR r = false then 1 else if r.kind ≠ 1 then 13 else if 64 < s.size then 2 else if 16 < (putL r.items k s).length then 12 else 0
def withV (r : Rc) (k : Nat) (s : ByteArray) : Rc := if withE r k s = 0 then ⟨1, putL r.items k s, r.nl, r.nb, r.mark⟩ else zeroR
/-- what a call answers that tells a record and a code, and leaves all that was there -/
def TellsR (w : World) (r : Rc) (n : Nat) (e : Ending) (w' : World) : Prop := ∃ u, e = .returned (.tuple #[.agg (recC r u), .int .i64 (n : Int)]) ∧ Told w' u r.items ∧ Below w.heap.size w w'
theorem withc_any {r : Rc} {u : Value} {k : Nat} {s : ByteArray} {w : World} {g gv gk : Nat} (hg : Blk w g (recC r u) 27) (hv : Blk w gv #[.string s] 9) (hk : Blk w gk #[.int .u64 (k : Int)] 23) (hT : Told w u r.items) (hW : r.Wf) (hl : r.items.length ≤ 1000000) :
    Calls Try.prog 43 #[.func (.func 53) #[] #[.pointer (some ⟨g, 0, none⟩), .pointer (some ⟨gv, 0, none⟩), .pointer (some ⟨gk, 0, none⟩)]] w fun e w' => ∃ u', e = .returned (.tuple #[.agg (recC (withV r k s) u'), .int .i64 (withE r k s : Int)]) ∧ Told w' u' (withV r k s).items ∧ Keep w w' g g := by
  obtain ⟨a, c, rfl⟩ := told_shape hT
  obtain ⟨kind, L, nl, nb, mark⟩ := r
  simp only at hT hW hl hg
  have no : ∀ n : Nat, n ≠ 0 → withE ⟨kind, L, nl, nb, mark⟩ k s = n → (∀ w1, Below w.heap.size w w1 → Calls Try.prog 53 #[.pointer (some ⟨g, 0, none⟩), .pointer (some ⟨gv, 0, none⟩), .pointer (some ⟨gk, 0, none⟩)] w1 fun e w' => e = Pan n ∧ Keep w1 w' g g) →
      Calls Try.prog 43 #[.func (.func 53) #[] #[.pointer (some ⟨g, 0, none⟩), .pointer (some ⟨gv, 0, none⟩), .pointer (some ⟨gk, 0, none⟩)]] w fun e w' => ∃ u', e = .returned (.tuple #[.agg (recC (withV ⟨kind, L, nl, nb, mark⟩ k s) u'), .int .i64 (withE ⟨kind, L, nl, nb, mark⟩ k s : Int)]) ∧ Told w' u' (withV ⟨kind, L, nl, nb, mark⟩ k s).items ∧ Keep w w' g g := by
    intro n h0 hE h
    have hV : withV ⟨kind, L, nl, nb, mark⟩ k s = zeroR := by unfold withV; rw [hE, if_neg h0]
    rw [hE, hV]
    refine (guardK_no _ n w g hg.lt h).mono ?_
    rintro e w' ⟨he, hK⟩
    exact ⟨_, he, told_nil _, hK⟩
  have keep : ∀ {w1 : World} {n : Nat}, (Calls Try.prog 53 #[.pointer (some ⟨g, 0, none⟩), .pointer (some ⟨gv, 0, none⟩), .pointer (some ⟨gk, 0, none⟩)] w1 fun e w' => e = Pan n ∧ Below w1.heap.size w1 w') → Calls Try.prog 53 #[.pointer (some ⟨g, 0, none⟩), .pointer (some ⟨gv, 0, none⟩), .pointer (some ⟨gk, 0, none⟩)] w1 fun e w' => e = Pan n ∧ Keep w1 w' g g := fun h => h.mono fun e w' h => ⟨h.1, Keep.of h.2 g g⟩
  cases hr : isR ⟨kind, L, nl, nb, mark⟩
  · exact no 1 (by decide) (by simp [withE, hr]) fun w1 hb => keep (withc_arg rfl (hg.below hb hg.lt) (hv.below hb hv.lt) (hk.below hb hk.lt) (hT.bel hb) hW hl hr)
  · by_cases hk1 : kind = 1
    · by_cases hs : 64 < s.size
      · exact no 2 (by decide) (by subst hk1; simp [withE, hr, hs]) fun w1 hb => keep (withc_long rfl (hg.below hb hg.lt) (hv.below hb hv.lt) (hk.below hb hk.lt) (hT.bel hb) hW hl hr hk1 hs)
      · by_cases hf : 16 < (putL L k s).length
        · exact no 12 (by decide) (by subst hk1; simp [withE, hr, hs, hf]) fun w1 hb => withc_full rfl (hg.below hb hg.lt) (hv.below hb hv.lt) (hk.below hb hk.lt) (hT.bel hb) hW hl hr hk1 (by omega) hf
        · have hE : withE ⟨kind, L, nl, nb, mark⟩ k s = 0 := by subst hk1; simp [withE, hr, hs, hf]
          have hV : withV ⟨kind, L, nl, nb, mark⟩ k s = ⟨1, putL L k s, nl, nb, mark⟩ := by unfold withV; rw [hE, if_pos rfl]
          rw [hE, hV]
          exact guardK_ok _ _ w g hg.lt fun w1 hb => withc_ok rfl (hg.below hb hg.lt) (hv.below hb hv.lt) (hk.below hb hk.lt) (hT.bel hb) hW hl hr hk1 (by omega) (by omega)
    · exact no 13 (by decide) (by simp [withE, hr, hk1]) fun w1 hb => keep (withc_kind rfl (hg.below hb hg.lt) (hv.below hb hv.lt) (hk.below hb hk.lt) (hT.bel hb) hW hl hr hk1)
set_option maxHeartbeats 1000000 in
theorem with_any {r : Rc} {u : Value} {w : World} (hT : Told w u r.items) (hW : r.Wf) (hl : r.items.length ≤ 1000000) (k : Nat) (s : ByteArray) :
    Calls Try.prog 19 #[.agg (recC r u), .int .u64 (k : Int), .string s] w (TellsR w (withV r k s) (withE r k s)) := by
  have hmf : ∀ (fn : Fn) (first cap : Array Value) (w : World), (Instr.makeFunc fn first cap).run Try.prog w = .ok (.func fn first cap) w := fun _ _ _ _ => rfl
  obtain ⟨w1, h1⟩ : ∃ w1, w1 = w.alloc (.cells (recC r u) 27) := ⟨_, rfl⟩
  obtain ⟨w2, h2⟩ : ∃ w2, w2 = w1.alloc (.cells #[.int .u64 (k : Int)] 23) := ⟨_, rfl⟩
  obtain ⟨w3, h3⟩ : ∃ w3, w3 = w2.alloc (.cells #[.string s] 9) := ⟨_, rfl⟩
  obtain ⟨w4, h4⟩ : ∃ w4, w4 = w3.alloc (.cells (recC zeroR (.slice none 0 0)) 27) := ⟨_, rfl⟩
  have s1 : w1.heap.size = w.heap.size + 1 := by rw [h1]; simp
  have s2 : w2.heap.size = w.heap.size + 2 := by rw [h2]; simp [s1]
  have s3 : w3.heap.size = w.heap.size + 3 := by rw [h3]; simp [s2]
  have b1 : Below w.heap.size w w1 := h1 ▸ (Below.refl _ _).alloc (Nat.le_refl _) _
  have b2 : Below w.heap.size w w2 := h2 ▸ b1.alloc b1.size _
  have b3 : Below w.heap.size w w3 := h3 ▸ b2.alloc b2.size _
  have b4 : Below w.heap.size w w4 := h4 ▸ b3.alloc b3.size _
  have hg : Blk w4 w.heap.size (recC r u) 27 := by
    rw [h4, h3, h2]; exact (((h1 ▸ Blk.new w _ _ : Blk w1 w.heap.size (recC r u) 27).alloc _).alloc _).alloc _
  have hk : Blk w4 (w.heap.size + 1) #[.int .u64 (k : Int)] 23 := by
    rw [h4, h3]; exact ((s1 ▸ (h2 ▸ Blk.new w1 _ _ : Blk w2 w1.heap.size #[.int .u64 (k : Int)] 23) : Blk w2 (w.heap.size + 1) #[.int .u64 (k : Int)] 23).alloc _).alloc _
  have hv : Blk w4 (w.heap.size + 2) #[.string s] 9 := by
    rw [h4]; exact (s2 ▸ (h3 ▸ Blk.new w2 _ _ : Blk w3 w2.heap.size #[.string s] 9) : Blk w3 (w.heap.size + 2) #[.string s] 9).alloc _
  have hz : Blk w4 (w.heap.size + 3) (recC zeroR (.slice none 0 0)) 27 := s3 ▸ (h4 ▸ Blk.new w3 _ _ : Blk w4 w3.heap.size (recC zeroR (.slice none 0 0)) 27)
  have HG := Lib.hid (withc_any hg hv hk (hT.bel b4) hW hl)
  have hW4 : (((w.alloc (.cells #[.int .i64 r.kind, u, .int .i64 r.nl, .int .u64 (r.nb : Int), .int .u64 (r.mark : Int)] 27)).alloc (.cells #[.int .u64 (k : Int)] 23)).alloc (.cells #[.string s] 9)).alloc (.cells (recC zeroR (.slice none 0 0)) 27) = w4 := by rw [h4, h3, h2, h1]; rfl
  have HZ := Lib.hid hz
  have HB := Lib.hid b4
  clear hT hW hl h1 h2 h3 h4 s1 s2 s3 b1 b2 b3 b4 hg hk hv hz
  generalize withV r k s = V at *
  generalize withE r k s = E at *
  go_enter Try.func19, Try.ntmps19
  simp only [recC]
  go_upto_region 1 with (fail)
  rw [zero_rec, hW4]
  clear hW4
  go_wp2_with (first
    | (go_at_call 43; (with_reducible refine HG.out.mono ?_); rintro e w5 ⟨u2, rfl, hT5, hK5⟩; have Z5 := HZ.out.keep hK5 (by omega) (by omega); have hone := told_one hT5)
    | (refine p_storeR rfl _ _ rfl (w.heap.size + 3) rfl V u2 rfl hone zeroR (.slice none 0 0) Z5 ?_))
  exact bodyPost_ret (results_rec2 Try.results19 _ _ (w.heap.size + 3) V u2 _ rfl rfl (Z5.setRow _)) rfl ⟨u2, rfl, told_setRow hT5 Z5 (noIt_rec _ _) _, bel_setRow (Keep.below HB.out hK5 HB.out.size (Nat.le_refl _) (Nat.le_refl _)) (by omega) _⟩
end Go.Proofs.Ytkicndengkcojaa
