/- Ids are forgotten: one by one, or all at once. -/
import Derived.Test.YtboojbgcleknlaaTimTake
namespace Go.Proofs.Ytboojbgcleknlaa
open Go Go.RowKit Go.Sort

/-- a row of numbers that can be read -/
def IsI (w : World) (u : Value) (l : List Int) : Prop := ∃ a c, u = .slice a l.length c ∧ ((l = [] ∧ a = none ∧ c = 0) ∨ ∃ b cs, a = some ⟨b, 0, none⟩ ∧ Blk w b cs 3 ∧ ∀ (j : Nat) (x : Int), l[j]? = some x → cs[j]? = some (.int .i64 x))
theorem IsI.bel {w w' : World} {u : Value} {l : List Int} (h : IsI w u l) (hb : Below w.heap.size w w') : IsI w' u l := by
  obtain ⟨a, c, h1, h2⟩ := h
  refine ⟨a, c, h1, h2.imp id ?_⟩
  rintro ⟨b, cs, h3, h4, h5⟩
  exact ⟨b, cs, h3, h4.below hb h4.lt, h5⟩
theorem IsI.grow {w w' : World} {u : Value} {l : List Int} {mb N : Nat} {f : Int → Option Nat} (h : IsI w u l) (hm : OwnsF w mb N f) (hg : w.grownBy w' (some mb)) : IsI w' u l := by
  obtain ⟨a, c, h1, h2⟩ := h
  refine ⟨a, c, h1, h2.imp id ?_⟩
  rintro ⟨b, cs, h3, h4, h5⟩
  exact ⟨b, cs, h3, (hg.block b h4.lt (fun e => hm.ne h4 (Option.some.inj e))).trans h4, h5⟩
theorem own_isI {w : World} {B n : Nat} {u : Value} {l : List Int} (h : w.ownsRow B 3 1 u n (l.map (Value.int .i64))) (hn : n = l.length) : IsI w u l := by
  subst hn
  rcases h.2 with ⟨rfl, h0⟩ | ⟨g, cap, cur, rfl, _, hg, _, _, _, ht⟩
  · exact ⟨none, 0, by rw [h0], .inl ⟨List.eq_nil_of_length_eq_zero h0, rfl, rfl⟩⟩
  · refine ⟨_, cap, rfl, .inr ⟨g, cur, rfl, hg, fun j x hj => ?_⟩⟩
    have hj2 : (l.map (Value.int .i64))[j]? = some (.int .i64 x) := by simp [hj]
    rw [← ht, List.getElem?_take] at hj2
    split at hj2
    · simpa using hj2
    · cases hj2
/-- places, but for some ids -/
def rml (f : Int → Option Nat) (l : List Int) : Int → Option Nat := fun k => if k ∈ l then none else f k
theorem rml_nil (f : Int → Option Nat) : rml f [] = f := by funext k; simp [rml]
theorem rml_snoc (f : Int → Option Nat) (l : List Int) (x : Int) : rmf (rml f l) x = rml f (l ++ [x]) := by
  funext k
  unfold rmf rml
  by_cases h : k = x
  · simp [h]
  · simp [h]
section
variable {w : World} {g mb : Nat} {now : Int} {n c N : Nat} {a : Option Addr} {f : Int → Option Nat} {u : Value} {l : List Int}
set_option maxHeartbeats 2000000 in
theorem forget_all (hg : Blk w g #[.int .i64 now, .slice a 0 c, .map (some mb)] 50) (hm : OwnsF w mb N f) :
    Calls Try.prog 24 #[.pointer (some ⟨g, 0, none⟩), u] w fun e w' => e = .returned (.tuple #[]) ∧ OwnsF w' mb 0 (fun _ => none) ∧ w.grownBy w' (some mb) := by
  obtain ⟨w', hr, h1, h2⟩ := hm.clear 0
  have c1 := hg.cell 1
  have c2 := hg.cell 2
  have HF := Lib.hid (And.intro h1 h2)
  clear hg hm h1 h2
  go_enter Try.func24, Try.ntmps24
  go_wp2
  first
    | exact bodyPost_ret (results_none rfl _ _ _) rfl ⟨rfl, HF.out⟩
    | exact bodyPost_end (results_none rfl _ _ _) rfl ⟨rfl, HF.out⟩
set_option maxHeartbeats 2000000 in
theorem forget_each (hg : Blk w g #[.int .i64 now, .slice a n c, .map (some mb)] 50) (hn : 0 < n) (hm : OwnsF w mb N f) (hu : IsI w u l) (hl : ∀ k ∈ l, f k ≠ none ∧ Fit k) (hd : l.Nodup) (hlen : l.length ≤ 1000000) :
    Calls Try.prog 24 #[.pointer (some ⟨g, 0, none⟩), u] w fun e w' => e = .returned (.tuple #[]) ∧ OwnsF w' mb (N - l.length) (rml f l) ∧ w.grownBy w' (some mb) := by
  obtain ⟨ua, uc, rfl, hu2⟩ := id hu
  have c1 := hg.cell 1
  have hn0 : ¬ ((n : Int) = 0) := by omega
  have hn1 : ((n : Int) == 0) = false := by simp; omega
  obtain ⟨m, hmm⟩ : ∃ m, m = l.length := ⟨_, rfl⟩
  have HM := Lib.hid hmm
  have HU := Lib.hid hu2
  have HG := Lib.hid hg
  have HO := Lib.hid hm
  have HL := Lib.hid hl
  have HD := Lib.hid hd
  rw [← hmm] at hlen ⊢
  clear hg hm hu hu2 hl hd hmm
  go_enter Try.func24, Try.ntmps24
  go_wp2
  clear c1
  go_loopw [18] (fun i wr => ∃ k : Nat, k ≤ m ∧ i = .int .i64 k ∧ OwnsF wr mb (N - k) (rml f (l.take k)) ∧ w.grownBy wr (some mb)) (fun i _ => m - (intOf i).toNat)
  case atStart => exact ⟨0, by omega, rfl, by rw [List.take_zero, rml_nil]; exact HO.out, World.grownBy.refl _ _⟩
  case round =>
    obtain ⟨k, hk, rfl, hO, hG⟩ := hrel
    have HB : Blk wr g #[.int .i64 now, .slice a n c, .map (some mb)] 50 := (hG.block g HG.out.lt (fun e => HO.out.ne HG.out (Option.some.inj e))).trans HG.out
    have c2 := HB.cell 2
    have HR := Lib.hid hG
    have HP := Lib.hid hO
    clear hO hG HB
    by_cases hlt : k < m
    · obtain ⟨x, hx⟩ : ∃ x, l[k]? = some x := ⟨_, List.getElem?_eq_getElem (by have := HM.out; omega)⟩
      have hne : l ≠ [] := by rintro rfl; simp at hx
      obtain ⟨b, cs, rfl, hb, hc⟩ := HU.out.resolve_left (fun h => hne h.1)
      have hbm := HO.out.ne hb
      have q0 : wr.cell? ⟨b, k, none⟩ = some (.int .i64 x) := ((show Blk wr b cs _ from (HR.out.block b hb.lt (fun e => hbm (Option.some.inj e))).trans hb).cell k).trans (hc k x hx)
      have hxl : x ∈ l := List.mem_of_getElem? hx
      have hnot : x ∉ l.take k := fun h => by
        obtain ⟨j, hj⟩ := List.getElem?_of_mem h
        rw [List.getElem?_take] at hj
        split at hj
        · rename_i hjk
          have := (List.getElem?_inj (l := l) (i := j) (j := k) (by have := HM.out; omega) HD.out).1 (hj.trans hx.symm)
          omega
        · cases hj
      obtain ⟨h1, h2⟩ := HL.out x hxl
      have hfx : rml f (l.take k) x ≠ none := by unfold rml; rw [if_neg hnot]; exact h1
      obtain ⟨w2, hr, o2, _, g2⟩ := HP.out.drop hfx h2 0
      rw [rml_snoc, show l.take k ++ [x] = l.take (k + 1) by rw [List.take_add_one, hx]; rfl, show N - k - 1 = N - (k + 1) by omega] at o2
      have HF := Lib.hid (And.intro o2 (HR.out.trans g2))
      clear hx hne hb hc hbm hxl hnot h1 h2 hfx o2 g2
      go_wp2
      exact ⟨⟨k + 1, by omega, by go_num, HF.out⟩, by simp [intOf]; omega⟩
    · obtain rfl : m = k := by omega
      have HF : Hid (OwnsF wr mb (N - m) (rml f l) ∧ w.grownBy wr (some mb)) := ⟨by have := HP.out; rwa [HM.out, List.take_length, ← HM.out] at this, HR.out⟩
      clear HP
      go_wp2
      first
        | exact bodyPost_ret (results_none rfl _ _ _) rfl ⟨rfl, HF.out⟩
        | exact bodyPost_end (results_none rfl _ _ _) rfl ⟨rfl, HF.out⟩
end
end Go.Proofs.Ytboojbgcleknlaa
