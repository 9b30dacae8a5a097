/- The document's Is, of any record. -/
import Derived.Test.YtkicndengkcojaaRecRef
import Derived.Test.YtkicndengkcojaaRecRefB
import Derived.Test.YtkicndengkcojaaRecIs3
namespace Go.Proofs.Ytkicndengkcojaa
set_option maxRecDepth 100000
open Go Go.RowKit Go.Sort

theorem refis_any {r : Rc} {u : Value} {w : World} (hT : Told w u r.items) (hW : r.Wf) : Calls Try.prog 16 #[.agg (recC r u)] w fun e w' => e = .returned (.bool (isR r)) ∧ Below w.heap.size w w' := by
  have HI : Gives Try.prog 52 #[.agg (labc r.nl r.nb)] (.bool (isB r.nl r.nb)) := fun w => refIs_any r.nl r.nb w hW.nb
  have hemp : r.items.isEmpty = decide (r.items.length = 0) := by cases r.items <;> simp
  obtain ⟨a, c, rfl⟩ := told_shape hT
  obtain ⟨kind, items, nl, nb, mark⟩ := r
  simp only at hT HI hemp ⊢
  clear hW
  by_cases hk : 1 ≤ kind ∧ kind ≤ 5
  · by_cases h16 : 16 < items.length
    · have hok : okI items = false := by unfold okI; rw [decide_eq_false (by omega)]; rfl
      cases hE : eqL nl nb (-1) 0
      · exact is_bool (refis_many_false kind items nl nb mark a _ c w rfl hk h16 hE) (by simp [isR, hok])
      · exact is_bool (refis_many_true kind items nl nb mark a _ c w rfl hk h16 hE) (by simp [isR, hok])
    · have h16' : items.length ≤ 16 := by omega
      cases hE : eqL nl nb (-1) 0
      · cases hL : isB nl nb <;> rw [hL] at HI
        · exact is_bool (refis_lab kind items nl nb mark a _ c w rfl hk h16' hE HI) (by simp [isR, noneB, hE, hL])
        · by_cases hm : mark = 0
          · cases hb : bareB kind
            · exact is_bool (refis_ok_false_10 kind items nl nb mark a _ c w rfl hk h16' hE HI hm hb hT) (by simp [isR, noneB, hE, hL, hm, hb, hk])
            · by_cases h0 : items.length = 0
              · exact is_bool (refis_next kind items nl nb mark a _ c w rfl hk h16' hE HI hm hb h0) (by simp [isR, noneB, hE, hb])
              · exact is_bool (refis_items_false kind items nl nb mark a _ c w rfl hk h16' hE HI hm hb (by omega)) (by simp [isR, noneB, hE, hb])
          · by_cases h5 : kind = 5
            · have hb : bareB kind = false := by subst h5; rfl
              exact is_bool (refis_ok_false_20 kind items nl nb mark a _ c w rfl hk h16' hE HI hm h5 hb hT) (by simp [isR, noneB, hE, hL, h5, bareB])
            · exact is_bool (refis_mark_false kind items nl nb mark a _ c w rfl hk h16' hE HI hm h5) (by simp [isR, hm, h5])
      · by_cases hm : mark = 0
        · cases hb : bareB kind
          · exact is_bool (refis_ok_true_10 kind items nl nb mark a _ c w rfl hk h16' hE hm hb hT) (by simp [isR, noneB, hE, hm, hb, hk])
          · by_cases h0 : items.length = 0
            · exact is_bool (refis_ok_true_11 kind items nl nb mark a _ c w rfl hk h16' hE hm hb h0 hT) (by simp [isR, noneB, hE, hm, hb, hk, hemp, h0])
            · exact is_bool (refis_items_true kind items nl nb mark a _ c w rfl hk h16' hE hm hb (by omega)) (by simp [isR, hb, hemp, h0])
        · by_cases h5 : kind = 5
          · have hb : bareB kind = false := by subst h5; rfl
            exact is_bool (refis_ok_true_20 kind items nl nb mark a _ c w rfl hk h16' hE hm h5 hb hT) (by simp [isR, noneB, hE, h5, bareB])
          · exact is_bool (refis_mark_true kind items nl nb mark a _ c w rfl hk h16' hE hm h5) (by simp [isR, hm, h5])
  · exact is_bool (refis_lo kind items nl nb mark _ hk w) (by simp [isR, hk])
end Go.Proofs.Ytkicndengkcojaa
