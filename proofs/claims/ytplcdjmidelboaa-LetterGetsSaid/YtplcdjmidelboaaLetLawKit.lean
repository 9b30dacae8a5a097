/- What Put and Get answer, for the laws of letters. -/
import Derived.Test.YtplcdjmidelboaaLetTered
import Derived.Test.YtplcdjmidelboaaLetOnly
import Derived.Test.YtplcdjmidelboaaLetOpen
namespace Go.Proofs.Ytplcdjmidelboaa
set_option maxRecDepth 100000
open Go Go.RowKit Go.Sort

def putV (l : Lt) : ByteArray × Int := if rightB l then (txt (putN l), 0) else (⟨#[]⟩, 1)
theorem putL_any {w : World} {l : Lt} {u v : Value} (hM : LtM w l u v) (hw : l.Wf) (hla : l.avoid.length ≤ 1000000) (hlp : l.peers.length ≤ 1000000) :
    Calls Try.prog 9 #[.agg (ltA l u v)] w fun e w' => e = .returned (.tuple #[.string (putV l).1, .int .i64 (putV l).2]) ∧ Below w.heap.size w w' := by
  unfold putV
  cases hR : rightB l with
  | false => exact put_no hM hw.kind hla hlp hR
  | true => exact put_yes hM hw hla hlp ((rightB_iff hw).1 hR)
def resN (X : Except Nat Lt) : Lt × Int := match X with
  | .ok l => (l, 0)
  | .error n => (zeroL, (n : Int))
theorem got_res {w w' : World} {X : Except Nat Lt} {e : Ending} (h : GotN w X e w') : ∃ u v, e = .returned (.tuple #[.agg (ltA (resN X).1 u v), .int .i64 (resN X).2]) ∧ LtM w' (resN X).1 u v ∧ Below w.heap.size w w' := by
  cases X with
  | ok l => obtain ⟨u, v, h1, h2⟩ := h.ok l rfl; exact ⟨u, v, h1, h2, h.below⟩
  | error n => exact ⟨nilS, nilS, h.no n rfl, ltm_nil w' rfl rfl, h.below⟩
structure Fine (l : Lt) : Prop where
  wf : l.Wf
  a : l.avoid.length ≤ 1000000
  p : l.peers.length ≤ 1000000
theorem fine_zero : Fine zeroL := ⟨zeroL_wf, by decide, by decide⟩
theorem fine_right {l : Lt} (hw : l.Wf) (h : Right l) : Fine l := ⟨hw, by have := h.navoid; omega, by have := h.npeers; omega⟩
theorem fine_big {l : Lt} (hw : l.Wf) (h : bigL l = false) : Fine l := by
  unfold bigL at h
  rw [Bool.or_eq_false_iff, decide_eq_false_iff_not, decide_eq_false_iff_not] at h
  exact ⟨hw, by omega, by omega⟩
theorem fine_res {b : List Nat} (hb : ∀ x ∈ b, x < 256) : Fine (resN (getN b)).1 := by
  cases hX : getN b with
  | ok l => obtain ⟨_, h1, h2⟩ := getN_only hb hX; exact fine_right h2 h1
  | error n => exact fine_zero
theorem same_self {w : World} {l : Lt} {u v u' v' : Value} (hL : LtM w l u v) (hM : LtM w l u' v') (h : Fine l) :
    Calls Try.prog 16 #[.agg (ltA l u v), .agg (ltA l u' v')] w fun e w' => e = .returned (.bool true) ∧ Below w.heap.size w w' := by
  have := same_any hL hM h.wf h.wf h.a h.a h.p h.p
  rw [sameL_self h.wf] at this
  exact this
theorem got_any {w : World} {s : ByteArray} (hs : s.size ≤ 1000000) : Calls Try.prog 14 #[.string s] w fun e w' => ∃ u v, e = .returned (.tuple #[.agg (ltA (resN (getN (bytesN s))).1 u v), .int .i64 (resN (getN (bytesN s))).2]) ∧ LtM w' (resN (getN (bytesN s))).1 u v ∧ Below w.heap.size w w' :=
  (Get_any s w hs).mono fun _ _ h => got_res h
theorem putN_short {l : Lt} (hw : l.Wf) (h : Right l) : (putN l).length ≤ 7000 := by
  have := (shorts hw h).all
  exact this
end Go.Proofs.Ytplcdjmidelboaa
