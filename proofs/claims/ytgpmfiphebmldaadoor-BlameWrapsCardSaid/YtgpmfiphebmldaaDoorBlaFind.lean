/- The program's search through an error: what is asked of each code, in order, up to the first yes. -/
import Derived.Test.YtgpmfiphebmldaaDoorBlaGuard
import Derived.Lib.Hide
namespace Go.Proofs.YtgpmfiphebmldaaDoor
open Go.RowKit

/-- the value of a closure that holds one variable -/
def fnv (K x : Nat) : Value := .func (.func K) #[] #[.pointer (some ⟨x, 0, none⟩)]
/-- all that was there is as it was, but for block x -/
def Off (x : Nat) (w w' : World) : Prop := w.grownBy w' (some x)
theorem Off.of {x : Nat} {w w' : World} (h : Below w.heap.size w w') : Off x w w' := ⟨h.os, h.tape, h.output, h.size, fun k hk _ => h.block k hk⟩
theorem Off.trans {x : Nat} {a b c : World} (h : Off x a b) (k : Off x b c) : Off x a c :=
  ⟨k.os.trans h.os, k.tape.trans h.tape, k.output.trans h.output, Nat.le_trans h.size k.size, fun i hi hx => (k.block i (Nat.lt_of_lt_of_le hi h.size) hx).trans (h.block i hi hx)⟩
theorem Off.bel {x : Nat} {w w' : World} (h : Off x w w') (hx : x ≤ w.heap.size) : Below x w w' := ⟨h.os, h.tape, h.output, h.size, fun k hk => h.block k (by omega) (by simp; omega)⟩
theorem Off.at {x g : Nat} {w w' : World} {cs : Array Value} {t : TypeId} (h : Off x w w') (hb : Blk w g cs t) (hg : g ≠ x) : Blk w' g cs t := (h.block g hb.lt (by simp; omega)).trans hb
/-- what a closure answers of a code: St holds while the answer is no; Fin holds of the code of a yes -/
structure Ask (K x : Nat) (f : Int → Bool) (St : World → Prop) (Fin : Int → World → Prop) : Prop where
  enters : ∀ args w, (callFunc K args).run Tryd.prog w = .ok (.enter K args) w
  call : ∀ c w, okC c → St w → Glob w → x < w.heap.size → Calls Tryd.prog K #[.iface 59 (.int .i64 c), .pointer (some ⟨x, 0, none⟩)] w fun e w' => e = .returned (.bool (f c)) ∧ Off x w w' ∧ (f c = false → St w') ∧ (f c = true → Fin c w')
  st : ∀ w w', Below w.heap.size w w' → St w → St w'
  big : 4 ≤ x
def Fnd (x : Nat) (f : Int → Bool) (St : World → Prop) (Fin : Int → World → Prop) (l : List Int) (w : World) (r : Bool) (w' : World) : Prop :=
  Off x w w' ∧ ((r = false ∧ l.find? f = none ∧ St w') ∨ ∃ c, r = true ∧ l.find? f = some c ∧ Fin c w')

section
variable {K x : Nat} {f : Int → Bool} {St : World → Prop} {Fin : Int → World → Prop}
theorem Fnd.ahead {l : List Int} {w0 w w' : World} {r : Bool} (h : Fnd x f St Fin l w r w') (hb : Off x w0 w) : Fnd x f St Fin l w0 r w' := ⟨hb.trans h.1, h.2⟩

theorem find2_any (A : Ask K x f St Fin) (c : Int) (hc : okC c) (w : World) (x3 x7 : Nat) (h3 : Blk w x3 #[fnv K x] 37) (h7 : Blk w x7 #[.iface 59 (.int .i64 c)] 30) (hS : St w) (hG : Glob w) (hB : x < w.heap.size) :
    Calls Tryd.prog 39 #[.pointer (some ⟨x3, 0, none⟩), .pointer (some ⟨x7, 0, none⟩)] w fun e w' => ∃ r, e = .returned (.bool r) ∧ Fnd x f St Fin [c] w r w' := by
  have c3 : w.cell? ⟨x3, 0, none⟩ = some (.func (.func K) #[] #[.pointer (some ⟨x, 0, none⟩)]) := h3.cell 0
  have c7 : w.cell? ⟨x7, 0, none⟩ = some (.iface 59 (.int .i64 c)) := h7.cell 0
  have en := A.enters
  go_enter Tryd.func39, Tryd.ntmps39
  go_wp2_with (go_at_fn K; refine (A.call c w hc hS hG hB).mono ?_; rintro e w' ⟨rfl, hb, hn, hy⟩)
  go_ret
  refine ⟨_, rfl, hb, ?_⟩
  cases h : f c
  · exact .inl ⟨rfl, by simp [h], hn h⟩
  · exact .inr ⟨c, rfl, by simp [h], hy h⟩

set_option maxRecDepth 100000 in
theorem find_code (A : Ask K x f St Fin) (c : Int) (hc : okC c) (w : World) (hS : St w) (hG : Glob w) (hB : x < w.heap.size) :
    Calls Tryd.prog 28 #[.iface 59 (.int .i64 c), fnv K x] w fun e w' => ∃ r, e = .returned (.bool r) ∧ Fnd x f St Fin [c] w r w' := by
  have mf := hmf
  have b1 : Blk ((w.alloc (.cells #[fnv K x] 37)).alloc (.cells #[.iface 59 (.int .i64 c)] 30)) w.heap.size #[fnv K x] 37 := (Blk.new w _ _).alloc _
  have b2 : Blk ((w.alloc (.cells #[fnv K x] 37)).alloc (.cells #[.iface 59 (.int .i64 c)] 30)) (w.heap.size + 1) #[.iface 59 (.int .i64 c)] 30 := by
    have h := Blk.new (w.alloc (.cells #[fnv K x] 37)) #[.iface 59 (.int .i64 c)] 30
    rwa [World.size_alloc] at h
  have bel : Below w.heap.size w ((w.alloc (.cells #[fnv K x] 37)).alloc (.cells #[.iface 59 (.int .i64 c)] 30)) := ((Below.refl _ _).alloc (Nat.le_refl _) _).alloc (by rw [World.size_alloc]; omega) _
  have G := guarded_any _ _ _ _ (find2_any A c hc _ w.heap.size (w.heap.size + 1) b1 b2 (A.st _ _ bel hS) (hG.below bel hG.size) (by simp; omega))
  have tw := t_cw
  have tj := t_cj
  unfold fnv at *
  go_enter Tryd.func28, Tryd.ntmps28
  go_wp2_with (go_at_call 38; (with_reducible refine G.mono ?_); rintro e w' ⟨r, rfl, hF⟩)
  go_ret
  exact ⟨_, rfl, hF.ahead (Off.of bel)⟩
end
end Go.Proofs.YtgpmfiphebmldaaDoor
