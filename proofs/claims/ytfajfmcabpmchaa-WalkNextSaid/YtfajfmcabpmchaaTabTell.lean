/- Whether a peer is another one of a table; the first of those behind. -/
import Derived.Test.YtfajfmcabpmchaaTabMem
import Derived.Test.YtfajfmcabpmchaaQuiet
namespace Go.Proofs.Ytfajfmcabpmchaa
set_option maxRecDepth 100000
open Go Go.RowKit Go.Sort

def addrB (a : Int) : Bool := decide (0 ≤ a) && decide (a ≤ 999)
theorem addr_iff {a : Int} : addrB a = true ↔ 0 ≤ a ∧ a ≤ 999 := by unfold addrB; rw [Bool.and_eq_true, decide_eq_true_eq, decide_eq_true_eq]
def otherB (s x : Pe) : Bool := addrB x.1 && (!decide (x.1 = s.1) && !eqB x.2 s.2)
def firstP (s : Pe) (S : List Pe) : Pe := S.headD s
def closerB (s : Pe) (S : List Pe) (x : Pe) : Bool := otherB s x && openB s.2 x.2 (firstP s S).2
theorem isAddr_any (a : Int) (w : World) : Calls Try.prog 40 #[.int .i64 a] w fun e w' => e = .returned (.bool (addrB a)) ∧ w = w' := by
  by_cases h1 : 0 ≤ a
  · by_cases h2 : a ≤ 999
    · have e : addrB a = true := addr_iff.2 ⟨h1, h2⟩
      rw [e]
      go_enter Try.func40, Try.ntmps40
      go_wp2
      go_ret
      exact ⟨rfl, rfl⟩
    · have e : addrB a = false := by rw [← Bool.not_eq_true, addr_iff]; exact fun h => h2 h.2
      rw [e]
      go_enter Try.func40, Try.ntmps40
      go_wp2
      go_ret
      exact ⟨rfl, rfl⟩
  · have e : addrB a = false := by rw [← Bool.not_eq_true, addr_iff]; exact fun h => h1 h.1
    rw [e]
    go_enter Try.func40, Try.ntmps40
    go_wp2
    go_ret
    exact ⟨rfl, rfl⟩
/-- a table, and a peer behind it, in blocks of their own -/
structure Box2 (w W : World) (s p : Pe) (u v : Value) (x : Pe) : Prop where
  bel : Below w.heap.size w W
  tb : TB W w.heap.size s p u v
  pb : PB W (w.heap.size + 1) x
theorem Box2.made (w : World) (s p : Pe) (u v : Value) (x : Pe) : Box2 w ((w.alloc (.cells (tabA s p u v) 43)).alloc (.cells (peA x) 28)) s p u v x := by
  refine ⟨((Below.refl w.heap.size w).alloc (Nat.le_refl _) _).alloc (by simp) _, Blk.alloc (Blk.new ..) _, ?_⟩
  have := PB.new (w.alloc (.cells (tabA s p u v) 43)) x
  rwa [World.size_alloc] at this
set_option maxHeartbeats 2000000 in
theorem isOther_gives (s p : Pe) (u v : Value) (x : Pe) : Gives Try.prog 41 #[.agg (tabA s p u v), .agg (peA x)] (.bool (otherB s x)) := by
  intro w
  have HB := Lib.hid (Box2.made w s p u v x)
  have c1 := HB.out.pb.A
  have c2 := HB.out.pb.I
  have c3 := HB.out.tb.sA
  have c4 := HB.out.tb.sI
  have HC := Lib.hid (isAddr_any x.1)
  obtain ⟨xa, xi⟩ := x
  obtain ⟨sa, si⟩ := s
  have e0 : otherB (sa, si) (xa, xi) = (addrB xa && (!decide (xa = sa) && !eqB xi si)) := rfl
  rw [e0]
  clear e0
  cases hA : addrB xa
  · rw [hA] at HC
    go_enter Try.func41, Try.ntmps41
    go_upto_region 1 with (fail)
    generalize (w.alloc _).alloc _ = W at *
    generalize w.heap.size = g at *
    go_wp2_with (go_at_call 40; (with_reducible refine (HC.out _).mono ?_); rintro e w1 ⟨rfl, rfl⟩)
    go_ret
    exact ⟨rfl, HB.out.bel⟩
  · rw [hA] at HC
    by_cases h2 : xa = sa
    · subst h2
      go_enter Try.func41, Try.ntmps41
      go_upto_region 1 with (fail)
      generalize (w.alloc _).alloc _ = W at *
      generalize w.heap.size = g at *
      go_wp2_with (go_at_call 40; (with_reducible refine (HC.out _).mono ?_); rintro e w1 ⟨rfl, rfl⟩)
      go_ret
      exact ⟨by simp, HB.out.bel⟩
    · have e2 : (xa != sa) = true := by simpa using h2
      have e3 : decide (xa = sa) = false := decide_eq_false h2
      rw [e3]
      generalize hr : eqB xi si = r
      go_enter Try.func41, Try.ntmps41
      go_upto_region 1 with (fail)
      generalize (w.alloc _).alloc _ = W at *
      generalize w.heap.size = g at *
      go_wp2_with (first
        | (go_at_call 40; (with_reducible refine (HC.out _).mono ?_); rintro e w1 ⟨rfl, rfl⟩)
        | (go_guarded; refine o_midI _ rfl (g + 1) 1 rfl xi c2 ?_; simp only [Act.put, List.setIfInBounds_toArray, List.set_cons_succ, List.set_cons_zero])
        | (go_guarded; refine o_midI _ rfl g 1 rfl si c4 ?_; simp only [Act.put, List.setIfInBounds_toArray, List.set_cons_succ, List.set_cons_zero])
        | (go_guarded; refine o_neq _ _ rfl xi si rfl rfl (r := !r) (by rw [hr]) ?_; simp only [Act.put, List.setIfInBounds_toArray, List.set_cons_succ, List.set_cons_zero]))
      go_ret
      exact ⟨by simp, HB.out.bel⟩
theorem PB.zero (w : World) : PB (w.alloc (.cells (peA (0, 0)) 28)) w.heap.size (0, 0) := Blk.new ..
theorem first_cons (s x : Pe) (S : List Pe) : firstP s (x :: S) = x := rfl
set_option maxHeartbeats 1000000 in
theorem first_any {w : World} {s p : Pe} {u v : Value} {S : List Pe} (hS : Lies w u S) : Calls Try.prog 48 #[.agg (tabA s p u v)] w fun e w' => e = .returned (.agg (peA (firstP s S))) ∧ Below w.heap.size w w' := by
  have HB := Lib.hid (Box2.made w s p u v (0, 0))
  have hl := hS.bel HB.out.bel
  cases S with
  | nil =>
    obtain ⟨a, c, rfl⟩ := hS.form
    have c1 := HB.out.tb.cu
    have c2 := HB.out.tb.self
    go_enter Try.func48, Try.ntmps48
    go_upto_region 1 with (fail)
    rw [peer_zero]
    have X := HB.out.pb
    have B := HB.out.bel
    clear HB hl
    generalize (w.alloc _).alloc _ = W at *
    generalize hg : w.heap.size = g at *
    go_wp2_with (first
      | (refine p_midP rfl _ rfl g 0 rfl s c2 ?_)
      | (refine p_putO rfl _ _ rfl (g + 1) rfl s rfl X ?_))
    exact bodyPost_ret (results_P1 Try.results48 _ _ (g + 1) rfl (X.set s)) rfl ⟨rfl, by rw [hg]; exact bel_setRow B (Nat.le_succ g) _⟩
  | cons x S =>
    obtain ⟨b, o, c, rfl, hc, hr, hlt⟩ := hS.some (by simp)
    obtain ⟨b', o', c', e, _, _, r1, _⟩ := hl.at (i := 0) (x := x) rfl
    simp only [Value.slice.injEq, Option.some.injEq, Addr.mk.injEq, and_true, true_and] at e
    obtain ⟨⟨rfl, rfl⟩, rfl⟩ := e
    rw [Nat.zero_mul, Nat.add_zero] at r1
    have c1 := HB.out.tb.cu
    rw [first_cons]
    have hn : ((S.length + 1 : Nat) : Int) ≠ 0 := by omega
    have hn2 : (0 : Int) < ((S.length + 1 : Nat) : Int) := by omega
    rw [List.length_cons] at *
    clear hS hl
    generalize S.length + 1 = n at *
    have hn3 : ((n : Int) == 0) = false := by simpa using hn
    go_enter Try.func48, Try.ntmps48
    go_upto_region 1 with (fail)
    rw [peer_zero]
    have X := HB.out.pb
    have B := HB.out.bel
    clear HB
    generalize (w.alloc _).alloc _ = W at *
    generalize hg : w.heap.size = g at *
    go_wp2_with (first
      | (refine p_midP rfl _ rfl b o rfl x r1 ?_)
      | (refine p_putO rfl _ _ rfl (g + 1) rfl x rfl X ?_))
    exact bodyPost_ret (results_P1 Try.results48 _ _ (g + 1) rfl (X.set x)) rfl ⟨rfl, by rw [hg]; exact bel_setRow B (Nat.le_succ g) _⟩
end Go.Proofs.Ytfajfmcabpmchaa
