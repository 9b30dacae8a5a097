/- The document's example of a table, call by call. -/
import Derived.Test.YtkcljbolopephaaTabMath
import Derived.Test.YtkcljbolopephaaPow
namespace Go.Proofs.Ytkcljbolopephaa
set_option maxRecDepth 100000
open Go Go.RowKit Go.Sort

def s1 : Pe := (1, 10)
def S2 : List Pe := [(2, 20), (3, 30)]
def F0 : List Pe := rep 160 (-1, 0)
def F4 : List Pe := (ptL (pointG s1 (2, 20) 0) 160 0 F0).1
/-- two rows that lie in blocks of their own -/
structure Tw (B : Nat) (w : World) (r1 r2 : Value) (S F : List Pe) : Prop where
  l1 : Lies w r1 S
  l2 : Lies w r2 F
  k1 : ∀ k, r1.ownBlock = some k → B ≤ k
  k2 : ∀ k, r2.ownBlock = some k → B ≤ k
theorem peer_1 (w : World) : Calls Try.prog 53 #[.int .i64 1] w fun e w' => e = .returned (.agg (peA (1, 10))) ∧ Below w.heap.size w w' := lawpeer_any 1 w (by omega) (by decide +kernel)
theorem peer_2 (w : World) : Calls Try.prog 53 #[.int .i64 2] w fun e w' => e = .returned (.agg (peA (2, 20))) ∧ Below w.heap.size w w' := lawpeer_any 2 w (by omega) (by decide +kernel)
theorem peer_3 (w : World) : Calls Try.prog 53 #[.int .i64 3] w fun e w' => e = .returned (.agg (peA (3, 30))) ∧ Below w.heap.size w w' := lawpeer_any 3 w (by omega) (by decide +kernel)
theorem peer_4 (w : World) : Calls Try.prog 53 #[.int .i64 4] w fun e w' => e = .returned (.agg (peA (4, 40))) ∧ Below w.heap.size w w' := lawpeer_any 4 w (by omega) (by decide +kernel)
theorem small_15 (w : World) : Calls Try.prog 54 #[.int .i64 15] w fun e w' => e = .returned (idv 15) ∧ Below w.heap.size w w' := small_all 15 w (by omega) (by decide +kernel)
theorem small_40 (w : World) : Calls Try.prog 54 #[.int .i64 40] w fun e w' => e = .returned (idv 40) ∧ Below w.heap.size w w' := small_all 40 w (by omega) (by decide +kernel)
theorem rep_mem {n : Nat} {x y : Pe} (h : y ∈ rep n x) : y = x := (List.mem_replicate.1 h).2
theorem oth2 : otherB s1 (2, 20) = true := by decide +kernel
theorem oth3 : otherB s1 (3, 30) = true := by decide +kernel
theorem rt0 : Rt s1 (-1, 0) [] F0 := ⟨by decide, by decide, by unfold F0 rep; rw [List.length_replicate], fun x hx => (by cases hx), List.Pairwise.nil, fun x hx => by
  rcases List.mem_cons.1 hx with rfl | h
  · exact .inl none_self
  · rw [rep_mem h]; exact .inl none_self⟩
theorem ad2 : adoptB s1 (-1, 0) [] F0 (2, 20) 4 = true := by
  unfold adoptB okR; rw [isT_iff.2 rt0, oth2]; rfl
theorem adl : adG (otherB s1) 4 [(2, 20)] [(3, 30), (1, 10), (4, 40)] = S2 := by decide +kernel
theorem rt2 : Rt s1 (-1, 0) S2 F0 := by
  have h := (rt_adopt (R := [(3, 30), (1, 10), (4, 40)]) rt0 ad2).1
  rwa [show (4 : Int).toNat = 4 from rfl, adl] at h
theorem le3 : learnB s1 (-1, 0) S2 F0 (3, 30) = true := by
  unfold learnB; rw [isT_iff.2 rt2, oth3, none_self]; rfl
theorem rt3 : Rt s1 (3, 30) S2 F0 := by
  have h := rt_learn (x := (3, 30)) rt2
  rwa [if_pos le3] at h
theorem po0 : pointB s1 (3, 30) S2 F0 (2, 20) 0 = true := by
  unfold pointB okK; rw [isT_iff.2 rt3, oth2, Bool.or_true]; rfl
theorem po4 : (ptL (pointG s1 (2, 20) 0) 160 0 F0).2 = 4 := by decide +kernel
theorem f4_3 : F4.getD 3 (0, 0) = (2, 20) := by decide +kernel
theorem f4_4 : F4.getD 4 (0, 0) = (-1, 0) := by decide +kernel
theorem f4_for : F4.map (forP 2) = F0 := by decide +kernel
theorem rt4 : Rt s1 (3, 30) S2 F4 := (rt_point rt3 po0).1
theorem f4_len : F4.length = 160 := rt4.fin
theorem f0_len : F0.length = 160 := rt0.fin
theorem kn4 : nrR (nrG (fun a b => openB a b 40) [] (s1, false) (knL s1 (3, 30) S2 F4)) = ((3, 30), true) := by decide +kernel
theorem ha15 : halfB s1.2 15 (firstP s1 S2).2 = true := by decide +kernel
theorem cl9 : closerB s1 S2 (9, 15) = true := by decide +kernel
theorem kn5 : (knL s1 (3, 30) [(3, 30)] F0).length = 1 := by decide +kernel
theorem new_1 (w : World) : Calls Try.prog 11 #[.agg (peA (1, 10))] w fun e w' => ∃ r2, e = .returned (.tuple #[.agg (tabA s1 (-1, 0) nilS r2), .int .i64 0]) ∧ Lies w' r2 F0 ∧ Below w.heap.size w w' :=
  (new_any (1, 10)).mono fun _ _ ⟨h, hb⟩ => by
    rcases h with ⟨h, _⟩ | ⟨_, r2, he, hl⟩
    · exact absurd h (by decide)
    · exact ⟨r2, he, hl, hb⟩
theorem adopt_2 {w : World} {u v z : Value} (hS : Lies w u []) (hF : Lies w v F0) (hR : Lies w z [(3, 30), (1, 10), (4, 40)]) :
    Calls Try.prog 13 #[.agg (tabA s1 (-1, 0) u v), .agg (peA (2, 20)), z, .int .i64 4] w fun e w' => ∃ r1 r2, e = .returned (.tuple #[.agg (tabA s1 (-1, 0) r1 r2), .int .i64 0]) ∧ Tw w.heap.size w' r1 r2 S2 F0 ∧ Below w.heap.size w w' :=
  (adopt_any (2, 20) 4 hS hF hR (by simp) (by rw [f0_len]; omega) (by simp)).mono fun _ _ ⟨h, hb⟩ => by
    rcases h with ⟨h, _⟩ | ⟨_, t, he, r1, r2, ht, o1, o2, _⟩
    · rw [ad2] at h; cases h
    · rw [show (4 : Int).toNat = 4 from rfl, adl] at o1
      exact ⟨r1, r2, by rw [he, ht], ⟨own_lies o1, own_lies o2, fun k e => (o1.lt k e).1, fun k e => (o2.lt k e).1⟩, hb⟩
theorem learn_3 {w : World} {u v : Value} (hS : Lies w u S2) (hF : Lies w v F0) :
    Calls Try.prog 19 #[.agg (tabA s1 (-1, 0) u v), .agg (peA (3, 30))] w fun e w' => ∃ r1 r2, e = .returned (.agg (tabA s1 (3, 30) r1 r2)) ∧ Tw w.heap.size w' r1 r2 S2 F0 ∧ Below w.heap.size w w' :=
  (learn_any (3, 30) hS hF (by decide) (by rw [f0_len]; omega)).mono fun _ _ ⟨t, he, ⟨r1, r2, ht, o1, o2, _⟩, hb⟩ => by
    rw [if_pos le3] at ht
    exact ⟨r1, r2, by rw [he, ht], ⟨own_lies o1, own_lies o2, fun k e => (o1.lt k e).1, fun k e => (o2.lt k e).1⟩, hb⟩
theorem point_0 {w : World} {u v : Value} (hS : Lies w u S2) (hF : Lies w v F0) :
    Calls Try.prog 15 #[.agg (tabA s1 (3, 30) u v), .int .i64 0, .agg (peA (2, 20))] w fun e w' => ∃ r1 r2, e = .returned (.tuple #[.agg (tabA s1 (3, 30) r1 r2), .int .i64 4, .int .i64 0]) ∧ Tw w.heap.size w' r1 r2 S2 F4 ∧ Below w.heap.size w w' :=
  (point_any (2, 20) 0 hS hF (by decide) (by rw [f0_len]; omega) fun _ => f0_len).mono fun _ _ ⟨h, hb⟩ => by
    rcases h with ⟨h, _⟩ | ⟨_, r1, r2, he, l1, l2, k1, k2⟩
    · rw [po0] at h; cases h
    · rw [show (0 : Int).toNat = 0 from rfl, Nat.sub_zero, po4] at he
      exact ⟨r1, r2, he, ⟨l1, l2, k1, k2⟩, hb⟩
theorem done_15 {w : World} {u v : Value} (hS : Lies w u S2) : Calls Try.prog 23 #[.agg (tabA s1 (3, 30) u v), idv 15] w fun e w' => e = .returned (.tuple #[.agg (peA (2, 20)), .bool true]) ∧ Below w.heap.size w w' :=
  (done_any 15 hS).mono fun _ _ ⟨h, hb⟩ => ⟨by rw [h, ha15]; rfl, hb⟩
theorem near_40 {w : World} {u v : Value} (hS : Lies w u S2) (hF : Lies w v F4) : Calls Try.prog 21 #[.agg (tabA s1 (3, 30) u v), idv 40, .slice none 0 0] w fun e w' => e = .returned (.tuple #[.agg (peA (3, 30)), .bool true]) ∧ Below w.heap.size w w' :=
  (near_any (A := []) 40 hS hF (.inl ⟨rfl, rfl⟩) (by rw [f4_len]; decide) (by simp)).mono fun _ _ ⟨h, hb⟩ => ⟨by rw [h, kn4], hb⟩
theorem forget_2 {w : World} {u v : Value} (hS : Lies w u S2) (hF : Lies w v F4) : Calls Try.prog 34 #[.agg (tabA s1 (3, 30) u v), .int .i64 2] w fun e w' => ∃ r1 r2, e = .returned (.agg (tabA s1 (3, 30) r1 r2)) ∧ Lies w' r1 [(3, 30)] ∧ Lies w' r2 F0 ∧ Below w.heap.size w w' :=
  (forget_any 2 hS hF (by decide) (by rw [f4_len]; omega)).mono fun _ _ ⟨r1, r2, he, l1, l2, hb⟩ => by
    rw [f4_for] at l2
    exact ⟨r1, r2, he, l1, l2, hb⟩
theorem is_4 {w : World} {u v : Value} (hS : Lies w u S2) (hF : Lies w v F4) : Calls Try.prog 25 #[.agg (tabA s1 (3, 30) u v)] w fun e w' => e = .returned (.bool true) ∧ Below w.heap.size w w' :=
  (is_any hS hF (by decide) (by rw [f4_len]; omega)).mono fun _ _ ⟨h, hb⟩ => ⟨by rw [h, isT_iff.2 rt4], hb⟩
theorem known_5 {w : World} {u v : Value} (hS : Lies w u [(3, 30)]) (hF : Lies w v F0) : Calls Try.prog 32 #[.agg (tabA s1 (3, 30) u v)] w fun e w' => ∃ a c, e = .returned (.slice a 1 c) ∧ Below w.heap.size w w' :=
  (known_any hS hF (by rw [f0_len]; decide)).mono fun _ _ ⟨r, he, hl, hb⟩ => by
    obtain ⟨a, c, hr⟩ := hl.form
    rw [kn5] at hr
    exact ⟨a, c, by rw [he, hr], hb⟩
theorem first_5 {w : World} {u v : Value} (hS : Lies w u [(3, 30)]) : Calls Try.prog 27 #[.agg (tabA s1 (3, 30) u v)] w fun e w' => e = .returned (.agg (peA (3, 30))) ∧ Below w.heap.size w w' := first_any hS
theorem closer_9 {w : World} {u v : Value} (hS : Lies w u S2) : Calls Try.prog 29 #[.agg (tabA s1 (3, 30) u v), .agg (peA (9, 15))] w fun e w' => e = .returned (.bool true) ∧ Below w.heap.size w w' :=
  (closer_any (9, 15) hS).mono fun _ _ ⟨h, hb⟩ => ⟨by rw [h, cl9], hb⟩
end Go.Proofs.Ytkcljbolopephaa
