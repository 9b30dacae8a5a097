/- The document's own functions on tables: Other, maybe, has, in, First, Closer, Done, Own, New, Is, Learn, Adopt, Point. -/
import Derived.Test.YtfajfmcabpmchaaTabKit
import Derived.Deep.CutRange
namespace Go.Proofs.Ytfajfmcabpmchaa
set_option maxRecDepth 100000
open Go Go.RowKit Go.Sort

set_option maxHeartbeats 2000000 in
theorem refother_gives (s p : Pe) (u v : Value) (x : Pe) : Gives Try.prog 82 #[.agg (tabA s p u v), .agg (peA x)] (.bool (otherB s x)) := by
  intro w
  have HB := Lib.hid (Box2.made w s p u v x)
  have c1 := HB.out.pb.A
  have c2 := HB.out.pb.I
  have c3 := HB.out.tb.sA
  have c4 := HB.out.tb.sI
  obtain ⟨xa, xi⟩ := x
  obtain ⟨sa, si⟩ := s
  have e0 : otherB (sa, si) (xa, xi) = (addrB xa && (!decide (xa = sa) && !eqB xi si)) := rfl
  rw [e0]
  clear e0
  generalize hr : eqB xi si = r
  by_cases h1 : 0 ≤ xa
  · have d1 : decide ((0 : Int) ≤ xa) = true := decide_eq_true h1
    by_cases h2 : xa ≤ 999
    · have d2 : decide (xa ≤ (999 : Int)) = true := decide_eq_true h2
      have e : addrB xa = true := addr_iff.2 ⟨h1, h2⟩
      rw [e]
      clear h1 h2
      by_cases h3 : xa = sa
      · subst h3
        go_enter Try.func82, Try.ntmps82
        go_upto_region 1 with (fail)
        generalize (w.alloc _).alloc _ = W at *
        generalize w.heap.size = g at *
        go_wp2_with (first
          | go_big_skip
          | (go_guarded; refine o_midI _ rfl (g + 1) 1 rfl xi c2 ?_; simp only [Act.put, List.setIfInBounds_toArray, List.set_cons_succ, List.set_cons_zero])
          | (go_guarded; refine o_midI _ rfl g 1 rfl si c4 ?_; simp only [Act.put, List.setIfInBounds_toArray, List.set_cons_succ, List.set_cons_zero])
          | (go_guarded; refine o_neq _ _ rfl xi si rfl rfl (r := !r) (by rw [hr]) ?_; simp only [Act.put, List.setIfInBounds_toArray, List.set_cons_succ, List.set_cons_zero]))
        go_ret
        exact ⟨by simp, HB.out.bel⟩
      · have e2 : (xa != sa) = true := by simpa using h3
        have e3 : decide (xa = sa) = false := decide_eq_false h3
        rw [e3]
        clear h3
        go_enter Try.func82, Try.ntmps82
        go_upto_region 1 with (fail)
        generalize (w.alloc _).alloc _ = W at *
        generalize w.heap.size = g at *
        go_wp2_with (first
          | go_big_skip
          | (go_guarded; refine o_midI _ rfl (g + 1) 1 rfl xi c2 ?_; simp only [Act.put, List.setIfInBounds_toArray, List.set_cons_succ, List.set_cons_zero])
          | (go_guarded; refine o_midI _ rfl g 1 rfl si c4 ?_; simp only [Act.put, List.setIfInBounds_toArray, List.set_cons_succ, List.set_cons_zero])
          | (go_guarded; refine o_neq _ _ rfl xi si rfl rfl (r := !r) (by rw [hr]) ?_; simp only [Act.put, List.setIfInBounds_toArray, List.set_cons_succ, List.set_cons_zero]))
        go_ret
        exact ⟨by simp, HB.out.bel⟩
    · have d2 : decide (xa ≤ (999 : Int)) = false := decide_eq_false h2
      have e : addrB xa = false := by rw [← Bool.not_eq_true, addr_iff]; exact fun h => h2 h.2
      rw [e]
      clear h1 h2
      go_enter Try.func82, Try.ntmps82
      go_upto_region 1 with (fail)
      generalize (w.alloc _).alloc _ = W at *
      generalize w.heap.size = g at *
      go_wp2_with (first
        | go_big_skip
        | (go_guarded; refine o_midI _ rfl (g + 1) 1 rfl xi c2 ?_; simp only [Act.put, List.setIfInBounds_toArray, List.set_cons_succ, List.set_cons_zero])
        | (go_guarded; refine o_midI _ rfl g 1 rfl si c4 ?_; simp only [Act.put, List.setIfInBounds_toArray, List.set_cons_succ, List.set_cons_zero])
        | (go_guarded; refine o_neq _ _ rfl xi si rfl rfl (r := !r) (by rw [hr]) ?_; simp only [Act.put, List.setIfInBounds_toArray, List.set_cons_succ, List.set_cons_zero]))
      go_ret
      exact ⟨by simp, HB.out.bel⟩
  · have d1 : decide ((0 : Int) ≤ xa) = false := decide_eq_false h1
    have e : addrB xa = false := by rw [← Bool.not_eq_true, addr_iff]; exact fun h => h1 h.1
    rw [e]
    clear h1
    go_enter Try.func82, Try.ntmps82
    go_upto_region 1 with (fail)
    generalize (w.alloc _).alloc _ = W at *
    generalize w.heap.size = g at *
    go_wp2_with (first
      | go_big_skip
      | (go_guarded; refine o_midI _ rfl (g + 1) 1 rfl xi c2 ?_; simp only [Act.put, List.setIfInBounds_toArray, List.set_cons_succ, List.set_cons_zero])
      | (go_guarded; refine o_midI _ rfl g 1 rfl si c4 ?_; simp only [Act.put, List.setIfInBounds_toArray, List.set_cons_succ, List.set_cons_zero])
      | (go_guarded; refine o_neq _ _ rfl xi si rfl rfl (r := !r) (by rw [hr]) ?_; simp only [Act.put, List.setIfInBounds_toArray, List.set_cons_succ, List.set_cons_zero]))
    go_ret
    exact ⟨by simp, HB.out.bel⟩
set_option maxHeartbeats 2000000 in
theorem refmaybe_core {s p : Pe} {u v : Value} (x : Pe) (nb ot : Bool) (hO : Gives Try.prog 82 #[.agg (tabA s p u v), .agg (peA x)] (.bool ot)) (hnb : eqP x (-1, 0) = nb) :
    Gives Try.prog 81 #[.agg (tabA s p u v), .agg (peA x)] (.bool (nb || ot)) := by
  intro w
  have HB := Lib.hid (Box2.made w s p u v x)
  have T1 := HB.out.tb
  have P1 := HB.out.pb.range
  have hNO : Gives Try.prog 37 #[] (.agg (peA (-1, 0))) := refnone_any
  cases nb
  · go_enter Try.func81, Try.ntmps81
    go_upto_region 1 with (fail)
    generalize (w.alloc _).alloc _ = W at *
    generalize w.heap.size = g at *
    refine wp_region_quiet_below (by kernel_rfl) (by kernel_rfl) ?_
    repeat (first
      | go_big_quiet_skip
      | (go_big_quiet_want
         first
         | (first | (refine q_midP _ rfl (g + 1) 0 rfl x (by with_reducible exact P1) ?_) | (refine q_midT _ rfl g rfl T1 ?_) | (refine q_eqlP _ _ rfl x (-1, 0) rfl rfl hnb ?_)
            simp only [Act.put, List.setIfInBounds_toArray, List.set_cons_succ, List.set_cons_zero]
            go_big_quiet_on)
         | (go_big_quiet_op
            first | go_big_quiet_on | go_big_quiet_call (first | with_reducible exact hNO.grown _ _ | with_reducible exact hO.grown _ _))))
    refine wpQuiet_nil ?_
    intro w9 hw'
    have k9 := quiet_end hw'
    clear hw'
    have HB2 := Lib.hid (HB.out.bel.trans (k9.mono HB.out.bel.size))
    clear k9
    go_wp2
    go_ret
    exact ⟨rfl, HB2.out⟩
  · go_enter Try.func81, Try.ntmps81
    go_upto_region 1 with (fail)
    generalize (w.alloc _).alloc _ = W at *
    generalize w.heap.size = g at *
    refine wp_region_quiet_below (by kernel_rfl) (by kernel_rfl) ?_
    repeat (first
      | go_big_quiet_skip
      | (go_big_quiet_want
         first
         | (first | (refine q_midP _ rfl (g + 1) 0 rfl x (by with_reducible exact P1) ?_) | (refine q_midT _ rfl g rfl T1 ?_) | (refine q_eqlP _ _ rfl x (-1, 0) rfl rfl hnb ?_)
            simp only [Act.put, List.setIfInBounds_toArray, List.set_cons_succ, List.set_cons_zero]
            go_big_quiet_on)
         | (go_big_quiet_op
            first | go_big_quiet_on | go_big_quiet_call (first | with_reducible exact hNO.grown _ _ | with_reducible exact hO.grown _ _))))
    refine wpQuiet_nil ?_
    intro w9 hw'
    have k9 := quiet_end hw'
    clear hw'
    have HB2 := Lib.hid (HB.out.bel.trans (k9.mono HB.out.bel.size))
    clear k9
    go_wp2
    go_ret
    exact ⟨rfl, HB2.out⟩
theorem refmaybe_gives (s p : Pe) (u v : Value) (x : Pe) : Gives Try.prog 81 #[.agg (tabA s p u v), .agg (peA x)] (.bool (eqP x (-1, 0) || otherB s x)) := refmaybe_core x _ _ (refother_gives s p u v x) rfl
theorem has_true {L : List Pe} {a : Int} {k : Nat} (hk : k < L.length) (h : (L.getD k (0, 0)).1 = a) : hasB L a = true := by
  unfold hasB
  rw [List.any_eq_true]
  rw [List.getD_eq_getElem?_getD, List.getElem?_eq_getElem hk, Option.getD_some] at h
  exact ⟨L[k], List.getElem_mem hk, decide_eq_true h⟩
theorem has_false {L : List Pe} {a : Int} (h : ∀ j, j < L.length → (L.getD j (0, 0)).1 ≠ a) : hasB L a = false := has_not.2 fun x hx => by
  obtain ⟨j, hj, e⟩ := List.mem_iff_getElem.1 hx
  have := h j hj
  rw [List.getD_eq_getElem?_getD, List.getElem?_eq_getElem hj, Option.getD_some, e] at this
  exact this
set_option maxHeartbeats 1000000 in
theorem refhas_any {w : World} {v : Value} {L : List Pe} (a : Int) (hL : Lies w v L) (hn : L.length ≤ 1000000) :
    Calls Try.prog 83 #[v, .int .i64 a] w fun e w' => e = .returned (.bool (hasB L a)) ∧ Below w.heap.size w w' := by
  have HL0 := Lib.hid hL
  obtain ⟨va, vc, rfl⟩ := hL.form
  clear hL
  generalize hln : L.length = n at *
  have HN := Lib.hid hln
  clear hln
  go_enter Try.func83, Try.ntmps83
  go_upto_region 2 with (fail)
  go_loopw [5] (fun i wr => ∃ k : Nat, i = .int .i64 (k : Int) ∧ k ≤ n ∧ (∀ j, j < k → (L.getD j (0, 0)).1 ≠ a) ∧ wr = w) (fun i _ => n - (intOf i).toNat)
  case atStart => exact ⟨0, rfl, Nat.zero_le _, fun j hj => by omega, rfl⟩
  case round =>
    obtain ⟨k, rfl, hk, hall, rfl⟩ := hrel
    have HA := Lib.hid hall
    clear hall
    by_cases hlt : k < n
    · have hx := getD_at (L := L) (k := k) (by have := HN.out; omega)
      obtain ⟨b, o, c, e1, _, _, r1, _⟩ := HL0.out.at hx
      simp only [Value.slice.injEq] at e1
      obtain ⟨rfl, _, rfl⟩ := e1
      have c1 := pe_ad r1
      clear r1 hx
      have b1 : (k : Int) < (n : Int) := by omega
      have b2 : (0 : Int) ≤ (k : Int) := by omega
      have s2 : IntKind.i64.wrap ((k : Int) + 1) = (k : Int) + 1 := IntWalk.i64_in _ (by omega)
      by_cases hx : (L.getD k (0, 0)).1 = a
      · have HE := Lib.hid (has_true (by rw [HN.out]; exact hlt) hx)
        have e1 : ((L.getD k (0, 0)).1 == a) = true := by rw [hx]; simp
        generalize (L.getD k (0, 0)).1 = y at *
        clear hx HA
        go_wp2
        go_ret
        exact ⟨by rw [HE.out]; rfl, Below.refl _ _⟩
      · have hall : ∀ j, j < k + 1 → (L.getD j (0, 0)).1 ≠ a := fun j hj => by
          rcases Nat.lt_or_ge j k with h | h
          · exact HA.out j h
          · obtain rfl : j = k := by omega
            exact hx
        have HA2 := Lib.hid hall
        have e1 : ((L.getD k (0, 0)).1 == a) = false := by rw [beq_eq_false_iff_ne]; exact hx
        generalize (L.getD k (0, 0)).1 = y at c1 e1
        clear hx hall HA
        go_wp2
        exact ⟨⟨k + 1, by go_num, by omega, HA2.out, by first | rfl | trivial⟩, by simp [intOf]; omega⟩
    · obtain rfl : k = n := by omega
      have HE := Lib.hid (has_false (L := L) (a := a) (by rw [HN.out]; exact HA.out))
      have n1 : ¬ (k : Int) < (k : Int) := by omega
      go_wp2
      go_ret
      exact ⟨by rw [HE.out]; rfl, Below.refl _ _⟩
set_option maxHeartbeats 1000000 in
theorem refin_any {w : World} {v : Value} {A : List Int} (a : Int) (hA : Nums w v A) (hn : A.length ≤ 1000000) :
    Calls Try.prog 57 #[v, .int .i64 a] w fun e w' => e = .returned (.bool (memB A a)) ∧ Below w.heap.size w w' := by
  have HZ := Lib.hid hA
  obtain ⟨va, vc, rfl⟩ := hA.form
  clear hA
  generalize hln : A.length = n at *
  have HN := Lib.hid hln
  clear hln
  go_enter Try.func57, Try.ntmps57
  go_upto_region 2 with (fail)
  go_loopw [5] (fun i wr => ∃ k : Nat, i = .int .i64 (k : Int) ∧ k ≤ n ∧ (∀ j, j < k → A.getD j 0 ≠ a) ∧ wr = w) (fun i _ => n - (intOf i).toNat)
  case atStart => exact ⟨0, rfl, Nat.zero_le _, fun j hj => by omega, rfl⟩
  case round =>
    obtain ⟨k, rfl, hk, hall, rfl⟩ := hrel
    have HA := Lib.hid hall
    clear hall
    by_cases hlt : k < n
    · obtain ⟨b, o, c, e1, _, _⟩ := HZ.out.some (by have := HN.out; omega)
      simp only [Value.slice.injEq] at e1
      obtain ⟨rfl, _, rfl⟩ := e1
      have c1 := nums_at (j := k) HZ.out (by have := HN.out; omega)
      have b1 : (k : Int) < (n : Int) := by omega
      have b2 : (0 : Int) ≤ (k : Int) := by omega
      have s2 : IntKind.i64.wrap ((k : Int) + 1) = (k : Int) + 1 := IntWalk.i64_in _ (by omega)
      by_cases hx : A.getD k 0 = a
      · have HE := Lib.hid (mem_at (by rw [HN.out]; exact hlt) hx)
        have e1 : (A.getD k 0 == a) = true := by rw [hx]; simp
        generalize A.getD k 0 = y at *
        clear hx HA
        go_wp2
        go_ret
        exact ⟨by rw [HE.out]; rfl, Below.refl _ _⟩
      · have hall : ∀ j, j < k + 1 → A.getD j 0 ≠ a := fun j hj => by
          rcases Nat.lt_or_ge j k with h | h
          · exact HA.out j h
          · obtain rfl : j = k := by omega
            exact hx
        have HA2 := Lib.hid hall
        have e1 : (A.getD k 0 == a) = false := by rw [beq_eq_false_iff_ne]; exact hx
        generalize A.getD k 0 = y at c1 e1
        clear hx hall HA
        go_wp2
        exact ⟨⟨k + 1, by go_num, by omega, HA2.out, by first | rfl | trivial⟩, by simp [intOf]; omega⟩
    · obtain rfl : k = n := by omega
      have HE := Lib.hid (mem_not (A := A) (a := a) (by rw [HN.out]; exact HA.out))
      have n1 : ¬ (k : Int) < (k : Int) := by omega
      go_wp2
      go_ret
      exact ⟨by rw [HE.out]; rfl, Below.refl _ _⟩
set_option maxHeartbeats 1000000 in
theorem reffirst_any {w : World} {s p : Pe} {u v : Value} {S : List Pe} (hS : Lies w u S) : Calls Try.prog 54 #[.agg (tabA s p u v)] w fun e w' => e = .returned (.agg (peA (firstP s S))) ∧ Below w.heap.size w w' := by
  have HB := Lib.hid (Box2.made w s p u v (0, 0))
  have hl := hS.bel HB.out.bel
  cases S with
  | nil =>
    obtain ⟨a, c, rfl⟩ := hS.form
    have c1 := HB.out.tb.cu
    have c2 := HB.out.tb.self
    go_enter Try.func54, Try.ntmps54
    go_upto_region 1 with (fail)
    rw [peer_zero]
    have X := HB.out.pb
    have B := HB.out.bel
    clear HB hl
    generalize (w.alloc _).alloc _ = W at *
    generalize hg : w.heap.size = g at *
    go_wp2_with (first
      | (refine p_midP rfl _ rfl g 0 rfl s c2 ?_)
      | (refine p_putO rfl _ _ rfl (g + 1) rfl s rfl X ?_))
    exact bodyPost_ret (results_P1 Try.results54 _ _ (g + 1) rfl (X.set s)) rfl ⟨rfl, by rw [hg]; exact bel_setRow B (Nat.le_succ g) _⟩
  | cons x S =>
    obtain ⟨b, o, c, rfl, hc, hr, hlt⟩ := hS.some (by simp)
    obtain ⟨b', o', c', e, _, _, r1, _⟩ := hl.at (i := 0) (x := x) rfl
    simp only [Value.slice.injEq, Option.some.injEq, Addr.mk.injEq, and_true, true_and] at e
    obtain ⟨⟨rfl, rfl⟩, rfl⟩ := e
    rw [Nat.zero_mul, Nat.add_zero] at r1
    have c1 := HB.out.tb.cu
    rw [first_cons]
    have hn : ((S.length + 1 : Nat) : Int) ≠ 0 := by omega
    have hn2 : (0 : Int) < ((S.length + 1 : Nat) : Int) := by omega
    rw [List.length_cons] at *
    clear hS hl
    generalize S.length + 1 = n at *
    have hn3 : ((n : Int) == 0) = false := by simpa using hn
    go_enter Try.func54, Try.ntmps54
    go_upto_region 1 with (fail)
    rw [peer_zero]
    have X := HB.out.pb
    have B := HB.out.bel
    clear HB
    generalize (w.alloc _).alloc _ = W at *
    generalize hg : w.heap.size = g at *
    go_wp2_with (first
      | (refine p_midP rfl _ rfl b o rfl x r1 ?_)
      | (refine p_putO rfl _ _ rfl (g + 1) rfl x rfl X ?_))
    exact bodyPost_ret (results_P1 Try.results54 _ _ (g + 1) rfl (X.set x)) rfl ⟨rfl, by rw [hg]; exact bel_setRow B (Nat.le_succ g) _⟩
theorem reffirst_givesW {W : World} {s p : Pe} {u v : Value} {S : List Pe} (hS : Lies W u S) : GivesW W 54 #[.agg (tabA s p u v)] (.agg (peA (firstP s S))) := fun _ hb => reffirst_any (hS.bel hb)
set_option maxHeartbeats 2000000 in
theorem refdone_any {w : World} {s p : Pe} {u v : Value} {S : List Pe} (id : Nat) (hS : Lies w u S) : Calls Try.prog 30 #[.agg (tabA s p u v), idv id] w fun e w' => e = .returned (.tuple #[.agg (peA (firstP s S)), .bool (halfB s.2 id (firstP s S).2)]) ∧ Below w.heap.size w w' := by
  have B0 := (((Below.refl w.heap.size w).alloc (Nat.le_refl _) (.cells (tabA s p u v) 43)).alloc (by simp) (.cells (row (dig 20 id)) 24)).alloc (by simp; omega) (.cells (peA (0, 0)) 28)
  have T0 : TB (((w.alloc (.cells (tabA s p u v) 43)).alloc (.cells (row (dig 20 id)) 24)).alloc (.cells (peA (0, 0)) 28)) w.heap.size s p u v := Blk.alloc (Blk.alloc (Blk.new ..) _) _
  have I0 : At (((w.alloc (.cells (tabA s p u v) 43)).alloc (.cells (row (dig 20 id)) 24)).alloc (.cells (peA (0, 0)) 28)) (w.heap.size + 1) id := by
    have := (At.new (w.alloc (.cells (tabA s p u v) 43)) id).alloc (.cells (peA (0, 0)) 28)
    rwa [World.size_alloc] at this
  have R0 : PB (((w.alloc (.cells (tabA s p u v) 43)).alloc (.cells (row (dig 20 id)) 24)).alloc (.cells (peA (0, 0)) 28)) (w.heap.size + 2) (0, 0) := by
    have := PB.new ((w.alloc (.cells (tabA s p u v) 43)).alloc (.cells (row (dig 20 id)) 24)) (0, 0)
    rwa [World.size_alloc, World.size_alloc] at this
  have hS0 := hS.bel B0
  have HF : Hid (∀ w', Lies w' u S → Calls Try.prog 54 #[.agg (tabA s p u v)] w' fun e w'' => e = .returned (.agg (peA (firstP s S))) ∧ Below w'.heap.size w' w'') := fun w' h => reffirst_any h
  have HH := refHalf_all s.2 id (firstP s S).2
  generalize halfB s.2 id (firstP s S).2 = hb at *
  generalize firstP s S = y at *
  have HE := Lib.hid (HH)
  clear HH hS
  rw [show idv id = .agg (row (dig 20 id)) from rfl]
  go_enter Try.func30, Try.ntmps30
  go_upto_region 1 with (fail)
  rw [peer_zero]
  generalize ((w.alloc _).alloc _).alloc _ = W at *
  generalize hg : w.heap.size = g at *
  have HL := Lib.hid hS0
  clear hS0
  go_upto_region 2 with (first
    | (refine p_midT rfl _ rfl g rfl T0 ?_)
    | (go_at_call 54; (with_reducible refine (HF.out _ HL.out).mono ?_); rintro e w1 ⟨rfl, k1⟩; have X1 := PB.new w1 y; have B1 := (Below.refl w1.heap.size w1).alloc (Nat.le_refl _) (.cells (peA y) 28); have k2 := step k1 B1)
    | (refine p_storeP rfl rfl _ _ rfl y rfl rfl ?_))
  have T1 := T0.bel k2
  have I1 := I0.below k2
  have R1 := R0.bel k2
  have B2 := B0.trans (k2.mono (hg ▸ B0.size))
  have hlt3 : g + 2 < w1.heap.size := Nat.lt_of_lt_of_le R0.lt k1.size
  clear T0 I0 R0 B0 k1 B1 k2
  have hgg : g + 2 < w1.heap.size := hlt3
  generalize w1.alloc _ = W1 at *
  generalize w1.heap.size = g1 at *
  have P1 := X1.range
  have P2 := X1.I
  have S1 := T1.sI
  have I2 := blk_range I1
  have HT1 := Lib.hid T1
  have hgg1 : g + 2 < g1 := hgg
  clear I1 T1
  refine wp_region_held_drew (S := (fun w9 => w9.rangeAt g1 0 (peC y) ∧ w9.rangeAt g 1 (row (dig 20 s.2)).toList ∧ w9.rangeAt (g + 1) 0 (row (dig 20 id)).toList ∧ w9.rangeAt g1 1 (row (dig 20 y.2)).toList)) (by kernel_rfl) ?_ (fun hHeld => ?_)
  · exact ⟨P1, S1, I2, P2⟩
  have RD : PB W1.drew (g + 2) (0, 0) := R1
  have BD := B2.trans ((drew_bel W1).mono (hg ▸ B2.size))
  clear R1 B2
  have lg1 : g1 < W1.drew.heap.size := X1.lt
  have lg : g < W1.drew.heap.size := HT1.out.lt
  have lg2 : g + 1 < W1.drew.heap.size := range_lt I2 (by intro h; have := congrArg List.length h; rw [Array.length_toList, row_size, dig_length] at this; simp at this)
  clear P1 S1 I2 P2
  generalize W1.drew = W2 at *
  refine wpAnyH_take (i := 1) (v := ?_) rfl (by kernel_rfl) (by kernel_rfl) (by kernel_rfl) (fun _ _ _ h => h) (Or.inl ⟨by rfl, ?_⟩) (by assumption) ?_
  rotate_left
  · intro w9 hSw
    (try dsimp only at hSw)
    go_simp
    (try with_reducible rfl)
  (try simp only [Act.put]); (try simp only [List.setIfInBounds_toArray]); (try simp only [List.set_cons_succ]); (try simp only [List.set_cons_zero])
  refine wpAnyH_take (i := 2) (v := ?_) rfl (by kernel_rfl) (by kernel_rfl) (by kernel_rfl) (fun _ _ _ h => h) (Or.inl ⟨by rfl, ?_⟩) (by assumption) ?_
  rotate_left
  · intro w9 hSw
    (try dsimp only at hSw)
    go_simp
    (try with_reducible rfl)
  (try simp only [Act.put]); (try simp only [List.setIfInBounds_toArray]); (try simp only [List.set_cons_succ]); (try simp only [List.set_cons_zero])
  refine wpAnyH_take (i := 5) (v := ?_) rfl (by kernel_rfl) (by kernel_rfl) (by kernel_rfl) (fun _ _ _ h => h) (Or.inl ⟨by rfl, ?_⟩) (by assumption) ?_
  rotate_left
  · intro w9 hSw
    (try dsimp only at hSw)
    go_simp
    (try with_reducible rfl)
  (try simp only [Act.put]); (try simp only [List.setIfInBounds_toArray]); (try simp only [List.set_cons_succ]); (try simp only [List.set_cons_zero])
  iterate 3
    (try dsimp only [List.getElem_toArray, List.getElem_cons_succ, List.getElem_cons_zero])
    (try simp only [Act.put]); (try simp only [List.setIfInBounds_toArray]); (try simp only [List.set_cons_succ]); (try simp only [List.set_cons_zero])
  refine wpAnyH_take (i := 0) (oi := { dst := some 9, op := .load 28 (.tmp 6), type := 28, pos := "ref.go:201", after := #[], guard := none }) (v := .agg (peA y)) rfl (by kernel_rfl) (by kernel_rfl) (by kernel_rfl) (fun _ _ _ h => h) (y_midP (by rfl) (.tmp 6) rfl g1 0 rfl y (fun _ h => h.1)) (by assumption) ?_
  (try simp only [Act.put]); (try simp only [List.setIfInBounds_toArray]); (try simp only [List.set_cons_succ]); (try simp only [List.set_cons_zero])
  refine wpAnyH_take (i := 3) (oi := { dst := some 12, op := .load 24 (.tmp 11), type := 24, pos := "ref.go:201", after := #[{ on := 2, ground := .data }], guard := none }) (v := idv s.2) rfl (by kernel_rfl) (by kernel_rfl) (by kernel_rfl) (fun _ _ _ h => h) (y_midI (by rfl) (.tmp 11) rfl g 1 rfl s.2 (fun _ h => h.2.1)) (by assumption) ?_
  (try simp only [Act.put]); (try simp only [List.setIfInBounds_toArray]); (try simp only [List.set_cons_succ]); (try simp only [List.set_cons_zero])
  refine wpAnyH_take (i := 4) (oi := { dst := some 13, op := .load 24 (.tmp 3), type := 24, pos := "ref.go:201", after := #[], guard := none }) (v := idv id) rfl (by kernel_rfl) (by kernel_rfl) (by kernel_rfl) (fun _ _ _ h => h) (y_midI (by rfl) (.tmp 3) rfl (g + 1) 0 rfl id (fun _ h => h.2.2.1)) (by assumption) ?_
  (try simp only [Act.put]); (try simp only [List.setIfInBounds_toArray]); (try simp only [List.set_cons_succ]); (try simp only [List.set_cons_zero])
  refine wpAnyH_take (i := 6) (oi := { dst := some 15, op := .load 24 (.tmp 14), type := 24, pos := "ref.go:201", after := #[{ on := 5, ground := .data }], guard := none }) (v := idv y.2) rfl (by kernel_rfl) (by kernel_rfl) (by kernel_rfl) (fun _ _ _ h => h) (y_midI (by rfl) (.tmp 14) rfl g1 1 rfl y.2 (fun _ h => h.2.2.2)) (by assumption) ?_
  (try simp only [Act.put]); (try simp only [List.setIfInBounds_toArray]); (try simp only [List.set_cons_succ]); (try simp only [List.set_cons_zero])
  refine wpAnyH_ready (rs := [7]) (by kernel_rfl) (by simp) ?_
  refine AllReadyH.cons rfl (fun K hK => ?_) ?_
  rotate_left
  · exact AllReadyH.nil
  go_simp
  go_wp2_with (go_at_call 55; (with_reducible refine (HE.out _).mono ?_); rintro e w3 ⟨rfl, k3⟩)
  refine hK.out _ _ ?_ (fun hHeld => ?_)
  · exact ⟨range_bel hHeld.1 k3 lg1, range_bel hHeld.2.1 k3 lg, range_bel hHeld.2.2.1 k3 lg2, range_bel hHeld.2.2.2 k3 lg1⟩
  clear hK K
  (try simp only [Act.put]); (try simp only [List.setIfInBounds_toArray]); (try simp only [List.set_cons_succ]); (try simp only [List.set_cons_zero])
  have R2 := RD.bel k3
  have B3 := BD.trans (k3.mono (hg ▸ BD.size))
  iterate 2
    (try dsimp only [List.getElem_toArray, List.getElem_cons_succ, List.getElem_cons_zero])
    (try simp only [Act.put]); (try simp only [List.setIfInBounds_toArray]); (try simp only [List.set_cons_succ]); (try simp only [List.set_cons_zero])
  refine wpAnyH_ready (rs := [8]) (by kernel_rfl) (by simp) ?_
  refine AllReadyH.cons rfl (fun K hK => ?_) ?_
  rotate_left
  · exact AllReadyH.nil
  rw [if_pos (by rfl)]
  refine wp_store_row 28 _ _ rfl (g + 2) (peA y) rfl rfl 28 (peA (0, 0)) R2 (by rw [peA_size]; exact sizeP) (by rw [peA_size, peA_size]) (peA_one _) ?_
  refine hK.out _ _ ?_ (fun hHeld => ?_)
  · exact ⟨range_row hHeld.1 (by omega), range_row hHeld.2.1 (by omega), range_row hHeld.2.2.1 (by omega), range_row hHeld.2.2.2 (by omega)⟩
  clear hK K
  (try simp only [Act.put]); (try simp only [List.setIfInBounds_toArray]); (try simp only [List.set_cons_succ]); (try simp only [List.set_cons_zero])
  refine wpAnyH_take (i := 9) (v := ?_) rfl (by kernel_rfl) (by kernel_rfl) (by kernel_rfl) (fun _ _ _ h => h) (Or.inl ⟨by rfl, ?_⟩) (by assumption) ?_
  rotate_left
  · intro w9 hSw
    (try dsimp only at hSw)
    go_simp
    (try with_reducible rfl)
  (try simp only [Act.put]); (try simp only [List.setIfInBounds_toArray]); (try simp only [List.set_cons_succ]); (try simp only [List.set_cons_zero])
  iterate 2
    (try dsimp only [List.getElem_toArray, List.getElem_cons_succ, List.getElem_cons_zero])
    (try simp only [Act.put]); (try simp only [List.setIfInBounds_toArray]); (try simp only [List.set_cons_succ]); (try simp only [List.set_cons_zero])
  refine wpAnyH_done (by kernel_rfl) ?_ _
  have BW : Below w.heap.size w (w3.setRow (g + 2) (peA y)) := bel_setRow (hg ▸ B3) (by omega) _
  clear hHeld B3 k3 BD RD HE HT1
  go_wp2
  exact bodyPost_ret (results_P2 Try.results30 _ _ (g + 2) _ rfl rfl (PB.set R2 y)) rfl ⟨rfl, BW⟩
end Go.Proofs.Ytfajfmcabpmchaa

namespace Go.Proofs.Ytfajfmcabpmchaa
set_option maxRecDepth 100000
open Go Go.RowKit Go.Sort

/-- a peer is put behind a row of one's own, in a region that draws -/
theorem o_addG {w : World} {o : Oper} {a : Act} {K : Act → World → Prop} {Q : Exit → Act → World → Prop} (s x : Operand)
    (ho : o.op = .call { callee := .builtin .append, args := #[s, x], argTypes := #[37, 37] }) (B : Nat) (v : Value) (L : List Pe) (n : Nat) (hs : a.eval s = v) (hown : w.ownsRow B 28 21 v n (flat L))
    (g c : Nat) (p : Pe) (hx : a.eval x = .slice (some ⟨g, 0, none⟩) 1 c) (hr : w.rangeAt g 0 (peC p)) (hl : n + 1 ≤ 2000000) (hbs : B ≤ w.heap.size)
    (h : ∀ v' w', w'.ownsRow B 28 21 v' (n + 1) (flat (L ++ [p])) → w.grownBy w' v.ownBlock → K (a.put o.dst v') w') : o.wp Try.prog a w K Q := by
  obtain ⟨i, hi', hq⟩ := Option.map_eq_some_iff.1 infoP
  simp only [Prod.mk.injEq] at hq
  obtain ⟨q1, q2, q3⟩ := hq
  obtain ⟨v', w', hr, h2, h3, _, _⟩ := run_append_own_at (P := Try.prog) w B 37 o.type 28 i _ 21 32 Try.underlying37 hi' q1 q2 q3 (peA_size _) (by omega) v n (flat L) hown ⟨g, 0, none⟩ 1 c (flat [p]) (by rw [flat_length]; rfl) (fun j y hj => by rw [Addr.add_mid]; rw [flat_single] at hj; exact hr j y hj) (flat_one _) (by unfold maxLen; omega) (by omega) hbs
  rw [← flat_append] at h2
  unfold Oper.wp execOp
  simp only [ho, resolve, invoke, builtin, Sem.run_bind, Sem.run_pure, Result.andThen_ok, List.map_toArray, List.map_cons, List.map_nil, hs, hx, hr]
  exact h v' w' h2 h3
theorem p_buildT4 {ops : Array Oper} {rest : List Oper} {o : Oper} {a : Act} {w : World} {Q : Exit → Act → World → Prop} (hgd : o.guard = none) (x y z t : Operand) (ho : o.op = .build 43 #[(0, x), (1, y), (2, z), (3, t)])
    (s p : Pe) (u1 : Option Addr) (n1 c1 : Nat) (u2 : Option Addr) (n2 c2 : Nat) (hx : a.eval x = .agg (peA s)) (hy : a.eval y = .agg (peA p)) (hz : a.eval z = .slice u1 n1 c1) (ht : a.eval t = .slice u2 n2 c2)
    (h : wpList Try.prog ops Q rest (a.put o.dst (.agg (tabA s p (.slice u1 n1 c1) (.slice u2 n2 c2)))) w) : wpList Try.prog ops Q (o :: rest) a w := by
  refine wpList_plain hgd fun K hK => ?_
  have e := run_build (P := Try.prog) w 43 #[(0, .agg (peA s)), (1, .agg (peA p)), (2, .slice u1 n1 c1), (3, .slice u2 n2 c2)] _ (builtT4 s p u1 n1 c1 u2 n2 c2)
  unfold Oper.wp execOp
  simp only [ho, List.map_toArray, List.map_cons, List.map_nil, hx, hy, hz, ht, Sem.run_bind, e, Sem.run_pure, Result.andThen_ok]
  exact hK _ _ h
theorem own_nil (w : World) (B : Nat) : w.ownsRow B 28 21 nilS 0 (flat []) := ⟨rfl, .inl ⟨rfl, rfl⟩⟩
end Go.Proofs.Ytfajfmcabpmchaa

namespace Go.Proofs.Ytfajfmcabpmchaa
set_option maxRecDepth 100000
open Go Go.RowKit Go.Sort

theorem any_tail {P : Program} {l : List Oper} {Q : Exit → Act → World → Prop} {a : Act} {w : World} {listed : Array Bool} {fuel : Nat} (k : Nat) (hf : fuel = l.length - k) (hs : Region.noSelect l.toArray = true) (hB : seqP .any l.toArray (l.length - k) k listed = true)
    (hQ0 : ∀ c a t v w, Q (.panic c) (a.put (some t) v) w → Q (.panic c) a w) (h : wpList P l.toArray Q (l.drop k) a w) : wpAny P .any l.toArray Q fuel listed a w := by
  have := wpAny_of_seqP (md := .any) (Q' := Q) hs (panic_put hQ0) (l.drop k) k listed a w (fun j => by simp [List.getElem?_drop]) (by rw [List.length_drop]; exact hB) h
  rw [List.length_drop, ← hf] at this
  exact this
theorem y_buildT2 {ops : Array Oper} {S : World → Prop} {op : Oper} {a : Act} (hw : Region.wanted op (yielded ops a.tmps) = true) (x y : Operand) (ho : op.op = .build 43 #[(0, x), (1, y)])
    (s p : Pe) (hx : a.eval x = .agg (peA s)) (hy : a.eval y = .agg (peA p)) : YieldsIf Try.prog ops S op (.agg (tabA s p nilS nilS)) a :=
  .inl ⟨hw, fun w _ => by
    have e := run_build (P := Try.prog) w 43 #[(0, .agg (peA s)), (1, .agg (peA p))] _ (builtT2 s p)
    unfold execOp
    simp only [ho, List.map_toArray, List.map_cons, List.map_nil, hx, hy, Sem.run_bind, e, Sem.run_pure, Result.andThen_ok]⟩
theorem rep_snoc (k : Nat) (x : Pe) : rep (k + 1) x = rep k x ++ [x] := by unfold rep; exact List.replicate_succ'
/-- while the fingers of a new table are made -/
structure NfW (g g4 b : Nat) (w wx : World) (x : Pe) (fv : Value) (k : Nat) : Prop where
  bel : Below g w wx
  r : TB wx (g + 1) (0, 0) (0, 0) nilS nilS
  t : TB wx g4 x (-1, 0) nilS fv
  o : wx.ownsRow b 28 21 fv k (flat (rep k (-1, 0)))
  lo : g + 2 ≤ g4
  lt : g4 < b
  sz : b ≤ wx.heap.size
theorem NfW.bel2 {g g4 b k : Nat} {w wx wy : World} {x : Pe} {fv : Value} (h : NfW g g4 b w wx x fv k) (hg : w.heap.size = g) (hb : Below wx.heap.size wx wy) : NfW g g4 b w wy x fv k :=
  ⟨belTo hg h.bel hb, h.r.bel hb, h.t.bel hb, own_bel h.o hb, h.lo, h.lt, Nat.le_trans h.sz hb.size⟩
theorem NfW.add {g g4 b k : Nat} {w wx w4 : World} {x : Pe} {fv v2 : Value} (h : NfW g g4 b w wx x fv k) (hgr : wx.grownBy w4 fv.ownBlock)
    (ho : w4.ownsRow b 28 21 v2 (k + 1) (flat (rep k (-1, 0) ++ [(-1, 0)]))) : TB w4 g4 x (-1, 0) nilS fv ∧ NfW g g4 b w (w4.setRow g4 (tabA x (-1, 0) nilS v2)) x v2 (k + 1) := by
  have hv : ∀ k, fv.ownBlock = some k → b ≤ k := fun k e => (h.o.lt k e).1
  have kp : ∀ i, i < b → i < wx.heap.size → w4.heap[i]? = wx.heap[i]? := fun i hi hl => hgr.block i hl fun e => by have := hv i e.symm; omega
  have hsz := h.sz
  have hlo := h.lo
  have hlt := h.lt
  have t4 : TB w4 g4 x (-1, 0) nilS fv := (kp g4 hlt (by omega)).trans h.t
  refine ⟨t4, ⟨bel_setRow ⟨hgr.os.trans h.bel.os, hgr.tape.trans h.bel.tape, hgr.output.trans h.bel.output, Nat.le_trans h.bel.size hgr.size, fun i hi => (kp i (by omega) (by omega)).trans (h.bel.block i hi)⟩ (by omega) _, tb_row ((kp (g + 1) (by omega) (by omega)).trans h.r) _ (by omega), t4.set _ _ _ _, ?_, hlo, hlt, ?_⟩⟩
  · rw [rep_snoc]; exact own_row ho _ hlt
  · rw [World.setRow]; simpa using Nat.le_trans hsz hgr.size
end Go.Proofs.Ytfajfmcabpmchaa

namespace Go.Proofs.Ytfajfmcabpmchaa
set_option maxRecDepth 100000
open Go Go.RowKit Go.Sort

set_option maxHeartbeats 8000000 in
theorem refis_core {w : World} {s p : Pe} {u v : Value} {S L : List Pe} (oth non : Pe → Bool) (ad : Bool) (had : addrB s.1 = ad) (hS : Lies w u S) (hF : Lies w v L) (hn : S.length ≤ 1000000) (hf : L.length ≤ 1000000)
    (hO : ∀ x, Gives Try.prog 82 #[.agg (tabA s p u v), .agg (peA x)] (.bool (oth x))) (hM : ∀ x, Gives Try.prog 81 #[.agg (tabA s p u v), .agg (peA x)] (.bool (non x || oth x))) :
    Calls Try.prog 53 #[.agg (tabA s p u v)] w fun e w' => e = .returned (.bool (isG oth non ad p S L)) ∧ Below w.heap.size w w' := by
  have B0 := (Below.refl w.heap.size w).alloc (Nat.le_refl _) (.cells (tabA s p u v) 43)
  have T0 := TB.new w s p u v
  have HS := Lib.hid hS
  have HF := Lib.hid hF
  obtain ⟨ua, uc, rfl⟩ := hS.form
  obtain ⟨va, vc, rfl⟩ := hF.form
  have HO := Lib.hid hO
  have HM := Lib.hid hM
  clear hS hF hO hM
  generalize hres : isG oth non ad p S L = res
  have HR := Lib.hid hres
  clear hres
  generalize hns : S.length = n at *
  generalize hnl : L.length = m at *
  have HNS := Lib.hid hns
  have HNL := Lib.hid hnl
  clear hns hnl
  go_enter Try.func53, Try.ntmps53
  go_upto_region 1 with (fail)
  generalize w.alloc _ = W at *
  generalize hg : w.heap.size = g at *
  have c1 := T0.sA
  have P0 := T0.pred
  have hMp := HM.out p
  by_cases h1 : 0 ≤ s.1
  · have d1 : decide (s.1 < (0 : Int)) = false := decide_eq_false (by omega)
    by_cases h2 : s.1 ≤ 999
    · have d2 : decide ((999 : Int) < s.1) = false := decide_eq_false (by omega)
      have hok : ad = true := by rw [← had]; exact addr_iff.2 ⟨h1, h2⟩
      have HOK := Lib.hid hok
      clear hok h1 h2 had
      generalize hnp : (non p || oth p) = np at *
      have HNP := Lib.hid hnp
      clear hnp
      cases np
      · have hres : res = false := by rw [← HR.out, isG, List.all_cons, HNP.out]; simp
        have HR2 := Lib.hid hres
        clear hres HR
        go_wp2_with (first
          | go_big_skip
          | (go_guarded; refine o_midT _ rfl g rfl T0 ?_; simp only [Act.put, List.setIfInBounds_toArray, List.set_cons_succ, List.set_cons_zero])
          | (go_guarded; refine o_midP _ rfl g 21 rfl p P0 ?_; simp only [Act.put, List.setIfInBounds_toArray, List.set_cons_succ, List.set_cons_zero])
          | (go_at_call 81; (with_reducible refine (hMp.calls _).mono ?_); rintro e w1 ⟨rfl, k1⟩; have B1 := belTo hg B0 k1; have T1 := T0.bel k1; have c2 := T1.cu; have c3 := T1.cv; clear k1))
        go_ret
        exact ⟨by rw [HR2.out]; rfl, by (try rw [hg]); exact B1⟩
      · by_cases h3 : n ≤ 8
        · have d3 : decide ((8 : Int) < (n : Int)) = false := decide_eq_false (by omega)
          by_cases h4 : m = 160
          · have e4 : ((m : Int) != 160) = false := by rw [h4]; rfl
            have hres : res = (okG oth S S.length && L.all fun x => non x || oth x) := by rw [← HR.out, isG, List.all_cons, HNP.out, HOK.out, HNS.out, decide_eq_true h3, HNL.out, decide_eq_true h4]; simp
            have HR2 := Lib.hid hres
            have hm : m ≤ 160 := by omega
            clear hres HR h4
            go_upto_region 4 with (first
              | go_big_skip
              | (go_guarded; refine o_midT _ rfl g rfl T0 ?_; simp only [Act.put, List.setIfInBounds_toArray, List.set_cons_succ, List.set_cons_zero])
              | (go_guarded; refine o_midP _ rfl g 21 rfl p P0 ?_; simp only [Act.put, List.setIfInBounds_toArray, List.set_cons_succ, List.set_cons_zero])
              | (go_at_call 81; (with_reducible refine (hMp.calls _).mono ?_); rintro e w1 ⟨rfl, k1⟩; have B1 := belTo hg B0 k1; have T1 := T0.bel k1; have c2 := T1.cu; have c3 := T1.cv; clear k1))
            clear c1 P0 hMp d1 d2 d3 e4
            have HW : Hid (Below g w w1 ∧ TB w1 g s p (.slice ua n uc) (.slice va m vc)) := ⟨B1, T1⟩
            clear B1 T1 B0 T0 c2 c3
            go_loopw [3] (fun i wr => ∃ k : Nat, k ≤ n ∧ i = .int .i64 (k : Int) ∧ okG oth S k = true ∧ Below g w wr ∧ TB wr g s p (.slice ua n uc) (.slice va m vc)) (fun i _ => n - (intOf i).toNat)
            case atStart => exact ⟨0, by omega, rfl, rfl, HW.out.1, HW.out.2⟩
            case round =>
              clear HW
              obtain ⟨k, hk, rfl, hok, hB, hT⟩ := hrel
              have HOKG := Lib.hid hok
              have HB := Lib.hid hB
              have HT := Lib.hid hT
              clear hok hB hT
              by_cases hlt : k < n
              · have hx := getD_at (L := S) (k := k) (by have := HNS.out; omega)
                have hSw := HS.out.bel (hg ▸ HB.out)
                obtain ⟨ub, uo, uc', e1, hcc, hrr, r1, _⟩ := hSw.at hx
                simp only [Value.slice.injEq] at e1
                obtain ⟨rfl, e2, rfl⟩ := e1
                have hkc : k ≤ uc := by omega
                have HTK : Hid (∀ w', Below wr.heap.size wr w' → Lies w' (.slice (some ⟨ub, uo, none⟩) k uc) (S.take k)) := fun w' hb => (lies_take hrr hcc (by have := HNS.out; omega)).bel hb
                have hok1 : okG oth S (k + 1) = (oth (S.getD k (0, 0)) && !hasB (S.take k) (S.getD k (0, 0)).1) := by rw [okG, HOKG.out]; rfl
                have HOK1 := Lib.hid hok1
                have HLE : Hid (∀ f : Bool, okG oth S (k + 1) = f → f = false → okG oth S S.length = false) := fun f hf h => ok_le oth S (i := k + 1) (by have := HNS.out; omega) (by rw [hf, h])
                clear e2 hx hok1 hSw hcc hrr
                generalize S.getD k (0, 0) = x at *
                have b1 : (k : Int) < (n : Int) := by omega
                have b2 : (0 : Int) ≤ (k : Int) := by omega
                have s1 : IntKind.i64.wrap ((k : Int) + 1) = (k : Int) + 1 := IntWalk.i64_in _ (by omega)
                have hOx := HO.out x
                have hHx : GivesW wr 83 #[.slice (some ⟨ub, uo, none⟩) k uc, .int .i64 x.1] (.bool (hasB (S.take k) x.1)) := fun w' hb => refhas_any x.1 (HTK.out w' hb) (Nat.le_trans (List.length_take_le _ _) (by omega))
                generalize oth x = ox at *
                generalize hasB (S.take k) x.1 = hx at *
                have t1 := HT.out
                have c2 := HT.out.cu
                have c42 := fun d os => cell_regrown HT.out.cu d os
                have ca := fun d os => cell_regrown (pe_ad r1) d os
                cases ox
                · have hres : res = false := by rw [HR2.out, HLE.out _ HOK1.out rfl]; rfl
                  have HR3 := Lib.hid hres
                  clear hres hHx ca
                  go_upto_region 6 with (fail)
                  clear c2
                  refine wp_region_quiet_below (by kernel_rfl) (by kernel_rfl) ?_
                  repeat (first
                    | go_big_quiet_skip
                    | (go_big_quiet_want
                       first
                       | (first | (refine q_midT _ rfl g rfl t1 ?_) | (refine q_midP _ rfl _ _ rfl x (by with_reducible exact r1) ?_)
                          simp only [Act.put, List.setIfInBounds_toArray, List.set_cons_succ, List.set_cons_zero]
                          go_big_quiet_on)
                       | (go_big_quiet_op
                          first | go_big_quiet_on | go_big_quiet_call (first | with_reducible exact hOx.grown _ _))))
                  refine wpQuiet_nil ?_
                  intro w9 hw'
                  have k9 := quiet_end hw'
                  clear hw'
                  have HB2 := Lib.hid (belTo hg HB.out k9)
                  clear k9
                  go_wp2
                  go_ret
                  exact ⟨by rw [HR3.out]; rfl, by (try rw [hg]); exact HB2.out⟩
                · cases hx
                  · have HNXT : Hid (okG oth S (k + 1) = true) := by rw [HOK1.out]; rfl
                    go_upto_region 6 with (fail)
                    clear c2
                    refine wp_region_quiet_below (by kernel_rfl) (by kernel_rfl) ?_
                    repeat (first
                      | go_big_quiet_skip
                      | (go_big_quiet_want
                         first
                         | (first | (refine q_midT _ rfl g rfl t1 ?_) | (refine q_midP _ rfl _ _ rfl x (by with_reducible exact r1) ?_) | (refine q_to 37 _ _ rfl 28 21 Try.underlying37 sizeP ub uo _ uc k _ rfl rfl rfl hkc ?_)
                            simp only [Act.put, List.setIfInBounds_toArray, List.set_cons_succ, List.set_cons_zero]
                            go_big_quiet_on)
                         | (go_big_quiet_op
                            first | go_big_quiet_on | go_big_quiet_call (first | with_reducible exact hOx.grown _ _ | with_reducible exact hHx.grown _ _))))
                    refine wpQuiet_nil ?_
                    intro w9 hw'
                    have k9 := quiet_end hw'
                    clear hw'
                    have HB2 := Lib.hid (belTo hg HB.out k9)
                    have HT2 := Lib.hid (HT.out.bel k9)
                    clear k9 r1 t1 c42 ca hHx hOx
                    go_wp2
                    exact ⟨⟨k + 1, by omega, by go_num, HNXT.out, HB2.out, HT2.out⟩, by simp [intOf]; omega⟩
                  · have hres : res = false := by rw [HR2.out, HLE.out _ HOK1.out rfl]; rfl
                    have HR3 := Lib.hid hres
                    clear hres
                    go_upto_region 6 with (fail)
                    clear c2
                    refine wp_region_quiet_below (by kernel_rfl) (by kernel_rfl) ?_
                    repeat (first
                      | go_big_quiet_skip
                      | (go_big_quiet_want
                         first
                         | (first | (refine q_midT _ rfl g rfl t1 ?_) | (refine q_midP _ rfl _ _ rfl x (by with_reducible exact r1) ?_) | (refine q_to 37 _ _ rfl 28 21 Try.underlying37 sizeP ub uo _ uc k _ rfl rfl rfl hkc ?_)
                            simp only [Act.put, List.setIfInBounds_toArray, List.set_cons_succ, List.set_cons_zero]
                            go_big_quiet_on)
                         | (go_big_quiet_op
                            first | go_big_quiet_on | go_big_quiet_call (first | with_reducible exact hOx.grown _ _ | with_reducible exact hHx.grown _ _))))
                    refine wpQuiet_nil ?_
                    intro w9 hw'
                    have k9 := quiet_end hw'
                    clear hw'
                    have HB2 := Lib.hid (belTo hg HB.out k9)
                    clear k9
                    go_wp2
                    go_ret
                    exact ⟨by rw [HR3.out]; rfl, by (try rw [hg]); exact HB2.out⟩
              · obtain rfl : k = n := by omega
                have n1 : ¬ (k : Int) < (k : Int) := by omega
                have hres : res = (L.all fun x => non x || oth x) := by rw [HR2.out, HNS.out, HOKG.out]; rfl
                have HR3 := Lib.hid hres
                clear hres HR2 HOKG hlt
                have c42 := HT.out.cu
                obtain ⟨wo, rfl⟩ : ∃ wo : World, wo = wr := ⟨_, rfl⟩
                go_upto_region 9 with (fail)
                clear c42
                go_loopw [4] (fun i wr => ∃ j : Nat, j ≤ m ∧ i = .int .i64 (j : Int) ∧ ((L.take j).all fun x => non x || oth x) = true ∧ Below g w wr ∧ TB wr g s p (.slice ua k uc) (.slice va m vc)) (fun i _ => m - (intOf i).toNat)
                case atStart => exact ⟨0, by omega, rfl, rfl, HB.out, HT.out⟩
                case round =>
                  clear HB HT
                  obtain ⟨j, hj, rfl, hall, hB, hT⟩ := hrel
                  have HALL := Lib.hid hall
                  have HB := Lib.hid hB
                  have HT := Lib.hid hT
                  clear hall hB hT
                  by_cases hlt : j < m
                  · have hx := getD_at (L := L) (k := j) (by have := HNL.out; omega)
                    obtain ⟨vb, vo, vc', e1, hcc, hrr, r1, _⟩ := (HF.out.bel (hg ▸ HB.out)).at hx
                    simp only [Value.slice.injEq] at e1
                    obtain ⟨rfl, e2, rfl⟩ := e1
                    have hall : (L.take (j + 1)).all (fun x => non x || oth x) = (non (L.getD j (0, 0)) || oth (L.getD j (0, 0))) := by rw [List.take_add_one, hx, List.all_append, HALL.out]; simp
                    have hbad : (non (L.getD j (0, 0)) || oth (L.getD j (0, 0))) = false → (L.all fun x => non x || oth x) = false := fun h => by
                      rw [List.all_eq_false]
                      exact ⟨_, List.mem_of_getElem? hx, by rw [h]; simp⟩
                    have HAL := Lib.hid hall
                    have HBD := Lib.hid hbad
                    clear e2 hx hall hbad hcc hrr
                    generalize L.getD j (0, 0) = x at *
                    have b1 : (j : Int) < (m : Int) := by omega
                    have b2 : (0 : Int) ≤ (j : Int) := by omega
                    have s1 : IntKind.i64.wrap ((j : Int) + 1) = (j : Int) + 1 := IntWalk.i64_in _ (by omega)
                    have hMx := HM.out x
                    have t1 := HT.out
                    have c3 := HT.out.cv
                    have c43 := fun d os => cell_regrown HT.out.cv d os
                    generalize hnx : (non x || oth x) = nx at *
                    cases nx
                    · have hres : res = false := by rw [HR3.out, HBD.out rfl]
                      have HR4 := Lib.hid hres
                      clear hres
                      go_upto_region 11 with (fail)
                      clear c3
                      refine wp_region_quiet_below (by kernel_rfl) (by kernel_rfl) ?_
                      repeat (first
                        | go_big_quiet_skip
                        | (go_big_quiet_want
                           first
                           | (first | (refine q_midT _ rfl g rfl t1 ?_) | (refine q_midP _ rfl _ _ rfl x (by with_reducible exact r1) ?_)
                              simp only [Act.put, List.setIfInBounds_toArray, List.set_cons_succ, List.set_cons_zero]
                              go_big_quiet_on)
                           | (go_big_quiet_op
                              first | go_big_quiet_on | go_big_quiet_call (first | with_reducible exact hMx.grown _ _))))
                      refine wpQuiet_nil ?_
                      intro w9 hw'
                      have k9 := quiet_end hw'
                      clear hw'
                      have HB2 := Lib.hid (belTo hg HB.out k9)
                      clear k9
                      go_wp2
                      go_ret
                      exact ⟨by rw [HR4.out]; rfl, by (try rw [hg]); exact HB2.out⟩
                    · go_upto_region 11 with (fail)
                      clear c3
                      refine wp_region_quiet_below (by kernel_rfl) (by kernel_rfl) ?_
                      repeat (first
                        | go_big_quiet_skip
                        | (go_big_quiet_want
                           first
                           | (first | (refine q_midT _ rfl g rfl t1 ?_) | (refine q_midP _ rfl _ _ rfl x (by with_reducible exact r1) ?_)
                              simp only [Act.put, List.setIfInBounds_toArray, List.set_cons_succ, List.set_cons_zero]
                              go_big_quiet_on)
                           | (go_big_quiet_op
                              first | go_big_quiet_on | go_big_quiet_call (first | with_reducible exact hMx.grown _ _))))
                      refine wpQuiet_nil ?_
                      intro w9 hw'
                      have k9 := quiet_end hw'
                      clear hw'
                      have HB2 := Lib.hid (belTo hg HB.out k9)
                      have HT2 := Lib.hid (HT.out.bel k9)
                      clear k9 r1 t1 c43 hMx
                      go_wp2
                      exact ⟨⟨j + 1, by omega, by go_num, HAL.out, HB2.out, HT2.out⟩, by simp [intOf]; omega⟩
                  · obtain rfl : j = m := by omega
                    have n1 : ¬ (j : Int) < (j : Int) := by omega
                    have hres : res = true := by rw [HR3.out, ← HALL.out, List.take_of_length_le (by have := HNL.out; omega)]
                    have HR4 := Lib.hid hres
                    have c43 := HT.out.cv
                    clear hres
                    go_wp2
                    go_ret
                    exact ⟨by rw [HR4.out]; rfl, by (try rw [hg]); exact HB.out⟩
          · have e4 : ((m : Int) != 160) = true := by rw [bne_iff_ne]; omega
            have hres : res = false := by rw [← HR.out, isG, HNL.out, decide_eq_false h4]; simp
            have HR2 := Lib.hid hres
            clear hres HR h4
            go_wp2_with (first
              | go_big_skip
              | (go_guarded; refine o_midT _ rfl g rfl T0 ?_; simp only [Act.put, List.setIfInBounds_toArray, List.set_cons_succ, List.set_cons_zero])
              | (go_guarded; refine o_midP _ rfl g 21 rfl p P0 ?_; simp only [Act.put, List.setIfInBounds_toArray, List.set_cons_succ, List.set_cons_zero])
              | (go_at_call 81; (with_reducible refine (hMp.calls _).mono ?_); rintro e w1 ⟨rfl, k1⟩; have B1 := belTo hg B0 k1; have T1 := T0.bel k1; have c2 := T1.cu; have c3 := T1.cv; clear k1))
            go_ret
            exact ⟨by rw [HR2.out]; rfl, by (try rw [hg]); exact B1⟩
        · have d3 : decide ((8 : Int) < (n : Int)) = true := decide_eq_true (by omega)
          have hres : res = false := by rw [← HR.out, isG, HNS.out, decide_eq_false h3]; simp
          have HR2 := Lib.hid hres
          clear hres HR h3
          go_wp2_with (first
            | go_big_skip
            | (go_guarded; refine o_midT _ rfl g rfl T0 ?_; simp only [Act.put, List.setIfInBounds_toArray, List.set_cons_succ, List.set_cons_zero])
            | (go_guarded; refine o_midP _ rfl g 21 rfl p P0 ?_; simp only [Act.put, List.setIfInBounds_toArray, List.set_cons_succ, List.set_cons_zero])
            | (go_at_call 81; (with_reducible refine (hMp.calls _).mono ?_); rintro e w1 ⟨rfl, k1⟩; have B1 := belTo hg B0 k1; have T1 := T0.bel k1; have c2 := T1.cu; have c3 := T1.cv; clear k1))
          go_ret
          exact ⟨by rw [HR2.out]; rfl, by (try rw [hg]); exact B1⟩
    · have d2 : decide ((999 : Int) < s.1) = true := decide_eq_true (by omega)
      have hok : ad = false := by rw [← had, ← Bool.not_eq_true, addr_iff]; exact fun h => h2 h.2
      have hres : res = false := by rw [← HR.out, isG, hok]; rfl
      have HR2 := Lib.hid hres
      clear hres HR hok h1 h2 had
      go_wp2_with go_big_skip
      go_ret
      exact ⟨by rw [HR2.out]; rfl, by (try rw [hg]); exact B0⟩
  · have d1 : decide (s.1 < (0 : Int)) = true := decide_eq_true (by omega)
    have hok : ad = false := by rw [← had, ← Bool.not_eq_true, addr_iff]; exact fun h => h1 h.1
    have hres : res = false := by rw [← HR.out, isG, hok]; rfl
    have HR2 := Lib.hid hres
    clear hres HR hok h1 had
    go_wp2_with go_big_skip
    go_ret
    exact ⟨by rw [HR2.out]; rfl, by (try rw [hg]); exact B0⟩
theorem refis_any {w : World} {s p : Pe} {u v : Value} {S L : List Pe} (hS : Lies w u S) (hF : Lies w v L) (hn : S.length ≤ 1000000) (hf : L.length ≤ 1000000) :
    Calls Try.prog 53 #[.agg (tabA s p u v)] w fun e w' => e = .returned (.bool (isT s p S L)) ∧ Below w.heap.size w w' :=
  refis_core _ _ _ rfl hS hF hn hf (fun x => refother_gives s p u v x) fun x => refmaybe_gives s p u v x
theorem refis_givesW {W : World} {s p : Pe} {u v : Value} {S L : List Pe} (hS : Lies W u S) (hF : Lies W v L) (hn : S.length ≤ 1000000) (hf : L.length ≤ 1000000) :
    GivesW W 53 #[.agg (tabA s p u v)] (.bool (isT s p S L)) := fun _ hb => refis_any (hS.bel hb) (hF.bel hb) hn hf
end Go.Proofs.Ytfajfmcabpmchaa

namespace Go.Proofs.Ytfajfmcabpmchaa
set_option maxRecDepth 100000
open Go Go.RowKit Go.Sort

/-- a table of one's own, beside the arguments -/
structure OuW (g g5 : Nat) (w wx : World) (s p x q : Pe) (u v r1 r2 : Value) (A B : List Pe) : Prop where
  bel : Below g w wx
  t : TB wx g s p u v
  x : PB wx (g + 1) x
  r : TB wx (g + 2) (0, 0) (0, 0) nilS nilS
  o5 : TB wx g5 s q r1 r2
  a : wx.ownsRow (g + 3) 28 21 r1 A.length (flat A)
  b : wx.ownsRow (g + 3) 28 21 r2 B.length (flat B)
  ne : ∀ k, r1.ownBlock = some k → r2.ownBlock ≠ some k
  k1 : ∀ k, r1.ownBlock = some k → k < g5
  k2 : ∀ k, r2.ownBlock = some k → k < g5
  lo : g + 3 ≤ g5
theorem OuW.bel2 {g g5 : Nat} {w wx wy : World} {s p x q : Pe} {u v r1 r2 : Value} {A B : List Pe} (h : OuW g g5 w wx s p x q u v r1 r2 A B) (hg : w.heap.size = g) (k : Below wx.heap.size wx wy) : OuW g g5 w wy s p x q u v r1 r2 A B :=
  ⟨belTo hg h.bel k, h.t.bel k, h.x.bel k, h.r.bel k, h.o5.bel k, own_bel h.a k, own_bel h.b k, h.ne, h.k1, h.k2, h.lo⟩
theorem own_other {w : World} {B e size n g : Nat} {v : Value} {xs : List Value} (h : w.ownsRow B e size v n xs) (cs : Array Value) (hg : ∀ k, v.ownBlock = some k → k ≠ g) : (w.setRow g cs).ownsRow B e size v n xs :=
  own_keep h fun k hk => Go.setRow_other _ _ k _ (fun e => hg k hk (by omega))
theorem OuW.setq {g g5 : Nat} {w wx : World} {s p x q : Pe} {u v r1 r2 : Value} {A B : List Pe} (h : OuW g g5 w wx s p x q u v r1 r2 A B) (q' : Pe) : OuW g g5 w (wx.setRow g5 (tabA s q' r1 r2)) s p x q' u v r1 r2 A B := by
  have hlo := h.lo
  exact ⟨bel_setRow h.bel (by omega) _, tb_row h.t _ (by omega), pb_row h.x _ (by omega), tb_row h.r _ (by omega), h.o5.set _ _ _ _, own_other h.a _ fun k e => by have := h.k1 k e; omega, own_other h.b _ fun k e => by have := h.k2 k e; omega, h.ne, h.k1, h.k2, h.lo⟩
theorem OuW.made {g : Nat} {w w1 w2 : World} {s p x : Pe} {u v r1 r2 : Value} {A B : List Pe} (hg : w.heap.size = g) (b1 : Below g w w1) (t : TB w1 g s p u v) (hx : PB w1 (g + 1) x) (r : TB w1 (g + 2) (0, 0) (0, 0) nilS nilS)
    (o1 : w2.ownsRow w1.heap.size 28 21 r1 A.length (flat A)) (o2 : w2.ownsRow w1.heap.size 28 21 r2 B.length (flat B)) (ne : ∀ k, r1.ownBlock = some k → r2.ownBlock ≠ some k) (k : Below w1.heap.size w1 w2) :
    OuW g w2.heap.size w (w2.alloc (.cells (tabA s p r1 r2) 43)) s p x p u v r1 r2 A B := by
  have k2 := (Below.refl w2.heap.size w2).alloc (Nat.le_refl _) (.cells (tabA s p r1 r2) 43)
  have hs := r.lt
  have hks := k.size
  exact ⟨belTo hg (belTo hg b1 k) k2, (t.bel k).bel k2, (hx.bel k).bel k2, (r.bel k).bel k2, TB.new w2 s p r1 r2, own_bel (own_base o1 (by omega)) k2, own_bel (own_base o2 (by omega)) k2, ne, fun i e => (o1.lt i e).2, fun i e => (o2.lt i e).2, by omega⟩
theorem OuW.ends {g g5 : Nat} {w wx : World} {s p x q : Pe} {u v r1 r2 : Value} {A B : List Pe} (h : OuW g g5 w wx s p x q u v r1 r2 A B) (hg : w.heap.size = g) : OwnT w (wx.setRow (g + 2) (tabA s q r1 r2)) s q A B (.agg (tabA s q r1 r2)) ∧ Below g w (wx.setRow (g + 2) (tabA s q r1 r2)) :=
  ⟨⟨r1, r2, rfl, own_base (own_row h.a _ (by omega)) (by omega), own_base (own_row h.b _ (by omega)) (by omega), h.ne⟩, bel_setRow h.bel (by omega) _⟩
end Go.Proofs.Ytfajfmcabpmchaa

namespace Go.Proofs.Ytfajfmcabpmchaa
set_option maxRecDepth 100000
open Go Go.RowKit Go.Sort

/-- a table of one's own, and a row that grows beside it -/
structure AoW (g g5 b0 : Nat) (w wx : World) (s p x q : Pe) (u v r1 r2 vv : Value) (A B acc : List Pe) : Prop where
  h : OuW g g5 w wx s p x q u v r1 r2 A B
  o : wx.ownsRow b0 28 21 vv acc.length (flat acc)
  lt : g5 < b0
  sz : b0 ≤ wx.heap.size
theorem AoW.bel2 {g g5 b0 : Nat} {w wx wy : World} {s p x q : Pe} {u v r1 r2 vv : Value} {A B acc : List Pe} (h : AoW g g5 b0 w wx s p x q u v r1 r2 vv A B acc) (hg : w.heap.size = g) (k : Below wx.heap.size wx wy) : AoW g g5 b0 w wy s p x q u v r1 r2 vv A B acc :=
  ⟨h.h.bel2 hg k, own_bel h.o k, h.lt, Nat.le_trans h.sz k.size⟩
theorem AoW.add {g g5 b0 : Nat} {w wx w4 : World} {s p x q y : Pe} {u v r1 r2 vv v2 : Value} {A B acc : List Pe} (h : AoW g g5 b0 w wx s p x q u v r1 r2 vv A B acc) (hgr : wx.grownBy w4 vv.ownBlock)
    (ho : w4.ownsRow b0 28 21 v2 (acc.length + 1) (flat (acc ++ [y]))) : AoW g g5 b0 w w4 s p x q u v r1 r2 v2 A B (acc ++ [y]) := by
  have hv : ∀ k, vv.ownBlock = some k → b0 ≤ k := fun k e => (h.o.lt k e).1
  have kp : ∀ i, i < b0 → i < wx.heap.size → w4.heap[i]? = wx.heap[i]? := fun i hi hl => hgr.block i hl fun e => by have := hv i e.symm; omega
  have hsz := h.sz
  have hlt := h.lt
  have hlo := h.h.lo
  refine ⟨⟨⟨hgr.os.trans h.h.bel.os, hgr.tape.trans h.h.bel.tape, hgr.output.trans h.h.bel.output, Nat.le_trans h.h.bel.size hgr.size, fun i hi => (kp i (by omega) (by omega)).trans (h.h.bel.block i hi)⟩, (kp g (by omega) (by omega)).trans h.h.t, (kp (g + 1) (by omega) (by omega)).trans h.h.x, (kp (g + 2) (by omega) (by omega)).trans h.h.r, (kp g5 (by omega) (by omega)).trans h.h.o5, own_keep h.h.a fun k e => kp k (by have := h.h.k1 k e; omega) (h.h.a.lt k e).2, own_keep h.h.b fun k e => kp k (by have := h.h.k2 k e; omega) (h.h.b.lt k e).2, h.h.ne, h.h.k1, h.h.k2, h.h.lo⟩, ?_, h.lt, Nat.le_trans hsz hgr.size⟩
  rw [List.length_append, List.length_singleton]
  exact ho
theorem AoW.ends {g g5 b0 : Nat} {w wx : World} {s p x : Pe} {u v r1 r2 vv : Value} {A B acc F : List Pe} {ok : Bool} (h : AoW g g5 b0 w wx s p x p u v r1 r2 vv A B acc) (hg : w.heap.size = g) (hF : acc = F) (hok : ok = true) :
    AdoptP w s p B F ok (.returned (.tuple #[.agg (tabA s p vv r2), .int .i64 0])) ((wx.setRow g5 (tabA s p vv r2)).setRow (g + 2) (tabA s p vv r2)) ∧ Below g w ((wx.setRow g5 (tabA s p vv r2)).setRow (g + 2) (tabA s p vv r2)) := by
  have hlo := h.h.lo
  have hlt := h.lt
  subst hF
  refine ⟨.inr ⟨hok, _, rfl, vv, r2, rfl, ?_, ?_, fun k h1 h2 => ?_⟩, bel_setRow (bel_setRow h.h.bel (by omega) _) (by omega) _⟩
  · exact own_base (own_other (own_other h.o _ fun k e => by have := (h.o.lt k e).1; omega) _ fun k e => by have := (h.o.lt k e).1; omega) (by omega)
  · exact own_base (own_row (own_other h.h.b _ fun k e => by have := h.h.k2 k e; omega) _ (by omega)) (by omega)
  · have h3 := (h.o.lt k h1).1
    have h4 := h.h.k2 k h2
    omega
end Go.Proofs.Ytfajfmcabpmchaa

namespace Go.Proofs.Ytfajfmcabpmchaa
set_option maxRecDepth 100000
open Go Go.RowKit Go.Sort

theorem pt_congr (fg fh : Nat → Pe × Bool) : ∀ (n i : Nat) (L : List Pe), (∀ j, i ≤ j → (fg j).2 = (fh j).2 ∧ ((fg j).2 = true → (fg j).1 = (fh j).1)) → ptL fg n i L = ptL fh n i L
  | 0, _, _, _ => rfl
  | n + 1, i, L, h => by
    have hi := h i (Nat.le_refl _)
    rw [ptL, ptL, ← hi.1]
    split
    · rename_i hc
      rw [hi.2 hc]
      exact pt_congr fg fh n (i + 1) _ fun j hj => h j (by omega)
    · rfl
theorem half_rnd {s x z : Nat} (h : eqB x s = true) : halfB s z x = true := by
  unfold eqB at h
  have h := of_decide_eq_true h
  unfold halfB openB
  have e1 : eqB z x = eqB z s := by unfold eqB; rw [h]
  have e2 : eqB s x = true := by unfold eqB; exact decide_eq_true h.symm
  rw [e1, e2]
  cases eqB z s <;> rfl
/-- while the fingers are pointed -/
structure PrW (g g5 g6 b : Nat) (w wr : World) (s p x f : Pe) (u v r1 : Value) (c : Nat) (S L : List Pe) : Prop where
  bel : Below g w wr
  t : TB wr g s p u v
  xb : PB wr (g + 1) x
  r : TB wr (g + 2) (0, 0) (0, 0) nilS nilS
  o5 : TB wr g5 s p r1 (.slice (some ⟨b, 0, none⟩) 160 c)
  fb : PB wr g6 f
  o : wr.ownsRow (g + 3) 28 21 r1 S.length (flat S)
  ne : r1.ownBlock ≠ some b
  lo : g + 3 ≤ b
  n5 : b < g5
  l5 : g5 < g6
  d : Dat wr b 0 (fun' L) L.length
theorem PrW.bel2 {g g5 g6 b c : Nat} {w wr w' : World} {s p x f : Pe} {u v r1 : Value} {S L : List Pe} (h : PrW g g5 g6 b w wr s p x f u v r1 c S L) (hg : w.heap.size = g) (hb : Below wr.heap.size wr w') : PrW g g5 g6 b w w' s p x f u v r1 c S L :=
  ⟨belTo hg h.bel hb, h.t.bel hb, h.xb.bel hb, h.r.bel hb, h.o5.bel hb, h.fb.bel hb, own_bel h.o hb, h.ne, h.lo, h.n5, h.l5, h.d.bel hb⟩
theorem PrW.put {g g5 g6 b c : Nat} {w wr : World} {s p x f : Pe} {u v r1 : Value} {S L : List Pe} (h : PrW g g5 g6 b w wr s p x f u v r1 c S L) {i : Nat} (hi : i < L.length) (y : Pe) : PrW g g5 g6 b w (wr.setCells b (0 + i * 21) (peC y)) s p x f u v r1 c S (L.set i y) := by
  have hgr := grown_set wr b (0 + i * 21) (peC y)
  have hlo := h.lo
  have hn5 := h.n5
  have hl5 := h.l5
  have hlt := h.fb.lt
  have hk : ∀ k, k ≠ b → k < wr.heap.size → (wr.setCells b (0 + i * 21) (peC y)).heap[k]? = wr.heap[k]? := fun k hk hl => hgr.block k hl (by simpa using hk)
  refine ⟨⟨hgr.os.trans h.bel.os, hgr.tape.trans h.bel.tape, hgr.output.trans h.bel.output, Nat.le_trans h.bel.size hgr.size, fun k hk' => (hk k (by omega) (by omega)).trans (h.bel.block k hk')⟩, (hk g (by omega) (by omega)).trans h.t, (hk (g + 1) (by omega) (by omega)).trans h.xb, (hk (g + 2) (by omega) (by omega)).trans h.r, (hk g5 (by omega) (by omega)).trans h.o5, (hk g6 (by omega) (by omega)).trans h.fb, ?_, h.ne, h.lo, h.n5, h.l5, ?_⟩
  · exact own_keep h.o fun k e => hk k (fun e2 => h.ne (by rw [e, e2])) (h.o.lt k e).2
  · rw [List.length_set, fun_set L hi]; exact h.d.set hi y
theorem PrW.ends {g g5 g6 b c : Nat} {w wr : World} {s p x f : Pe} {u v r1 : Value} {S L F : List Pe} {nx n2 : Nat} {ok : Bool} (h : PrW g g5 g6 b w wr s p x f u v r1 c S L) (hl : L.length = 160) (hc : 160 ≤ c) (e : L = F) (e2 : nx = n2) (hok : ok = true) :
    PointP g s p S F n2 ok (.returned (.tuple #[.agg (tabA s p r1 (.slice (some ⟨b, 0, none⟩) 160 c)), .int .i64 (nx : Int), .int .i64 0])) (wr.setRow (g + 2) (tabA s p r1 (.slice (some ⟨b, 0, none⟩) 160 c))) ∧ Below g w (wr.setRow (g + 2) (tabA s p r1 (.slice (some ⟨b, 0, none⟩) 160 c))) := by
  have hlo := h.lo
  subst e e2
  refine ⟨.inr ⟨hok, _, _, rfl, own_lies (own_row h.o _ (by omega)), ?_, fun k e => by have := (h.o.lt k e).1; omega, fun k e => by have h2 : (some b : Option Nat) = some k := e; rw [Option.some.injEq] at h2; omega⟩, bel_setRow h.bel (by omega) _⟩
  refine lies_set ?_ (fun _ => by simp only [Value.ownBlock, ne_eq, Option.some.injEq]; omega) _
  have := Dat.lies h.d (by rw [hl]; exact hc)
  rwa [seg_fun, hl] at this
end Go.Proofs.Ytfajfmcabpmchaa
