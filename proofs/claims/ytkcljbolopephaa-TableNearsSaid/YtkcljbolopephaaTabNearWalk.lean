/- The nearest one is between Self and the place, and no known one that may be asked is nearer to it: the walk. -/
import Derived.Test.YtkcljbolopephaaTabKit
namespace Go.Proofs.Ytkcljbolopephaa.NearLaw
set_option maxRecDepth 100000
open Go Go.RowKit Go.Sort

set_option maxHeartbeats 2000000 in
theorem walk_out {w : World} {s p : Pe} {u v z : Value} {S F : List Pe} {A : List Int} (id : Nat) (hS : Lies w u S) (hF : Lies w v F) (hA : Nums w z A) (hb : bigB S F = true ∨ bigB S F = false ∧ 100 < A.length) :
    Calls Try.prog 7 #[.agg (tabA s p u v), idv id, z] w fun e w' => e = .returned (.bool true) ∧ Below w.heap.size w w' := by
  have B0 := ((Below.refl w.heap.size w).alloc (Nat.le_refl _) (.cells (tabA s p u v) 28)).alloc (by simp) (.cells (row (dig 20 id)) 23)
  have T0 : TB ((w.alloc (.cells (tabA s p u v) 28)).alloc (.cells (row (dig 20 id)) 23)) w.heap.size s p u v := Blk.alloc (Blk.new ..) _
  have HB : Hid (∀ W, Below w.heap.size w W → Calls Try.prog 9 #[.agg (tabA s p u v)] W fun e w' => e = .returned (.bool (bigB S F)) ∧ Below W.heap.size W w') := fun W h => big_any (s := s) (p := p) (hS.bel h) (hF.bel h)
  obtain ⟨za, zc, rfl⟩ := hA.form
  rw [show idv id = .agg (row (dig 20 id)) from rfl]
  rcases hb with hb | ⟨hb, hl⟩
  · rw [hb] at HB
    clear hS hF hb hA
    generalize A.length = m at *
    go_enter Try.func7, Try.ntmps7
    go_upto_region 1 with (fail)
    generalize (w.alloc _).alloc _ = W at *
    generalize hg : w.heap.size = g at *
    go_wp2_with (first
      | go_big_skip
      | (refine p_midT rfl _ rfl g rfl T0 ?_)
      | (go_at_call 9; (with_reducible refine (HB.out _ B0).mono ?_); rintro e w1 ⟨rfl, k1⟩; have B1 := belTo hg B0 k1; clear k1))
    go_ret
    exact ⟨rfl, by (try rw [hg]); exact B1⟩
  · rw [hb] at HB
    clear hS hF hb hA
    generalize A.length = m at *
    have d1 : decide ((100 : Int) < (m : Int)) = true := decide_eq_true (by omega)
    go_enter Try.func7, Try.ntmps7
    go_upto_region 1 with (fail)
    generalize (w.alloc _).alloc _ = W at *
    generalize hg : w.heap.size = g at *
    go_wp2_with (first
      | go_big_skip
      | (refine p_midT rfl _ rfl g rfl T0 ?_)
      | (go_at_call 9; (with_reducible refine (HB.out _ B0).mono ?_); rintro e w1 ⟨rfl, k1⟩; have B1 := belTo hg B0 k1; clear k1))
    go_ret
    exact ⟨rfl, by (try rw [hg]); exact B1⟩
/-- what is known while the known ones are gone through -/
structure NwW (g g7 : Nat) (w wx : World) (s p q : Pe) (u v l z : Value) (id : Nat) (K : List Pe) (A : List Int) : Prop where
  bel : Below g w wx
  t : TB wx g s p u v
  i : At wx (g + 1) id
  q : PB wx g7 q
  l : Lies wx l K
  z : Nums wx z A
theorem NwW.bel2 {g g7 : Nat} {w wx wy : World} {s p q : Pe} {u v l z : Value} {id : Nat} {K : List Pe} {A : List Int} (h : NwW g g7 w wx s p q u v l z id K A) (hg : w.heap.size = g) (k : Below wx.heap.size wx wy) : NwW g g7 w wy s p q u v l z id K A :=
  ⟨belTo hg h.bel k, h.t.bel k, h.i.below k, h.q.bel k, h.l.bel k, h.z.bel k⟩
set_option maxHeartbeats 8000000 in
theorem walk_core (hT : Gives Try.prog 17 #[] (.bool true)) {w : World} {s p q : Pe} {u v z : Value} {K : List Pe} {A : List Int} (id : Nat) (ok : Bool) (ob nb eb : Pe → Bool)
    (hB : ∀ W, Below w.heap.size w W → Calls Try.prog 9 #[.agg (tabA s p u v)] W fun e w' => e = .returned (.bool false) ∧ Below W.heap.size W w')
    (hN : ∀ W, Below w.heap.size w W → Calls Try.prog 21 #[.agg (tabA s p u v), idv id, z] W fun e w' => e = .returned (.tuple #[.agg (peA q), .bool ok]) ∧ Below W.heap.size W w')
    (hK : ∀ W, Below w.heap.size w W → Calls Try.prog 32 #[.agg (tabA s p u v)] W fun e w' => ∃ r, e = .returned r ∧ Lies w' r K ∧ Below W.heap.size W w')
    (hO : ∀ y : Pe, Gives Try.prog 36 #[idv s.2, idv y.2, idv id] (.bool (ob y))) (hO2 : ∀ y : Pe, Gives Try.prog 36 #[idv q.2, idv y.2, idv id] (.bool (nb y))) (hE : ∀ y, eqP y q = eb y)
    (hA : Nums w z A) (hl : A.length ≤ 100) (hkl : K.length ≤ 1000)
    (hq0 : ∀ y ∈ K, ob y = true → memB A y.1 = false → ok = true ∧ nb y = false) (hend : thB (fun y => (ob y && !memB A y.1) && eb y) K K.length = ok) (hno : ok = false → eqP q (-1, 0) = true) :
    Calls Try.prog 7 #[.agg (tabA s p u v), idv id, z] w fun e w' => e = .returned (.bool true) ∧ Below w.heap.size w w' := by
  have B0 := ((Below.refl w.heap.size w).alloc (Nat.le_refl _) (.cells (tabA s p u v) 28)).alloc (by simp) (.cells (row (dig 20 id)) 23)
  have T0 : TB ((w.alloc (.cells (tabA s p u v) 28)).alloc (.cells (row (dig 20 id)) 23)) w.heap.size s p u v := Blk.alloc (Blk.new ..) _
  have I0 : At ((w.alloc (.cells (tabA s p u v) 28)).alloc (.cells (row (dig 20 id)) 23)) (w.heap.size + 1) id := by
    have := At.new (w.alloc (.cells (tabA s p u v) 28)) id
    rwa [World.size_alloc] at this
  have Z0 := Lib.hid (hA.bel B0)
  obtain ⟨za, zc, rfl⟩ := hA.form
  have HB := Lib.hid hB
  have HN := Lib.hid hN
  have HK := Lib.hid hK
  have HO := Lib.hid hO
  have HO2 := Lib.hid hO2
  have HE := Lib.hid hE
  have HT := Lib.hid hT
  have HQ0 := Lib.hid hq0
  have HEND := Lib.hid hend
  have HNO := Lib.hid hno
  clear hB hN hK hO hO2 hE hT hq0 hend hno hA
  generalize hm : A.length = m at *
  generalize hn : K.length = n at *
  have HM := Lib.hid hm
  have HNN := Lib.hid hn
  clear hm hn
  have d0 : decide ((100 : Int) < (m : Int)) = false := decide_eq_false (by omega)
  rw [show idv id = .agg (row (dig 20 id)) from rfl]
  go_enter Try.func7, Try.ntmps7
  go_upto_region 1 with (fail)
  generalize (w.alloc _).alloc _ = W at *
  generalize hg : w.heap.size = g at *
  go_upto_region 4 with (first
    | go_big_skip
    | (refine p_midT rfl _ rfl g rfl T0 ?_)
    | (refine p_midT rfl _ rfl g rfl T1 ?_)
    | (refine p_load rfl _ rfl _ rfl id I1 ?_)
    | (go_at_call 9; (with_reducible refine (HB.out _ B0).mono ?_); rintro e w1 ⟨rfl, k1⟩; have B1 := belTo hg B0 k1; have T1 := T0.bel k1; have I1 := I0.below k1; have Z1 := Lib.hid (Z0.out.bel k1); clear k1)
    | (go_at_call 21; (with_reducible refine (HN.out _ B1).mono ?_); rintro e w3 ⟨rfl, k3⟩; have B3 := belTo hg B1 k3; have T3 := T1.bel k3; have I3 := I1.below k3; have Z3 := Lib.hid (Z1.out.bel k3); clear k3)
    | (refine p_storeP rfl rfl _ _ rfl q rfl rfl ?_))
  (try simp only [Act.put])
  have k4 := (Below.refl w3.heap.size w3).alloc (Nat.le_refl _) (.cells (peA q) 25)
  have Q4 := PB.new w3 q
  have T4 := T3.bel k4
  have B4 := belTo hg B3 k4
  have I4 := Lib.hid (I3.below k4)
  have Z4 := Lib.hid (Z3.out.bel k4)
  clear k4 B0 B1 B3 T0 T1 T3 I0 I1 I3 Z0 Z1 Z3 HB HN
  generalize w3.heap.size = g7 at *
  generalize w3.alloc _ = W4 at *
  go_upto_region 7 with (first
    | (refine p_midT rfl _ rfl g rfl T4 ?_)
    | (go_at_call 32; (with_reducible refine (HK.out _ B4).mono ?_); rintro e w5 ⟨l, rfl, hl5, k5⟩; have HW5 : Hid (NwW g g7 w w5 s p q u v l (.slice za m zc) id K A) := ⟨belTo hg B4 k5, T4.bel k5, I4.out.below k5, Q4.bel k5, hl5, Z4.out.bel k5⟩; obtain ⟨la, lc, rfl⟩ := hl5.form; rw [HNN.out] at HW5; clear hl5 k5))
  clear B4 T4 I4 Z4 Q4 HK
  try rw [HNN.out]
  go_loopw [10, 11] (fun t i wr => ∃ k : Nat, k ≤ n ∧ i = .int .i64 (k : Int) ∧ t = .bool (thB (fun y => (ob y && !memB A y.1) && eb y) K k) ∧ NwW g g7 w wr s p q u v (.slice la n lc) (.slice za m zc) id K A) (fun _ i _ => n - (intOf i).toNat)
  case atStart => exact ⟨0, Nat.zero_le _, rfl, rfl, HW5.out⟩
  case round =>
    clear HW5
    obtain ⟨k, hk, rfl, rfl, hW⟩ := hrel
    have HW := Lib.hid hW
    clear hW
    by_cases hlt : k < n
    · have hx := getD_at (L := K) (k := k) (by have := HNN.out; omega)
      obtain ⟨b, o, c, e1, hc, hr, r1', hlb⟩ := HW.out.l.at hx
      simp only [Value.slice.injEq] at e1
      obtain ⟨rfl, e2, rfl⟩ := e1
      have hq := HQ0.out _ (List.mem_of_getElem? hx)
      have hts := th_succ (f := fun y => (ob y && !memB A y.1) && eb y) hx
      have HX := Lib.hid hx
      clear hx e2 hc hr hlb r1'
      generalize K.getD k (0, 0) = x at *
      have HQ := Lib.hid hq
      have HTS := Lib.hid hts
      clear hq hts
      generalize thB (fun y => (ob y && !memB A y.1) && eb y) K k = th at *
      have b1 : (k : Int) < (n : Int) := by omega
      have b2 : (0 : Int) ≤ (k : Int) := by omega
      have s1 : IntKind.i64.wrap ((k : Int) + 1) = (k : Int) + 1 := IntWalk.i64_in _ (by omega)
      obtain ⟨wo, rfl⟩ : ∃ wo : World, wo = wr := ⟨_, rfl⟩
      go_wp2
      go_loopw [12, 13] (fun sh j wr => ∃ d : Nat, d ≤ m ∧ j = .int .i64 (d : Int) ∧ sh = .bool (memB (A.take d) x.1) ∧ NwW g g7 w wr s p q u v (.slice (some ⟨b, o, none⟩) n lc) (.slice za m zc) id K A) (fun _ j _ => m - (intOf j).toNat)
      case atStart => exact ⟨0, Nat.zero_le _, rfl, by rw [mem_zero], HW.out⟩
      case round =>
        clear HW
        obtain ⟨d, hd, rfl, rfl, hW⟩ := hrel
        have HW := Lib.hid hW
        clear hW
        by_cases hdm : d < m
        · have HMS := Lib.hid (mem_succ (A := A) (j := d) (by have := HM.out; omega) x.1)
          have c1 := pe_ad (row_at HW.out.l HX.out)
          obtain ⟨zb, zo, zc', e1, _, _⟩ := HW.out.z.some (by have := HM.out; omega)
          simp only [Value.slice.injEq] at e1
          obtain ⟨rfl, -, rfl⟩ := e1
          have c2 := nums_at (j := d) HW.out.z (by have := HM.out; omega)
          generalize A.getD d 0 = y at *
          have b3 : (d : Int) < (m : Int) := by omega
          have b4 : (0 : Int) ≤ (d : Int) := by omega
          have s2 : IntKind.i64.wrap ((d : Int) + 1) = (d : Int) + 1 := IntWalk.i64_in _ (by omega)
          generalize memB (A.take d) x.1 = sh at *
          cases sh
          · generalize hyx : (y == x.1) = e at *
            have HMS2 := HMS
            clear HMS
            go_upto_region 13 with (fail)
            go_quiet (fail)
            generalize hD : World.drewN wr _ = w9
            have kD : Below wr.heap.size wr w9 := by rw [← hD]; exact bel_drewN (Below.refl _ _) _
            have HW9 := Lib.hid (HW.out.bel2 hg kD)
            clear kD
            clear hD
            go_wp2
            exact ⟨⟨d + 1, by omega, by go_num, by rw [HMS2.out]; rfl, HW9.out⟩, by simp [intOf]; omega⟩
          · clear c1 c2
            go_upto_region 13 with (fail)
            go_quiet (fail)
            generalize hD : World.drewN wr _ = w9
            have kD : Below wr.heap.size wr w9 := by rw [← hD]; exact bel_drewN (Below.refl _ _) _
            have HW9 := Lib.hid (HW.out.bel2 hg kD)
            clear kD
            clear hD
            go_wp2
            exact ⟨⟨d + 1, by omega, by go_num, by rw [HMS.out]; rfl, HW9.out⟩, by simp [intOf]; omega⟩
        · obtain rfl : d = m := by omega
          have hfull : memB (A.take d) x.1 = memB A x.1 := by rw [List.take_of_length_le (by have := HM.out; omega)]
          rw [hfull]
          clear hfull hdm
          have n1 : ¬ (d : Int) < (d : Int) := by omega
          have R1 := row_at HW.out.l HX.out
          have r2 := pe_id R1
          have i1 := HW.out.t.sI
          have i2 := HW.out.i
          have hO := HO.out x
          have hO2 := HO2.out x
          have hEx := HE.out x
          (try dsimp only at HTS)
          generalize memB A x.1 = mb at *
          generalize ob x = ox at *
          generalize nb x = nx at *
          generalize eb x = ex at *
          cases ox
          · -- not between
            have HTS2 : Hid (thB (fun y => (ob y && !memB A y.1) && eb y) K (k + 1) = th) := Lib.hid (by rw [HTS.out]; simp)
            clear HTS HQ
            go_upto_region 14 with (fail)
            refine wp_region_quiet_below (by kernel_rfl) (by kernel_rfl) ?_
            repeat (first
              | go_big_quiet_skip
              | (go_big_quiet_want
                 first
                 | (first | (refine q_midI _ rfl g 1 rfl s.2 (by with_reducible exact i1) ?_) | (refine q_midI _ rfl _ _ rfl x.2 (by with_reducible exact r2) ?_) | (refine q_at _ rfl _ id rfl i2 ?_)
                    simp only [Act.put, List.setIfInBounds_toArray, List.set_cons_succ, List.set_cons_zero]
                    go_big_quiet_on)
                 | (go_big_quiet_op
                    first | go_big_quiet_on | go_big_quiet_call (first | with_reducible exact hO.grown _ _))))
            refine wpQuiet_nil ?_
            intro w9 hw'
            have k9 := quiet_end hw'
            clear hw'
            have HW9 := Lib.hid (HW.out.bel2 hg k9)
            clear k9 HW R1 r2 i1 i2 hO hO2
            go_upto_region 15 with (fail)
            go_quiet (fail)
            generalize hD : World.drewN w9 _ = w8
            have kD : Below w9.heap.size w9 w8 := by rw [← hD]; exact bel_drewN (Below.refl _ _) _
            have HW8 := Lib.hid (HW9.out.bel2 hg kD)
            clear kD
            clear hD HW9
            cases th
            · go_upto_region 17 with (fail)
              go_quiet (fail)
              generalize hD : World.drewN w8 _ = w7
              have kD : Below w8.heap.size w8 w7 := by rw [← hD]; exact bel_drewN (Below.refl _ _) _
              have HW7 := Lib.hid (HW8.out.bel2 hg kD)
              clear kD
              clear hD
              go_wp2
              exact ⟨⟨k + 1, by omega, by go_num, by rw [HTS2.out], HW7.out⟩, by simp [intOf]; omega⟩
            · go_upto_region 17 with (fail)
              go_quiet (fail)
              generalize hD : World.drewN w8 _ = w7
              have kD : Below w8.heap.size w8 w7 := by rw [← hD]; exact bel_drewN (Below.refl _ _) _
              have HW7 := Lib.hid (HW8.out.bel2 hg kD)
              clear kD
              clear hD
              go_wp2
              exact ⟨⟨k + 1, by omega, by go_num, by rw [HTS2.out], HW7.out⟩, by simp [intOf]; omega⟩
          · cases mb
            · have hq2 := HQ.out rfl rfl
              obtain ⟨rfl, rfl⟩ := hq2
              have HTS2 : Hid (thB (fun y => (ob y && !memB A y.1) && eb y) K (k + 1) = (th || ex)) := Lib.hid (by rw [HTS.out]; simp)
              clear HTS HQ
              go_upto_region 14 with (fail)
              refine wp_region_quiet_below (by kernel_rfl) (by kernel_rfl) ?_
              repeat (first
                | go_big_quiet_skip
                | (go_big_quiet_want
                   first
                   | (first | (refine q_midI _ rfl g 1 rfl s.2 (by with_reducible exact i1) ?_) | (refine q_midI _ rfl _ _ rfl x.2 (by with_reducible exact r2) ?_) | (refine q_at _ rfl _ id rfl i2 ?_)
                      simp only [Act.put, List.setIfInBounds_toArray, List.set_cons_succ, List.set_cons_zero]
                      go_big_quiet_on)
                   | (go_big_quiet_op
                      first | go_big_quiet_on | go_big_quiet_call (first | with_reducible exact hO.grown _ _))))
              refine wpQuiet_nil ?_
              intro w9 hw'
              have k9 := quiet_end hw'
              clear hw'
              have HW9 := Lib.hid (HW.out.bel2 hg k9)
              clear k9 HW R1 r2 i1 i2 hO
              have r3 := pe_id (row_at HW9.out.l HX.out)
              have i3 := HW9.out.q.I
              have i4 := HW9.out.i
              go_upto_region 15 with (fail)
              refine wp_region_quiet_below (by kernel_rfl) (by kernel_rfl) ?_
              repeat (first
                | go_big_quiet_skip
                | (go_big_quiet_want
                   first
                   | (first | (refine q_midI _ rfl g7 1 rfl q.2 (by with_reducible exact i3) ?_) | (refine q_midI _ rfl _ _ rfl x.2 (by with_reducible exact r3) ?_) | (refine q_at _ rfl _ id rfl i4 ?_)
                      simp only [Act.put, List.setIfInBounds_toArray, List.set_cons_succ, List.set_cons_zero]
                      go_big_quiet_on)
                   | (go_big_quiet_op
                      first | go_big_quiet_on | go_big_quiet_call (first | with_reducible exact hO2.grown _ _))))
              refine wpQuiet_nil ?_
              intro w9 hw'
              have k9 := quiet_end hw'
              clear hw'
              have HW8 := Lib.hid (HW9.out.bel2 hg k9)
              clear k9 HW9 r3 i3 i4 hO2
              generalize w9 = w8 at *
              cases th
              · have R4 := row_at HW8.out.l HX.out
                have q4 := HW8.out.q.range
                go_upto_region 17 with (fail)
                refine wp_region_quiet_below (by kernel_rfl) (by kernel_rfl) ?_
                repeat (first
                  | go_big_quiet_skip
                  | (go_big_quiet_want
                     first
                     | (first | (refine q_midP _ rfl g7 0 rfl q (by with_reducible exact q4) ?_) | (refine q_midP _ rfl _ _ rfl x (by with_reducible exact R4) ?_) | (refine q_eqlP _ _ rfl x q rfl rfl hEx ?_)
                        simp only [Act.put, List.setIfInBounds_toArray, List.set_cons_succ, List.set_cons_zero]
                        go_big_quiet_on)
                     | (go_big_quiet_op
                        first | go_big_quiet_on | go_big_quiet_call (first | fail))))
                refine wpQuiet_nil ?_
                intro w9 hw'
                have k9 := quiet_end hw'
                clear hw'
                have HW7 := Lib.hid (HW8.out.bel2 hg k9)
                clear k9 R4 q4 HW8
                go_wp2
                exact ⟨⟨k + 1, by omega, by go_num, by rw [HTS2.out]; simp, HW7.out⟩, by simp [intOf]; omega⟩
              · go_upto_region 17 with (fail)
                go_quiet (fail)
                generalize hD : World.drewN w8 _ = w7
                have kD : Below w8.heap.size w8 w7 := by rw [← hD]; exact bel_drewN (Below.refl _ _) _
                have HW7 := Lib.hid (HW8.out.bel2 hg kD)
                clear kD
                clear hD
                go_wp2
                exact ⟨⟨k + 1, by omega, by go_num, by rw [HTS2.out]; simp, HW7.out⟩, by simp [intOf]; omega⟩
            · have HTS2 : Hid (thB (fun y => (ob y && !memB A y.1) && eb y) K (k + 1) = th) := Lib.hid (by rw [HTS.out]; simp)
              clear HTS HQ
              go_upto_region 14 with (fail)
              refine wp_region_quiet_below (by kernel_rfl) (by kernel_rfl) ?_
              repeat (first
                | go_big_quiet_skip
                | (go_big_quiet_want
                   first
                   | (first | (refine q_midI _ rfl g 1 rfl s.2 (by with_reducible exact i1) ?_) | (refine q_midI _ rfl _ _ rfl x.2 (by with_reducible exact r2) ?_) | (refine q_at _ rfl _ id rfl i2 ?_)
                      simp only [Act.put, List.setIfInBounds_toArray, List.set_cons_succ, List.set_cons_zero]
                      go_big_quiet_on)
                   | (go_big_quiet_op
                      first | go_big_quiet_on | go_big_quiet_call (first | with_reducible exact hO.grown _ _))))
              refine wpQuiet_nil ?_
              intro w9 hw'
              have k9 := quiet_end hw'
              clear hw'
              have HW9 := Lib.hid (HW.out.bel2 hg k9)
              clear k9 HW R1 r2 i1 i2 hO hO2
              go_upto_region 15 with (fail)
              go_quiet (fail)
              generalize hD : World.drewN w9 _ = w8
              have kD : Below w9.heap.size w9 w8 := by rw [← hD]; exact bel_drewN (Below.refl _ _) _
              have HW8 := Lib.hid (HW9.out.bel2 hg kD)
              clear kD
              clear hD HW9
              cases th
              · go_upto_region 17 with (fail)
                go_quiet (fail)
                generalize hD : World.drewN w8 _ = w7
                have kD : Below w8.heap.size w8 w7 := by rw [← hD]; exact bel_drewN (Below.refl _ _) _
                have HW7 := Lib.hid (HW8.out.bel2 hg kD)
                clear kD
                clear hD
                go_wp2
                exact ⟨⟨k + 1, by omega, by go_num, by rw [HTS2.out], HW7.out⟩, by simp [intOf]; omega⟩
              · go_upto_region 17 with (fail)
                go_quiet (fail)
                generalize hD : World.drewN w8 _ = w7
                have kD : Below w8.heap.size w8 w7 := by rw [← hD]; exact bel_drewN (Below.refl _ _) _
                have HW7 := Lib.hid (HW8.out.bel2 hg kD)
                clear kD
                clear hD
                go_wp2
                exact ⟨⟨k + 1, by omega, by go_num, by rw [HTS2.out], HW7.out⟩, by simp [intOf]; omega⟩
    · obtain rfl : k = n := by omega
      have hth := HEND.out
      rw [hth]
      clear hth hlt
      have n1 : ¬ (k : Int) < (k : Int) := by omega
      have hTT := HT.out
      have hNO : Gives Try.prog 37 #[] (.agg (peA (-1, 0))) := refnone_any
      have q1 := HW.out.q.range
      cases ok
      · have e1 := HNO.out rfl
        go_upto_region 18 with (fail)
        refine wp_region_quiet_below (by kernel_rfl) (by kernel_rfl) ?_
        repeat (first
          | go_big_quiet_skip
          | (go_big_quiet_want
             first
             | (first | (refine q_midP _ rfl g7 0 rfl q (by with_reducible exact q1) ?_) | (refine q_eqlP _ _ rfl q (-1, 0) rfl rfl e1 ?_)
                simp only [Act.put, List.setIfInBounds_toArray, List.set_cons_succ, List.set_cons_zero]
                go_big_quiet_on)
             | (go_big_quiet_op
                first | go_big_quiet_on | go_big_quiet_call (first | with_reducible exact hTT.grown _ _ | with_reducible exact hNO.grown _ _))))
        refine wpQuiet_nil ?_
        intro w9 hw'
        have k9 := quiet_end hw'
        clear hw'
        have HW9 := Lib.hid (HW.out.bel2 hg k9)
        clear k9
        go_wp2
        go_ret
        exact ⟨rfl, by (try rw [hg]); exact HW9.out.bel⟩
      · go_upto_region 18 with (fail)
        refine wp_region_quiet_below (by kernel_rfl) (by kernel_rfl) ?_
        repeat (first
          | go_big_quiet_skip
          | (go_big_quiet_want
             first
             | (first | (refine q_midP _ rfl g7 0 rfl q (by with_reducible exact q1) ?_)
                simp only [Act.put, List.setIfInBounds_toArray, List.set_cons_succ, List.set_cons_zero]
                go_big_quiet_on)
             | (go_big_quiet_op
                first | go_big_quiet_on | go_big_quiet_call (first | with_reducible exact hTT.grown _ _))))
        refine wpQuiet_nil ?_
        intro w9 hw'
        have k9 := quiet_end hw'
        clear hw'
        have HW9 := Lib.hid (HW.out.bel2 hg k9)
        clear k9
        go_wp2
        go_ret
        exact ⟨rfl, by (try rw [hg]); exact HW9.out.bel⟩
end Go.Proofs.Ytkcljbolopephaa.NearLaw
