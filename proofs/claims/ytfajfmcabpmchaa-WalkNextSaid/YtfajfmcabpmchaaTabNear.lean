/- The nearest known one that may be asked. -/
import Derived.Test.YtfajfmcabpmchaaTabKnown
import Derived.Test.YtfajfmcabpmchaaTabPut
import Derived.Test.YtfajfmcabpmchaaTabCloser
import Derived.BigGuard
namespace Go.Proofs.Ytfajfmcabpmchaa
set_option maxRecDepth 100000
open Go Go.RowKit Go.Sort

/-- an address stands among those -/
def memB (A : List Int) (a : Int) : Bool := decide (a ∈ A)
theorem mem_at {A : List Int} {a : Int} {k : Nat} (hk : k < A.length) (h : A.getD k 0 = a) : memB A a = true :=
  decide_eq_true (h ▸ by rw [List.getD_eq_getElem?_getD, List.getElem?_eq_getElem hk]; exact List.getElem_mem hk)
theorem mem_not {A : List Int} {a : Int} (h : ∀ j, j < A.length → A.getD j 0 ≠ a) : memB A a = false :=
  decide_eq_false fun hm => by
    obtain ⟨j, hj, e⟩ := List.mem_iff_getElem.1 hm
    exact h j hj (by rw [List.getD_eq_getElem?_getD, List.getElem?_eq_getElem hj]; exact e)
set_option maxHeartbeats 1000000 in
theorem index_any {w : World} {v : Value} {A : List Int} (a : Int) (hA : Nums w v A) (hn : A.length ≤ 1000000) :
    Calls Try.prog 80 #[v, .int .i64 a] w fun e w' => ∃ r : Int, e = .returned (.int .i64 r) ∧ decide (0 ≤ r) = memB A a ∧ w' = w := by
  rcases hA with ⟨rfl, rfl⟩ | ⟨b, o, c, rfl, hr⟩
  · go_enter Try.func80, Try.ntmps80
    go_wp2
    refine wp_loop_rounds 1 ?_
    rw [rounds_succ]
    go_wp2
    go_ret
    exact ⟨-1, rfl, rfl, rfl⟩
  have HR : Hid (∀ i, i < A.length → w.cell? ⟨b, o + i, none⟩ = some (.int .i64 (A.getD i 0))) := fun i hi => nums_cell hr hi
  clear hr
  generalize hln : A.length = n at *
  have HN := Lib.hid hln
  clear hln
  go_enter Try.func80, Try.ntmps80
  go_upto_region 2 with (fail)
  go_loopw [5, 8] (fun _ i wr => ∃ k : Nat, i = .int .i64 (k : Int) ∧ k ≤ n ∧ (∀ j, j < k → A.getD j 0 ≠ a) ∧ wr = w) (fun _ i _ => n - (intOf i).toNat)
  case atStart => exact ⟨0, rfl, Nat.zero_le _, fun j hj => by omega, rfl⟩
  case round =>
    obtain ⟨k, rfl, hk, hall, rfl⟩ := hrel
    have HA := Lib.hid hall
    clear hall
    by_cases hlt : k < n
    · have r1 := HR.out k hlt
      have b1 : (k : Int) < (n : Int) := by omega
      have b2 : (0 : Int) ≤ (k : Int) := by omega
      have s2 : IntKind.i64.wrap ((k : Int) + 1) = (k : Int) + 1 := IntWalk.i64_in _ (by omega)
      by_cases hx : A.getD k 0 = a
      · have e2 : memB A a = true := mem_at (by rw [HN.out]; exact hlt) hx
        rw [hx] at r1
        have HE := Lib.hid e2
        have e1 : (a == a) = true := by simp
        clear e2 hx HA
        go_wp2
        go_ret
        exact ⟨(k : Int), rfl, by rw [HE.out, decide_eq_true (by omega)], rfl⟩
      · have hall : ∀ j, j < k + 1 → A.getD j 0 ≠ a := fun j hj => by
          rcases Nat.lt_or_ge j k with h | h
          · exact HA.out j h
          · obtain rfl : j = k := by omega
            exact hx
        have HA2 := Lib.hid hall
        generalize A.getD k 0 = y at r1 hx
        have e1 : (a == y) = false := by rw [beq_addr]; exact decide_eq_false (fun h => hx h.symm)
        clear hx hall HA
        go_wp2
        exact ⟨⟨k + 1, by go_num, by omega, HA2.out, by first | rfl | trivial⟩, by simp [intOf]; omega⟩
    · obtain rfl : k = n := by omega
      have e2 : memB A a = false := mem_not (by rw [HN.out]; exact HA.out)
      have HE := Lib.hid e2
      clear e2
      go_wp2
      go_ret
      exact ⟨-1, rfl, by rw [HE.out]; rfl, rfl⟩
theorem contains_any {w : World} {v : Value} {A : List Int} (a : Int) (hA : Nums w v A) (hn : A.length ≤ 1000000) :
    Calls Try.prog 51 #[v, .int .i64 a] w fun e w' => e = .returned (.bool (memB A a)) ∧ Below w.heap.size w w' := by
  have H := Lib.hid (index_any a hA hn)
  clear hA hn
  go_enter Try.func51, Try.ntmps51
  go_upto_region 1 with (fail)
  go_wp2_with (first
    | (go_at_call 80; (with_reducible refine H.out.mono ?_); rintro e w1 ⟨r, rfl, hr, rfl⟩; have HR := Lib.hid hr; clear hr))
  go_ret
  exact ⟨by rw [← HR.out]; rfl, Below.refl _ _⟩
/-- the nearest one so far, and whether there is one -/
def nrG (opn : Nat → Nat → Bool) (A : List Int) : Pe × Bool → List Pe → Pe × Bool
  | acc, [] => acc
  | acc, x :: l => nrG opn A (if memB A x.1 = false ∧ opn acc.1.2 x.2 = true then (x, true) else acc) l
def nrR (r : Pe × Bool) : Pe × Bool := if r.2 = true then r else ((-1, 0), false)
/-- while the known ones are gone through -/
structure NeW (g g3 : Nat) (w wr : World) (id : Nat) (y : Pe) : Prop where
  bel : Below g w wr
  i : At wr (g + 1) id
  x : PB wr (g + 2) (0, 0)
  y : PB wr g3 y
theorem NeW.bel2 {g g3 : Nat} {w wr w' : World} {id : Nat} {y : Pe} (h : NeW g g3 w wr id y) (hg : w.heap.size = g) (hb : Below wr.heap.size wr w') : NeW g g3 w w' id y :=
  ⟨belTo hg h.bel hb, h.i.below hb, h.x.bel hb, h.y.bel hb⟩
theorem NeW.put {g g3 : Nat} {w wr : World} {id : Nat} {y : Pe} (h : NeW g g3 w wr id y) (hg3 : g + 3 ≤ g3) (z : Pe) : NeW g g3 w (wr.setRow g3 (peA z)) id z :=
  ⟨bel_setRow h.bel (by omega) _, Blk.setRow_other h.i g3 (peA z) (by omega), Blk.setRow_other h.x g3 (peA z) (by omega), h.y.set z⟩
theorem ins_le (K : List Pe) (x : Pe) : (insU K x).length ≤ K.length + 1 := by
  unfold insU
  split
  · exact Nat.le_succ _
  · have h := congrArg List.length (List.takeWhile_append_dropWhile (p := fun y : Pe => decide (y.1 < x.1)) (l := K))
    rw [List.length_append] at h
    rw [List.length_append, List.length_cons]
    omega
theorem knF_le (l : List Pe) : (knF l).length ≤ l.length := by
  have : ∀ (l K : List Pe), (l.foldl insU K).length ≤ K.length + l.length := fun l => by
    induction l with
    | nil => exact fun K => Nat.le_refl _
    | cons x l ih =>
      intro K
      have h1 := ih (insU K x)
      have h2 := ins_le K x
      rw [List.foldl_cons, List.length_cons]
      omega
  have h := this l []
  simpa [knF] using h
theorem kn_le (s p : Pe) (S L : List Pe) : (knL s p S L).length ≤ S.length + L.length + 1 := by
  refine Nat.le_trans (knF_le _) ?_
  unfold fil
  refine Nat.le_trans (List.length_filter_le _ _) ?_
  simp
set_option maxHeartbeats 8000000 in
theorem near_core {w : World} {s p : Pe} {u v z : Value} {K : List Pe} {A : List Int} (id : Nat) (opn : Nat → Nat → Bool) (hA : Nums w z A) (hn : K.length ≤ 1000000) (hna : A.length ≤ 1000000)
    (hK : ∀ W, Below w.heap.size w W → Calls Try.prog 50 #[.agg (tabA s p u v)] W fun e w' => ∃ r, e = .returned r ∧ Lies w' r K ∧ (∀ k, r.ownBlock = some k → W.heap.size ≤ k) ∧ Below W.heap.size W w')
    (hO : ∀ a b, Gives Try.prog 52 #[idv a, idv b, idv id] (.bool (opn a b))) :
    Calls Try.prog 25 #[.agg (tabA s p u v), idv id, z] w fun e w' => e = .returned (.tuple #[.agg (peA (nrR (nrG opn A (s, false) K)).1), .bool (nrR (nrG opn A (s, false) K)).2]) ∧ Below w.heap.size w w' := by
  have B0 := (((Below.refl w.heap.size w).alloc (Nat.le_refl _) (.cells (tabA s p u v) 43)).alloc (by simp) (.cells (row (dig 20 id)) 24)).alloc (by simp; omega) (.cells (peA (0, 0)) 28)
  have T0 : TB (((w.alloc (.cells (tabA s p u v) 43)).alloc (.cells (row (dig 20 id)) 24)).alloc (.cells (peA (0, 0)) 28)) w.heap.size s p u v := Blk.alloc (Blk.alloc (Blk.new ..) _) _
  have I0 : At (((w.alloc (.cells (tabA s p u v) 43)).alloc (.cells (row (dig 20 id)) 24)).alloc (.cells (peA (0, 0)) 28)) (w.heap.size + 1) id := by
    have := (At.new (w.alloc (.cells (tabA s p u v) 43)) id).alloc (.cells (peA (0, 0)) 28)
    rwa [World.size_alloc] at this
  have R0 : PB (((w.alloc (.cells (tabA s p u v) 43)).alloc (.cells (row (dig 20 id)) 24)).alloc (.cells (peA (0, 0)) 28)) (w.heap.size + 2) (0, 0) := by
    have := PB.new ((w.alloc (.cells (tabA s p u v) 43)).alloc (.cells (row (dig 20 id)) 24)) (0, 0)
    rwa [World.size_alloc, World.size_alloc] at this
  have HC : Hid (∀ W a, Below w.heap.size w W → Calls Try.prog 51 #[z, .int .i64 a] W fun e w' => e = .returned (.bool (memB A a)) ∧ Below W.heap.size W w') := fun W a hb => contains_any a (hA.bel hb) hna
  have HO := Lib.hid hO
  have HK := Lib.hid hK
  have HNN := Lib.hid none_any
  have HNK := Lib.hid hn
  clear hO hK hn hna hA
  generalize hres : nrG opn A (s, false) K = res at *
  have HRES := Lib.hid hres
  clear hres
  rw [show idv id = .agg (row (dig 20 id)) from rfl]
  go_enter Try.func25, Try.ntmps25
  go_upto_region 1 with (fail)
  rw [peer_zero]
  generalize ((w.alloc _).alloc _).alloc _ = W at *
  generalize hg : w.heap.size = g at *
  have S0 := T0.self
  go_upto_region 2 with (first
    | (refine p_midP rfl _ rfl g 0 rfl s S0 ?_)
    | (refine p_storeP rfl rfl _ _ rfl s rfl rfl ?_))
  (try simp only [Act.put])
  have B1 := (Below.refl W.heap.size W).alloc (Nat.le_refl _) (.cells (peA s) 28)
  have T1 := T0.bel B1
  have hg3 : g + 3 ≤ W.heap.size := R0.lt
  have N1 : Hid (NeW g W.heap.size w (W.alloc (.cells (peA s) 28)) id s) := ⟨belTo hg B0 B1, I0.below B1, R0.bel B1, PB.new W s⟩
  clear B0 T0 I0 R0 S0 B1
  generalize W.alloc _ = W1 at *
  generalize W.heap.size = g3 at *
  go_upto_region 3 with (first
    | (refine p_midT rfl _ rfl g rfl T1 ?_)
    | (go_at_call 50; (with_reducible refine (HK.out _ N1.out.bel).mono ?_); rintro e w2 ⟨r, rfl, hl, hbk, k2⟩; have HL := Lib.hid hl; have HBK := Lib.hid hbk; have N2 := Lib.hid (N1.out.bel2 hg k2); obtain ⟨ra, rc, rfl⟩ := hl.form; clear hl hbk k2))
  have hgw1 : g3 < W1.heap.size := N1.out.y.lt
  clear N1 T1 HK
  generalize hkl : K.length = n at *
  have HKL := Lib.hid hkl
  clear hkl
  have hne : (Value.slice ra n rc).ownBlock ≠ some g3 := fun h => by have := HBK.out g3 h; omega
  have HNE := Lib.hid hne
  clear hne HBK
  go_loopw [9, 11, 17] (fun f _ i wr => ∃ (k : Nat) (acc : Pe × Bool), i = .int .i64 (k : Int) ∧ f = .bool acc.2 ∧ k ≤ n ∧ NeW g g3 w wr id acc.1 ∧ Lies wr (.slice ra n rc) K ∧ nrG opn A acc (K.drop k) = res) (fun _ _ i _ => n - (intOf i).toNat)
  case atStart => exact ⟨0, (s, false), rfl, rfl, Nat.zero_le _, N2.out, HL.out, by rw [List.drop_zero]; exact HRES.out⟩
  case round =>
    clear N2 HRES HL
    obtain ⟨k, ⟨y, fb⟩, rfl, rfl, hk, hN, hB, hE⟩ := hrel
    have HN := Lib.hid hN
    have HB := Lib.hid hB
    have HEQ := Lib.hid hE
    clear hN hB hE
    by_cases hlt : k < n
    · have hx : K[k]? = some (K.getD k (0, 0)) := by
        have : k < K.length := by have := HKL.out; omega
        rw [List.getD_eq_getElem?_getD, List.getElem?_eq_getElem this]; rfl
      obtain ⟨b, o, c, e1, hc, hr, r1', hlb⟩ := HB.out.at hx
      simp only [Value.slice.injEq] at e1
      obtain ⟨rfl, e2, rfl⟩ := e1
      have hdrop : K.drop k = K.getD k (0, 0) :: K.drop (k + 1) := by
        have : k < K.length := by have := HKL.out; omega
        rw [List.drop_eq_getElem_cons this, List.getD_eq_getElem?_getD, List.getElem?_eq_getElem this]; rfl
      have hE := HEQ.out
      rw [hdrop, nrG] at hE
      have HE2 := Lib.hid hE
      clear hx e2 hc hr hdrop hE HEQ
      generalize K.getD k (0, 0) = x at *
      have B1 := (Below.refl wr.heap.size wr).alloc (Nat.le_refl _) (.cells (peA x) 28)
      have X1 := PB.new wr x
      have HN1 := Lib.hid (HN.out.bel2 hg B1)
      have HB1 := Lib.hid (HB.out.bel B1)
      have b1 : (k : Int) < (n : Int) := by omega
      have b2 : (0 : Int) ≤ (k : Int) := by omega
      have s1 : IntKind.i64.wrap ((k : Int) + 1) = (k : Int) + 1 := IntWalk.i64_in _ (by have := HNK.out; have := HKL.out; omega)
      go_upto_region 5 with (first
        | (refine p_midP rfl _ rfl b (o + k * 21) rfl x r1' ?_)
        | (refine p_storeP rfl rfl _ _ rfl x rfl rfl ?_))
      (try simp only [Act.put])
      clear B1 r1' hlb HN HB
      generalize wr.alloc _ = W2 at *
      generalize wr.heap.size = g1 at *
      have d1 := X1.A
      have HCC := Lib.hid (HC.out _ x.1 HN1.out.bel)
      have hoo := HO.out y.2 x.2
      dsimp only at HE2
      generalize memB A x.1 = m at *
      generalize opn y.2 x.2 = ob at *
      cases m
      · cases ob
        · have hE := HE2.out
          rw [if_neg (by simp)] at hE
          have HE3 := Lib.hid hE
          clear hE HE2
          go_wp2_with (first
            | go_big_skip
            | (go_at_call 51; (with_reducible refine HCC.out.mono ?_); rintro e w3 ⟨rfl, k3⟩; have HN3 := Lib.hid (HN1.out.bel2 hg k3); have HB3 := Lib.hid (HB1.out.bel k3); have i1 := HN3.out.y.I; have i2 := (X1.bel k3).I; have i3 := blk_range HN3.out.i; clear k3)
            | (go_guarded; refine o_midI _ rfl g3 1 rfl y.2 i1 ?_; simp only [Act.put, List.setIfInBounds_toArray, List.set_cons_succ, List.set_cons_zero])
            | (go_guarded; refine o_midI _ rfl g1 1 rfl x.2 i2 ?_; simp only [Act.put, List.setIfInBounds_toArray, List.set_cons_succ, List.set_cons_zero])
            | (go_guarded; refine o_midI _ rfl (g + 1) 0 rfl id i3 ?_; simp only [Act.put, List.setIfInBounds_toArray, List.set_cons_succ, List.set_cons_zero])
            | (go_at_call 52; (with_reducible refine (hoo.calls _).mono ?_); rintro e w4 ⟨rfl, k4⟩; have HN4 := Lib.hid (HN3.out.bel2 hg k4); have HB4 := Lib.hid (HB3.out.bel k4); clear k4))
          exact ⟨⟨k + 1, (y, fb), by go_num, rfl, by omega, HN4.out, HB4.out, HE3.out⟩, by simp [intOf]; omega⟩
        · have hE := HE2.out
          rw [if_pos ⟨rfl, rfl⟩] at hE
          have HE3 := Lib.hid hE
          clear hE HE2
          go_upto_region 7 with (first
            | go_big_skip
            | (go_at_call 51; (with_reducible refine HCC.out.mono ?_); rintro e w3 ⟨rfl, k3⟩; have HN3 := Lib.hid (HN1.out.bel2 hg k3); have HB3 := Lib.hid (HB1.out.bel k3); have i1 := HN3.out.y.I; have X3 := X1.bel k3; have i2 := X3.I; have i3 := blk_range HN3.out.i; clear k3)
            | (go_guarded; refine o_midI _ rfl g3 1 rfl y.2 i1 ?_; simp only [Act.put, List.setIfInBounds_toArray, List.set_cons_succ, List.set_cons_zero])
            | (go_guarded; refine o_midI _ rfl g1 1 rfl x.2 i2 ?_; simp only [Act.put, List.setIfInBounds_toArray, List.set_cons_succ, List.set_cons_zero])
            | (go_guarded; refine o_midI _ rfl (g + 1) 0 rfl id i3 ?_; simp only [Act.put, List.setIfInBounds_toArray, List.set_cons_succ, List.set_cons_zero])
            | (go_at_call 52; (with_reducible refine (hoo.calls _).mono ?_); rintro e w4 ⟨rfl, k4⟩; have HN4 := Lib.hid (HN3.out.bel2 hg k4); have HB4 := Lib.hid (HB3.out.bel k4); have X4 := (X3.bel k4).range; have y4 := HN4.out.y; clear k4)
            | (refine p_midP rfl _ rfl g1 0 rfl x X4 ?_)
            | (refine p_putO rfl _ _ rfl g3 rfl x rfl y4 ?_))
          have HN5 := Lib.hid (HN4.out.put hg3 x)
          have HB5 := Lib.hid (lies_set HB4.out (fun _ => HNE.out) (peA x))
          generalize w4.setRow g3 (peA x) = W5 at *
          clear X4 y4 HN4 HB4 HN3 HB3 HN1 HB1 X1 d1 i1 i2 i3
          go_wp2
          exact ⟨⟨k + 1, (x, true), by go_num, rfl, by omega, HN5.out, HB5.out, HE3.out⟩, by simp [intOf]; omega⟩
      · have hE := HE2.out
        rw [if_neg (by simp)] at hE
        have HE3 := Lib.hid hE
        clear hE HE2
        go_wp2_with (first
          | go_big_skip
          | (go_at_call 51; (with_reducible refine HCC.out.mono ?_); rintro e w3 ⟨rfl, k3⟩; have HN3 := Lib.hid (HN1.out.bel2 hg k3); have HB3 := Lib.hid (HB1.out.bel k3); clear k3))
        exact ⟨⟨k + 1, (y, fb), by go_num, rfl, by omega, HN3.out, HB3.out, HE3.out⟩, by simp [intOf]; omega⟩
    · obtain rfl : k = n := by omega
      have hfin : res = (y, fb) := by
        rw [← HEQ.out, List.drop_of_length_le (by have := HKL.out; omega), nrG]
      have HFI := Lib.hid hfin
      clear hfin HEQ
      have y1 := HN.out.y.range
      have x1 := HN.out.x
      have n1 : ¬ (k : Int) < (k : Int) := by omega
      cases fb
      · go_wp2_with (first
          | (go_at_call 44; (with_reducible refine (HNN.out _).mono ?_); rintro e w3 ⟨rfl, k3⟩; have HN3 := Lib.hid (HN.out.bel2 hg k3); have x3 := HN3.out.x; clear k3)
          | (refine p_putO rfl _ _ rfl (g + 2) rfl (-1, 0) rfl x3 ?_))
        exact bodyPost_ret (results_P2 Try.results25 _ _ (g + 2) _ rfl rfl (x3.set (-1, 0))) rfl ⟨by rw [HFI.out]; rfl, by (try rw [hg]); exact bel_setRow HN3.out.bel (by omega) _⟩
      · go_wp2_with (first
          | (refine p_midP rfl _ rfl g3 0 rfl y y1 ?_)
          | (refine p_putO rfl _ _ rfl (g + 2) rfl y rfl x1 ?_))
        exact bodyPost_ret (results_P2 Try.results25 _ _ (g + 2) _ rfl rfl (x1.set y)) rfl ⟨by rw [HFI.out]; rfl, by (try rw [hg]); exact bel_setRow HN.out.bel (by omega) _⟩
theorem near_any {w : World} {s p : Pe} {u v z : Value} {S L : List Pe} {A : List Int} (id : Nat) (hS : Lies w u S) (hF : Lies w v L) (hA : Nums w z A) (hn : S.length + L.length ≤ 900) (hna : A.length ≤ 1000000) :
    Calls Try.prog 25 #[.agg (tabA s p u v), idv id, z] w fun e w' => e = .returned (.tuple #[.agg (peA (nrR (nrG (fun a b => openB a b id) A (s, false) (knL s p S L))).1), .bool (nrR (nrG (fun a b => openB a b id) A (s, false) (knL s p S L))).2]) ∧ Below w.heap.size w w' :=
  near_core id _ hA (Nat.le_trans (kn_le s p S L) (by omega)) hna (fun _ hb => known_own (hS.bel hb) (hF.bel hb) hn) fun a b w => open_all a b id w
end Go.Proofs.Ytfajfmcabpmchaa
