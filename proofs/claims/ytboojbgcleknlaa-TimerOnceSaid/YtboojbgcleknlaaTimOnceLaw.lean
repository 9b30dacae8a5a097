/- TimerOnce: for every row of times, place and time the call returns true: each timer that is set is told once, at its time, in order; one that is cancelled is not. No condition. -/
import Derived.Test.YtboojbgcleknlaaTimTwo
namespace Go.Proofs.Ytboojbgcleknlaa.TimOnceLaw
open Go Go.ChangeShapes Go.WideShapes Go.ChangeAt Go.RowKit Go.Sort
open Go.ChangeMaps (open_string shut_string)

/-- a row of truths that is told place by place -/
def tabB (n : Nat) (f : Nat → Bool) : Array Value := ((List.range n).map fun i => Value.bool (f i)).toArray
theorem tabB_size (n : Nat) (f : Nat → Bool) : (tabB n f).size = n := by simp [tabB]
theorem tabB_get (n : Nat) (f : Nat → Bool) (i : Nat) (h : i < n) : (tabB n f)[i]? = some (.bool (f i)) := by simp [tabB, h]
theorem tabB_ext {n : Nat} {a : Array Value} {f : Nat → Bool} (hs : a.size = n) (h : ∀ i, i < n → a[i]? = some (.bool (f i))) : a = tabB n f := by
  apply Array.ext_getElem?
  intro i
  rcases Nat.lt_or_ge i n with hi | hi
  · rw [h i hi, tabB_get n f i hi]
  · rw [Array.getElem?_eq_none (by omega), Array.getElem?_eq_none (by rw [tabB_size]; omega)]
theorem tabB_set (n : Nat) (f g : Nat → Bool) (k : Nat) (hk : k < n) (h1 : g k = true) (h2 : ∀ i, i ≠ k → g i = f i) : (tabB n f).setIfInBounds k (.bool true) = tabB n g :=
  tabB_ext (by simp [tabB_size]) fun i hi => by
    by_cases e : i = k
    · subst e
      rw [Array.getElem?_setIfInBounds_self_of_lt (by rw [tabB_size]; exact hi), h1]
    · rw [Array.getElem?_setIfInBounds_ne (by omega), tabB_get n f i hi, h2 i e]
theorem madeB (n : Nat) : madeCells (Value.bool false).cells (n * 1) = tabB n fun _ => false := by
  rw [Nat.mul_one]
  exact tabB_ext (by rw [size_madeCells]) fun i hi => by simp [madeCells, Value.cells, hi, Nat.mod_one]
theorem infoBool : (Try.prog.info? 4).map (fun i => (i.zero, i.size, i.bytes)) = some (some (.bool false), 1, 1) := by kernel_rfl

/-- what is known of what is told -/
structure Told (A : List Int) (n : Nat) (i to : Int) (K : List Du) : Prop where
  is : ∀ d ∈ K, ∃ x : Nat, x < n ∧ A[x]? = some d.tm ∧ d.id = (x : Int) ∧ 0 ≤ d.tm ∧ d.id ≠ i ∧ d.tm ≤ to
  all : ∀ (x : Nat) (t : Int), A[x]? = some t → 0 ≤ t → t ≤ to → (x : Int) ≠ i → (⟨(x : Int), t⟩ : Du) ∈ K
  ord : Ord K
  ids : Ids K
theorem told_of {A : List Int} (hl : A.length ≤ 100) {R : List Du} (hR : R = rowA A A.length) (ho : Ord R) (i to : Int) : Told A A.length i to (dueK to (delK i R)) := by
  have hm := fun d => mem_rowA (A := A) (j := A.length) (Nat.le_refl _) (by omega) d
  rw [← hR] at hm
  refine ⟨fun d hd => ?_, fun x t hx h0 ht hi => ?_, Ord.filter (Ord.filter ho _) _, fun a ha b hb e => ?_⟩
  · obtain ⟨h1, h2⟩ := (mem_dueK _ _ _).1 hd
    obtain ⟨h3, h4⟩ := (mem_delK _ _ _).1 h1
    obtain ⟨k, k1, k2, k3, k4⟩ := (hm d).1 h3
    exact ⟨k, k1, k2, k3, k4, h4, h2⟩
  · refine (mem_dueK _ _ _).2 ⟨(mem_delK _ _ _).2 ⟨(hm _).2 ⟨x, (List.getElem?_eq_some_iff.1 hx).1, hx, rfl, h0⟩, hi⟩, ht⟩
  · obtain ⟨k, _, k2, k3, _⟩ := (hm a).1 ((mem_delK _ _ _).1 ((mem_dueK _ _ _).1 ha).1).1
    obtain ⟨j, _, j2, j3, _⟩ := (hm b).1 ((mem_delK _ _ _).1 ((mem_dueK _ _ _).1 hb).1).1
    obtain rfl : k = j := by omega
    rw [k2] at j2
    exact Du.same e (Option.some.inj j2)
theorem there_of {A : List Int} (hl : A.length ≤ 100) {R : List Du} (hR : R = rowA A A.length) (i : Int) : hasK i R = true ↔ ∃ (x : Nat) (t : Int), i = (x : Int) ∧ A[x]? = some t ∧ 0 ≤ t := by
  have hm := fun d => mem_rowA (A := A) (j := A.length) (Nat.le_refl _) (by omega) d
  rw [← hR] at hm
  rw [hasK_yes]
  constructor
  · rintro ⟨d, hd, rfl⟩
    obtain ⟨k, _, k2, k3, k4⟩ := (hm d).1 hd
    exact ⟨k, d.tm, k3, k2, k4⟩
  · rintro ⟨x, t, rfl, hx, h0⟩
    exact ⟨⟨(x : Int), t⟩, (hm _).2 ⟨x, (List.getElem?_eq_some_iff.1 hx).1, hx, rfl, h0⟩, rfl⟩
theorem Told.fresh {A : List Int} {n : Nat} {i to : Int} {K : List Du} (T : Told A n i to K) {k : Nat} {d : Du} (hd : K[k]? = some d) : hasK d.id (K.take k) = false := by
  refine hasK_no fun y hy e => ?_
  have hm : d ∈ K := List.mem_of_getElem? hd
  have := T.ids y (List.mem_of_mem_take hy) d hm e
  subst this
  obtain ⟨hk, ek⟩ := List.getElem?_eq_some_iff.1 hd
  have e2 : K.take (k + 1) = K.take k ++ [y] := take_snoc hd
  have h1 : Ord (K.take (k + 1)) := List.Pairwise.sublist (List.take_sublist _ _) T.ord
  rw [e2] at h1
  exact ahead_irrefl _ ((List.pairwise_append.1 h1).2.2 y hy y (List.mem_singleton.2 rfl))
theorem Told.next {A : List Int} {n : Nat} {i to : Int} {K : List Du} (T : Told A n i to K) {k : Nat} {d0 d : Du} (h0 : K[k]? = some d0) (h1 : K[k + 1]? = some d) : ahead d0 d := by
  have e2 : K.take (k + 1 + 1) = K.take (k + 1) ++ [d] := take_snoc h1
  have e1 : K.take (k + 1) = K.take k ++ [d0] := take_snoc h0
  have h2 : Ord (K.take (k + 1 + 1)) := List.Pairwise.sublist (List.take_sublist _ _) T.ord
  rw [e2] at h2
  exact (List.pairwise_append.1 h2).2.2 d0 (by rw [e1]; simp) d (List.mem_singleton.2 rfl)
theorem hasK_more {x : Nat} {k : Nat} {K : List Du} {d : Du} (hd : K[k]? = some d) (hx : d.id = (x : Int)) : (hasK (x : Int) (K.take (k + 1)) = true) ∧ ∀ j : Nat, j ≠ x → hasK (j : Int) (K.take (k + 1)) = hasK (j : Int) (K.take k) := by
  refine ⟨?_, fun j hj => ?_⟩
  · rw [hasK_take hd]; simp [hx]
  · rw [hasK_take hd, hx]
    have : ((x : Int) == (j : Int)) = false := by simp; omega
    rw [this, Bool.or_false]
theorem due_none (to : Int) (R : List Du) : dueK to (restK to R) = [] := by
  unfold dueK restK
  rw [List.filter_filter]
  exact List.filter_eq_nil_iff.2 fun d _ => by simp
set_option maxRecDepth 100000 in
set_option maxHeartbeats 8000000 in
theorem main (A : List Int) (v : Value) {w : World} (hA : Num w v A) (i : Int) (hi : -9223372036854775808 ≤ i ∧ i ≤ 9223372036854775807) (to : Int) (h1 : A.length ≤ 100) (h2 : ¬ to < 0) : Calls Try.prog 5 #[v, .int .i64 i, .int .i64 to] w fun e w' => e = .returned (.bool true) ∧ Below w.heap.size w w' := by
  obtain ⟨va, vc, rfl⟩ := hA.form
  have HA := Lib.hid hA
  have H1 := Lib.hid (set_of hA (Below.refl _ _) h1)
  obtain ⟨R, hR⟩ : ∃ R, R = rowA A A.length := ⟨_, rfl⟩
  rw [← hR] at H1
  have HTH := Lib.hid (there_of h1 hR i)
  have HTO : Hid (Ord R → Told A A.length i to (dueK to (delK i R))) := fun ho => told_of h1 hR ho i to
  obtain ⟨n, hn⟩ : ∃ n, n = A.length := ⟨_, rfl⟩
  rw [← hn] at H1 HA h1 HTO ⊢
  have hn1 : ¬ (100 : Int) < (n : Int) := by omega
  have HN := Lib.hid hn
  have HF := Lib.hid (fit_of hi)
  clear hA hR hn hi
  go_enter Try.func5, Try.ntmps5
  go_upto_region 6 with (go_at_call 20; (with_reducible refine H1.out.mono ?_); rintro e w1 ⟨rfl, k1⟩; have HT1 := Lib.hid k1; clear k1)
  clear H1
  generalize hg : w.heap.size + 1 = g at *
  have HG := Lib.hid hg
  clear hg
  obtain ⟨T, hT⟩ : ∃ T, T = hasK i R := ⟨_, rfl⟩
  have HTT := Lib.hid hT
  clear hT
  go_cut [8] from 28 (fun b wx => b = .bool T ∧ wx = w1)
  case first =>
    by_cases hi0 : i < 0
    · have hT : T = false := by
        rw [HTT.out]
        cases e : hasK i R with
        | false => rfl
        | true => obtain ⟨x, t, ex, _⟩ := HTH.out.1 e; omega
      have hi1 : ¬ (0 : Int) ≤ i := by omega
      subst hT
      go_wp2
      go_meet
      exact ⟨rfl, rfl⟩
    · obtain ⟨x, rfl⟩ : ∃ x : Nat, i = (x : Int) := ⟨i.toNat, by omega⟩
      have hi1 : (0 : Int) ≤ (x : Int) := by omega
      by_cases hxn : x < n
      · have hxn1 : (x : Int) < (n : Int) := by omega
        obtain ⟨t, ht⟩ : ∃ t, A[x]? = some t := ⟨_, List.getElem?_eq_getElem (by have := HN.out; omega)⟩
        obtain ⟨b, o, rfl, c0, _⟩ := HA.out.at HT1.out.below ht
        by_cases h0 : 0 ≤ t
        · have hT : T = true := by rw [HTT.out]; exact HTH.out.2 ⟨x, t, rfl, ht, h0⟩
          subst hT
          clear ht
          go_wp2
          go_meet
          exact ⟨rfl, rfl⟩
        · have hT : T = false := by
            rw [HTT.out]
            cases e : hasK (x : Int) R with
            | false => rfl
            | true =>
              obtain ⟨y, s, ey, hs, h0'⟩ := HTH.out.1 e
              obtain rfl : x = y := by omega
              rw [ht] at hs
              obtain rfl := Option.some.inj hs
              exact absurd h0' h0
          subst hT
          clear ht
          go_wp2
          go_meet
          exact ⟨rfl, rfl⟩
      · have hxn1 : ¬ (x : Int) < (n : Int) := by omega
        have hT : T = false := by
          rw [HTT.out]
          cases e : hasK (x : Int) R with
          | false => rfl
          | true =>
            obtain ⟨y, s, ey, hs, _⟩ := HTH.out.1 e
            have := (List.getElem?_eq_some_iff.1 hs).1
            have := HN.out
            omega
        subst hT
        go_wp2
        go_meet
        exact ⟨rfl, rfl⟩
  case rest =>
  obtain ⟨rfl, hwc⟩ := hcut
  have HT2 : Hid (HasT w.heap.size w wc g 0 R) := by rw [hwc]; exact HT1.out
  clear hwc HT1 HTH
  have HC1 : Hid (Calls Try.prog 10 #[.pointer (some ⟨g, 0, none⟩), .int .i64 i] wc fun e w' => e = .returned (.bool T) ∧ HasT w.heap.size w w' g 0 (delK i R)) := by
    rw [HTT.out]
    exact ht_cancel HT2.out HF.out
  have HTK : Hid (Told A n i to (dueK to (delK i R))) := HTO.out (by obtain ⟨_, _, T2, _⟩ := HT2.out; exact T2.ord)
  have hTb : (T != T) = false := by simp
  have hlen : (dueK to (delK i R)).length ≤ 1000 := by
    have := HT2.out.len
    have h1 : (dueK to (delK i R)).length ≤ (delK i R).length := List.length_filter_le ..
    have h2 := delK_le i R
    omega
  obtain ⟨R2, hR2⟩ : ∃ R2, R2 = delK i R := ⟨_, rfl⟩
  have hno : hasK i R2 = false := by rw [hR2]; exact hasK_no fun d hd => ((mem_delK _ _ _).1 hd).2
  have hsame : delK i R2 = R2 := by rw [hR2]; exact del_none fun d hd => ((mem_delK _ _ _).1 hd).2
  rw [← hR2] at HC1 HTK hlen
  have HNO := Lib.hid hno
  have HSA := Lib.hid hsame
  clear hR2 hno hsame HTO HTT
  go_upto_region 9 with (first
    | (go_at_call 10; (with_reducible refine HC1.out.mono ?_); rintro e w2 ⟨rfl, k2⟩; have HC2 : Hid (Calls Try.prog 10 #[.pointer (some ⟨g, 0, none⟩), .int .i64 i] w2 fun e w' => e = .returned (.bool false) ∧ HasT w.heap.size w w' g 0 R2) := (by have := ht_cancel k2 HF.out; rw [HNO.out, HSA.out] at this; exact this); clear k2)
    | (go_at_call 10; (with_reducible refine HC2.out.mono ?_); rintro e w3 ⟨rfl, k3⟩; have HT3 := Lib.hid k3; clear k3))
  clear HC1 HC2 HT2 HNO HSA
  have HC3 : Hid (Calls Try.prog 12 #[.pointer (some ⟨g, 0, none⟩), .int .i64 to] w3 fun e w' => ∃ a c, e = .returned (.tuple #[.slice a (dueK to R2).length c, .int .i64 0]) ∧ IsI w' (.slice a (dueK to R2).length c) ((dueK to R2).map (·.id)) ∧ HasT w.heap.size w w' g to (restK to R2)) := by
    have := ht_tick HT3.out to
    unfold outT codeT nowT rowT at this
    rw [if_neg (by omega), if_neg (by omega), if_neg (by omega), if_neg (by omega), List.length_map] at this
    exact this
  obtain ⟨K, hK⟩ : ∃ K, K = dueK to R2 := ⟨_, rfl⟩
  rw [← hK] at HC3 HTK hlen
  clear hK
  go_upto_region 12 with (go_at_call 12; (with_reducible refine HC3.out.mono ?_); rintro e w4 ⟨la, lc, rfl, i4, k4⟩; have HI4 := Lib.hid i4; have HT4 := Lib.hid k4; clear i4 k4)
  clear HC3 HT3
  go_upto_region 13 with (at_make; refine wpList_make_blk rfl _ _ 45 rfl 4 _ 1 1 Try.underlying45 infoBool n n rfl rfl rfl (by omega) (by omega) (tabB n fun _ => false) (madeB n) ?_)
  have B0 := Blk.new w4 (tabB n fun _ => false) 4
  have hbt : Below w4.heap.size w4 (w4.alloc (.cells (tabB n fun _ => false) 4)) := (Below.refl _ _).alloc (Nat.le_refl _) _
  obtain ⟨z, hz⟩ : ∃ z, z = K.length := ⟨_, rfl⟩
  have HZ := Lib.hid hz
  rw [← hz] at hlen HI4 ⊢
  have HB0 := Lib.hid (And.intro B0 hbt)
  obtain ⟨bt, hbt'⟩ : ∃ bt, bt = w4.heap.size := ⟨_, rfl⟩
  rw [← hbt'] at HB0 ⊢
  have HBT := Lib.hid hbt'
  clear B0 hbt hz hbt'
  generalize w4.alloc (.cells (tabB n fun _ => false) 4) = w5 at *
  have hLen : Hid (∀ wr, Below bt w4 wr → HasT w.heap.size w wr g to (restK to R2) ∧ IsI wr (.slice la z lc) (K.map (·.id)) ∧ Below w.heap.size w wr) := fun wr hb => by
    rw [HBT.out] at hb
    have h := HT4.out.bel hb
    exact ⟨h, HI4.out.bel hb, h.below⟩
  go_wp2
  go_loopw [12] (fun kv wr => ∃ k : Nat, k ≤ z ∧ kv = .int .i64 k ∧ Blk wr bt (tabB n fun j => hasK (j : Int) (K.take k)) 4 ∧ Below bt w4 wr) (fun kv _ => z - (intOf kv).toNat)
  case atStart => exact ⟨0, by omega, rfl, HB0.out.1, HB0.out.2⟩
  case round =>
    obtain ⟨k, hk, rfl, hT, hB⟩ := hrel
    have HTd := Lib.hid hT
    have HB := Lib.hid hB
    clear hT hB
    by_cases hlt : k < z
    · obtain ⟨d, hd⟩ : ∃ d, K[k]? = some d := ⟨_, List.getElem?_eq_getElem (by have := HZ.out; omega)⟩
      obtain ⟨x, hxn, hxA, hdx, hd0, hdi, hdt⟩ := HTK.out.is d (List.mem_of_getElem? hd)
      obtain ⟨_, hI, hbw⟩ := hLen.out wr HB.out
      obtain ⟨ba, oa, rfl, a0, _⟩ := HA.out.at hbw hxA
      obtain ⟨la', lc', he, hl'⟩ := hI
      have hne : K.map (·.id) ≠ [] := fun e => by
        have h1 : (K.map (·.id)).length = K.length := List.length_map _
        rw [e] at h1
        have h2 : 0 = K.length := h1
        have := HZ.out
        omega
      obtain ⟨bl, cs, rfl, hbl, hcs⟩ := hl'.resolve_left fun h => hne h.1
      rw [List.length_map, ← HZ.out] at he
      simp only [Value.slice.injEq] at he
      obtain ⟨rfl, _, rfl⟩ := he
      have hlb : bl ≠ bt := hbl.type HTd.out (by decide)
      have l0 : wr.cell? ⟨bl, k, none⟩ = some (.int .i64 (x : Int)) := (hbl.cell k).trans (hcs k x (by simp [hd, hdx]))
      have t0 : wr.cell? ⟨bt, x, none⟩ = some (.bool false) := (HTd.out.cell x).trans (by
        rw [tabB_get n _ x hxn]
        have := HTK.out.fresh hd
        rw [hdx] at this
        rw [this])
      have tf : wr.frozen? ⟨bt, x, none⟩ = false := HTd.out.free x
      have e1 : ¬ (x : Int) < 0 := by omega
      have e2 : ¬ (n : Int) ≤ (x : Int) := by omega
      have e2' : (x : Int) < (n : Int) := by omega
      have e3 : ((x : Int) == i) = false := by simp; omega
      have e4 : ¬ to < d.tm := by omega
      have e5 : ¬ d.tm < 0 := by omega
      have e6 : (0 : Int) ≤ (x : Int) := by omega
      have e7 : (k : Int) < (z : Int) := by omega
      have e8 : (0 : Int) ≤ (k : Int) := by omega
      have hab : ba ≠ bt := fun e => by
        subst e
        have h1 := HTd.out.cell (oa + x)
        rw [a0] at h1
        have h2 : oa + x < n := by
          rcases Nat.lt_or_ge (oa + x) n with h | h
          · exact h
          · rw [Array.getElem?_eq_none (by rw [tabB_size]; exact h)] at h1; cases h1
        rw [tabB_get n _ _ h2] at h1
        cases h1
      obtain ⟨m1, m2⟩ := hasK_more hd hdx
      have HT2 : Hid (Blk (wr.setCell ⟨bt, x, none⟩ (.bool true)) bt (tabB n fun j => hasK (j : Int) (K.take (k + 1))) 4) := by
        have h := HTd.out.put x (.bool true)
        rw [tabB_set n _ (fun j => hasK (j : Int) (K.take (k + 1))) x hxn m1 (fun j hj => m2 j hj)] at h
        exact h
      have HB2 : Hid (Below bt w4 (wr.setCell ⟨bt, x, none⟩ (.bool true))) := HB.out.setCell (p := ⟨bt, x, none⟩) (Nat.le_refl _) _
      have HD := Lib.hid hd
      have HDX := Lib.hid hdx
      have HXA := Lib.hid hxA
      clear hd hxn hxA hdx hd0 hdi hdt hbw hne hl' m1 m2 hcs
      go_upto_region 19 with (fail)
      generalize wr.setCell ⟨bt, x, none⟩ (.bool true) = W at *
      clear l0 a0 t0 tf hlb hab hbl
      obtain ⟨_, hI2, hbw2⟩ := hLen.out W HB2.out
      obtain ⟨la2, lc2, he2, hl2⟩ := hI2
      have hne : K.map (·.id) ≠ [] := fun e => by
        have h1 : (K.map (·.id)).length = K.length := List.length_map _
        rw [e] at h1
        have h2 : 0 = K.length := h1
        have := HZ.out
        omega
      obtain ⟨bl2, cs2, rfl, hbl2, hcs2⟩ := hl2.resolve_left fun h => hne h.1
      rw [List.length_map, ← HZ.out] at he2
      simp only [Value.slice.injEq, Option.some.injEq, Addr.mk.injEq] at he2
      obtain ⟨⟨rfl, _, _⟩, _, _⟩ := he2
      have hids : ∀ (j : Nat) (y : Du), K[j]? = some y → cs2[j]? = some (.int .i64 y.id) := fun j y hy => hcs2 j y.id (by simp [hy])
      rcases Nat.eq_zero_or_pos k with rfl | hk0
      · have hdec : decide ((0 : Int) < ((0 : Nat) : Int)) = false := by simp
        clear hbw2 hl2 hcs2 hids hbl2 hne
        go_quiet (fail)
        go_wp2
        exact ⟨⟨0 + 1, by omega, by go_num, HT2.out.drewN _, bel_drewN HB2.out _⟩, by simp [intOf]; omega⟩
      · obtain ⟨k1, hk1⟩ : ∃ k1, k = k1 + 1 := ⟨k - 1, by omega⟩
        obtain ⟨d0, hd0⟩ : ∃ d0, K[k1]? = some d0 := ⟨_, List.getElem?_eq_getElem (by have := HZ.out; omega)⟩
        obtain ⟨x0, hx0n, hx0A, hdx0, _⟩ := HTK.out.is d0 (List.mem_of_getElem? hd0)
        have hah := HTK.out.next hd0 (hk1 ▸ HD.out)
        obtain ⟨b3, o3, he3, a3, _⟩ := HA.out.at hbw2 hx0A
        obtain ⟨b4, o4, he4, a4, _⟩ := HA.out.at hbw2 HXA.out
        simp only [Option.some.injEq, Addr.mk.injEq, and_true] at he3 he4
        obtain ⟨rfl, rfl⟩ := he3
        obtain ⟨rfl, rfl⟩ := he4
        have l3 : W.cell? ⟨bl, k1, none⟩ = some (.int .i64 (x0 : Int)) := (hbl2.cell k1).trans ((hids k1 d0 hd0).trans (by rw [hdx0]))
        have l4 : W.cell? ⟨bl, k, none⟩ = some (.int .i64 (x : Int)) := (hbl2.cell k).trans ((hids k d HD.out).trans (by rw [HDX.out]))
        have hdec : decide ((0 : Int) < (k : Int)) = true := by simp; omega
        have w1' : IntKind.i64.wrap ((k : Int) - 1) = (k1 : Int) := by rw [IntWalk.i64_in _ (by omega)]; omega
        have j1 : (k1 : Int) < (z : Int) := by omega
        have j2 : (0 : Int) ≤ (k1 : Int) := by omega
        have j3 : (x0 : Int) < (n : Int) := by omega
        have j4 : (0 : Int) ≤ (x0 : Int) := by omega
        have q1 : decide (d.tm < d0.tm) = false := by simp; unfold ahead at hah; omega
        by_cases htm : d0.tm = d.tm
        · have q2 : (d0.tm == d.tm) = true := by simp [htm]
          have q3 : decide ((x : Int) < (x0 : Int)) = false := by
            have h5 := HDX.out
            unfold ahead at hah
            simp
            omega
          have q4 : ¬ x < x0 := by simp at q3; omega
          have q5 : decide (x < x0) = false := by simp; omega
          have HKK := Lib.hid hk1
          clear htm hah hbw2 hl2 hcs2 hids hbl2 hne hd0 hdx0 hx0A hk1
          go_quiet (fail)
          go_wp2
          exact ⟨⟨k + 1, by omega, by go_num, HT2.out.drewN _, bel_drewN HB2.out _⟩, by simp [intOf]; omega⟩
        · have q2 : (d0.tm == d.tm) = false := by simp [htm]
          have HKK := Lib.hid hk1
          clear htm hah hbw2 hl2 hcs2 hids hbl2 hne hd0 hdx0 hx0A hk1
          go_quiet (fail)
          go_wp2
          exact ⟨⟨k + 1, by omega, by go_num, HT2.out.drewN _, bel_drewN HB2.out _⟩, by simp [intOf]; omega⟩
    · obtain rfl : z = k := by omega
      have hall : (fun j : Nat => hasK (j : Int) (K.take z)) = fun j : Nat => hasK (j : Int) K := by rw [HZ.out, List.take_length]
      rw [hall] at HTd
      obtain ⟨hT8, _, hbw⟩ := hLen.out wr HB.out
      have HH : Hid (HasT w.heap.size w wr g to (restK to R2)) := hT8
      have HC5 : Hid (Calls Try.prog 12 #[.pointer (some ⟨g, 0, none⟩), .int .i64 to] wr fun e w' => ∃ a c, e = .returned (.tuple #[.slice a 0 c, .int .i64 0]) ∧ HasT w.heap.size w w' g to (restK to (restK to R2))) := by
        have := ht_tick hT8 to
        unfold outT codeT nowT rowT at this
        rw [if_neg (by omega), if_neg (by omega), if_neg (by omega), if_neg (by omega), due_none] at this
        refine this.mono ?_
        rintro e w9 ⟨a, c, rfl, _, h⟩
        exact ⟨a, c, rfl, h⟩
      have HBW := Lib.hid hbw
      have HNN := Lib.hid HN.out
      clear hall hT8 hbw hLen
      have hzz : ¬ (z : Int) < (z : Int) := by omega
      go_wp2
      go_loop [13] (fun kv => ∃ j : Nat, j ≤ n ∧ kv = .int .i64 j) (fun kv => n - (intOf kv).toNat)
      case atStart => exact ⟨0, by omega, rfl⟩
      case round =>
        obtain ⟨j, hj, rfl⟩ := hrel
        by_cases hlt : j < n
        · obtain ⟨t, ht⟩ : ∃ t, A[j]? = some t := ⟨_, List.getElem?_eq_getElem (by have := HNN.out; omega)⟩
          obtain ⟨ba, oa, rfl, a0, _⟩ := HA.out.at HBW.out ht
          have e7 : (j : Int) < (n : Int) := by omega
          have e8 : (0 : Int) ≤ (j : Int) := by omega
          by_cases hji : (j : Int) = i
          · have q1 : ((j : Int) != i) = false := by simp [hji]
            clear ht hji
            go_wp2
            exact ⟨⟨j + 1, by omega, by go_num⟩, by simp [intOf]; omega⟩
          · have q1 : ((j : Int) != i) = true := by simp [hji]
            by_cases h0 : 0 ≤ t
            · by_cases htt : t ≤ to
              · have hm := HTK.out.all j t ht h0 htt hji
                have t0 : wr.cell? ⟨bt, j, none⟩ = some (.bool true) := (HTd.out.cell j).trans (by
                  rw [tabB_get n _ j hlt]
                  have : hasK (j : Int) K = true := (hasK_yes _ _).2 ⟨_, hm, rfl⟩
                  rw [this])
                clear ht hji hm
                go_wp2
                exact ⟨⟨j + 1, by omega, by go_num⟩, by simp [intOf]; omega⟩
              · clear ht hji
                go_wp2
                exact ⟨⟨j + 1, by omega, by go_num⟩, by simp [intOf]; omega⟩
            · clear ht hji
              go_wp2
              exact ⟨⟨j + 1, by omega, by go_num⟩, by simp [intOf]; omega⟩
        · obtain rfl : n = j := by omega
          have hnn : ¬ (n : Int) < (n : Int) := by omega
          go_wp2_with (first
            | (go_at_call 12; (with_reducible refine HC5.out.mono ?_); rintro e w8 ⟨a8, c8, rfl, h8⟩; have HT8 := Lib.hid h8; clear h8)
            | (go_at_call 19; (with_reducible refine (timed_any _).mono ?_); rintro e w9 ⟨rfl, b9⟩; have HT9 := Lib.hid (HT8.out.bel b9); clear b9))
          go_ret
          exact ⟨by simp, HT9.out.below⟩
set_option maxRecDepth 100000 in
set_option maxHeartbeats 2000000 in
theorem walk (A : List Int) (v : Value) {w : World} (hA : Num w v A) (i : Int) (hi : -9223372036854775808 ≤ i ∧ i ≤ 9223372036854775807) (to : Int) (_ : -9223372036854775808 ≤ to ∧ to ≤ 9223372036854775807) : Calls Try.prog 5 #[v, .int .i64 i, .int .i64 to] w fun e w' => e = .returned (.bool true) ∧ Below w.heap.size w w' := by
  by_cases h1 : A.length ≤ 100
  · by_cases h2 : to < 0
    · obtain ⟨va, vc, rfl⟩ := hA.form
      have hn1 : ¬ (100 : Int) < (A.length : Int) := by omega
      clear hA h1
      generalize A.length = n at *
      go_enter Try.func5, Try.ntmps5
      go_wp2_with (go_at_call 19; (with_reducible refine (timed_any _).mono ?_); rintro e w1 ⟨rfl, b1⟩)
      go_ret
      exact ⟨rfl, b1⟩
    · exact main A v hA i hi to h1 h2
  · obtain ⟨va, vc, rfl⟩ := hA.form
    have hn1 : (100 : Int) < (A.length : Int) := by omega
    clear hA h1
    generalize A.length = n at *
    go_enter Try.func5, Try.ntmps5
    go_wp2_with (go_at_call 19; (with_reducible refine (timed_any _).mono ?_); rintro e w1 ⟨rfl, b1⟩)
    go_ret
    exact ⟨rfl, b1⟩

set_option maxRecDepth 100000 in
theorem lifted (os : Os) (started : os.Started) (H : Type) (enc : TypeId × Value → H) :
    ReturnsInHanded {} Try.checked os 5 .any (Rows.timerOnceSpec.pre6 enc Try.prog Try.f5 Rows.timerOnceRow.domain false) (Rows.timerOnceSpec.post enc Try.prog Try.f5 false true false false) := by
  refine returnsInHanded_of_change (C := Try.checked) own started (by kernel_rfl) Try.func5
    (ChangeSpec.witness6 (enc := enc) (C := Try.checked) false ⟨#[], #[.slice none 0 0, .int .i64 0, .int .i64 0], []⟩ 8 (by kernel_rfl) (by kernel_rfl) (by kernel_rfl) (by kernel_rfl)) ?_
  intro W base args ds gs before hval0 hW hcnd _
  have hval : ∀ (j : Nat) t v, Try.f5.params[j]? = some t → args[j]? = some v → Value.okWide Try.prog W .any base t v := hval0
  have hW' := hW
  obtain ⟨p, q, hA0, hV, rfl, hfz, hnd⟩ := hW
  have hA : DataW.TrodAll enc Try.prog W 0 (fun _ => true) true Try.f5.params.toList args.toList ds p := hA0
  rw [Try.params5] at hA hval
  obtain ⟨v0, vs0, d0, ds0, p0, q0, hargs, rfl, rfl, h0, r0⟩ := trodAll_cons hA
  obtain ⟨v1, vs1, d1, ds1, p1, q1, rfl, rfl, rfl, h1, r1⟩ := trodAll_cons r0
  obtain ⟨v2, vs2, d2, ds2, p2, q2, rfl, rfl, rfl, h2, r2⟩ := trodAll_cons r1
  obtain ⟨rfl, rfl, rfl⟩ := trodAll_nil r2
  obtain rfl : args = #[v0, v1, v2] := by cases args; simp_all
  obtain ⟨rfl, rfl⟩ := trodVars_none hV
  have k0 := h0
  have lt0 : ∀ x ∈ p0, x.block < W.heap.size := by obtain ⟨m, hm⟩ := k0; exact DataW.trod_lt m _ _ _ hm
  obtain ⟨n0, ok0⟩ := open_nums (hval 0 34 v0 rfl rfl) h0
  have k1 := h1
  have lt1 : ∀ x ∈ p1, x.block < W.heap.size := by obtain ⟨m, hm⟩ := k1; exact DataW.trod_lt m _ _ _ hm
  obtain ⟨n1, ok1, rfl⟩ := open_i64 (hval 1 3 v1 rfl rfl) h1
  have k2 := h2
  have lt2 : ∀ x ∈ p2, x.block < W.heap.size := by obtain ⟨m, hm⟩ := k2; exact DataW.trod_lt m _ _ _ hm
  obtain ⟨n2, ok2, rfl⟩ := open_i64 (hval 2 3 v2 rfl rfl) h2
  clear hA0 hval0
  refine (walk n0 v0 ok0 n1 ok1 n2 ok2).mono fun e W' ⟨he, bel⟩ => ?_
  subst he
  exact ⟨_, rfl, _, _, _, [], _, [], hW', trodAll_mk1 (shut_bool Try.underlying4 _), (trodAll_cons_mk (Below.trod laidOut (by kernel_rfl) (of_decide_eq_true (by kernel_rfl)) k0 bel lt0) (trodAll_cons_mk (Below.trod laidOut (by kernel_rfl) (of_decide_eq_true (by kernel_rfl)) k1 bel lt1) (trodAll_cons_mk (Below.trod laidOut (by kernel_rfl) (of_decide_eq_true (by kernel_rfl)) k2 bel lt2) trodAll_mk0))), rfl, bel.frame _, fun h => by cases h⟩

theorem proved : Rows.TimerOnceSaid :=
  OpenClaim.holds_of_wide 5 Try.f5 rfl rfl rfl rfl rfl rfl rfl ⟨rfl, rfl, rfl, rfl, rfl⟩ rfl rfl rfl rfl rfl (by kernel_rfl) Try.func5 (by kernel_rfl)
    (of_decide_eq_true (by kernel_rfl)) (by unfold Func.isWrapper; first | (rw [if_pos (by decide +kernel)]; kernel_rfl) | (rw [if_neg (by decide +kernel)]; exact ⟨rfl, rfl⟩))
    (fun os started H enc _ => lifted os started H enc)
end Go.Proofs.Ytboojbgcleknlaa.TimOnceLaw
