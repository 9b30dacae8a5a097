/- The document's Join. -/
import Derived.Test.YtgpmfiphebmldaaDoorBlaRefW
namespace Go.Proofs.YtgpmfiphebmldaaDoor
open Go.RowKit Go.Sort

/-- cells of trees, in a row -/
def Tos (w : World) (p : Nat → Prop) (xs : List (Array Value)) (os : List (Option ET)) : Prop :=
  xs.length = os.length ∧ ∀ (j : Nat) X o, xs[j]? = some X → os[j]? = some o → To w p X o
theorem Tos.nil (w : World) (p : Nat → Prop) : Tos w p [] [] := ⟨rfl, fun j X o h => by simp at h⟩
theorem Tos.snoc {w : World} {p : Nat → Prop} {xs : List (Array Value)} {os : List (Option ET)} {X : Array Value} {o : Option ET} (h : Tos w p xs os) (hX : To w p X o) : Tos w p (xs ++ [X]) (os ++ [o]) := by
  refine ⟨by simp [h.1], fun j Y q h1 h2 => ?_⟩
  rcases Nat.lt_or_ge j xs.length with hl | hl
  · rw [List.getElem?_append_left hl] at h1
    rw [List.getElem?_append_left (by rw [← h.1]; exact hl)] at h2
    exact h.2 j Y q h1 h2
  · rw [List.getElem?_append_right hl] at h1
    rw [List.getElem?_append_right (by rw [← h.1]; exact hl), ← h.1] at h2
    have e : j - xs.length = 0 := by
      rcases Nat.eq_zero_or_pos (j - xs.length) with h | h
      · exact h
      · rw [List.getElem?_eq_none (by simp; omega)] at h1; cases h1
    rw [e] at h1 h2
    simp only [List.getElem?_cons_zero, Option.some.injEq] at h1 h2
    subst h1; subst h2; exact hX
theorem Tos.kept {w w' : World} {p : Nat → Prop} {xs : List (Array Value)} {os : List (Option ET)} (h : Tos w p xs os) (k : Kept w w' p) : Tos w' p xs os := ⟨h.1, fun j X o h1 h2 => (h.2 j X o h1 h2).kept k⟩
theorem Tos.mono {w : World} {p q : Nat → Prop} {xs : List (Array Value)} {os : List (Option ET)} (h : Tos w p xs os) (k : ∀ i, i < w.heap.size → p i → q i) : Tos w q xs os := ⟨h.1, fun j X o h1 h2 => (h.2 j X o h1 h2).mono k⟩
theorem Tos.size {w : World} {p : Nat → Prop} {xs : List (Array Value)} {os : List (Option ET)} (h : Tos w p xs os) : ∀ X ∈ xs, X.size = 4 := fun X hX => by
  obtain ⟨j, hj, rfl⟩ := List.getElem_of_mem hX
  have := h.1
  exact (h.2 j _ (os[j]'(by omega)) (List.getElem?_eq_getElem _) (List.getElem?_eq_getElem _)).size
def flatT (xs : List (Array Value)) : List Value := xs.flatMap (·.toList)
theorem flatT_snoc (xs : List (Array Value)) (X : Array Value) : flatT (xs ++ [X]) = flatT xs ++ X.toList := by simp [flatT]
theorem flatT_get : ∀ (xs : List (Array Value)), (∀ X ∈ xs, X.size = 4) → ∀ (j i : Nat) X v, xs[j]? = some X → X.toList[i]? = some v → (flatT xs)[4 * j + i]? = some v
  | [], _, j, i, X, v, h, _ => by simp at h
  | Y :: xs, hs, 0, i, X, v, h1, h2 => by
    simp only [List.getElem?_cons_zero, Option.some.injEq] at h1
    subst h1
    have hi : i < Y.toList.length := (List.getElem?_eq_some_iff.1 h2).1
    rw [show flatT (Y :: xs) = Y.toList ++ flatT xs from rfl, Nat.mul_zero, Nat.zero_add, List.getElem?_append_left hi]
    exact h2
  | Y :: xs, hs, j + 1, i, X, v, h1, h2 => by
    have hY : Y.toList.length = 4 := by rw [Array.length_toList]; exact hs Y (List.mem_cons_self ..)
    rw [show flatT (Y :: xs) = Y.toList ++ flatT xs from rfl, List.getElem?_append_right (by omega), hY, show 4 * (j + 1) + i - 4 = 4 * j + i by omega]
    exact flatT_get xs (fun Z hZ => hs Z (List.mem_cons_of_mem _ hZ)) j i X v (by simpa using h1) h2
theorem flat_range {w : World} {g o : Nat} {xs : List (Array Value)} (hs : ∀ X ∈ xs, X.size = 4) (h : w.rangeAt g o (flatT xs)) (j : Nat) (X : Array Value) (hj : xs[j]? = some X) : w.rangeAt g (o + j * 4) X.toList := fun i v hv => by
  rw [Nat.mul_comm j 4]
  have := h (4 * j + i) v (flatT_get xs hs j i X v hj hv)
  rwa [← Nat.add_assoc] at this
theorem flatT_length (xs : List (Array Value)) (hs : ∀ X ∈ xs, X.size = 4) : (flatT xs).length = xs.length * 4 := by
  induction xs with
  | nil => rfl
  | cons Y xs ih =>
    rw [show flatT (Y :: xs) = Y.toList ++ flatT xs from rfl, List.length_append, ih fun Z hZ => hs Z (List.mem_cons_of_mem _ hZ), Array.length_toList, hs Y (List.mem_cons_self ..), List.length_cons]
    omega
theorem to_one {w : World} {p : Nat → Prop} {X : Array Value} {o : Option ET} (h : To w p X o) : ∀ v ∈ X.toList, v.oneCell' = true := fun v hv => Array.all_eq_true_iff_forall_mem.1 h.one v (by simpa using hv)

set_option maxHeartbeats 1000000 in
set_option maxRecDepth 100000 in
theorem refjoin_any (p : Nat → Prop) (g o n cap : Nat) (xs : List (Array Value)) (os : List (Option ET)) (w : World) (hn : os.length = n) (hv : ∀ (j : Nat) X, xs[j]? = some X → w.rangeAt g (o + j * 4) X.toList) (hE : Tos w p xs os) (hn1 : n ≤ 1000000) :
    Calls Tryd.prog 27 #[.slice (some ⟨g, o, none⟩) n cap] w fun e w' => ∃ X, e = .returned (.agg X) ∧ To w' (fun k => p k ∨ w.heap.size ≤ k) X (joinO os) ∧ Below w.heap.size w w' := by
  have hlen : xs.length = n := by rw [hE.1]; exact hn
  have HV := Lib.hid hv
  have HE := Lib.hid hE
  have HN := Lib.hid hn
  clear hv hE hn
  have bel : Below w.heap.size w (w.alloc (.cells zeroT 32)) := (Below.refl _ _).alloc (Nat.le_refl _) _
  have hb := Blk.new w zeroT 32
  have hsz : (w.alloc (.cells zeroT 32)).heap.size = w.heap.size + 1 := World.size_alloc ..
  go_enter Tryd.func27, Tryd.ntmps27
  go_upto_region 1 with (fail)
  generalize hW : w.alloc _ = W
  rw [show w.alloc (.cells zeroT 32) = W from hW] at bel hb hsz
  go_wp2
  go_loopw [3, 4] (fun v i wr => ∃ (k : Nat) (us : List (Array Value)), k ≤ n ∧ i = .int .i64 k ∧ Below (w.heap.size + 1) W wr ∧ wr.ownsRow (w.heap.size + 1) 32 4 v (some_ (os.take k)).length (flatT us) ∧ Tos wr (fun k => p k ∧ k < w.heap.size) us ((some_ (os.take k)).map some)) (fun _ i _ => n - (intOf i).toNat)
  case atStart => exact ⟨0, [], by omega, rfl, Below.refl _ _, by simpa [some_, flatT] using World.ownsRow_nil W (w.heap.size + 1) 32 4, by simpa [some_] using Tos.nil _ _⟩
  case round =>
    obtain ⟨k, us, hk, rfl, hB, hO, hU⟩ := hrel
    have HB := Lib.hid hB
    have HO := Lib.hid hO
    have HU := Lib.hid hU
    clear hB hO hU
    have hBw : Below w.heap.size w wr := bel.trans (HB.out.mono (by omega))
    by_cases hlt : k < n
    · obtain ⟨X, hxk⟩ : ∃ X, xs[k]? = some X := ⟨_, List.getElem?_eq_getElem (by omega)⟩
      obtain ⟨q, hqk⟩ : ∃ q, os[k]? = some q := ⟨_, List.getElem?_eq_getElem (by rw [HN.out]; omega)⟩
      have hr0 := HV.out k X hxk
      have hX0 := HE.out.2 k X q hxk hqk
      have hgl : g < w.heap.size := range_lt hr0 (by intro e; have := hX0.size; rw [← Array.length_toList, e] at this; simp at this)
      have hr : wr.rangeAt g (o + k * 4) X.toList := range_kept hr0 (p := fun i => i < w.heap.size) (fun i _ hp => hBw.block i hp) hgl
      have hq : To wr (fun k => p k ∧ k < w.heap.size) X q := (hX0.mono fun i hi hp => ⟨hp, hi⟩).kept fun i hi hp => hBw.block i hp.2
      obtain ⟨c, op0, a, n0, cap0, hXs⟩ := to_shape hq
      have hc : wr.cell? ⟨g, o + k * 4, none⟩ = some (.int .i64 (kindO q)) := by
        have := hr 0 (.int .i64 (kindO q)) (by rw [hXs]; rfl)
        rwa [Nat.add_zero] at this
      have hst := some_take os k q hqk
      have hle : (some_ (os.take k)).length ≤ k := Nat.le_trans (some_le _) (by rw [List.length_take]; omega)
      have hkn : (kindO q == 0) = q.isNone := kind_zero q
      clear hr0 hX0
      cases q with
      | none =>
        have HST := Lib.hid hst
        clear hst hq
        go_wp2
        refine ⟨⟨k + 1, us, by omega, by go_num, HB.out, ?_⟩, by simp [intOf]; omega⟩
        rw [HST.out]
        simpa [some_] using ⟨HO.out, HU.out⟩
      | some t =>
        have hfin : ∀ (v' : Value) (w' : World), w'.ownsRow (w.heap.size + 1) 32 4 v' ((some_ (os.take k)).length + 1) (flatT us ++ X.toList) → (wr.alloc (.cells X 32)).grownBy w' u3.ownBlock →
            Hid (Below (w.heap.size + 1) W w' ∧ w'.ownsRow (w.heap.size + 1) 32 4 v' (some_ (os.take (k + 1))).length (flatT (us ++ [X])) ∧ Tos w' (fun k => p k ∧ k < w.heap.size) (us ++ [X]) ((some_ (os.take (k + 1))).map some)) := by
          intro v' w' h1 h2
          have hs2 : w.heap.size + 1 ≤ wr.heap.size := by have := HB.out.size; omega
          have hb1 : Below (w.heap.size + 1) wr w' := ((Below.refl (w.heap.size + 1) wr).alloc hs2 _).grown h2 (by rw [World.size_alloc]; omega) fun k hk => (HO.out.lt k hk).1
          refine ⟨HB.out.trans hb1, ?_, ?_⟩
          · rw [hst, List.length_append, flatT_snoc]; exact h1
          · rw [hst, List.map_append]
            have hk' : Kept wr w' (fun k => p k ∧ k < w.heap.size) := fun i hi hp => hb1.block i (by omega)
            exact (HU.out.kept hk').snoc (hq.kept hk')
        have FIN := Lib.hid hfin
        have hone := to_one hq
        obtain ⟨m, hm⟩ : ∃ m, m = (some_ (os.take k)).length := ⟨_, rfl⟩
        rw [← hm] at hle
        have hO := HO.out
        rw [← hm] at hO FIN
        have HO2 := Lib.hid hO
        clear hst hq hfin hm hO HO HU
        subst hXs
        have hs2 : w.heap.size + 1 ≤ wr.heap.size := by have := HB.out.size; omega
        generalize kindO (some t) = kd at *
        have hkd : (kd == 0) = false := hkn
        unfold treeC at FIN hone hr
        have HONE := Lib.hid hone
        clear hone
        go_wp2_with (first
          | (refine p_midT rfl _ rfl g (o + k * 4) rfl #[.int .i64 kd, .int .i64 c, .string op0, .slice a n0 cap0] rfl hr ?_)
          | (at_builtin; refine wpList_snoc rfl _ _ 26 rfl (w.heap.size + 1) 32 (.agg zeroT) 4 56 Tryd.underlying26 infoT rfl (by decide) u3 m (flatT us) rfl HO2.out #[.int .i64 kd, .int .i64 c, .string op0, .slice a n0 cap0] _ rfl rfl HONE.out rfl (by omega) (by omega) hs2 ?_; intro v' w' hO' hG' _; have HF := FIN.out v' w' hO' hG'; clear hO' hG'))
        exact ⟨⟨k + 1, us ++ [_], by omega, by go_num, HF.out⟩, by simp [intOf]; omega⟩
    · obtain rfl : n = k := by omega
      have hall : some_ (os.take n) = some_ os := by rw [← HN.out, List.take_length]
      rw [hall] at HO HU
      have hbr : Blk wr w.heap.size zeroT 32 := hb.below HB.out (by omega)
      by_cases he : some_ os = []
      · have hj : joinO os = none := by unfold joinO; rw [if_pos he]
        rw [he] at HO
        obtain ⟨a, c, rfl⟩ : ∃ a c, u3 = .slice a 0 c := by
          rcases HO.out.2 with ⟨h, _⟩ | ⟨g, cap, cur, h, _⟩
          · exact ⟨_, _, h⟩
          · exact ⟨_, _, h⟩
        go_wp2_with (refine p_storeT rfl _ _ rfl w.heap.size rfl zeroT rfl rfl (tree_one ..) zeroT rfl hbr ?_)
        exact bodyPost_ret (results_tree Tryd.results27 _ _ w.heap.size zeroT rfl rfl (hbr.setRow _)) rfl ⟨_, rfl, (by rw [hj]; exact rfl), bel_row hBw _ (Nat.le_refl _) _⟩
      · have hj : joinO os = some (.join (some_ os)) := by unfold joinO; rw [if_neg he]
        obtain ⟨m, hm⟩ : ∃ m, m = (some_ os).length := ⟨_, rfl⟩
        have h0 : 0 < m := by rw [hm]; exact List.length_pos_iff.2 he
        have hm0 : ((m : Int) == 0) = false := by simp; omega
        rw [← hm] at HO
        obtain ⟨g', cap', rfl, hgb, hl, hc', hr⟩ := own_range HO.out h0
        have bel2 : Below w.heap.size w (wr.setRow w.heap.size (treeC 3 0 ⟨#[]⟩ (.slice (some ⟨g', 0, none⟩) m cap'))) := bel_row hBw _ (Nat.le_refl _) _
        have hR : Tr (wr.setRow w.heap.size (treeC 3 0 ⟨#[]⟩ (.slice (some ⟨g', 0, none⟩) m cap'))) (fun k => p k ∨ w.heap.size ≤ k) (treeC 3 0 ⟨#[]⟩ (.slice (some ⟨g', 0, none⟩) m cap')) (.join (some_ os)) := by
          have hrow : ∀ k, k ≠ w.heap.size → (wr.setRow w.heap.size (treeC 3 0 ⟨#[]⟩ (.slice (some ⟨g', 0, none⟩) m cap'))).heap[k]? = wr.heap[k]? := fun k hk => Go.setRow_other wr _ k _ hk
          rw [hm]
          refine .join g' cap' us (some_ os) (.inr (by omega)) he (by omega) (by rw [HU.out.1]; simp) ?_ ?_
          · intro j X hX
            have h1 := flat_range (o := 0) HU.out.size hr j X hX
            rw [Nat.zero_add, Nat.mul_comm j 4] at h1
            rw [← hm]
            exact range_kept h1 (p := fun k => k ≠ w.heap.size) (fun k _ hp => hrow k hp) (by omega)
          · intro j X t h1 h2
            have h3 : Tr wr _ X t := HU.out.2 j X (some t) h1 (by rw [List.getElem?_map, h2]; rfl)
            rw [← hm]
            exact (h3.kept fun k _ hp => hrow k (by omega)).mono fun _ _ h => .inl h.1
        have HR := Lib.hid hR
        clear hR hr hm HU HO
        go_wp2_with (refine p_storeT rfl _ _ rfl w.heap.size rfl (treeC 3 0 ⟨#[]⟩ (.slice (some ⟨g', 0, none⟩) m cap')) rfl rfl (tree_one ..) zeroT rfl hbr ?_)
        exact bodyPost_ret (results_tree Tryd.results27 _ _ w.heap.size (treeC 3 0 ⟨#[]⟩ (.slice (some ⟨g', 0, none⟩) m cap')) rfl rfl (hbr.setRow _)) rfl ⟨_, rfl, (by rw [hj]; exact HR.out), bel2⟩
end Go.Proofs.YtgpmfiphebmldaaDoor
