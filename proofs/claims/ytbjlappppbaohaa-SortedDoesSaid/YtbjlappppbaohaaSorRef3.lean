/- The document's map: Put and Drop. -/
import Derived.Test.YtbjlappppbaohaaSorRef2
namespace Go.Proofs.Ytbjlappppbaohaa
open Go Go.RowKit Go.Sort

theorem hi_drop (L : List It) (k : Nat) : hiL (dropL L k) k = hiL L k := by
  unfold hiL dropL
  rw [List.filter_filter]
  congr 1
  funext x
  rw [Bool.eq_iff_iff]; simp; omega
theorem put_ref {L : List It} (h : Sorted L) (k : Nat) (s : ByteArray) {p : Nat} (hp : p ≤ (dropL L k).length) (h1 : ∀ j y, j < p → (dropL L k)[j]? = some y → y.1 < k) (h2 : ∀ y, (dropL L k)[p]? = some y → k ≤ y.1) :
    (dropL L k).take p ++ [(k, s)] ++ (dropL L k).drop p = putL L k s := by
  have hS := drop_sorted h k
  have hr : rankL (dropL L k) k = p := rank_of hp h1 fun j y hj hy => by
    rcases Nat.lt_or_ge p j with hpj | hpj
    · have hpl : p < (dropL L k).length := by have := (List.getElem?_eq_some_iff.1 hy).1; omega
      have hx : (dropL L k)[p]? = some (dropL L k)[p] := List.getElem?_eq_getElem hpl
      have := sorted_get hS hpj hx hy
      have := h2 _ hx
      omega
    · obtain rfl : j = p := by omega
      exact h2 y hy
  have hn : hasL (dropL L k) k = false := by simp [hasL, get_drop]
  rw [← hr, take_rank hS, drop_rank hS k hn, lo_drop, hi_drop, List.append_assoc]
  rfl
theorem own_form {w : World} {B e size n : Nat} {v : Value} {xs : List Value} (h : w.ownsRow B e size v n xs) : ∃ a c, v = .slice a n c := by
  rcases own_shape h with ⟨rfl, rfl⟩ | ⟨b, c, rfl, _⟩
  · exact ⟨_, _, rfl⟩
  · exact ⟨_, _, rfl⟩
/-- behind a change of the document's map in g -/
def RAfter (w w' : World) (g : Nat) (u : Value) (L : List It) : Prop := Rp w' g u L ∧ Chg w w' g (.slice none 0 0) ∧ ∀ f, u.ownBlock = some f → w.heap.size ≤ f
theorem ref_store {w w2 : World} {g : Nat} {v u : Value} {L K : List It} (h : Rp w g v L) (hb : Below w.heap.size w w2) {B n : Nat} (hB : w.heap.size ≤ B) (hO : w2.ownsRow B 46 2 u n (flat K)) (hS : Sorted K) (hl : K.length ≤ 1000000) (hk : ∀ x ∈ K, x.1 < 18446744073709551616) :
    RAfter w (w2.setCell ⟨g, 0, none⟩ u) g u K := by
  have hlt := Mp.lt h
  have hn : n = K.length := by have := hO.1; rw [flat_length] at this; omega
  subst hn
  have hge : ∀ f, u.ownBlock = some f → w.heap.size ≤ f := fun f hf => Nat.le_trans hB (hO.lt f hf).1
  have hne : u.ownBlock ≠ some g := fun e => by have := hge g e; omega
  have hO2 : w2.ownsRow 0 46 2 u K.length (flat K) := by
    refine ⟨hO.1, hO.2.imp id ?_⟩
    rintro ⟨b, c, cur, h1, _, h2⟩
    exact ⟨b, c, cur, h1, Nat.zero_le _, h2⟩
  exact ⟨⟨(h.blk.below hb hlt).put 0 u, own_keep hO2 fun f hf => Below.heap_setCell _ _ _ _ (by intro e; exact hne (by rw [hf]; simpa using e)), hne, hS, hl, hk⟩, (Chg.of hb g _).setCell 0 u, hge⟩
theorem refput_big (g k : Nat) (s : ByteArray) (hs : 64 < s.size) (w : World) : Calls Try.prog 22 #[.pointer (some ⟨g, 0, none⟩), .int .u64 (k : Int), .string s] w fun e w' => e = .returned (.tuple #[.string ⟨#[]⟩, .bool false, .int .i64 2]) ∧ w = w' := by
  have h1 : (64 : Int) < (s.size : Int) := by omega
  go_enter Try.func22, Try.ntmps22
  go_wp2
  go_ret3
  exact ⟨rfl, rfl⟩
set_option maxHeartbeats 4000000 in
theorem refput_any {w : World} {g : Nat} {v : Value} {L : List It} (h : Rp w g v L) (k : Nat) (s : ByteArray) (hs : s.size ≤ 64) (hl : L.length + 1 ≤ 1000000) (hk : k < 18446744073709551616) :
    Calls Try.prog 22 #[.pointer (some ⟨g, 0, none⟩), .int .u64 (k : Int), .string s] w fun e w' => e = .returned (.tuple #[.string (valL L k), .bool (hasL L k), .int .i64 0]) ∧ ∃ u, RAfter w w' g u (putL L k s) := by
  have h1 : ¬ (64 : Int) < (s.size : Int) := by omega
  have HG := Lib.hid (refget_any h k)
  have HW := Lib.hid (without_any h k)
  have hS := Mp.sorted h
  have hFin : ∀ w2 B n p u, Below w.heap.size w w2 → w.heap.size ≤ B → p ≤ (dropL L k).length → (∀ j y, j < p → (dropL L k)[j]? = some y → y.1 < k) → (∀ y, (dropL L k)[p]? = some y → k ≤ y.1) → w2.ownsRow B 46 2 u n (flat ((dropL L k).take p ++ [(k, s)] ++ (dropL L k).drop p)) → RAfter w (w2.setCell ⟨g, 0, none⟩ u) g u (putL L k s) := fun w2 B n p u hb hB hp q1 q2 hO => by
    rw [put_ref hS k s hp q1 q2] at hO
    exact ref_store h hb hB hO (put_sorted hS k s) (by have := put_len_le hS k s; omega) (put_bound (Mp.key h) hk)
  have hCell : ∀ w2, Below w.heap.size w w2 → w2.cell? ⟨g, 0, none⟩ = some v ∧ w2.frozen? ⟨g, 0, none⟩ = false := fun w2 hb => ⟨(Mp.bel h hb).cell, (Mp.bel h hb).blk.free 0⟩
  have hRl : (dropL L k).length ≤ L.length := drop_len_le L k
  have HFin := Lib.hid hFin
  have HCell := Lib.hid hCell
  obtain ⟨m, hm⟩ : ∃ m, m = (dropL L k).length := ⟨_, rfl⟩
  rw [← hm] at HW hRl
  have HMm := Lib.hid hm
  clear h hS hFin hCell hm
  generalize dropL L k = R at *
  generalize valL L k = s0 at *
  generalize hasL L k = b0 at *
  go_enter Try.func22, Try.ntmps22
  go_upto_region 4 with (go_at_call 24; (with_reducible refine HG.out.mono ?_); rintro e w1 ⟨rfl, rfl⟩)
  go_upto_region 5 with (go_at_call 34; (with_reducible refine HW.out.mono ?_); rintro e w1 ⟨u, rfl, hO, hB⟩)
  have HO := Lib.hid hO
  have HB := Lib.hid hB
  have hs1 := hB.size
  obtain ⟨ra, rc, rfl⟩ := own_form hO
  clear hO hB
  go_wp2
  go_loopw [12, 13] (fun o i wr => ∃ p : Nat, p ≤ m ∧ i = .int .i64 p ∧ wr.ownsRow w1.heap.size 46 2 o p (flat (R.take p)) ∧ Below w1.heap.size w1 wr ∧ ∀ j y, j < p → R[j]? = some y → y.1 < k) (fun _ i _ => m - (intOf i).toNat)
  case atStart => exact ⟨0, by omega, rfl, World.ownsRow_nil _ _ _ _, Below.refl _ _, fun j y hj => by omega⟩
  case round =>
    obtain ⟨p, hp, rfl, hO1, hB1, hlow⟩ := hrel
    have HO1 := Lib.hid hO1
    have HB1 := Lib.hid hB1
    have HLOW := Lib.hid hlow
    have HOr := Lib.hid (own_bel HO.out HB1.out)
    have HBw := Lib.hid (HB.out.trans (HB1.out.mono hs1))
    have hsr := HB1.out.size
    clear hO1 hB1 hlow
    by_cases hlt : p < m
    · obtain ⟨x, hx⟩ : ∃ x, R[p]? = some x := ⟨_, List.getElem?_eq_getElem (by have := HMm.out; omega)⟩
      obtain ⟨b, c', hv', hc1, hc2⟩ : ∃ b c', (Value.slice ra m rc) = .slice (some ⟨b, 0, none⟩) m c' ∧ wr.cell? ⟨b, p * 2, none⟩ = some (.int .u64 (x.1 : Int)) ∧ wr.cell? ⟨b, p * 2 + 1, none⟩ = some (.string x.2) := by
        rcases own_shape HOr.out with ⟨h0, h1⟩ | ⟨b, c', h0, _, _, hr, _⟩
        · omega
        · obtain ⟨e1, e2⟩ := row_at hr hx
          exact ⟨b, c', h0, e1, e2⟩
      simp only [Value.slice.injEq, true_and] at hv'
      obtain ⟨rfl, rfl⟩ := hv'
      have HX := Lib.hid hx
      clear hx
      by_cases hk2 : x.1 < k
      · have HK := Lib.hid hk2
        have hd : decide ((x.1 : Int) < (k : Int)) = true := by simp; omega
        have HTl : Hid (p = (R.take p).length) := by unfold Hid; rw [List.length_take, ← HMm.out]; omega
        clear hk2
        go_wp2_with (at_builtin; refine wpList_snocA rfl _ _ rfl w1.heap.size _ (R.take p) p rfl HO1.out HTl.out x.1 x.2 rfl (by omega) HB1.out hsr ?_; intro v' w' h1 h2 h3; have H1 := Lib.hid h1; have H2 := Lib.hid h2; clear h1 h2 h3)
        refine ⟨⟨p + 1, by omega, by go_num, ?_, H2.out, fun j y hj hy => ?_⟩, by simp [intOf]; omega⟩
        · obtain ⟨hpl, hxe⟩ := List.getElem?_eq_some_iff.1 HX.out
          have h1 := H1.out
          rw [show ((x.1, x.2) : It) = R[p] from hxe.symm, ← List.take_succ_eq_append_getElem hpl] at h1
          exact h1
        · rcases Nat.lt_or_ge j p with hj2 | hj2
          · exact HLOW.out j y hj2 hy
          · obtain rfl : j = p := by omega
            have := HX.out
            rw [hy] at this
            obtain rfl := Option.some.inj this
            exact HK.out
      · have HUP : Hid (∀ y, R[p]? = some y → k ≤ y.1) := fun y hy => by
          have := HX.out
          rw [hy] at this
          obtain rfl := Option.some.inj this
          omega
        have hd : decide ((x.1 : Int) < (k : Int)) = false := by simp; omega
        have HK := Lib.hid hk2
        clear hk2
        have HTl : Hid (p = (R.take p).length) := by unfold Hid; rw [List.length_take, ← HMm.out]; omega
        have HOs : Hid (∀ w' : World, Below w1.heap.size w1 w' → w'.ownsRow w.heap.size 46 2 (.slice (some ⟨b, 0, none⟩) m rc) m (flat R)) := fun w' hb => own_bel HO.out hb
        go_wp2_with (first
          | (at_builtin; refine wpList_snocA rfl _ _ rfl w1.heap.size _ (R.take p) p rfl HO1.out HTl.out k s rfl (by omega) HB1.out hsr ?_; intro v' w' h1 h2 h3; have H1 := Lib.hid h1; have H2 := Lib.hid h2; obtain ⟨oa, oc, rfl⟩ := own_form h1; have hs3 := h2.size; clear h1 h2 h3)
          | (refine wpList_from rfl 27 _ _ rfl 46 2 Try.underlying27 sizeA _ m p (flat R) w.heap.size rfl rfl hp (HOs.out _ H2.out) ?_; intro sv hsv; rw [flat_drop] at hsv; have HSV := Lib.hid hsv; clear hsv)
          | (at_builtin; refine wpList_joinA rfl _ _ rfl w1.heap.size _ (R.take p ++ [(k, s)]) (R.drop p) (p + 1) (m - p) rfl H1.out _ rfl HSV.out (by omega) H2.out hs3 ?_; intro v2 w2 h1 h2 h3; obtain ⟨oa2, oc2, rfl⟩ := own_form h1; have hbw := HB.out.trans (h2.mono hs1); obtain ⟨c0, f0⟩ := HCell.out w2 hbw; have HA := Lib.hid (HFin.out w2 _ _ p _ hbw hs1 (by rw [← HMm.out]; exact hp) HLOW.out HUP.out h1); clear h1 h2 h3 hbw))
        go_ret3
        exact ⟨rfl, _, HA.out⟩
    · obtain rfl : p = m := by omega
      have HUP : Hid (∀ y, R[p]? = some y → k ≤ y.1) := fun y hy => by
        have := (List.getElem?_eq_some_iff.1 hy).1
        have := HMm.out
        omega
      have HTl : Hid (p = (R.take p).length) := by unfold Hid; rw [List.length_take, ← HMm.out]; omega
      have HOs : Hid (∀ w' : World, Below w1.heap.size w1 w' → w'.ownsRow w.heap.size 46 2 (.slice ra p rc) p (flat R)) := fun w' hb => own_bel HO.out hb
      go_wp2_with (first
        | (at_builtin; refine wpList_snocA rfl _ _ rfl w1.heap.size _ (R.take p) p rfl HO1.out HTl.out k s rfl (by omega) HB1.out hsr ?_; intro v' w' h1 h2 h3; have H1 := Lib.hid h1; have H2 := Lib.hid h2; obtain ⟨oa, oc, rfl⟩ := own_form h1; have hs3 := h2.size; clear h1 h2 h3)
        | (refine wpList_from rfl 27 _ _ rfl 46 2 Try.underlying27 sizeA _ p p (flat R) w.heap.size rfl rfl hp (HOs.out _ H2.out) ?_; intro sv hsv; rw [flat_drop, Nat.sub_self] at hsv; have HSV := Lib.hid hsv; clear hsv)
        | (at_builtin; refine wpList_joinA rfl _ _ rfl w1.heap.size _ (R.take p ++ [(k, s)]) (R.drop p) (p + 1) 0 rfl H1.out _ rfl HSV.out (by omega) H2.out hs3 ?_; intro v2 w2 h1 h2 h3; rw [Nat.add_zero] at h1; obtain ⟨oa2, oc2, rfl⟩ := own_form h1; have hbw := HB.out.trans (h2.mono hs1); obtain ⟨c0, f0⟩ := HCell.out w2 hbw; have HA := Lib.hid (HFin.out w2 _ _ p _ hbw hs1 (by rw [← HMm.out]; exact hp) HLOW.out HUP.out h1); clear h1 h2 h3 hbw))
      go_ret3
      exact ⟨rfl, _, HA.out⟩
/-- Drop -/
theorem refdrop_any {w : World} {g : Nat} {v : Value} {L : List It} (h : Rp w g v L) (k : Nat) :
    Calls Try.prog 23 #[.pointer (some ⟨g, 0, none⟩), .int .u64 (k : Int)] w fun e w' => e = .returned (.tuple #[.string (valL L k), .bool (hasL L k)]) ∧ ∃ u, RAfter w w' g u (dropL L k) := by
  have HG := Lib.hid (refget_any h k)
  have HW := Lib.hid (without_any h k)
  have hFin : ∀ w2 u n, Below w.heap.size w w2 → w2.ownsRow w.heap.size 46 2 u n (flat (dropL L k)) → RAfter w (w2.setCell ⟨g, 0, none⟩ u) g u (dropL L k) ∧ w2.cell? ⟨g, 0, none⟩ = some v ∧ w2.frozen? ⟨g, 0, none⟩ = false := fun w2 u n hb hO =>
    ⟨ref_store h hb (Nat.le_refl _) hO (drop_sorted (Mp.sorted h) k) (by have := drop_len_le L k; have := Mp.len h; omega) (drop_bound (Mp.key h)), (Mp.bel h hb).cell, (Mp.bel h hb).blk.free 0⟩
  have HF := Lib.hid hFin
  clear h hFin
  generalize dropL L k = R at *
  generalize valL L k = s0 at *
  generalize hasL L k = b0 at *
  go_enter Try.func23, Try.ntmps23
  go_wp2_with (first
    | (go_at_call 24; (with_reducible refine HG.out.mono ?_); rintro e w1 ⟨rfl, rfl⟩)
    | (go_at_call 34; (with_reducible refine HW.out.mono ?_); rintro e w2 ⟨u, rfl, hO, hB⟩; obtain ⟨ua, uc, rfl⟩ := own_form hO; obtain ⟨hA, c0, f0⟩ := HF.out w2 _ _ hB hO; have HA := Lib.hid hA; clear hA hO hB))
  go_ret2
  exact ⟨rfl, _, HA.out⟩
end Go.Proofs.Ytbjlappppbaohaa
