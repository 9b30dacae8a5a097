/- A map of a law's own: what each call answers, and that all that was there ahead of it stays. -/
import Derived.Test.YtbjlappppbaohaaSorSame
import Derived.Test.YtbjlappppbaohaaSorPut
import Derived.Test.YtbjlappppbaohaaSorRange
namespace Go.Proofs.Ytbjlappppbaohaa
open Go Go.RowKit Go.Sort

/-- a map in block g, made behind B, has the items L; the blocks below B are as in w0 -/
def Has (B : Nat) (w0 w : World) (g : Nat) (L : List It) : Prop := ∃ v, Mp w 57 61 g v L ∧ Below B w0 w ∧ B ≤ g ∧ ∀ f, v.ownBlock = some f → B ≤ f
theorem drew_bel (w : World) : Below w.heap.size w w.drew := ⟨rfl, rfl, rfl, Nat.le_refl _, fun _ _ => rfl⟩
theorem Has.le {B : Nat} {w0 w : World} {g : Nat} {L : List It} (h : Has B w0 w g L) : B ≤ w.heap.size := by
  obtain ⟨v, hm, _, hg, _⟩ := h
  have := hm.lt
  omega
theorem Has.below {B : Nat} {w0 w : World} {g : Nat} {L : List It} (h : Has B w0 w g L) : Below B w0 w := by
  obtain ⟨v, _, hb, _, _⟩ := h
  exact hb
theorem Has.sorted {B : Nat} {w0 w : World} {g : Nat} {L : List It} (h : Has B w0 w g L) : Sorted L := by
  obtain ⟨v, hm, _, _, _⟩ := h
  exact hm.sorted
theorem Has.key {B : Nat} {w0 w : World} {g : Nat} {L : List It} (h : Has B w0 w g L) : ∀ x ∈ L, x.1 < 18446744073709551616 := by
  obtain ⟨v, hm, _, _, _⟩ := h
  exact hm.key
theorem Has.bel {B : Nat} {w0 w w' : World} {g : Nat} {L : List It} (h : Has B w0 w g L) (hb : Below w.heap.size w w') : Has B w0 w' g L := by
  have hB := h.le
  obtain ⟨v, hm, h0, hg, hv⟩ := h
  exact ⟨v, hm.bel hb, h0.trans (hb.mono hB), hg, hv⟩
theorem Has.after {B : Nat} {w0 w w' : World} {g : Nat} {v v' : Value} {L K : List It} (hm : Mp w 57 61 g v L) (h0 : Below B w0 w) (hg : B ≤ g) (hv : ∀ f, v.ownBlock = some f → B ≤ f) (hA : After w w' g v v' K) : Has B w0 w' g K := by
  have hB : B ≤ w.heap.size := by have := hm.lt; omega
  obtain ⟨hM, hC, ho⟩ := hA
  refine ⟨v', hM, hC.below h0 hB hg hv, hg, fun f hf => ?_⟩
  rcases ho with ho | ⟨f', ho, hf'⟩
  · exact hv f (by rw [← ho]; exact hf)
  · rw [ho] at hf; injection hf; omega

theorem has_new (w : World) : Calls Try.prog 9 #[] w fun e w' => e = .returned (.pointer (some ⟨w.heap.size, 0, none⟩)) ∧ Has w.heap.size w w' w.heap.size [] := by
  refine (new_any w).mono ?_
  rintro e w' ⟨rfl, hm, hb⟩
  exact ⟨rfl, _, hm, hb, Nat.le_refl _, fun f hf => by simp [Value.ownBlock] at hf⟩
theorem has_put {B : Nat} {w0 w : World} {g : Nat} {L : List It} (h : Has B w0 w g L) (k : Nat) (s : ByteArray) (hs : s.size ≤ 64) (hl : L.length + 1 ≤ 1000000) (hk : k < 18446744073709551616) :
    Calls Try.prog 15 #[.pointer (some ⟨g, 0, none⟩), .int .u64 (k : Int), .string s] w fun e w' => e = .returned (.tuple #[.string (valL L k), .bool (hasL L k), .int .i64 0]) ∧ Has B w0 w' g (putL L k s) := by
  obtain ⟨v, hm, h0, hg, hv⟩ := h
  refine (put_any hm k s hs hl hk).mono ?_
  rintro e w' ⟨rfl, v', hA⟩
  exact ⟨rfl, Has.after hm h0 hg hv hA⟩
theorem has_drop {B : Nat} {w0 w : World} {g : Nat} {L : List It} (h : Has B w0 w g L) (k : Nat) :
    Calls Try.prog 18 #[.pointer (some ⟨g, 0, none⟩), .int .u64 (k : Int)] w fun e w' => e = .returned (.tuple #[.string (valL L k), .bool (hasL L k)]) ∧ Has B w0 w' g (dropL L k) := by
  obtain ⟨v, hm, h0, hg, hv⟩ := h
  refine (drop_any hm k).mono ?_
  rintro e w' ⟨rfl, v', hA⟩
  exact ⟨rfl, Has.after hm h0 hg hv hA⟩
theorem has_size {B : Nat} {w0 w : World} {g : Nat} {L : List It} (h : Has B w0 w g L) : Calls Try.prog 11 #[.pointer (some ⟨g, 0, none⟩)] w fun e w' => e = .returned (.int .i64 L.length) ∧ w = w' := by
  obtain ⟨v, hm, _⟩ := h
  exact size_any hm
theorem has_get {B : Nat} {w0 w : World} {g : Nat} {L : List It} (h : Has B w0 w g L) (j : Nat) : Calls Try.prog 14 #[.pointer (some ⟨g, 0, none⟩), .int .u64 (j : Int)] w fun e w' => e = .returned (.tuple #[.string (valL L j), .bool (hasL L j)]) ∧ Has B w0 w' g L ∧ Below w.heap.size w w' := by
  have h' := h
  obtain ⟨v, hm, _⟩ := h
  refine (get_any hm j).mono ?_
  rintro e w' ⟨rfl, hb⟩
  exact ⟨rfl, h'.bel hb, hb⟩
theorem has_rank {B : Nat} {w0 w : World} {g : Nat} {L : List It} (h : Has B w0 w g L) (j : Nat) : Calls Try.prog 17 #[.pointer (some ⟨g, 0, none⟩), .int .u64 (j : Int)] w fun e w' => e = .returned (.int .i64 (rankL L j)) ∧ Has B w0 w' g L ∧ Below w.heap.size w w' := by
  have h' := h
  obtain ⟨v, hm, _⟩ := h
  refine (rank_any hm j).mono ?_
  rintro e w' ⟨rfl, hb⟩
  exact ⟨rfl, h'.bel hb, hb⟩
theorem has_min {B : Nat} {w0 w : World} {g : Nat} {L : List It} (h : Has B w0 w g L) : Calls Try.prog 20 #[.pointer (some ⟨g, 0, none⟩)] w fun e w' => e = .returned (.tuple #[.agg (itC (minL L).1 (minL L).2), .bool (decide (0 < L.length))]) ∧ Has B w0 w' g L ∧ Below w.heap.size w w' := by
  have h' := h
  obtain ⟨v, hm, _⟩ := h
  refine (min_any hm).mono ?_
  rintro e w' ⟨rfl, hb⟩
  exact ⟨rfl, h'.bel hb, hb⟩
theorem has_max {B : Nat} {w0 w : World} {g : Nat} {L : List It} (h : Has B w0 w g L) : Calls Try.prog 21 #[.pointer (some ⟨g, 0, none⟩)] w fun e w' => e = .returned (.tuple #[.agg (itC (maxL L).1 (maxL L).2), .bool (decide (0 < L.length))]) ∧ Has B w0 w' g L ∧ Below w.heap.size w w' := by
  have h' := h
  obtain ⟨v, hm, _⟩ := h
  refine (max_any hm).mono ?_
  rintro e w' ⟨rfl, hb⟩
  exact ⟨rfl, h'.bel hb, hb⟩
/-- a row that a range tells -/
def Told (w : World) (u : Value) (K : List It) : Prop := Src w u K.length 2 (flat K)
theorem Told.bel {w w' : World} {u : Value} {K : List It} (h : Told w u K) (hb : Below w.heap.size w w') : Told w' u K := Src.bel h hb
theorem rows_told {w w' : World} {u : Value} {K : List It} (h : Rows w w' u K) : Told w' u K := by
  obtain ⟨b, rfl, hr, _, _⟩ := h
  exact ⟨flat_length K, .inr ⟨b, 0, _, rfl, hr⟩⟩
/-- what a range answers that is told -/
def HadRows (B : Nat) (w0 w : World) (g : Nat) (L K : List It) (e : Ending) (w' : World) : Prop := ∃ a c, e = .returned (.tuple #[.slice a K.length c, .int .i64 0]) ∧ Told w' (.slice a K.length c) K ∧ Has B w0 w' g L ∧ Below w.heap.size w w'
theorem has_range {B : Nat} {w0 w : World} {g : Nat} {L : List It} (h : Has B w0 w g L) (lo hi : Nat) (most : Nat) (hlh : ¬ hi < lo) :
    Calls Try.prog 16 #[.pointer (some ⟨g, 0, none⟩), .int .u64 (lo : Int), .int .u64 (hi : Int), .int .i64 (most : Int)] w (HadRows B w0 w g L ((rangeL L lo hi).take most)) := by
  have h' := h
  obtain ⟨v, hm, _⟩ := h
  refine (range_any hm lo hi most hlh).mono ?_
  rintro e w' ⟨u, rfl, hr, hb⟩
  have ht := rows_told hr
  obtain ⟨a, c, rfl⟩ := Src.form ht
  exact ⟨a, c, rfl, ht, h'.bel hb, hb⟩

set_option maxRecDepth 100000 in
set_option maxHeartbeats 2000000 in
/-- a map of items -/
theorem filled_any {v : Value} {l : List It} {w : World} (hS : Src w v l.length 2 (flat l)) (hk : ∀ x ∈ l, x.1 < 18446744073709551616) (hl : l.length ≤ 60) :
    Calls Try.prog 13 #[v] w fun e w' => e = .returned (.pointer (some ⟨w.heap.size, 0, none⟩)) ∧ Has w.heap.size w w' w.heap.size (fillL l) := by
  obtain ⟨a, c, rfl⟩ := hS.form
  obtain ⟨n, hn⟩ : ∃ n, n = l.length := ⟨_, rfl⟩
  rw [← hn] at hl
  rw [← hn]
  rw [← hn] at hS
  have HS := Lib.hid hS
  have HN := Lib.hid hn
  have HK := Lib.hid hk
  have HW := Lib.hid (has_new w)
  clear hS hn hk
  go_enter Try.func13, Try.ntmps13
  go_wp2_with (go_at_call 9; (with_reducible refine HW.out.mono ?_); rintro e w1 ⟨rfl, h1⟩; have H1 := Lib.hid h1; clear h1)
  go_loopw [4] (fun i wr => ∃ k : Nat, k ≤ n ∧ i = .int .i64 k ∧ Has w.heap.size w wr w.heap.size (fillL (l.take k))) (fun i _ => n - (intOf i).toNat)
  case atStart => exact ⟨0, by omega, rfl, H1.out⟩
  case round =>
    obtain ⟨k, hkn, rfl, hH⟩ := hrel
    have HH := Lib.hid hH
    clear hH H1
    by_cases hlt : k < n
    · obtain ⟨x, hx⟩ : ∃ x, l[k]? = some x := ⟨_, List.getElem?_eq_getElem (by have := HN.out; omega)⟩
      have hbd := (HH.out.bel (drew_bel wr))
      obtain ⟨b, o, c1, e1, x1, x2, _, _⟩ := (HS.out.bel hbd.below).at hx
      simp only [Value.slice.injEq, true_and] at e1
      obtain ⟨rfl, rfl⟩ := e1
      have hfl := fill_succ l k x hx
      have hky := HK.out x (List.mem_of_getElem? hx)
      have hlen := (fill_ok l 18446744073709551616 HK.out k (by have := HN.out; omega)).2.1
      have HF : Hid (Calls Try.prog 15 #[.pointer (some ⟨w.heap.size, 0, none⟩), .int .u64 (x.1 : Int), .string x.2] wr.drew fun e w' => (∃ p q r, e = .returned (.tuple #[p, q, r])) ∧ Has w.heap.size w w' w.heap.size (fillL (l.take (k + 1)))) := by
        rw [hfl]
        unfold addL
        split
        · rename_i h6
          refine (has_put hbd x.1 x.2 h6 (by omega) hky).mono ?_
          rintro e w' ⟨rfl, h⟩
          exact ⟨⟨_, _, _, rfl⟩, h⟩
        · rename_i h6
          refine (put_big _ x.1 x.2 (by omega) _).mono ?_
          rintro e w' ⟨rfl, rfl⟩
          exact ⟨⟨_, _, _, rfl⟩, hbd⟩
      clear hfl hky hlen hbd hx
      go_upto_region 5 with (fail)
      refine wp_region_tailP 11 0 _ _ rfl rfl rfl (by kernel_rfl) (by kernel_rfl) (fun _ _ _ _ _ h => h) ?_
      simp only [List.take_succ_cons, List.take_zero, List.drop_succ_cons, List.drop_zero, List.eraseIdx_cons_zero]
      repeat still_step
      refine wpStill_nil ?_
      go_wp2_with (go_at_call 15; (with_reducible refine HF.out.mono ?_); rintro e w3 ⟨⟨p, q, r, rfl⟩, hH⟩; have HB := Lib.hid hH; clear hH)
      exact ⟨⟨k + 1, by omega, by go_num, HB.out⟩, by simp [intOf]; omega⟩
    · obtain rfl : n = k := by omega
      have ht : l.take n = l := by rw [HN.out, List.take_length]
      rw [ht] at HH
      clear ht
      go_wp2
      go_ret
      exact ⟨rfl, HH.out⟩
end Go.Proofs.Ytbjlappppbaohaa
