/- The document's map of a row of items; a record in memory of its own. -/
import Derived.Test.YtkicndengkcojaaRecRec
import Derived.Test.YtkicndengkcojaaPkB
namespace Go.Proofs.Ytkicndengkcojaa
set_option maxRecDepth 100000
open Go Go.RowKit Go.Sort

/-- a map of the document's in block g, made behind B, has the items L; the blocks below B are as in w0 -/
def RHas (B : Nat) (w0 w : World) (g : Nat) (L : List It) : Prop := ∃ v, Rp w g v L ∧ Below B w0 w ∧ B ≤ g ∧ ∀ f, v.ownBlock = some f → B ≤ f
theorem RHas.le {B : Nat} {w0 w : World} {g : Nat} {L : List It} (h : RHas B w0 w g L) : B ≤ w.heap.size := by
  obtain ⟨v, hm, _, hg, _⟩ := h
  have := Mp.lt hm
  omega
theorem RHas.below {B : Nat} {w0 w : World} {g : Nat} {L : List It} (h : RHas B w0 w g L) : Below B w0 w := by
  obtain ⟨v, _, hb, _, _⟩ := h
  exact hb
theorem RHas.bel {B : Nat} {w0 w w' : World} {g : Nat} {L : List It} (h : RHas B w0 w g L) (hb : Below w.heap.size w w') : RHas B w0 w' g L := by
  have hB := h.le
  obtain ⟨v, hm, h0, hg, hv⟩ := h
  exact ⟨v, Mp.bel hm hb, h0.trans (hb.mono hB), hg, hv⟩
theorem RHas.after {B : Nat} {w0 w w' : World} {g : Nat} {L K : List It} (h : RHas B w0 w g L) {u : Value} (hA : RAfter w w' g u K) : RHas B w0 w' g K := by
  have hB := h.le
  obtain ⟨v, hm, h0, hg, hv⟩ := h
  obtain ⟨hM, hC, ho⟩ := hA
  exact ⟨u, hM, hC.below h0 hB hg (fun f hf => by simp [Value.ownBlock] at hf), hg, fun f hf => Nat.le_trans hB (ho f hf)⟩
theorem rhas_put {B : Nat} {w0 w : World} {g : Nat} {L : List It} (h : RHas B w0 w g L) (k : Nat) (s : ByteArray) (hs : s.size ≤ 64) (hl : L.length + 1 ≤ 1000000) (hk : k < 18446744073709551616) :
    Calls Try.prog 59 #[.pointer (some ⟨g, 0, none⟩), .int .u64 (k : Int), .string s] w fun e w' => e = .returned (.tuple #[.string (valL L k), .bool (hasL L k), .int .i64 0]) ∧ RHas B w0 w' g (putL L k s) := by
  have h' := h
  obtain ⟨v, hm, _⟩ := h
  refine (refput_any hm k s hs hl hk).mono ?_
  rintro e w' ⟨rfl, u, hA⟩
  exact ⟨rfl, h'.after hA⟩
theorem rhas_drop {B : Nat} {w0 w : World} {g : Nat} {L : List It} (h : RHas B w0 w g L) (k : Nat) :
    Calls Try.prog 62 #[.pointer (some ⟨g, 0, none⟩), .int .u64 (k : Int)] w fun e w' => e = .returned (.tuple #[.string (valL L k), .bool (hasL L k)]) ∧ RHas B w0 w' g (dropL L k) := by
  have h' := h
  obtain ⟨v, hm, _⟩ := h
  refine (refdrop_any hm k).mono ?_
  rintro e w' ⟨rfl, u, hA⟩
  exact ⟨rfl, h'.after hA⟩
/-- its row, as it is told -/
theorem RHas.told {B : Nat} {w0 w : World} {g : Nat} {L : List It} (h : RHas B w0 w g L) : ∃ u, w.cell? ⟨g, 0, none⟩ = some u ∧ Told w u L := by
  obtain ⟨v, hm, _⟩ := h
  exact ⟨v, hm.cell, own_src hm.own⟩
theorem rhas_new (w : World) : RHas w.heap.size w (w.alloc (.cells #[.slice none 0 0] 87)) w.heap.size [] := by
  refine ⟨.slice none 0 0, ⟨Blk.new _ _ _, World.ownsRow_nil _ _ _ _, fun h => by simp [Value.ownBlock] at h, sorted_nil, by simp, by simp⟩, (Below.refl _ _).alloc (Nat.le_refl _) _, Nat.le_refl _, fun f hf => by simp [Value.ownBlock] at hf⟩
theorem fill_sorted {L : List It} (h : Sorted L) (hs : ∀ x ∈ L, x.2.size ≤ 64) : fillL L = L := by
  have key : ∀ k, k ≤ L.length → fillL (L.take k) = L.take k := by
    intro k
    induction k with
    | zero => intro _; rfl
    | succ k ih =>
      intro hk
      have hlt : k < L.length := by omega
      have hx : L[k]? = some L[k] := List.getElem?_eq_getElem hlt
      have hm : L[k] ∈ L := List.getElem_mem hlt
      rw [fill_succ L k L[k] hx, ih (by omega), addL, if_pos (hs _ hm), List.take_succ_eq_append_getElem hlt]
      have hp := List.pairwise_append.1 (show Sorted (L.take k ++ [L[k]]) by rw [← List.take_succ_eq_append_getElem hlt]; exact List.Pairwise.sublist (List.take_sublist _ _) h)
      have h1 : loL (L.take k) L[k].1 = L.take k := filter_all fun x hx => by simpa using hp.2.2 x hx L[k] (by simp)
      have h2 : hiL (L.take k) L[k].1 = [] := filter_none fun x hx => by have := hp.2.2 x hx L[k] (by simp); simp; omega
      unfold putL
      rw [h1, h2]
  have := key L.length (Nat.le_refl _)
  rwa [List.take_length] at this
set_option maxHeartbeats 2000000 in
/-- a map of items -/
theorem of_any {v : Value} {l : List It} {w : World} (hS : Told w v l) (hk : ∀ x ∈ l, x.1 < 18446744073709551616) (hl : l.length ≤ 900000) :
    Calls Try.prog 58 #[v] w fun e w' => e = .returned (.pointer (some ⟨w.heap.size, 0, none⟩)) ∧ RHas w.heap.size w w' w.heap.size (fillL l) := by
  obtain ⟨a, c, rfl⟩ := told_shape hS
  obtain ⟨n, hn⟩ : ∃ n, n = l.length := ⟨_, rfl⟩
  rw [← hn] at hl
  rw [← hn]
  rw [← hn] at hS
  have HS := Lib.hid hS
  have HN := Lib.hid hn
  have HK := Lib.hid hk
  have H1 := Lib.hid (rhas_new w)
  clear hS hn hk
  go_enter Try.func58, Try.ntmps58
  go_upto_region 3 with (fail)
  generalize w.alloc _ = W at *
  go_loopw [4] (fun i wr => ∃ k : Nat, k ≤ n ∧ i = .int .i64 k ∧ RHas w.heap.size w wr w.heap.size (fillL (l.take k))) (fun i _ => n - (intOf i).toNat)
  case atStart => exact ⟨0, by omega, rfl, H1.out⟩
  case round =>
    obtain ⟨k, hkn, rfl, hH⟩ := hrel
    have HH := Lib.hid hH
    clear hH H1
    by_cases hlt : k < n
    · obtain ⟨x, hx⟩ : ∃ x, l[k]? = some x := ⟨_, List.getElem?_eq_getElem (by have := HN.out; omega)⟩
      have hbd := (HH.out.bel (drew_bel wr))
      obtain ⟨b, o, e1, x1, x2, _⟩ := told_at (HS.out.bel hbd.below) hx
      obtain rfl := e1
      have hfl := fill_succ l k x hx
      have hky := HK.out x (List.mem_of_getElem? hx)
      have hlen := (fill_ok l 18446744073709551616 HK.out k (by have := HN.out; omega)).2.1
      have HF : Hid (Calls Try.prog 59 #[.pointer (some ⟨w.heap.size, 0, none⟩), .int .u64 (x.1 : Int), .string x.2] wr.drew fun e w' => (∃ p q r, e = .returned (.tuple #[p, q, r])) ∧ RHas w.heap.size w w' w.heap.size (fillL (l.take (k + 1)))) := by
        rw [hfl]
        unfold addL
        split
        · rename_i h6
          refine (rhas_put hbd x.1 x.2 h6 (by omega) hky).mono ?_
          rintro e w' ⟨rfl, h⟩
          exact ⟨⟨_, _, _, rfl⟩, h⟩
        · rename_i h6
          refine (refput_big _ x.1 x.2 (by omega) _).mono ?_
          rintro e w' ⟨rfl, rfl⟩
          exact ⟨⟨_, _, _, rfl⟩, hbd⟩
      clear hfl hky hlen hbd hx
      go_upto_region 5 with (fail)
      refine wp_region_tailP 11 0 _ _ rfl rfl rfl (by kernel_rfl) (by kernel_rfl) (fun _ _ _ _ _ h => h) ?_
      simp only [List.take_succ_cons, List.take_zero, List.drop_succ_cons, List.drop_zero, List.eraseIdx_cons_zero]
      repeat still_step
      refine wpStill_nil ?_
      go_wp2_with (go_at_call 59; (with_reducible refine HF.out.mono ?_); rintro e w3 ⟨⟨p, q, r, rfl⟩, hH⟩; have HB := Lib.hid hH; clear hH)
      exact ⟨⟨k + 1, by omega, by go_num, HB.out⟩, by simp [intOf]; omega⟩
    · obtain rfl : n = k := by omega
      have ht : l.take n = l := by rw [HN.out, List.take_length]
      rw [ht] at HH
      clear ht
      go_wp2
      go_ret
      exact ⟨rfl, HH.out⟩
set_option maxHeartbeats 2000000 in
/-- a record in memory of its own -/
theorem own_rec {r : Rc} {u : Value} {w : World} (hT : Told w u r.items) (hl : r.items.length ≤ 1000000) :
    Calls Try.prog 18 #[.agg (recC r u)] w fun e w' => ∃ v, e = .returned (.agg (recC r v)) ∧ Told w' v r.items ∧ Below w.heap.size w w' := by
  obtain ⟨a, c, rfl⟩ := told_shape hT
  have A0 := (Blk.new w (recC r (.slice a r.items.length c)) 27).alloc (.cells (recC zeroR (.slice none 0 0)) 27)
  have Z0 := Blk.new (w.alloc (.cells (recC r (.slice a r.items.length c)) 27)) (recC zeroR (.slice none 0 0)) 27
  rw [World.size_alloc] at Z0
  have B0 := ((Below.refl w.heap.size w).alloc (Nat.le_refl _) (.cells (recC r (.slice a r.items.length c)) 27)).alloc (by simp) (.cells (recC zeroR (.slice none 0 0)) 27)
  have T0 := hT.bel B0
  clear hT
  obtain ⟨V, hV⟩ : ∃ V, V = (w.alloc (.cells (recC r (.slice a r.items.length c)) 27)).alloc (.cells (recC zeroR (.slice none 0 0)) 27) := ⟨_, rfl⟩
  rw [← hV] at A0 Z0 B0 T0
  have c1 : V.cell? ⟨w.heap.size, 1, none⟩ = some (.slice a r.items.length c) := A0.cell 1
  go_enter Try.func18, Try.ntmps18
  go_upto_region 1 with (fail)
  rw [zero_rec, ← hV]
  clear hV
  go_upto_region 3 with (at_builtin; refine wpList_joinA rfl _ _ rfl V.heap.size (.slice none 0 0) [] r.items 0 r.items.length rfl (World.ownsRow_nil _ _ _ _) _ rfl T0 (by omega) (Below.refl V.heap.size V) (Nat.le_refl _) ?_; intro v w1 hO hb1 hs1)
  rw [List.nil_append, Nat.zero_add] at hO
  have T1 := told_own hO
  have A1 := A0.below hb1 A0.lt
  have Z1 := Z0.below hb1 Z0.lt
  have B1 := rstep B0 hb1
  obtain ⟨a1, k1, rfl⟩ := told_shape T1
  clear c1 A0 Z0 B0 T0 hO hb1 hs1
  have d1 : w1.cell? ⟨w.heap.size, 1, none⟩ = some (.slice a r.items.length c) := A1.cell 1
  have f1 : w1.frozen? ⟨w.heap.size, 1, none⟩ = false := A1.free 1
  go_upto_region 4 with (fail)
  clear d1 f1
  have A2 : Blk (w1.setCell ⟨w.heap.size, 1, none⟩ (.slice a1 r.items.length k1)) w.heap.size (recC r (.slice a1 r.items.length k1)) 27 := A1.put 1 _
  have Z2 := Z1.other w.heap.size 1 (.slice a1 r.items.length k1) (by omega)
  have B2 := B1.setCell (p := ⟨w.heap.size, 1, none⟩) (Nat.le_refl _) (.slice a1 r.items.length k1)
  have T2 := told_setCell T1 A1 (noIt_rec _ _) 1 (.slice a1 r.items.length k1)
  clear A1 Z1 B1 T1
  generalize w1.setCell _ _ = W2 at *
  go_wp2_with (first
    | (refine p_loadR rfl _ rfl w.heap.size rfl r (.slice a1 r.items.length k1) A2 ?_)
    | (refine p_storeR rfl _ _ rfl (w.heap.size + 1) rfl r (.slice a1 r.items.length k1) rfl rfl zeroR (.slice none 0 0) Z2 ?_))
  exact bodyPost_ret (results_rec1 Try.results18 _ _ (w.heap.size + 1) _ _ rfl (Z2.setRow _)) rfl ⟨_, rfl, told_setRow T2 Z2 (noIt_rec _ _) _, bel_setRow B2 (by omega) _⟩
end Go.Proofs.Ytkicndengkcojaa
