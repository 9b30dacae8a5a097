/- One peer's table and all peers' tables, as they are when all is settled. -/
import Derived.Test.YtfajfmcabpmchaaTabNew
import Derived.Test.YtfajfmcabpmchaaWalRow
import Derived.Deep.CutRange
namespace Go.Proofs.Ytfajfmcabpmchaa
set_option maxRecDepth 100000
open Go Go.RowKit Go.Sort

theorem lies_from {w : World} {b o c : Nat} {L : List Pe} (hr : w.rangeAt b o (flat L)) (hc : L.length ≤ c) {r : Nat} (hle : r ≤ L.length) : Lies w (sliced (some ⟨b, o, none⟩) r L.length c 21) (L.drop r) := by
  unfold sliced
  by_cases hcr : c = r
  · rw [if_pos hcr]
    have h4 : L.drop r = [] := List.drop_eq_nil_of_le (by omega)
    rw [h4, show L.length - r = 0 by omega]
    exact .inr ⟨b, o, _, rfl, Nat.zero_le _, fun j u hu => by simp [flat] at hu⟩
  · rw [if_neg hcr]
    refine .inr ⟨b, o + r * 21, c - r, by simp [Addr.add_mid], by rw [List.length_drop]; omega, ?_⟩
    rw [← flat_drop]
    exact range_drop hr _
theorem y_fromL {ops : Array Oper} {S : World → Prop} {op : Oper} {a : Act} (hw : Region.wanted op (yielded ops a.tmps) = true) (s lo : Operand)
    (ho : op.op = .slice 37 s (some lo) none none) (b o n c r : Nat) (hs : a.eval s = .slice (some ⟨b, o, none⟩) n c) (hlo : a.eval lo = .int .i64 (r : Int)) (hr : r ≤ n) (v : Value) (hv : sliced (some ⟨b, o, none⟩) r n c 21 = v) : YieldsIf Try.prog ops S op v a := by
  refine .inl ⟨hw, fun w _ => ?_⟩
  obtain ⟨i, hi', hq⟩ := Option.map_eq_some_iff.1 sizeP
  have run : (Instr.sliceAt 37 (.slice (some ⟨b, o, none⟩) n c) (some (.int .i64 (r : Int))) none none).run Try.prog w = .ok (sliced (some ⟨b, o, none⟩) r n c 21) w := by
    rw [run_sliceAt_slice w 37 _ _ _ _ sliceP, run_slice_l w 37 _ n c sliceP .i64 (r : Int) (by omega) (by omega), elemP]
    simp [sizeOf, typeInfo, hi', Result.andThen, hq]
  unfold execOp
  simp only [ho, Option.map, hs, hlo, Sem.run_bind, Result.andThen_ok, run, hv, Sem.run_pure]
theorem o_slices2 {op : Oper} {act : Act} {w : World} {K : Act → World → Prop} {Q : Exit → Act → World → Prop} (x y : Operand) (ho : op.op = .buildSlice 91 2 #[(0, x), (1, y)])
    (a b : Option Addr) (n c m d : Nat) (hx : act.eval x = .slice a n c) (hy : act.eval y = .slice b m d) (h : K (act.put op.dst (.slice (some ⟨w.heap.size, 0, none⟩) 2 2)) (w.alloc (.cells #[.slice a n c, .slice b m d] 37))) : op.wp Try.prog act w K Q := by
  unfold Oper.wp execOp
  simp only [ho, List.map_toArray, List.map_cons, List.map_nil, hx, hy, Sem.run_bind, run_slices2 a b n c m d w, Sem.run_pure, Result.andThen_ok]
  exact h
/-- row[:k] of a row of one's own -/
theorem p_upO {w : World} {ops : Array Oper} {rest : List Oper} {o : Oper} {a : Act} {Q : Exit → Act → World → Prop} (hgd : o.guard = none) (s hi_ : Operand)
    (ho : o.op = .slice 37 s none (some hi_) none) (v : Value) (L : List Pe) (n k B : Nat) (hs : a.eval s = v) (hlo : a.eval hi_ = .int .i64 (k : Int)) (hk : k ≤ n) (hn : n = L.length) (hown : w.ownsRow B 28 21 v n (flat L))
    (h : ∀ v', Lies w v' (L.take k) → (∀ j, v'.ownBlock = some j → v.ownBlock = some j) → wpList Try.prog ops Q rest (a.put o.dst v') w) : wpList Try.prog ops Q (o :: rest) a w := by
  subst hn
  obtain ⟨i, hi', hq⟩ := Option.map_eq_some_iff.1 sizeP
  have run : ∀ (al : Option Addr) (c : Nat), L.length ≤ c → (Instr.sliceAt 37 (.slice al L.length c) none (some (.int .i64 (k : Int))) none).run Try.prog w = .ok (sliced al 0 k c 21) w := fun al c hc => by
    rw [run_sliceAt_slice w 37 _ _ _ _ sliceP, run_slice_h w 37 _ L.length c sliceP .i64 (k : Int) (by omega) (by omega), elemP]
    simp [sizeOf, typeInfo, hi', Result.andThen, hq]
  refine wpList_plain hgd fun K hK => ?_
  unfold Oper.wp execOp
  rcases own_shape hown with ⟨rfl, h0⟩ | ⟨b, c, rfl, hc, _, hrg, _, _⟩
  · have e := run none 0 (by omega)
    rw [h0] at e
    obtain rfl : k = 0 := by omega
    simp only [ho, Option.map, hs, hlo, Sem.run_bind, Result.andThen_ok, e]
    refine hK _ _ (h _ (.inl ⟨⟨none, by simp [sliced]⟩, by rw [List.take_zero]⟩) (fun j hj => ?_))
    simp [sliced, Value.ownBlock] at hj
  · have e := run (some ⟨b, 0, none⟩) c hc
    have hv : sliced (some ⟨b, 0, none⟩) 0 k c 21 = .slice (some ⟨b, 0, none⟩) k c := by
      unfold sliced; split <;> simp [Addr.add_mid]
    rw [hv] at e
    simp only [ho, Option.map, hs, hlo, Sem.run_bind, Result.andThen_ok, e]
    exact hK _ _ (h _ (lies_take hrg hc hk) (fun j hj => hj))
theorem concat_two {w : World} {h m : Nat} {a b : Value} {A B : List Pe} (hB : Blk w h #[a, b] 37) (hA : Lies w a A) (hB2 : Lies w b B) (hm : (A ++ B).length = m) (hl : m ≤ 100000) :
    Calls Try.prog 65 #[.slice (some ⟨h, 0, none⟩) 2 2] w fun e w' => ∃ v, e = .returned v ∧ w'.ownsRow h 28 21 v m (flat (A ++ B)) ∧ Below w.heap.size w w' := by
  have e : cat [(a, A), (b, B)] = A ++ B := by simp [cat]
  have h1 := concat_any (S := [(a, A), (b, B)]) hB (fun i x hx => by
    rcases i with _ | _ | i
    · rw [List.getElem?_cons_zero, Option.some.injEq] at hx; subst hx; exact hA
    · rw [List.getElem?_cons_succ, List.getElem?_cons_zero, Option.some.injEq] at hx; subst hx; exact hB2
    · simp at hx) (by rw [e, hm]; exact hl) (by simp)
  rw [e, hm] at h1
  refine h1.mono fun e w' ⟨v, he, ho, hb⟩ => ⟨v, he, ?_, hb⟩
  exact own_up (own_down ho) fun k hk => Nat.le_trans (Nat.le_of_lt hB.lt) (ho.lt k hk).1
/-! what is settled, place by place -/
theorem others_get {L : List Pe} {i k : Nat} (hi : i < L.length) (hk : k + 1 < L.length) : (L.drop (i + 1) ++ L.take i).getD k (0, 0) = L.getD ((i + 1 + k) % L.length) (0, 0) := by
  rw [List.getD_eq_getElem?_getD, List.getD_eq_getElem?_getD, mod2 (x := i + 1 + k) (by omega)]
  congr 1
  split
  · rename_i h
    rw [List.getElem?_append_left (by rw [List.length_drop]; omega), List.getElem?_drop]
  · rename_i h
    rw [List.getElem?_append_right (by rw [List.length_drop]; omega), List.length_drop, List.getElem?_take, if_pos (by omega)]
    congr 1
    omega
theorem others_len {L : List Pe} {i : Nat} (hi : i < L.length) : (L.drop (i + 1) ++ L.take i).length = L.length - 1 := by
  rw [List.length_append, List.length_drop, List.length_take]; omega
theorem setT_S {L : List Pe} {r i : Nat} (hi : i < L.length) : (L.drop (i + 1) ++ L.take i).take (min r (L.length - 1)) = (setT L r i).S := by
  apply List.ext_getElem?
  intro k
  unfold setT
  dsimp only
  rw [List.getElem?_take, List.getElem?_map]
  by_cases hk : k < min r (L.length - 1)
  · rw [if_pos hk, List.getElem?_range hk, Option.map_some, ← others_get hi (by omega), List.getD_eq_getElem?_getD]
    rw [List.getElem?_eq_getElem (by rw [others_len hi]; omega)]; rfl
  · rw [if_neg hk, List.getElem?_eq_none (by rw [List.length_range]; omega)]; rfl
theorem setT_p {L : List Pe} {r i : Nat} (hi : i < L.length) (h2 : 2 ≤ L.length) : (L.drop (i + 1) ++ L.take i).getD (L.length - 1 - 1) (0, 0) = (setT L r i).p := by
  rw [others_get hi (by omega)]
  unfold setT
  dsimp only
  rw [if_neg (by omega)]
  congr 2
  omega
/-- the finger k -/
def fgT (L : List Pe) (i k : Nat) : Pe := if ownN L ((pn L i + 2 ^ k) % M) = i then (-1, 0) else L.getD (ownN L ((pn L i + 2 ^ k) % M)) (0, 0)
theorem setT_F (L : List Pe) (r i : Nat) : seg (fgT L i) 0 160 = (setT L r i).F := by
  have e : (setT L r i).F = (List.range 160).map (fgT L i) := rfl
  rw [e]
  unfold seg
  simp
/-- ahead of those behind -/
structure PreS (g g7 fb g4 : Nat) (w wx : World) (s p : Pe) (vo : Value) (O : List Pe) : Prop where
  bel : Below g w wx
  t : TB wx g7 s p nilS (.slice (some ⟨fb, 0, none⟩) 160 160)
  x : TB wx g (0, 0) (0, 0) nilS nilS
  d : Dat wx fb 0 (fun' (rep 160 (-1, 0))) 160
  o : wx.ownsRow g4 28 21 vo O.length (flat O)
/-- while the fingers are set -/
structure SetW (g g7 fb : Nat) (w wr : World) (s p : Pe) (sv : Value) (f : Nat → Pe) (u : Value) (O : List Int) (S : List Pe) : Prop where
  bel : Below g w wr
  t : TB wr g7 s p sv (.slice (some ⟨fb, 0, none⟩) 160 160)
  x : TB wr g (0, 0) (0, 0) nilS nilS
  d : Dat wr fb 0 f 160
  l : Lies wr sv S
  o : Nums wr u O
  ord : g < g7 ∧ g < fb ∧ fb ≠ g7
  ne : (0 < S.length → sv.ownBlock ≠ some fb) ∧ (0 < S.length → sv.ownBlock ≠ some g) ∧ u.ownBlock ≠ some fb
theorem SetW.put {g g7 fb k : Nat} {w wr : World} {s p : Pe} {sv : Value} {f : Nat → Pe} {u : Value} {O : List Int} {S : List Pe} (h : SetW g g7 fb w wr s p sv f u O S) (hk : k < 160) (y : Pe) :
    SetW g g7 fb w (wr.setCells fb (0 + k * 21) (peC y)) s p sv (fun j => if j = k then y else f j) u O S := by
  have hgr := grown_set wr fb (0 + k * 21) (peC y)
  obtain ⟨o1, o2, o3⟩ := h.ord
  have hlt := h.d.lt
  have l7 := h.t.lt
  have same : ∀ j, j ≠ fb → j < wr.heap.size → (wr.setCells fb (0 + k * 21) (peC y)).heap[j]? = wr.heap[j]? := fun j hj hl => hgr.block j hl (by simpa using hj)
  refine ⟨⟨hgr.os.trans h.bel.os, hgr.tape.trans h.bel.tape, hgr.output.trans h.bel.output, Nat.le_trans h.bel.size hgr.size, fun j hj => (same j (by omega) (by omega)).trans (h.bel.block j hj)⟩,
    (same g7 (fun e => o3 e.symm) l7).trans h.t, (same g (by omega) (by omega)).trans h.x, h.d.set hk y, lies_but h.l hgr h.ne.1, ?_, h.ord, h.ne⟩
  rcases h.o with h1 | ⟨b, o, c, h1, h2⟩
  · exact .inl h1
  · refine .inr ⟨b, o, c, h1, ?_⟩
    have hb : b ≠ fb := fun e => h.ne.2.2 (by rw [h1, e]; rfl)
    cases O with
    | nil => intro j v hj; simp [ints] at hj
    | cons z O =>
      have hlb := range_lt h2 (by simp [ints])
      exact fun j v hj => (World.cell?_of_block (a := ⟨b, o + j, none⟩) (same b hb hlb)).trans (h2 j v hj)
theorem SetW.congr {g g7 fb : Nat} {w wr : World} {s p : Pe} {sv : Value} {f f' : Nat → Pe} {u : Value} {O : List Int} {S : List Pe} (h : SetW g g7 fb w wr s p sv f u O S) (e : ∀ k, k < 160 → f k = f' k) : SetW g g7 fb w wr s p sv f' u O S :=
  ⟨h.bel, h.t, h.x, h.d.congr e, h.l, h.o, h.ord, h.ne⟩
theorem SetW.bel2 {g g7 fb : Nat} {w wr w' : World} {s p : Pe} {sv : Value} {f : Nat → Pe} {u : Value} {O : List Int} {S : List Pe} (h : SetW g g7 fb w wr s p sv f u O S) (hg : w.heap.size = g) (hb : Below wr.heap.size wr w') : SetW g g7 fb w w' s p sv f u O S :=
  ⟨belTo hg h.bel hb, h.t.bel hb, h.x.bel hb, h.d.bel hb, h.l.bel hb, h.o.bel hb, h.ord, h.ne⟩
/-- what a settled table is in memory -/
def SetP (B : Nat) (t : Tb) (e : Ending) (w' : World) : Prop := ∃ u v, e = .returned (.agg (tabA t.s t.p u v)) ∧ Lies w' u t.S ∧ Lies w' v t.F ∧ (0 < t.S.length → ∀ k, u.ownBlock = some k → B ≤ k) ∧ ∀ k, v.ownBlock = some k → B ≤ k
theorem nums_own {w : World} {B : Nat} {v : Value} {l : List Int} (h : Cr.Row B w v l) : Nums w v l := by
  rcases own_shape h with ⟨h1, h2⟩ | ⟨b, c, h1, h2, _, h4, _⟩
  · exact .inl ⟨h1, List.eq_nil_of_length_eq_zero h2⟩
  · exact .inr ⟨b, 0, c, h1, h4⟩
theorem nums_len {w : World} {a : Option Addr} {n c : Nat} {A : List Int} (h : Nums w (.slice a n c) A) : A.length = n := by
  obtain ⟨a', c', e⟩ := h.form
  simp only [Value.slice.injEq] at e
  exact e.2.1.symm
theorem fing_at (L : List Pe) (i : Nat) {k : Nat} (hk : k < 160) : (Cr.fingN L i 160).getD k 0 = ((ownN L ((pn L i + 2 ^ k) % M) : Nat) : Int) := by
  unfold Cr.fingN
  rw [List.getD_eq_getElem?_getD, List.getElem?_map, List.getElem?_range hk]; rfl
theorem new_yes {B : Nat} {x : Pe} {e : Ending} {w' : World} (ha : addrB x.1 = true) (h : NewP B x (addrB x.1) e w') : ∃ b, e = .returned (.tuple #[.agg (tabA x (-1, 0) nilS (.slice (some ⟨b, 0, none⟩) 160 160)), .int .i64 0]) ∧ B ≤ b ∧ Dat w' b 0 (fun' (rep 160 (-1, 0))) 160 := by
  rw [ha] at h
  rcases h with ⟨h, _⟩ | ⟨_, r2, he, _, b, rfl, hb, hd⟩
  · cases h
  · exact ⟨b, he, hb, hd⟩
set_option maxHeartbeats 8000000 in
theorem settled_any {w : World} {v : Value} {L : List Pe} (i r : Nat) (hL : Lies w v L) (hw : Wf L) (hC : Circ L) (hi : i < L.length) :
    Calls Try.prog 35 #[v, .int .i64 (i : Int), .int .i64 (r : Int)] w fun e w' => SetP w.heap.size (setT L r i) e w' ∧ Below w.heap.size w w' := by
  have hn16 := hC.1
  have B0 := (Below.refl w.heap.size w).alloc (Nat.le_refl _) (.cells (tabA (0, 0) (0, 0) nilS nilS) 43)
  have X0 := TB.zero w
  have hL0 := hL.bel B0
  have hx : L[i]? = some (L.getD i (0, 0)) := getD_at hi
  have had : addrB (L.getD i (0, 0)).1 = true := addr_iff.2 ⟨(hC.2 i hi).1, (hC.2 i hi).2.1⟩
  obtain ⟨b, o, c, rfl, hc, hrg, r1, hlb⟩ := hL.at hx
  obtain ⟨n, hn⟩ : ∃ n, n = L.length := ⟨_, rfl⟩
  have HW := Lib.hid hw
  have HC := Lib.hid hC
  have HL := Lib.hid hL
  have HRG := Lib.hid hrg
  have HCC := Lib.hid hc
  rw [← hn] at hc hi hn16 ⊢
  have HN := Lib.hid hn
  have r2 := range_bel r1 B0 hlb
  have hs0 := B0.size
  clear hL0 hx hn hw hC r1 hc hrg
  go_enter Try.func35, Try.ntmps35
  go_upto_region 1 with (fail)
  rw [tab_zero]
  have l0 : w.heap.size < (w.alloc (.cells (tabA (0, 0) (0, 0) nilS nilS) 43)).heap.size := by simp
  generalize w.alloc _ = W at *
  generalize hg : w.heap.size = g at *
  have bi : (i : Int) < (n : Int) := by omega
  have bz : (0 : Int) ≤ (i : Int) := by omega
  generalize hself : L.getD i (0, 0) = self at *
  have HSELF := Lib.hid hself
  clear hself
  go_upto_region 2 with (first
    | (refine p_midP rfl _ rfl b (o + i * 21) rfl self r2 ?_)
    | (go_at_call 64; (with_reducible refine (new_any self).mono ?_); rintro e w1 ⟨hP, k1⟩; obtain ⟨fb, rfl, hfb, hD⟩ := new_yes had hP)
    | (refine p_storeT rfl rfl _ _ rfl rfl rfl rfl rfl ?_))
  (try simp only [Act.put])
  have T2 := TB.new w1 self (-1, 0) nilS (.slice (some ⟨fb, 0, none⟩) 160 160)
  have A2 := (Below.refl w1.heap.size w1).alloc (Nat.le_refl _) (.cells (tabA self (-1, 0) nilS (.slice (some ⟨fb, 0, none⟩) 160 160)) 43)
  have B2 := belTo hg (belTo hg B0 k1) A2
  have X2 := (X0.bel k1).bel A2
  have D2 := hD.bel A2
  have lfb := hD.lt
  have l7 : W.heap.size ≤ w1.heap.size := k1.size
  clear hP k1 hD A2 r2 B0 X0 had
  generalize w1.alloc _ = W2 at *
  generalize w1.heap.size = g7 at *
  -- the others
  have hlen1 : (L.drop (i + 1)).length = n - (i + 1) := by rw [List.length_drop, ← HN.out]
  obtain ⟨va, hva⟩ : ∃ va, sliced (some ⟨b, o, none⟩) (i + 1) n c 21 = va := ⟨_, rfl⟩
  have hlf : Lies w va (L.drop (i + 1)) := by
    rw [← hva, HN.out]
    exact lies_from HRG.out HCC.out (by rw [HN.out] at hi; omega)
  obtain ⟨a1, c1, rfl⟩ := hlf.form
  have hlt := lies_take HRG.out HCC.out (i := i) (by rw [HN.out] at hi; omega)
  rw [hlen1] at hva hlf
  generalize hq1 : n - (i + 1) = q1 at *
  have hw1 : IntKind.i64.wrap ((i : Int) + 1) = (i : Int) + 1 := IntWalk.i64_in _ (by omega)
  have hi1 : i + 1 ≤ n := by omega
  have hic : i ≤ c := by have := HCC.out; rw [HN.out] at hi; omega
  have hcn : n ≤ c := by have := HCC.out; rw [HN.out]; exact this
  have HLF := Lib.hid hlf
  have HLT := Lib.hid hlt
  have HVA := Lib.hid hva
  clear hlf hlt hva hlen1
  refine wp_region_held_drew (S := (fun _ => True)) (by kernel_rfl) ?_ (fun hHeld => ?_)
  · trivial
  have B3 := belTo hg B2 (drew_bel W2)
  have X3 := X2.bel (drew_bel W2)
  have D3 := D2.bel (drew_bel W2)
  have T3 := T2.bel (drew_bel W2)
  clear B2 X2 D2 T2
  generalize World.drew W2 = W3 at *
  refine wpAnyH_take (i := 0) (v := ?_) rfl (by kernel_rfl) (by kernel_rfl) (by kernel_rfl) (fun _ _ _ h => h) (Or.inl ⟨by rfl, ?_⟩) (by assumption) ?_
  rotate_left
  · intro w9 hSw
    (try dsimp only at hSw)
    go_simp
    (try with_reducible rfl)
  (try simp only [Act.put]); (try simp only [List.setIfInBounds_toArray]); (try simp only [List.set_cons_succ]); (try simp only [List.set_cons_zero])
  iterate 1
    (try dsimp only [List.getElem_toArray, List.getElem_cons_succ, List.getElem_cons_zero])
    (try simp only [Act.put]); (try simp only [List.setIfInBounds_toArray]); (try simp only [List.set_cons_succ]); (try simp only [List.set_cons_zero])
  refine wpAnyH_take (i := 1) (v := ?_) rfl (by kernel_rfl) (by kernel_rfl) (by kernel_rfl) (fun _ _ _ h => h) (Or.inl ⟨by rfl, ?_⟩) (by assumption) ?_
  rotate_left
  · intro w9 hSw
    (try dsimp only at hSw)
    go_simp
    (try with_reducible rfl)
  (try simp only [Act.put]); (try simp only [List.setIfInBounds_toArray]); (try simp only [List.set_cons_succ]); (try simp only [List.set_cons_zero])
  iterate 1
    (try dsimp only [List.getElem_toArray, List.getElem_cons_succ, List.getElem_cons_zero])
    (try simp only [Act.put]); (try simp only [List.setIfInBounds_toArray]); (try simp only [List.set_cons_succ]); (try simp only [List.set_cons_zero])
  refine wpAnyH_take (i := 2) (v := ?_) rfl (by kernel_rfl) (by kernel_rfl) (by kernel_rfl) (fun _ _ _ h => h) (Or.inl ⟨by rfl, ?_⟩) (by assumption) ?_
  rotate_left
  · intro w9 hSw
    (try dsimp only at hSw)
    go_simp
    (try with_reducible rfl)
  (try simp only [Act.put]); (try simp only [List.setIfInBounds_toArray]); (try simp only [List.set_cons_succ]); (try simp only [List.set_cons_zero])
  iterate 1
    (try dsimp only [List.getElem_toArray, List.getElem_cons_succ, List.getElem_cons_zero])
    (try simp only [Act.put]); (try simp only [List.setIfInBounds_toArray]); (try simp only [List.set_cons_succ]); (try simp only [List.set_cons_zero])
  refine wpAnyH_take (i := 3) (oi := { dst := some 25, op := Op.slice 37 (Operand.tmp 22) (some (Operand.tmp 24)) none none, type := 37, pos := "walk.go:29", after := #[{ on := 0, ground := Ground.data }, { on := 2, ground := Ground.data }], guard := none }) (v := (.slice a1 q1 c1)) rfl (by kernel_rfl) (by kernel_rfl) (by kernel_rfl) (fun _ _ _ h => h) (y_fromL (by rfl) (.tmp 22) (.tmp 24) rfl b o n c (i + 1) rfl rfl hi1 _ HVA.out) (by assumption) ?_
  (try simp only [Act.put]); (try simp only [List.setIfInBounds_toArray]); (try simp only [List.set_cons_succ]); (try simp only [List.set_cons_zero])
  iterate 1
    (try dsimp only [List.getElem_toArray, List.getElem_cons_succ, List.getElem_cons_zero])
    (try simp only [Act.put]); (try simp only [List.setIfInBounds_toArray]); (try simp only [List.set_cons_succ]); (try simp only [List.set_cons_zero])
  refine wpAnyH_take (i := 4) (v := ?_) rfl (by kernel_rfl) (by kernel_rfl) (by kernel_rfl) (fun _ _ _ h => h) (Or.inl ⟨by rfl, ?_⟩) (by assumption) ?_
  rotate_left
  · intro w9 hSw
    (try dsimp only at hSw)
    go_simp
    (try with_reducible rfl)
  (try simp only [Act.put]); (try simp only [List.setIfInBounds_toArray]); (try simp only [List.set_cons_succ]); (try simp only [List.set_cons_zero])
  iterate 1
    (try dsimp only [List.getElem_toArray, List.getElem_cons_succ, List.getElem_cons_zero])
    (try simp only [Act.put]); (try simp only [List.setIfInBounds_toArray]); (try simp only [List.set_cons_succ]); (try simp only [List.set_cons_zero])
  refine wpAnyH_take (i := 5) (v := ?_) rfl (by kernel_rfl) (by kernel_rfl) (by kernel_rfl) (fun _ _ _ h => h) (Or.inl ⟨by rfl, ?_⟩) (by assumption) ?_
  rotate_left
  · intro w9 hSw
    (try dsimp only at hSw)
    go_simp
    (try with_reducible rfl)
  (try simp only [Act.put]); (try simp only [List.setIfInBounds_toArray]); (try simp only [List.set_cons_succ]); (try simp only [List.set_cons_zero])
  iterate 1
    (try dsimp only [List.getElem_toArray, List.getElem_cons_succ, List.getElem_cons_zero])
    (try simp only [Act.put]); (try simp only [List.setIfInBounds_toArray]); (try simp only [List.set_cons_succ]); (try simp only [List.set_cons_zero])
  refine wpAnyH_take (i := 6) (oi := { dst := some 28, op := Op.slice 37 (Operand.tmp 26) none (some (Operand.tmp 27)) none, type := 37, pos := "walk.go:29", after := #[{ on := 4, ground := Ground.data }, { on := 5, ground := Ground.data }], guard := none }) (v := (.slice (some ⟨b, o, none⟩) i c)) rfl (by kernel_rfl) (by kernel_rfl) (by kernel_rfl) (fun _ _ _ h => h) (y_uptoS (by rfl) (.tmp 26) (.tmp 27) rfl b o n c i rfl rfl hic) (by assumption) ?_
  (try simp only [Act.put]); (try simp only [List.setIfInBounds_toArray]); (try simp only [List.set_cons_succ]); (try simp only [List.set_cons_zero])
  iterate 1
    (try dsimp only [List.getElem_toArray, List.getElem_cons_succ, List.getElem_cons_zero])
    (try simp only [Act.put]); (try simp only [List.setIfInBounds_toArray]); (try simp only [List.set_cons_succ]); (try simp only [List.set_cons_zero])
  refine wpAnyH_ready (rs := [7]) (by kernel_rfl) (by simp) ?_
  refine AllReadyH.cons rfl (fun K hK => ?_) ?_
  rotate_left
  · exact AllReadyH.nil
  rw [if_pos (by rfl)]
  refine o_slices2 _ _ rfl a1 (some ⟨b, o, none⟩) q1 c1 i c rfl rfl ?_
  refine hK.out _ _ ?_ (fun hHeld => ?_)
  · trivial
  clear hK K
  (try simp only [Act.put]); (try simp only [List.setIfInBounds_toArray]); (try simp only [List.set_cons_succ]); (try simp only [List.set_cons_zero])
  iterate 1
    (try dsimp only [List.getElem_toArray, List.getElem_cons_succ, List.getElem_cons_zero])
    (try simp only [Act.put]); (try simp only [List.setIfInBounds_toArray]); (try simp only [List.set_cons_succ]); (try simp only [List.set_cons_zero])
  have A4 := (Below.refl W3.heap.size W3).alloc (Nat.le_refl _) (.cells #[.slice a1 q1 c1, .slice (some ⟨b, o, none⟩) i c] 37)
  have hCC := concat_two (Blk.new W3 #[.slice a1 q1 c1, .slice (some ⟨b, o, none⟩) i c] 37) (HLF.out.bel (by rw [hg]; exact belTo hg B3 A4)) (HLT.out.bel (by rw [hg]; exact belTo hg B3 A4)) (m := n - 1) (by rw [others_len (by rw [← HN.out]; exact hi), ← HN.out]) (by omega)
  have B4 := belTo hg B3 A4
  have X4 := X3.bel A4
  have D4 := D3.bel A4
  have T4 := T3.bel A4
  have l4 : g7 < W3.heap.size := T3.lt
  clear A4 X3 D3 T3 B3
  generalize W3.heap.size = g4 at *
  generalize W3.alloc _ = W4 at *
  refine wpAnyH_ready (rs := [8]) (by kernel_rfl) (by simp) ?_
  refine AllReadyH.cons rfl (fun K hK => ?_) ?_
  rotate_left
  · exact AllReadyH.nil
  go_simp
  go_wp2_with (go_at_call 65; (with_reducible refine hCC.mono ?_); rintro e w5 ⟨vo, rfl, ho, k5⟩)
  refine hK.out _ _ ?_ (fun hHeld => ?_)
  · trivial
  clear hK K
  (try simp only [Act.put]); (try simp only [List.setIfInBounds_toArray]); (try simp only [List.set_cons_succ]); (try simp only [List.set_cons_zero])
  iterate 1
    (try dsimp only [List.getElem_toArray, List.getElem_cons_succ, List.getElem_cons_zero])
    (try simp only [Act.put]); (try simp only [List.setIfInBounds_toArray]); (try simp only [List.set_cons_succ]); (try simp only [List.set_cons_zero])
  refine wpAnyH_take (i := 9) (v := ?_) rfl (by kernel_rfl) (by kernel_rfl) (by kernel_rfl) (fun _ _ _ h => h) (Or.inl ⟨by rfl, ?_⟩) (by assumption) ?_
  rotate_left
  · intro w9 hSw
    (try dsimp only at hSw)
    go_simp
    (try with_reducible rfl)
  (try simp only [Act.put]); (try simp only [List.setIfInBounds_toArray]); (try simp only [List.set_cons_succ]); (try simp only [List.set_cons_zero])
  iterate 1
    (try dsimp only [List.getElem_toArray, List.getElem_cons_succ, List.getElem_cons_zero])
    (try simp only [Act.put]); (try simp only [List.setIfInBounds_toArray]); (try simp only [List.set_cons_succ]); (try simp only [List.set_cons_zero])
  refine wpAnyH_done (by kernel_rfl) ?_ _
  clear hHeld
  have B6 := Lib.hid (belTo hg B4 k5)
  have X6 := X4.bel k5
  have D6 := D4.bel k5
  have T6 := T4.bel k5
  have HO := Lib.hid ho
  clear k5 X4 D4 T4 B4 ho HLF HLT HVA hCC
  obtain ⟨bo, co, rfl⟩ := Cr.own_form HO.out
  have hS := setT_S (r := r) (show i < L.length by rw [← HN.out]; exact hi)
  have HS := Lib.hid hS
  have HOL := Lib.hid (others_len (show i < L.length by rw [← HN.out]; exact hi))
  have HSP := Lib.hid (fun (h2 : 2 ≤ L.length) => setT_p (r := r) (show i < L.length by rw [← HN.out]; exact hi) h2)
  have hs1 : (setT L r i).s = self := HSELF.out
  clear hS
  generalize L.drop (i + 1) ++ L.take i = O at *
  have HF := Lib.hid (setT_F L r i)
  have hp1 : n = 1 → (setT L r i).p = (-1, 0) := fun h => by unfold setT; dsimp only; rw [if_pos (by rw [← HN.out]; exact h)]
  have HP1 := Lib.hid hp1
  have HSL : Hid ((setT L r i).S.length = min r (n - 1)) := by unfold Hid setT; dsimp only; rw [List.length_map, List.length_range, HN.out]
  have HS1 := Lib.hid hs1
  clear hp1 hs1
  generalize htt : setT L r i = tt at *
  have HTT := Lib.hid htt
  clear htt
  generalize hm : n - 1 = m at *
  have HM := Lib.hid hm
  clear hm
  go_upto_if 33 with (fail)
  go_cut [] from 31 (fun wx => Hid (PreS g g7 fb g4 w wx self tt.p (.slice bo m co) O))
  case first => as_aux_lemma =>
    by_cases h1 : m = 0
    · have hp := HP1.out (by have := HM.out; omega)
      rw [← hp] at T6
      have hz : ¬ (0 : Int) < (m : Int) := by omega
      have hz2 : decide ((0 : Int) < (m : Int)) = false := decide_eq_false hz
      have HPP : Hid (PreS g g7 fb g4 w w5 self tt.p (.slice bo m co) O) := ⟨B6.out, T6, X6, D6, by rw [HOL.out, ← HN.out]; rw [HM.out]; exact HO.out⟩
      clear T6 X6 D6 h1
      go_wp2
      go_meet
      exact HPP
    · obtain ⟨k, rfl⟩ : ∃ k, m = k + 1 := ⟨m - 1, by omega⟩
      have hk16 : k ≤ 16 := by have := HM.out; omega
      have hp := HSP.out (by have := HM.out; rw [← HN.out]; omega)
      have e0 : L.length - 1 - 1 = k := by have := HM.out; rw [← HN.out]; omega
      rw [e0] at hp
      obtain ⟨b9, c9, e9, _, _, hr9, lb9, _⟩ := (own_shape HO.out).resolve_left (fun h => by omega)
      simp only [Value.slice.injEq] at e9
      obtain ⟨rfl, _, rfl⟩ := e9
      have hk9 : O[k]? = some (O.getD k (0, 0)) := getD_at (by rw [HOL.out, ← HN.out]; have := HM.out; omega)
      have r9 := row_peer hr9 hk9
      rw [hp, Nat.zero_add] at r9
      have hz : (0 : Int) < ((k + 1 : Nat) : Int) := by omega
      have hz3 : (0 : Int) < (k : Int) + 1 := by omega
      have hz2 : decide ((0 : Int) < (k : Int) + 1) = true := decide_eq_true hz3
      have hw2 : IntKind.i64.wrap ((k : Int) + 1 - 1) = (k : Int) := by rw [show (k : Int) + 1 - 1 = (k : Int) by omega]; exact IntWalk.i64_in _ (by omega)
      have bk1 : (k : Int) < (k : Int) + 1 := by omega
      have bk2 : (0 : Int) ≤ (k : Int) := by omega
      have l5 := T6.lt
      have HPP : Hid (PreS g g7 fb g4 w (w5.setRow g7 (tabA self tt.p nilS (.slice (some ⟨fb, 0, none⟩) 160 160))) self tt.p (.slice (some ⟨b9, 0, none⟩) (k + 1) co) O) := ⟨bel_setRow B6.out (by omega) _, T6.set _ _ _ _, tb_row X6 _ (by omega), D6.kept (Go.setRow_other _ _ _ _ (by omega)) (by simp [World.setRow]), by
        rw [HOL.out, ← HN.out, HM.out]
        exact own_keep HO.out fun j hj => Go.setRow_other _ _ _ _ (fun e => by have := (HO.out.lt j hj).1; omega)⟩
      clear X6 D6 h1 hp hk9 e0 hr9
      go_wp2_with (first
        | (refine p_midP rfl _ rfl b9 (k * 21) rfl tt.p r9 ?_)
        | (refine p_putP rfl _ _ rfl g7 rfl tt.p rfl T6 ?_))
      go_meet
      exact HPP
  case rest =>
    have HPP := hcut
    clear T6 X6 D6 HO B6 hcut HSP HP1
    have ho := HPP.out.o
    have hOm : O.length = m := by rw [HOL.out, ← HN.out]; exact HM.out
    rw [hOm] at ho
    have ht := HPP.out.t
    obtain ⟨kk, hkk, hkm, hkv⟩ : ∃ kk : Nat, (if (m : Int) < (r : Int) then (m : Int) else (r : Int)) = (kk : Int) ∧ kk ≤ m ∧ kk = min r m := by
      by_cases h : m < r
      · exact ⟨m, by rw [if_pos (by omega)], Nat.le_refl _, by omega⟩
      · exact ⟨r, by rw [if_neg (by omega)], by omega, by omega⟩
    have HKV := Lib.hid hkv
    have HOM := Lib.hid hOm
    have HTL : Hid ((O.take kk).length = kk) := by unfold Hid; rw [List.length_take]; omega
    clear hkv hOm
    go_upto_region 6 with (first
      | (refine Cr.p_min rfl _ _ _ _ rfl (r : Int) (m : Int) rfl rfl kk hkk ?_)
      | (refine p_upO rfl _ _ rfl (.slice bo m co) O m kk g4 rfl rfl hkm HOM.out.symm ho ?_; intro sv hsv hsb; have HSV := Lib.hid hsv; have HSB := Lib.hid hsb; obtain ⟨sa, sc, hs2⟩ := hsv.form; rw [HTL.out] at hs2; subst hs2; clear hsv hsb)
      | (refine p_putS rfl _ _ rfl g7 rfl (Value.slice sa kk sc) rfl rfl ht ?_))
    have hTS : O.take kk = tt.S := by
      have h1 := HS.out
      have h2 := HM.out
      rw [HKV.out, ← h1]
      congr 2
      rw [← HN.out]; exact h2.symm
    have HTS := Lib.hid hTS
    have HSVS : Hid (Lies wc (.slice sa kk sc) tt.S) := by rw [← hTS]; exact HSV.out
    clear hTS hkk HKV HSV
    generalize hkn : kk = sn at *
    have l7c := ht.lt
    have hBc := HPP.out.bel
    have T9 := ht.set self tt.p (.slice sa sn sc) (.slice (some ⟨fb, 0, none⟩) 160 160)
    have X9 := tb_row HPP.out.x (tabA self tt.p (.slice sa sn sc) (.slice (some ⟨fb, 0, none⟩) 160 160)) (show g ≠ g7 by omega)
    have D9 := HPP.out.d.kept (w' := wc.setRow g7 (tabA self tt.p (.slice sa sn sc) (.slice (some ⟨fb, 0, none⟩) 160 160))) (Go.setRow_other _ _ _ _ (by omega)) (by simp [World.setRow])
    have hSB : ∀ j, (Value.slice sa sn sc).ownBlock = some j → g4 ≤ j := fun j hj => (ho.lt j (HSB.out j hj)).1
    have L9 : Lies (wc.setRow g7 (tabA self tt.p (.slice sa sn sc) (.slice (some ⟨fb, 0, none⟩) 160 160))) (.slice sa sn sc) tt.S := lies_set HSVS.out (fun _ e => by have := hSB g7 e; omega) _
    have B9 : Below g w (wc.setRow g7 (tabA self tt.p (.slice sa sn sc) (.slice (some ⟨fb, 0, none⟩) 160 160))) := bel_setRow hBc (by omega) _
    have HSBB := Lib.hid hSB
    have hiL : i < L.length := by rw [← HN.out]; exact hi
    clear ht ho HPP HSVS HSB hBc hSB
    generalize wc.setRow g7 (tabA self tt.p (.slice sa sn sc) (.slice (some ⟨fb, 0, none⟩) 160 160)) = W9 at *
    have hcall := Cr.Fingers_yes i (HL.out.bel (by rw [hg]; exact B9)) HW.out HC.out hiL
    rw [← HN.out] at hcall
    have lW9 := T9.lt
    go_upto_region 7 with (go_at_call 66; (with_reducible refine hcall.mono ?_); rintro e w10 ⟨u, rfl, hrow, k10⟩)
    have hfl : (Cr.fingN L i 160).length = 160 := Cr.fingN_len L i 160
    have hub : ∀ j, u.ownBlock = some j → W9.heap.size ≤ j := fun j hj => (hrow.lt j hj).1
    have hnum : Nums w10 u (Cr.fingN L i 160) := nums_own hrow
    obtain ⟨ub, uo, uc, rfl, hur, _⟩ := hnum.some (by rw [hfl]; omega)
    rw [hfl] at hnum hub ⊢
    have P0 : Hid (SetW g g7 fb w w10 self tt.p (.slice sa sn sc) (fun j => if j < 0 then fgT L i j else (-1, 0)) (.slice (some ⟨ub, uo, none⟩) 160 uc) (Cr.fingN L i 160) tt.S) :=
      ⟨belTo hg B9 k10, T9.bel k10, X9.bel k10, (D9.bel k10).congr (fun j hj => by
        rw [if_neg (by omega)]
        unfold fun' rep
        rw [List.getD_eq_getElem?_getD, List.getElem?_replicate_of_lt hj]; rfl), L9.bel k10, hnum, ⟨by omega, by omega, by omega⟩,
        ⟨fun _ e => by have := HSBB.out fb e; omega, fun _ e => by have := HSBB.out g e; omega, fun e => by have := hub fb e; omega⟩⟩
    have HFG := Lib.hid (fun (k : Nat) (hk : k < 160) => fing_at L i hk)
    have HOW := Lib.hid (fun (k : Nat) => own_lt (L := L) (by omega) ((pn L i + 2 ^ k) % M))
    have HDEF := Lib.hid (fun (k : Nat) => (show fgT L i k = if ownN L ((pn L i + 2 ^ k) % M) = i then (-1, 0) else L.getD (ownN L ((pn L i + 2 ^ k) % M)) (0, 0) from rfl))
    clear hrow k10 hcall T9 X9 D9 L9 B9 hub hnum hur hfl
    generalize Cr.fingN L i 160 = OW at *
    generalize fgT L i = fg at *
    go_upto_region 8 with (fail)
    go_loopw [12, 13, 56] (fun _ _ q wr => ∃ k : Nat, q = .int .i64 (k : Int) ∧ k ≤ 160 ∧ SetW g g7 fb w wr self tt.p (.slice sa sn sc) (fun j => if j < k then fg j else (-1, 0)) (.slice (some ⟨ub, uo, none⟩) 160 uc) OW tt.S) (fun _ _ q _ => 160 - (intOf q).toNat)
    case atStart => exact ⟨0, rfl, Nat.zero_le _, P0.out⟩
    case round =>
      clear P0
      obtain ⟨k, rfl, hk, hP⟩ := hrel
      have HP := Lib.hid hP
      clear hP
      by_cases hlt : k < 160
      · have hv := HFG.out k hlt
        have ho := HOW.out k
        have hd := HDEF.out k
        generalize ownN L ((pn L i + 2 ^ k) % M) = at_ at *
        have hun := HP.out.o
        obtain ⟨ub', uo', uc', e1, hur, _⟩ := hun.some (by rw [nums_len hun]; omega)
        simp only [Value.slice.injEq, Option.some.injEq, Addr.mk.injEq, and_true] at e1
        obtain ⟨⟨rfl, rfl⟩, en9, rfl⟩ := e1
        clear en9
        have c1 := nums_cell hur (i := k) (by rw [nums_len hun]; omega)
        rw [hv] at c1
        have bk : (k : Int) < (160 : Int) := by omega
        have bz2 : (0 : Int) ≤ (k : Int) := by omega
        have s1 : IntKind.i64.wrap ((k : Int) + 1) = (k : Int) + 1 := IntWalk.i64_in _ (by omega)
        clear hun hur hv
        by_cases he : at_ = i
        · have hne : ((at_ : Int) != (i : Int)) = false := by rw [he]; simp
          rw [if_pos he] at hd
          have hP2 := HP.out.congr (f' := fun j => if j < k + 1 then fg j else (-1, 0)) (fun j _ => by
            (try dsimp only)
            rcases Nat.lt_trichotomy j k with h | h | h
            · rw [if_pos h, if_pos (by omega)]
            · rw [if_neg (by omega), if_pos (by omega), h, hd]
            · rw [if_neg (by omega), if_neg (by omega)])
          have HP2 := Lib.hid hP2
          clear hP2 hd ho
          subst he
          go_wp2
          exact ⟨⟨k + 1, by go_num, by omega, HP2.out⟩, by simp [intOf]; omega⟩
        · have hne : ((at_ : Int) != (i : Int)) = true := by simpa using fun h : (at_ : Int) = (i : Int) => he (by omega)
          rw [if_neg he] at hd
          have hrow : L[at_]? = some (L.getD at_ (0, 0)) := getD_at ho
          have rp := range_bel (row_peer HRG.out hrow) HP.out.bel hlb
          have ban : (at_ : Int) < (n : Int) := by rw [HN.out]; omega
          have baz : (0 : Int) ≤ (at_ : Int) := by omega
          have HPD := HP.out.bel2 hg (drew_bel wr)
          have hP2 := (HPD.put hlt (L.getD at_ (0, 0))).congr (f' := fun j => if j < k + 1 then fg j else (-1, 0)) (fun j _ => by
            (try dsimp only)
            rcases Nat.lt_trichotomy j k with h | h | h
            · rw [if_neg (by omega), if_pos h, if_pos (by omega)]
            · rw [if_pos h, if_pos (by omega), h, hd]
            · rw [if_neg (by omega), if_neg (by omega), if_neg (by omega)])
          have th := HPD.d.thereAt hlt
          have c43 := HP.out.t.cv
          generalize hyy : L.getD at_ (0, 0) = y at *
          rw [Nat.zero_add] at hP2 th
          have HP2 := Lib.hid hP2
          have TH := Lib.hid th
          have HS9 : Hid (∀ wx, Below wr.heap.size wr wx → wx.rangeAt b (o + at_ * 21) (peC y) ∧ wx.cell? ⟨g7, 43, none⟩ = some (.slice (some ⟨fb, 0, none⟩) 160 160)) := fun wx hb => ⟨range_bel rp hb (range_lt rp (pe_ne y)), ((HP.out.t.bel hb).cv)⟩
          have HP3 := Lib.hid HP2.out
          have HS11 : Hid ((wr.drew.setCells fb (k * 21) (peC y)).rangeAt b (o + at_ * 21) (peC y) ∧ (wr.drew.setCells fb (k * 21) (peC y)).cell? ⟨g7, 43, none⟩ = some (.slice (some ⟨fb, 0, none⟩) 160 160)) := ⟨range_bel (row_peer HRG.out hrow) HP3.out.bel hlb, HP3.out.t.cv⟩
          have HT9 : Hid (∀ wx, wx = wr.drew → wx.there fb (k * 21) 21) := fun wx e => by rw [e]; exact TH.out
          clear hP2 th c43 hrow hd HPD
          go_upto_region 11 with (fail)
          refine wp_region_held_drew (S := (fun w9 => w9.rangeAt b (o + at_ * 21) (peC y) ∧ w9.cell? ⟨g7, 43, none⟩ = some (.slice (some ⟨fb, 0, none⟩) 160 160))) (by kernel_rfl) ?_ (fun hHeld => ?_)
          · exact HS9.out _ (drew_bel wr)
          refine wpAnyH_take (i := 0) (v := ?_) rfl (by kernel_rfl) (by kernel_rfl) (by kernel_rfl) (fun _ _ _ h => h) (Or.inl ⟨by rfl, ?_⟩) (by assumption) ?_
          rotate_left
          · intro w9 hSw
            (try dsimp only at hSw)
            go_simp
            (try with_reducible rfl)
          (try simp only [Act.put]); (try simp only [List.setIfInBounds_toArray]); (try simp only [List.set_cons_succ]); (try simp only [List.set_cons_zero])
          iterate 1
            (try dsimp only [List.getElem_toArray, List.getElem_cons_succ, List.getElem_cons_zero])
            (try simp only [Act.put]); (try simp only [List.setIfInBounds_toArray]); (try simp only [List.set_cons_succ]); (try simp only [List.set_cons_zero])
          refine wpAnyH_take (i := 1) (v := ?_) rfl (by kernel_rfl) (by kernel_rfl) (by kernel_rfl) (fun _ _ _ h => h) (Or.inl ⟨by rfl, ?_⟩) (by assumption) ?_
          rotate_left
          · intro w9 hSw
            (try dsimp only at hSw)
            have c43 := hSw.2
            go_simp
            (try with_reducible rfl)
          (try simp only [Act.put]); (try simp only [List.setIfInBounds_toArray]); (try simp only [List.set_cons_succ]); (try simp only [List.set_cons_zero])
          iterate 1
            (try dsimp only [List.getElem_toArray, List.getElem_cons_succ, List.getElem_cons_zero])
            (try simp only [Act.put]); (try simp only [List.setIfInBounds_toArray]); (try simp only [List.set_cons_succ]); (try simp only [List.set_cons_zero])
          refine wpAnyH_take (i := 2) (v := ?_) rfl (by kernel_rfl) (by kernel_rfl) (by kernel_rfl) (fun _ _ _ h => h) (Or.inl ⟨by rfl, ?_⟩) (by assumption) ?_
          rotate_left
          · intro w9 hSw
            (try dsimp only at hSw)
            go_simp
            (try with_reducible rfl)
          (try simp only [Act.put]); (try simp only [List.setIfInBounds_toArray]); (try simp only [List.set_cons_succ]); (try simp only [List.set_cons_zero])
          iterate 1
            (try dsimp only [List.getElem_toArray, List.getElem_cons_succ, List.getElem_cons_zero])
            (try simp only [Act.put]); (try simp only [List.setIfInBounds_toArray]); (try simp only [List.set_cons_succ]); (try simp only [List.set_cons_zero])
          refine wpAnyH_take (i := 3) (v := ?_) rfl (by kernel_rfl) (by kernel_rfl) (by kernel_rfl) (fun _ _ _ h => h) (Or.inl ⟨by rfl, ?_⟩) (by assumption) ?_
          rotate_left
          · intro w9 hSw
            (try dsimp only at hSw)
            go_simp
            (try with_reducible rfl)
          (try simp only [Act.put]); (try simp only [List.setIfInBounds_toArray]); (try simp only [List.set_cons_succ]); (try simp only [List.set_cons_zero])
          iterate 1
            (try dsimp only [List.getElem_toArray, List.getElem_cons_succ, List.getElem_cons_zero])
            (try simp only [Act.put]); (try simp only [List.setIfInBounds_toArray]); (try simp only [List.set_cons_succ]); (try simp only [List.set_cons_zero])
          refine wpAnyH_take (i := 4) (v := ?_) rfl (by kernel_rfl) (by kernel_rfl) (by kernel_rfl) (fun _ _ _ h => h) (Or.inl ⟨by rfl, ?_⟩) (by assumption) ?_
          rotate_left
          · intro w9 hSw
            (try dsimp only at hSw)
            go_simp
            (try with_reducible rfl)
          (try simp only [Act.put]); (try simp only [List.setIfInBounds_toArray]); (try simp only [List.set_cons_succ]); (try simp only [List.set_cons_zero])
          iterate 1
            (try dsimp only [List.getElem_toArray, List.getElem_cons_succ, List.getElem_cons_zero])
            (try simp only [Act.put]); (try simp only [List.setIfInBounds_toArray]); (try simp only [List.set_cons_succ]); (try simp only [List.set_cons_zero])
          refine wpAnyH_take (i := 5) (v := ?_) rfl (by kernel_rfl) (by kernel_rfl) (by kernel_rfl) (fun _ _ _ h => h) (Or.inl ⟨by rfl, ?_⟩) (by assumption) ?_
          rotate_left
          · intro w9 hSw
            (try dsimp only at hSw)
            go_simp
            (try with_reducible rfl)
          (try simp only [Act.put]); (try simp only [List.setIfInBounds_toArray]); (try simp only [List.set_cons_succ]); (try simp only [List.set_cons_zero])
          iterate 1
            (try dsimp only [List.getElem_toArray, List.getElem_cons_succ, List.getElem_cons_zero])
            (try simp only [Act.put]); (try simp only [List.setIfInBounds_toArray]); (try simp only [List.set_cons_succ]); (try simp only [List.set_cons_zero])
          refine wpAnyH_take (i := 6) (oi := { dst := some 70, op := Op.load 28 (Operand.tmp 69), type := 28, pos := "walk.go:37", after := #[{ on := 5, ground := Ground.data }], guard := none }) (v := (.agg (peA y))) rfl (by kernel_rfl) (by kernel_rfl) (by kernel_rfl) (fun _ _ _ h => h) (y_midP (by rfl) (.tmp 69) rfl b (o + at_ * 21) rfl y (fun _ h => h.1)) (by assumption) ?_
          (try simp only [Act.put]); (try simp only [List.setIfInBounds_toArray]); (try simp only [List.set_cons_succ]); (try simp only [List.set_cons_zero])
          iterate 1
            (try dsimp only [List.getElem_toArray, List.getElem_cons_succ, List.getElem_cons_zero])
            (try simp only [Act.put]); (try simp only [List.setIfInBounds_toArray]); (try simp only [List.set_cons_succ]); (try simp only [List.set_cons_zero])
          refine wpAnyH_take (i := 7) (v := ?_) rfl (by kernel_rfl) (by kernel_rfl) (by kernel_rfl) (fun _ _ _ h => h) (Or.inl ⟨by rfl, ?_⟩) (by assumption) ?_
          rotate_left
          · intro w9 hSw
            (try dsimp only at hSw)
            go_simp
            (try with_reducible rfl)
          (try simp only [Act.put]); (try simp only [List.setIfInBounds_toArray]); (try simp only [List.set_cons_succ]); (try simp only [List.set_cons_zero])
          iterate 1
            (try dsimp only [List.getElem_toArray, List.getElem_cons_succ, List.getElem_cons_zero])
            (try simp only [Act.put]); (try simp only [List.setIfInBounds_toArray]); (try simp only [List.set_cons_succ]); (try simp only [List.set_cons_zero])
          refine wpAnyH_ready (rs := [8]) (by kernel_rfl) (by simp) ?_
          refine AllReadyH.cons rfl (fun K hK => ?_) ?_
          rotate_left
          · exact AllReadyH.nil
          rw [if_pos (by rfl)]
          refine wp_store_mid 28 _ _ rfl fb (k * 21) (peA y) rfl rfl (by rw [peA_size]; exact HT9.out _ rfl) (by rw [peA_size]; exact sizeP) (peA_one y) ?_
          refine hK.out _ _ ?_ (fun hHeld => ?_)
          · rw [peA_list]; exact HS11.out
          clear hK K
          (try simp only [Act.put]); (try simp only [List.setIfInBounds_toArray]); (try simp only [List.set_cons_succ]); (try simp only [List.set_cons_zero])
          iterate 1
            (try dsimp only [List.getElem_toArray, List.getElem_cons_succ, List.getElem_cons_zero])
            (try simp only [Act.put]); (try simp only [List.setIfInBounds_toArray]); (try simp only [List.set_cons_succ]); (try simp only [List.set_cons_zero])
          refine wpAnyH_done (by kernel_rfl) ?_ _
          rw [peA_list]
          generalize World.setCells _ _ _ _ = W11 at *
          clear hHeld
          go_wp2
          exact ⟨⟨k + 1, by go_num, by omega, HP3.out⟩, by simp [intOf]; omega⟩
      · obtain rfl : k = 160 := by omega
        have tf := HP.out.t
        have xf := HP.out.x
        have hfin : Lies wr (.slice (some ⟨fb, 0, none⟩) 160 160) tt.F := by
          have h1 := HP.out.d.lies (c := 160) (Nat.le_refl _)
          rw [← HF.out]
          have h2 := (HP.out.d.congr (g := fg) (fun j hj => if_pos hj)).lies (c := 160) (Nat.le_refl _)
          exact h2
        have HFIN := Lib.hid hfin
        have lx := HP.out.x.lt
        clear hfin
        go_wp2_with (first
          | (refine p_midT rfl _ rfl g7 rfl tf ?_)
          | (refine p_putT rfl _ _ rfl g rfl rfl rfl rfl xf ?_))
        refine bodyPost_ret (results_T1 Try.results35 _ _ g rfl (xf.set _ _ _ _)) rfl ⟨?_, by rw [hg]; exact bel_setRow HP.out.bel (Nat.le_refl _) _⟩
        rw [HTT.out, hg]
        refine ⟨.slice sa sn sc, .slice (some ⟨fb, 0, none⟩) 160 160, by rw [HS1.out], lies_set HP.out.l HP.out.ne.2.1 _, lies_set HFIN.out (fun _ e => ?_) _, fun _ j hj => ?_, fun j hj => ?_⟩
        · have h2 : (some fb : Option Nat) = some g := e
          rw [Option.some.injEq] at h2
          have := HP.out.ord
          omega
        · have := HSBB.out j hj
          omega
        · have h2 : (some fb : Option Nat) = some j := hj
          rw [Option.some.injEq] at h2
          have := HP.out.ord
          omega
end Go.Proofs.Ytfajfmcabpmchaa

namespace Go.Proofs.Ytfajfmcabpmchaa
set_option maxRecDepth 100000
open Go Go.RowKit Go.Sort

set_option maxHeartbeats 4000000 in
theorem Settled_no {w : World} {v : Value} {L : List Pe} (r : Int) (hL : Lies w v L) (hw : Wf L) (hn : L.length ≤ 1000000) (hno : (isB L && okS r) = false) :
    Calls Try.prog 14 #[v, .int .i64 r] w fun e w' => StP L r.toNat (isB L && okS r) e w' ∧ Below w.heap.size w w' := by
  have hI := Cr.is_any hL hw hn
  rw [hno]
  cases hb : isB L
  · rw [hb] at hI
    go_enter Try.func14, Try.ntmps14
    go_wp2_with (go_at_call 34; (with_reducible refine hI.mono ?_); rintro e w1 ⟨rfl, k1⟩)
    exact bodyPost_ret (results_tt Try.results14 _ _) rfl ⟨.inl ⟨rfl, rfl⟩, k1⟩
  · rw [hb] at hI
    rw [hb, Bool.true_and] at hno
    by_cases h1 : r < 1
    · have d1 : decide (r < 1) = true := decide_eq_true h1
      clear hno
      go_enter Try.func14, Try.ntmps14
      go_wp2_with (go_at_call 34; (with_reducible refine hI.mono ?_); rintro e w1 ⟨rfl, k1⟩)
      exact bodyPost_ret (results_tt Try.results14 _ _) rfl ⟨.inl ⟨rfl, rfl⟩, k1⟩
    · have d1 : decide (r < 1) = false := decide_eq_false h1
      have h2 : 8 < r := by
        unfold okS at hno
        rw [decide_eq_true (p := 1 ≤ r) (by omega), Bool.true_and, decide_eq_false_iff_not] at hno
        omega
      have d2 : decide (8 < r) = true := decide_eq_true h2
      clear hno
      go_enter Try.func14, Try.ntmps14
      go_wp2_with (go_at_call 34; (with_reducible refine hI.mono ?_); rintro e w1 ⟨rfl, k1⟩)
      exact bodyPost_ret (results_tt Try.results14 _ _) rfl ⟨.inl ⟨rfl, rfl⟩, k1⟩
/-- while the tables are made -/
def StR (g : Nat) (w : World) (L : List Pe) (r k : Nat) (v : Value) (wr : World) : Prop := ∃ X, Below g w wr ∧ RowT g wr v X ∧ tabsOf X = (setL L r).take k
theorem StR.mk {g : Nat} {w : World} {L : List Pe} {r k : Nat} {v : Value} {wr : World} {X : List Tv} (h1 : Below g w wr) (h2 : RowT g wr v X) (h3 : tabsOf X = (setL L r).take k) : StR g w L r k v wr := ⟨X, h1, h2, h3⟩
theorem setL_succ (L : List Pe) (r : Nat) {k : Nat} (h : k < L.length) : (setL L r).take (k + 1) = (setL L r).take k ++ [setT L r k] := by
  rw [List.take_add_one, setL_get L r h]; rfl
set_option maxHeartbeats 4000000 in
theorem Settled_yes {w : World} {v : Value} {L : List Pe} (r : Nat) (hL : Lies w v L) (hw : Wf L) (hC : Circ L) (h1 : 1 ≤ r) (h8 : r ≤ 8) :
    Calls Try.prog 14 #[v, .int .i64 (r : Int)] w fun e w' => StP L r true e w' ∧ Below w.heap.size w w' := by
  have hn16 := hC.1
  have hI := Cr.is_any hL hw (by omega)
  rw [Cr.isB_yes hC] at hI
  have HSet : Hid (∀ (i : Nat) (W : World), i < L.length → Below w.heap.size w W → Calls Try.prog 35 #[v, .int .i64 (i : Int), .int .i64 (r : Int)] W fun e w' => SetP W.heap.size (setT L r i) e w' ∧ Below W.heap.size W w') := fun i W hi hb => settled_any i r (hL.bel hb) hw hC hi
  obtain ⟨av, cv, rfl⟩ := hL.form
  obtain ⟨n, hn⟩ : ∃ n, n = L.length := ⟨_, rfl⟩
  rw [← hn] at hn16 HSet hI ⊢
  have HN := Lib.hid hn
  have d1 : ¬ (r : Int) < 1 := by omega
  have d2 : ¬ (8 : Int) < (r : Int) := by omega
  have d3 : decide ((r : Int) < 1) = false := decide_eq_false d1
  have d4 : decide ((8 : Int) < (r : Int)) = false := decide_eq_false d2
  clear hn hw hL hC
  go_enter Try.func14, Try.ntmps14
  go_upto_region 5 with (go_at_call 34; (with_reducible refine hI.mono ?_); rintro e w1 ⟨rfl, k1⟩)
  generalize hg : w.heap.size = g at *
  have HK := Lib.hid k1
  clear k1 hI
  go_loopw [6, 7, 21] (fun v6 _ i wr => ∃ k : Nat, i = .int .i64 (k : Int) ∧ k ≤ n ∧ StR g w L r k v6 wr) (fun _ _ i _ => n - (intOf i).toNat)
  case atStart => exact ⟨0, rfl, Nat.zero_le _, StR.mk HK.out (RowT.nil g _) rfl⟩
  case round =>
    obtain ⟨k, rfl, hk, X, hB, hR, hT⟩ := hrel
    have HT := Lib.hid hT
    have HR := Lib.hid hR
    have HB := Lib.hid hB
    obtain ⟨ra, rc, rfl⟩ := Cr.own_form hR.own
    have hXl : X.length = k := by
      have := congrArg List.length hT
      rw [tabsOf_length, List.length_take, setL_length] at this
      have h2 := HN.out
      omega
    have HXL := Lib.hid hXl
    clear hB hR hT hXl
    by_cases hlt : k < n
    · have bk : (k : Int) < (n : Int) := by omega
      have bz : (0 : Int) ≤ (k : Int) := by omega
      have s1 : IntKind.i64.wrap ((k : Int) + 1) = (k : Int) + 1 := IntWalk.i64_in _ (by omega)
      have hcall := HSet.out k wr hlt HB.out
      have HSS := Lib.hid (setL_succ L r (show k < L.length by rw [← HN.out]; exact hlt))
      generalize hts : setT L r k = ts at *
      have lx : X.length ≤ 1000000 := by rw [HXL.out]; omega
      go_upto_region 8 with (first
        | (go_at_call 35; (with_reducible refine hcall.mono ?_); rintro e w5 ⟨⟨u, f, rfl, lu, lf, ku, kf⟩, k5⟩; obtain ⟨ua, uc, rfl⟩ := lu.form; obtain ⟨fa, fc, rfl⟩ := lf.form; have HLU := Lib.hid lu; have HLF := Lib.hid lf; have HKU := Lib.hid ku; have HKF := Lib.hid kf; have HR5 := Lib.hid (HR.out.bel k5); have HB5 := Lib.hid (belTo hg HB.out k5); have HA5 := Lib.hid ((HR.out.bel k5).own.alloc (.cells (tabA ts.s ts.p (.slice ua ts.S.length uc) (.slice fa ts.F.length fc)) 43)); have HG5 : Hid (g ≤ w5.heap.size) := Nat.le_trans (Nat.le_of_eq hg.symm) HB5.out.size; clear lu lf ku kf k5)
        | (refine p_sliceT rfl _ rfl ts.s ts.p ua fa ts.S.length uc ts.F.length fc rfl ?_)
        | (refine p_addV (x := ⟨ts, .slice ua ts.S.length uc, .slice fa ts.F.length fc⟩) rfl _ _ rfl g (Value.slice ra X.length rc) X rfl w5.heap.size rfl HA5.out rfl lx HG5.out rfl rfl ?_; intro v2 w6 o6 g6 a6; have HO6 := Lib.hid o6; have HG6 := Lib.hid g6; have HA6 := Lib.hid a6; clear o6 g6 a6))
      have hlo := fun b hb => (HR.out.own.lt b hb).2
      have hR6 := HR5.out.add (x := ⟨ts, .slice ua ts.S.length uc, .slice fa ts.F.length fc⟩) HLU.out HLF.out (fun b hb => ⟨fun hn e => by have := HKU.out hn b e; have := hlo b hb; omega, fun _ e => by have := HKF.out b e; have := hlo b hb; omega⟩) HO6.out HG6.out HA6.out
      have hB6 : Below g w w6 := by
        have ka := HB5.out.alloc HG5.out (.cells (tabA ts.s ts.p (.slice ua ts.S.length uc) (.slice fa ts.F.length fc)) 43)
        exact ka.grown HG6.out (by have := HG5.out; simp; omega) fun b hb => (HA5.out.lt b hb).1
      have hT6 : tabsOf (X ++ [⟨ts, .slice ua ts.S.length uc, .slice fa ts.F.length fc⟩]) = (setL L r).take (k + 1) := by
        unfold tabsOf at *
        rw [List.map_append, HSS.out, ← HT.out]; rfl
      have HST := Lib.hid (StR.mk hB6 hR6 hT6)
      clear hR6 hB6 hT6 hlo hcall
      go_wp2
      exact ⟨⟨k + 1, by go_num, by omega, HST.out⟩, by simp [intOf]; omega⟩
    · obtain rfl : k = n := by omega
      have e9 : (setL L r).take k = setL L r := List.take_of_length_le (by rw [setL_length, ← HN.out]; exact Nat.le_refl _)
      have HT9 : Hid (tabsOf X = setL L r) := by rw [← e9]; exact HT.out
      clear e9
      go_wp2
      exact bodyPost_ret (results_tt Try.results14 _ _) rfl ⟨.inr ⟨rfl, _, X, rfl, HR.out.lies, HT9.out⟩, by rw [hg]; exact HB.out⟩
end Go.Proofs.Ytfajfmcabpmchaa
