/- The document's own functions on tables: Forget, Known, Nearest. -/
import Derived.Test.YtfajfmcabpmchaaTabRefs
import Derived.Deep.CutRange
namespace Go.Proofs.Ytfajfmcabpmchaa
set_option maxRecDepth 100000
open Go Go.RowKit Go.Sort

theorem p_buildT2 {ops : Array Oper} {rest : List Oper} {o : Oper} {a : Act} {w : World} {Q : Exit → Act → World → Prop} (hgd : o.guard = none) (x y : Operand) (ho : o.op = .build 43 #[(0, x), (1, y)])
    (s p : Pe) (hx : a.eval x = .agg (peA s)) (hy : a.eval y = .agg (peA p)) (h : wpList Try.prog ops Q rest (a.put o.dst (.agg (tabA s p nilS nilS))) w) : wpList Try.prog ops Q (o :: rest) a w := by
  refine wpList_plain hgd fun K hK => ?_
  have e := run_build (P := Try.prog) w 43 #[(0, .agg (peA s)), (1, .agg (peA p))] _ (builtT2 s p)
  unfold Oper.wp execOp
  simp only [ho, List.map_toArray, List.map_cons, List.map_nil, hx, hy, Sem.run_bind, e, Sem.run_pure, Result.andThen_ok]
  exact hK _ _ h
/-- while those behind are gone through -/
structure FaW (g g5 b : Nat) (w wx : World) (s p q : Pe) (u v r1 : Value) (A : List Pe) : Prop where
  bel : Below g w wx
  t : TB wx g s p u v
  r : TB wx (g + 1) (0, 0) (0, 0) nilS nilS
  o5 : TB wx g5 s q r1 nilS
  a : wx.ownsRow b 28 21 r1 A.length (flat A)
  lo : g + 2 ≤ g5
  lt : g5 < b
  sz : b ≤ wx.heap.size
theorem FaW.bel2 {g g5 b : Nat} {w wx wy : World} {s p q : Pe} {u v r1 : Value} {A : List Pe} (h : FaW g g5 b w wx s p q u v r1 A) (hg : w.heap.size = g) (hb : Below wx.heap.size wx wy) : FaW g g5 b w wy s p q u v r1 A :=
  ⟨belTo hg h.bel hb, h.t.bel hb, h.r.bel hb, h.o5.bel hb, own_bel h.a hb, h.lo, h.lt, Nat.le_trans h.sz hb.size⟩
theorem FaW.add {g g5 b : Nat} {w wx w4 : World} {s p q x : Pe} {u v r1 v2 : Value} {A : List Pe} (h : FaW g g5 b w wx s p q u v r1 A) (hgr : wx.grownBy w4 r1.ownBlock)
    (ho : w4.ownsRow b 28 21 v2 (A.length + 1) (flat (A ++ [x]))) : TB w4 g5 s q r1 nilS ∧ FaW g g5 b w (w4.setRow g5 (tabA s q v2 nilS)) s p q u v v2 (A ++ [x]) := by
  have hv : ∀ k, r1.ownBlock = some k → b ≤ k := fun k e => (h.a.lt k e).1
  have kp : ∀ i, i < b → i < wx.heap.size → w4.heap[i]? = wx.heap[i]? := fun i hi hl => hgr.block i hl fun e => by have := hv i e.symm; omega
  have hsz := h.sz
  have hlo := h.lo
  have hlt := h.lt
  have t4 : TB w4 g5 s q r1 nilS := (kp g5 hlt (by omega)).trans h.o5
  refine ⟨t4, ⟨bel_setRow ⟨hgr.os.trans h.bel.os, hgr.tape.trans h.bel.tape, hgr.output.trans h.bel.output, Nat.le_trans h.bel.size hgr.size, fun i hi => (kp i (by omega) (by omega)).trans (h.bel.block i hi)⟩ (by omega) _, tb_row ((kp g (by omega) (by omega)).trans h.t) _ (by omega), tb_row ((kp (g + 1) (by omega) (by omega)).trans h.r) _ (by omega), t4.set _ _ _ _, ?_, hlo, hlt, ?_⟩⟩
  · rw [List.length_append, List.length_singleton]; exact own_row ho _ hlt
  · rw [World.setRow]; simpa using Nat.le_trans hsz hgr.size
/-- while the fingers are gone through -/
structure FbW (g g5 b : Nat) (w wx : World) (s p q : Pe) (u v r1 r2 : Value) (A B : List Pe) : Prop where
  bel : Below g w wx
  t : TB wx g s p u v
  r : TB wx (g + 1) (0, 0) (0, 0) nilS nilS
  o5 : TB wx g5 s q r1 r2
  a : wx.ownsRow b 28 21 r2 B.length (flat B)
  la : Lies wx r1 A
  ak : ∀ k, r1.ownBlock = some k → g5 < k ∧ k < b
  lo : g + 2 ≤ g5
  lt : g5 < b
  sz : b ≤ wx.heap.size
theorem FbW.bel2 {g g5 b : Nat} {w wx wy : World} {s p q : Pe} {u v r1 r2 : Value} {A B : List Pe} (h : FbW g g5 b w wx s p q u v r1 r2 A B) (hg : w.heap.size = g) (hb : Below wx.heap.size wx wy) : FbW g g5 b w wy s p q u v r1 r2 A B :=
  ⟨belTo hg h.bel hb, h.t.bel hb, h.r.bel hb, h.o5.bel hb, own_bel h.a hb, h.la.bel hb, h.ak, h.lo, h.lt, Nat.le_trans h.sz hb.size⟩
theorem lies_grown {w w' : World} {v : Value} {L : List Pe} {r : Option Nat} (h : Lies w v L) (hg : w.grownBy w' r) (hne : ∀ k, v.ownBlock = some k → r ≠ some k) : Lies w' v L := by
  rcases h with h | ⟨b, o, c, rfl, h2, h3⟩
  · exact .inl h
  · refine .inr ⟨b, o, c, rfl, h2, ?_⟩
    by_cases he : L = []
    · subst he; intro j u hu; simp [flat] at hu
    · have hl := range_lt h3 (flat_ne he)
      intro j u hu
      exact (World.cell?_of_block (a := ⟨b, o + j, none⟩) (hg.block b hl (fun e => hne b rfl e.symm))).trans (h3 j u hu)
theorem FbW.add {g g5 b : Nat} {w wx w4 : World} {s p q x : Pe} {u v r1 r2 v2 : Value} {A B : List Pe} (h : FbW g g5 b w wx s p q u v r1 r2 A B) (hgr : wx.grownBy w4 r2.ownBlock)
    (ho : w4.ownsRow b 28 21 v2 (B.length + 1) (flat (B ++ [x]))) : TB w4 g5 s q r1 r2 ∧ FbW g g5 b w (w4.setRow g5 (tabA s q r1 v2)) s p q u v r1 v2 A (B ++ [x]) := by
  have hv : ∀ k, r2.ownBlock = some k → b ≤ k := fun k e => (h.a.lt k e).1
  have kp : ∀ i, i < b → i < wx.heap.size → w4.heap[i]? = wx.heap[i]? := fun i hi hl => hgr.block i hl fun e => by have := hv i e.symm; omega
  have hsz := h.sz
  have hlo := h.lo
  have hlt := h.lt
  have t4 : TB w4 g5 s q r1 r2 := (kp g5 hlt (by omega)).trans h.o5
  refine ⟨t4, ⟨bel_setRow ⟨hgr.os.trans h.bel.os, hgr.tape.trans h.bel.tape, hgr.output.trans h.bel.output, Nat.le_trans h.bel.size hgr.size, fun i hi => (kp i (by omega) (by omega)).trans (h.bel.block i hi)⟩ (by omega) _, tb_row ((kp g (by omega) (by omega)).trans h.t) _ (by omega), tb_row ((kp (g + 1) (by omega) (by omega)).trans h.r) _ (by omega), t4.set _ _ _ _, ?_, ?_, h.ak, hlo, hlt, ?_⟩⟩
  · rw [List.length_append, List.length_singleton]; exact own_row ho _ hlt
  · exact lies_set (lies_grown h.la hgr fun k e e2 => by have := (h.ak k e).2; have := hv k e2; omega) (fun _ e => by have := (h.ak _ e).1; omega) _
  · rw [World.setRow]; simpa using Nat.le_trans hsz hgr.size
end Go.Proofs.Ytfajfmcabpmchaa

namespace Go.Proofs.Ytfajfmcabpmchaa
set_option maxRecDepth 100000
open Go Go.RowKit Go.Sort

/-- how many of a row have an address below -/
def ltN (a : Int) (K : List Pe) : Nat := (K.takeWhile fun y => decide (y.1 < a)).length
theorem lt_le (a : Int) (K : List Pe) : ltN a K ≤ K.length := by unfold ltN; exact (List.takeWhile_sublist _).length_le
theorem lt_take (a : Int) (K : List Pe) : K.take (ltN a K) = K.takeWhile fun y => decide (y.1 < a) := by
  unfold ltN
  induction K with
  | nil => rfl
  | cons x K ih =>
    rw [List.takeWhile_cons]
    split
    · rw [List.length_cons, List.take_succ_cons, ih]
    · rfl
theorem lt_drop (a : Int) (K : List Pe) : K.drop (ltN a K) = K.dropWhile fun y => decide (y.1 < a) := by
  unfold ltN
  induction K with
  | nil => rfl
  | cons x K ih =>
    rw [List.takeWhile_cons, List.dropWhile_cons]
    split
    · rw [List.length_cons, List.drop_succ_cons, ih]
    · rfl
theorem lt_yes {a : Int} : ∀ {K : List Pe} {j : Nat}, j < ltN a K → (K.getD j (0, 0)).1 < a
  | [], j, h => by unfold ltN at h; simp at h
  | x :: K, j, h => by
    unfold ltN at h
    rw [List.takeWhile_cons] at h
    split at h
    · rename_i hx
      cases j with
      | zero => simpa using hx
      | succ j => exact lt_yes (K := K) (j := j) (by unfold ltN; simpa using h)
    · simp at h
theorem lt_no {a : Int} : ∀ {K : List Pe}, ltN a K < K.length → ¬ (K.getD (ltN a K) (0, 0)).1 < a
  | [], h => by simp at h
  | x :: K, h => by
    unfold ltN at h ⊢
    rw [List.takeWhile_cons] at h ⊢
    split at h
    · rename_i hx
      rw [if_pos hx]
      exact lt_no (K := K) (by unfold ltN; simpa using h)
    · rename_i hx
      rw [if_neg hx]
      simpa using hx
/-- what holds while all are gone through -/
structure KnW (g : Nat) (w wx : World) (s p : Pe) (u v al out : Value) (AL K : List Pe) : Prop where
  bel : Below g w wx
  t : TB wx g s p u v
  al : Lies wx al AL
  o : wx.ownsRow g 28 21 out K.length (flat K)
theorem KnW.bel2 {g : Nat} {w wx wy : World} {s p : Pe} {u v al out : Value} {AL K : List Pe} (h : KnW g w wx s p u v al out AL K) (hg : w.heap.size = g) (hb : Below wx.heap.size wx wy) : KnW g w wy s p u v al out AL K :=
  ⟨belTo hg h.bel hb, h.t.bel hb, h.al.bel hb, own_bel h.o hb⟩
set_option maxHeartbeats 16000000 in
theorem refknown_any {w : World} {s p : Pe} {u v : Value} {S L : List Pe} (hS : Lies w u S) (hF : Lies w v L) (hn : S.length + L.length ≤ 900) :
    Calls Try.prog 56 #[.agg (tabA s p u v)] w fun e w' => ∃ r, e = .returned r ∧ Lies w' r (knL s p S L) ∧ (∀ k, r.ownBlock = some k → w.heap.size ≤ k) ∧ Below w.heap.size w w' := by
  have B0 := (Below.refl w.heap.size w).alloc (Nat.le_refl _) (.cells (tabA s p u v) 43)
  have T0 := TB.new w s p u v
  have HS := Lib.hid hS
  have HF := Lib.hid hF
  obtain ⟨ua, uc, rfl⟩ := hS.form
  obtain ⟨va, vc, rfl⟩ := hF.form
  clear hS hF
  generalize hns : S.length = n at *
  generalize hnl : L.length = m at *
  have HNS := Lib.hid hns
  have HNL := Lib.hid hnl
  clear hns hnl
  go_enter Try.func56, Try.ntmps56
  go_upto_region 1 with (fail)
  generalize w.alloc _ = W at *
  generalize hg : w.heap.size = g at *
  have hgW : g + 1 ≤ W.heap.size := T0.lt
  have P0 := T0.pred
  have k1 := (Below.refl W.heap.size W).alloc (Nat.le_refl _) (.cells (peA p) 28)
  have O1 := Lib.hid (own_slice1 W p)
  have B1 := belTo hg B0 k1
  have T1 := T0.bel k1
  have c1 := T1.cu
  have HS1 : Hid (Src (W.alloc (.cells (peA p) 28)) (.slice ua n uc) n 21 (flat S)) := by
    have := lies_src (HS.out.bel (hg ▸ B1))
    rw [HNS.out] at this
    exact this
  go_upto_region 3 with (first
    | (refine p_midP rfl _ rfl g 21 rfl p P0 ?_)
    | (refine p_sliceP rfl _ rfl p rfl ?_)
    | (refine wpList_joinP (w0 := W) rfl _ _ rfl W.heap.size _ [p] S 1 n rfl O1.out _ rfl HS1.out (by omega) k1 (by simp) ?_; intro r1 w2 ho2 hb2 hs2; have O2 := Lib.hid ho2; have B2 := Lib.hid hb2; have T2 := T0.bel hb2; have c2 := T2.cv; clear ho2 hb2))
  have HF1 : Hid (Src w2 (.slice va m vc) m 21 (flat L)) := by
    have := lies_src (HF.out.bel (hg ▸ belTo hg B0 B2.out))
    rw [HNL.out] at this
    exact this
  have hs9 : W.heap.size ≤ w2.heap.size := B2.out.size
  clear c1 T1 B1 k1 O1 HS1 P0
  go_upto_region 6 with (first
    | (refine wpList_joinP (w0 := W) rfl _ _ rfl W.heap.size _ ([p] ++ S) L (1 + n) m rfl O2.out _ rfl HF1.out (by omega) B2.out hs9 ?_; intro al w3 ho3 hb3 hs3; have O3 := Lib.hid ho3; have B3 := Lib.hid hb3; have T3 := T0.bel hb3; clear ho3 hb3))
  have hal : ([p] ++ S ++ L).length = 1 + n + m := by rw [List.length_append, List.length_append, HNS.out, HNL.out]; rfl
  have HL3 : Hid (Lies w3 al ([p] ++ S ++ L)) := own_lies (by rw [hal]; exact O3.out)
  have HW : Hid (KnW g w w3 s p (.slice ua n uc) (.slice va m vc) al nilS ([p] ++ S ++ L) []) := ⟨belTo hg B0 B3.out, T3, HL3.out, own_nil _ _⟩
  have hres : knL s p S L = knF (fil s ([p] ++ S ++ L)) := rfl
  have HRES := Lib.hid hres
  clear hres B0 T0 T2 T3 c2 HF1 hs9 O2 O3 B2 B3 HL3
  generalize [p] ++ S ++ L = AL at *
  have HAL := Lib.hid hal
  obtain ⟨aa, ac, rfl⟩ := HW.out.al.form
  rw [hal] at HW ⊢
  have hn9 : 1 + n + m ≤ 901 := by omega
  clear hal
  generalize 1 + n + m = nn at *
  go_loopw [4, 5] (fun out i wr => ∃ k : Nat, k ≤ nn ∧ i = .int .i64 (k : Int) ∧ KnW g w wr s p (.slice ua n uc) (.slice va m vc) (.slice aa nn ac) out AL (knF (fil s (AL.take k)))) (fun _ i _ => nn - (intOf i).toNat)
  case atStart => exact ⟨0, by omega, rfl, HW.out⟩
  case round =>
    clear HW
    obtain ⟨k, hk, rfl, hW⟩ := hrel
    have HW := Lib.hid hW
    obtain ⟨oa, oc, rfl⟩ := own_form hW.o
    clear hW
    by_cases hlt : k < nn
    · have hx := getD_at (L := AL) (k := k) (by have := HAL.out; omega)
      obtain ⟨ab, ao, ac', e1, _, _, r1, _⟩ := HW.out.al.at hx
      simp only [Value.slice.injEq] at e1
      obtain ⟨rfl, e2, rfl⟩ := e1
      have hnext : fil s (AL.take (k + 1)) = fil s (AL.take k) ++ if filB s (AL.getD k (0, 0)) then [AL.getD k (0, 0)] else [] := by rw [List.take_add_one, hx]; exact fil_snoc s _ _
      have hkl : (knF (fil s (AL.take k))).length ≤ k := Nat.le_trans (knF_le _) (Nat.le_trans (List.length_filter_le _ _) (List.length_take_le _ _))
      have HNX := Lib.hid hnext
      clear e2 hx hnext
      generalize AL.getD k (0, 0) = x at *
      have b1 : (k : Int) < (nn : Int) := by omega
      have b2 : (0 : Int) ≤ (k : Int) := by omega
      have s1 : IntKind.i64.wrap ((k : Int) + 1) = (k : Int) + 1 := IntWalk.i64_in _ (by omega)
      have k2 := (Below.refl wr.heap.size wr).alloc (Nat.le_refl _) (.cells (peA x) 28)
      have X2 := PB.new wr x
      have HW2 := Lib.hid (HW.out.bel2 hg k2)
      go_upto_region 9 with (first
        | (refine p_midP rfl _ rfl ab (ao + k * 21) rfl x r1 ?_)
        | (refine p_storeP rfl rfl _ _ rfl x rfl rfl ?_))
      (try simp only [Act.put])
      clear r1 k2 HW
      generalize wr.alloc _ = W2 at *
      generalize wr.heap.size = g6 at *
      have c1 := X2.A
      have c2 := HW2.out.t.sA
      by_cases h0 : x.1 < 0
      · have d1 : decide (x.1 < (0 : Int)) = true := decide_eq_true h0
        have hf : filB s x = false := by unfold filB; rw [decide_eq_false (by omega)]; rfl
        have hno : knF (fil s (AL.take (k + 1))) = knF (fil s (AL.take k)) := by rw [HNX.out, hf]; simp
        have HNO := Lib.hid hno
        clear hno hf h0 HNX
        generalize knF (fil s (AL.take k)) = K at *
        go_wp2_with go_big_skip
        exact ⟨⟨k + 1, by omega, by go_num, by rw [HNO.out]; exact HW2.out⟩, by simp [intOf]; omega⟩
      · have d1 : decide (x.1 < (0 : Int)) = false := decide_eq_false h0
        by_cases hxs : x.1 = s.1
        · have d2 : (x.1 == s.1) = true := by simpa using hxs
          have hf : filB s x = false := by unfold filB; rw [decide_eq_true hxs]; simp
          have hno : knF (fil s (AL.take (k + 1))) = knF (fil s (AL.take k)) := by rw [HNX.out, hf]; simp
          have HNO := Lib.hid hno
          clear hno hf h0 HNX hxs
          generalize knF (fil s (AL.take k)) = K at *
          go_wp2_with go_big_skip
          exact ⟨⟨k + 1, by omega, by go_num, by rw [HNO.out]; exact HW2.out⟩, by simp [intOf]; omega⟩
        · have d2 : (x.1 == s.1) = false := by simpa using hxs
          have hf : filB s x = true := by unfold filB; rw [decide_eq_true (by omega), decide_eq_false hxs]; rfl
          have hno : knF (fil s (AL.take (k + 1))) = insU (knF (fil s (AL.take k))) x := by rw [HNX.out, hf]; exact kn_snoc _ _
          have HNO := Lib.hid hno
          clear hno hf h0 HNX hxs
          generalize knF (fil s (AL.take k)) = K at *
          have HH : Hid (∀ w', Below W2.heap.size W2 w' → Calls Try.prog 83 #[.slice oa K.length oc, .int .i64 x.1] w' fun e w'' => e = .returned (.bool (hasB K x.1)) ∧ Below w'.heap.size w' w'') := fun w' h => refhas_any x.1 ((own_lies HW2.out.o).bel h) (by omega)
          generalize hh : hasB K x.1 = hb at *
          have HHB := Lib.hid hh
          clear hh
          cases hb
          · have hins : insU K x = K.take (ltN x.1 K) ++ [x] ++ K.drop (ltN x.1 K) := by
              have h9 : insU.hasA K x.1 = false := HHB.out
              rw [lt_take, lt_drop]; unfold insU; rw [h9]; simp
            rw [hins] at HNO
            clear hins
            have htl := lt_le x.1 K
            have HY : Hid (∀ j, j < ltN x.1 K → (K.getD j (0, 0)).1 < x.1) := Lib.hid fun j h => lt_yes h
            have HZ : Hid (ltN x.1 K < K.length → ¬ (K.getD (ltN x.1 K) (0, 0)).1 < x.1) := Lib.hid fun h => lt_no h
            generalize ltN x.1 K = t at *
            generalize hkn : K.length = q at *
            have HKN := Lib.hid hkn
            clear hkn
            go_upto_region 12 with (first
              | go_big_skip
              | (go_at_call 83; (with_reducible refine (HH.out _ (Below.refl _ _)).mono ?_); rintro e w3 ⟨rfl, k3⟩; have HW3 := Lib.hid (HW2.out.bel2 hg k3); have X3 := Lib.hid (X2.bel k3); clear k3))
            clear c1 c2 HH HW2 X2
            obtain ⟨wo, rfl⟩ : ∃ wo : World, wo = w3 := ⟨_, rfl⟩
            go_loopw [8] (fun i wr => ∃ j : Nat, j ≤ t ∧ i = .int .i64 (j : Int) ∧ PB wr g6 x ∧ KnW g w wr s p (.slice ua n uc) (.slice va m vc) (.slice (some ⟨ab, ao, none⟩) nn ac) (.slice oa q oc) AL K) (fun i _ => t - (intOf i).toNat)
            case atStart => exact ⟨0, by omega, rfl, X3.out, HW3.out⟩
            case round =>
              clear X3 HW3
              obtain ⟨j, hj, rfl, hX, hW⟩ := hrel
              have HX := Lib.hid hX
              have HW := Lib.hid hW
              clear hX hW
              have cx := HX.out.A
              by_cases hjt : j < t
              · have hz := getD_at (L := K) (k := j) (by have := HKN.out; omega)
                have hOL : Lies wr (.slice oa q oc) K := by rw [← HKN.out]; exact own_lies (by have := HW.out.o; rw [HKN.out] at this; rw [HKN.out]; exact this)
                obtain ⟨zb, zo, zc, e1, _, _, r3, _⟩ := hOL.at hz
                simp only [Value.slice.injEq] at e1
                obtain ⟨rfl, e2, rfl⟩ := e1
                have cz := pe_ad r3
                have dlt : decide ((K.getD j (0, 0)).1 < x.1) = true := decide_eq_true (HY.out j hjt)
                clear e2 hz hOL r3
                generalize (K.getD j (0, 0)).1 = za at *
                have b3 : (j : Int) < (q : Int) := by omega
                have b4 : (0 : Int) ≤ (j : Int) := by omega
                have s2 : IntKind.i64.wrap ((j : Int) + 1) = (j : Int) + 1 := IntWalk.i64_in _ (by omega)
                go_upto_region 12 with (fail)
                go_quiet (fail)
                generalize hD : World.drewN wr _ = w9
                have kD : Below wr.heap.size wr w9 := by rw [← hD]; exact bel_drewN (Below.refl _ _) _
                have HW9 := Lib.hid (HW.out.bel2 hg kD)
                have HX9 := Lib.hid (HX.out.bel kD)
                clear hD kD cx cz
                go_wp2
                exact ⟨⟨j + 1, by omega, by go_num, HX9.out, HW9.out⟩, by simp [intOf]; omega⟩
              · obtain rfl : j = t := by omega
                clear hjt
                by_cases hjq : j < q
                · have hz := getD_at (L := K) (k := j) (by have := HKN.out; omega)
                  have hOL : Lies wr (.slice oa q oc) K := by rw [← HKN.out]; exact own_lies (by have := HW.out.o; rw [HKN.out] at this; rw [HKN.out]; exact this)
                  obtain ⟨zb, zo, zc, e1, _, _, r3, _⟩ := hOL.at hz
                  simp only [Value.slice.injEq] at e1
                  obtain ⟨rfl, e2, rfl⟩ := e1
                  have cz := pe_ad r3
                  have dlt : decide ((K.getD j (0, 0)).1 < x.1) = false := decide_eq_false (by have h := HZ.out (by have := HKN.out; omega); omega)
                  clear e2 hz hOL r3
                  generalize (K.getD j (0, 0)).1 = za at *
                  have b3 : (j : Int) < (q : Int) := by omega
                  have b4 : (0 : Int) ≤ (j : Int) := by omega
                  go_upto_region 12 with (fail)
                  go_quiet (fail)
                  generalize hD : World.drewN wr _ = w9
                  have kD : Below wr.heap.size wr w9 := by rw [← hD]; exact bel_drewN (Below.refl _ _) _
                  have HW9 := Lib.hid (HW.out.bel2 hg kD)
                  have HX9 := Lib.hid (HX.out.bel kD)
                  clear hD kD cx cz HW HX
                  have HO : Hid (w9.ownsRow g 28 21 (.slice (some ⟨zb, zo, none⟩) q oc) q (flat K)) := Lib.hid (by have := HW9.out.o; rw [HKN.out] at this; exact this)
                  have O4 := own_nil w9 w9.heap.size
                  go_upto_region 15 with (first
                    | (refine wpList_upto rfl 37 _ _ rfl 28 21 Try.underlying37 sizeP _ q j _ g rfl rfl htl HO.out ?_; intro sv hsv; rw [flat_take] at hsv; have HSV := Lib.hid hsv; clear hsv)
                    | (refine wpList_joinP (w0 := w9) rfl _ _ rfl w9.heap.size nilS [] (K.take j) 0 j rfl O4 _ rfl HSV.out (by omega) (Below.refl _ _) (Nat.le_refl _) ?_; intro n1v w4 ho4 hb4 hs4; have O5 := Lib.hid ho4; have B4 := Lib.hid hb4; clear ho4 hb4))
                  clear O4 HSV
                  have X4 := (HX9.out.bel B4.out).range
                  have k5 := (Below.refl w4.heap.size w4).alloc (Nat.le_refl _) (.cells (peA x) 28)
                  have O6 := Lib.hid (own_bel O5.out k5)
                  have P5 := (PB.new w4 x).range
                  have hs5 : w9.heap.size ≤ (w4.alloc (.cells (peA x) 28)).heap.size := by simp; omega
                  have B5 := Lib.hid (B4.out.alloc hs4 (.cells (peA x) 28))
                  clear k5 O5
                  go_upto_region 16 with (first
                    | (refine p_midP rfl _ rfl g6 0 rfl x X4 ?_)
                    | (refine p_sliceP rfl _ rfl x rfl ?_)
                    | (refine wpList_addG rfl _ _ rfl w9.heap.size n1v ([] ++ K.take j) (0 + j) rfl O6.out w4.heap.size 1 x rfl P5 (by omega) hs5 ?_; intro n2v w6 ho6 hg6; have O7 := Lib.hid ho6; have B6 := Lib.hid (B5.out.grown hg6 hs5 fun i hi => (O6.out.lt i hi).1); have hs6 := hg6.size; clear ho6 hg6))
                  have HO6 := Lib.hid (own_bel HO.out B6.out)
                  have hs7 : w9.heap.size ≤ w6.heap.size := by omega
                  clear X4 P5 O6 B5 B4 HO
                  go_upto_region 17 with (first
                    | (refine wpList_from rfl 37 _ _ rfl 28 21 Try.underlying37 sizeP _ q j _ g rfl rfl htl HO6.out ?_; intro sv hsv; rw [flat_drop] at hsv; have HSV := Lib.hid hsv; clear hsv)
                    | (refine wpList_joinP (w0 := w9) rfl _ _ rfl w9.heap.size n2v ([] ++ K.take j ++ [x]) (K.drop j) (0 + j + 1) (q - j) rfl O7.out _ rfl HSV.out (by omega) B6.out hs7 ?_; intro n3v w7 ho7 hb7 hs8; have O8 := Lib.hid ho7; have B7 := Lib.hid hb7; clear ho7 hb7))
                  clear HO6 O7 B6 HSV
                  have HN : Hid (KnW g w w7 s p (.slice ua n uc) (.slice va m vc) (.slice (some ⟨ab, ao, none⟩) nn ac) n3v AL (K.take j ++ [x] ++ K.drop j)) := by
                    have hb := HW9.out.bel2 hg B7.out
                    refine ⟨hb.bel, hb.t, hb.al, ?_⟩
                    have hl : (K.take j ++ [x] ++ K.drop j).length = 0 + j + 1 + (q - j) := by
                      have := HKN.out
                      rw [List.length_append, List.length_append, List.length_take, List.length_drop, this, List.length_singleton, Nat.min_eq_left htl]; omega
                    rw [hl]
                    have h8 := O8.out
                    rw [List.nil_append] at h8
                    exact own_base h8 (by have := HW9.out.bel.size; omega)
                  clear O8 B7 HW9 HX9
                  go_wp2
                  exact ⟨⟨k + 1, by omega, by go_num, by rw [HNO.out]; exact HN.out⟩, by simp [intOf]; omega⟩
                · have n9 : ¬ (j : Int) < (q : Int) := by omega
                  have n8 : decide (j < q) = false := decide_eq_false hjq
                  go_upto_region 12 with (fail)
                  go_quiet (fail)
                  generalize hD : World.drewN wr _ = w9
                  have kD : Below wr.heap.size wr w9 := by rw [← hD]; exact bel_drewN (Below.refl _ _) _
                  have HW9 := Lib.hid (HW.out.bel2 hg kD)
                  have HX9 := Lib.hid (HX.out.bel kD)
                  clear hD kD cx HW HX
                  have HO : Hid (w9.ownsRow g 28 21 (.slice oa q oc) q (flat K)) := Lib.hid (by have := HW9.out.o; rw [HKN.out] at this; exact this)
                  have O4 := own_nil w9 w9.heap.size
                  go_upto_region 15 with (first
                    | (refine wpList_upto rfl 37 _ _ rfl 28 21 Try.underlying37 sizeP _ q j _ g rfl rfl htl HO.out ?_; intro sv hsv; rw [flat_take] at hsv; have HSV := Lib.hid hsv; clear hsv)
                    | (refine wpList_joinP (w0 := w9) rfl _ _ rfl w9.heap.size nilS [] (K.take j) 0 j rfl O4 _ rfl HSV.out (by omega) (Below.refl _ _) (Nat.le_refl _) ?_; intro n1v w4 ho4 hb4 hs4; have O5 := Lib.hid ho4; have B4 := Lib.hid hb4; clear ho4 hb4))
                  clear O4 HSV
                  have X4 := (HX9.out.bel B4.out).range
                  have k5 := (Below.refl w4.heap.size w4).alloc (Nat.le_refl _) (.cells (peA x) 28)
                  have O6 := Lib.hid (own_bel O5.out k5)
                  have P5 := (PB.new w4 x).range
                  have hs5 : w9.heap.size ≤ (w4.alloc (.cells (peA x) 28)).heap.size := by simp; omega
                  have B5 := Lib.hid (B4.out.alloc hs4 (.cells (peA x) 28))
                  clear k5 O5
                  go_upto_region 16 with (first
                    | (refine p_midP rfl _ rfl g6 0 rfl x X4 ?_)
                    | (refine p_sliceP rfl _ rfl x rfl ?_)
                    | (refine wpList_addG rfl _ _ rfl w9.heap.size n1v ([] ++ K.take j) (0 + j) rfl O6.out w4.heap.size 1 x rfl P5 (by omega) hs5 ?_; intro n2v w6 ho6 hg6; have O7 := Lib.hid ho6; have B6 := Lib.hid (B5.out.grown hg6 hs5 fun i hi => (O6.out.lt i hi).1); have hs6 := hg6.size; clear ho6 hg6))
                  have HO6 := Lib.hid (own_bel HO.out B6.out)
                  have hs7 : w9.heap.size ≤ w6.heap.size := by omega
                  clear X4 P5 O6 B5 B4 HO
                  go_upto_region 17 with (first
                    | (refine wpList_from rfl 37 _ _ rfl 28 21 Try.underlying37 sizeP _ q j _ g rfl rfl htl HO6.out ?_; intro sv hsv; rw [flat_drop] at hsv; have HSV := Lib.hid hsv; clear hsv)
                    | (refine wpList_joinP (w0 := w9) rfl _ _ rfl w9.heap.size n2v ([] ++ K.take j ++ [x]) (K.drop j) (0 + j + 1) (q - j) rfl O7.out _ rfl HSV.out (by omega) B6.out hs7 ?_; intro n3v w7 ho7 hb7 hs8; have O8 := Lib.hid ho7; have B7 := Lib.hid hb7; clear ho7 hb7))
                  clear HO6 O7 B6 HSV
                  have HN : Hid (KnW g w w7 s p (.slice ua n uc) (.slice va m vc) (.slice (some ⟨ab, ao, none⟩) nn ac) n3v AL (K.take j ++ [x] ++ K.drop j)) := by
                    have hb := HW9.out.bel2 hg B7.out
                    refine ⟨hb.bel, hb.t, hb.al, ?_⟩
                    have hl : (K.take j ++ [x] ++ K.drop j).length = 0 + j + 1 + (q - j) := by
                      have := HKN.out
                      rw [List.length_append, List.length_append, List.length_take, List.length_drop, this, List.length_singleton, Nat.min_eq_left htl]; omega
                    rw [hl]
                    have h8 := O8.out
                    rw [List.nil_append] at h8
                    exact own_base h8 (by have := HW9.out.bel.size; omega)
                  clear O8 B7 HW9 HX9
                  go_wp2
                  exact ⟨⟨k + 1, by omega, by go_num, by rw [HNO.out]; exact HN.out⟩, by simp [intOf]; omega⟩
          · have hins : insU K x = K := by
              have h9 : insU.hasA K x.1 = true := HHB.out
              unfold insU; rw [h9]; rfl
            rw [hins] at HNO
            clear hins
            go_wp2_with (first
              | go_big_skip
              | (go_at_call 83; (with_reducible refine (HH.out _ (Below.refl _ _)).mono ?_); rintro e w3 ⟨rfl, k3⟩; have HW3 := Lib.hid (HW2.out.bel2 hg k3); clear k3))
            exact ⟨⟨k + 1, by omega, by go_num, by rw [HNO.out]; exact HW3.out⟩, by simp [intOf]; omega⟩
    · obtain rfl : k = nn := by omega
      have n1 : ¬ (k : Int) < (k : Int) := by omega
      have hfull : knF (fil s (AL.take k)) = knL s p S L := by rw [HRES.out, List.take_of_length_le (by have := HAL.out; omega)]
      have hl := own_lies HW.out.o
      have HB := Lib.hid HW.out.bel
      have hOB : ∀ q, (Value.slice oa (knF (fil s (AL.take k))).length oc).ownBlock = some q → g ≤ q := fun q e => (HW.out.o.lt q e).1
      clear HW
      generalize (knF (fil s (AL.take k))).length = no at *
      rw [hfull] at hl
      have HL := Lib.hid hl
      have HOB := Lib.hid hOB
      clear hfull hl hOB
      go_wp2
      go_ret
      exact ⟨_, rfl, HL.out, fun q e => by (try rw [hg]); exact HOB.out q e, by (try rw [hg]); exact HB.out⟩
end Go.Proofs.Ytfajfmcabpmchaa

namespace Go.Proofs.Ytfajfmcabpmchaa
set_option maxRecDepth 100000
open Go Go.RowKit Go.Sort

/-- the farthest one, of those between -/
def rfG (op : Pe → Bool) (ls : Pe → Pe → Bool) (A : List Int) : Pe × Bool → List Pe → Pe × Bool
  | acc, [] => acc
  | acc, x :: l => rfG op ls A (if memB A x.1 = false ∧ op x = true ∧ (acc.2 = false ∨ ls acc.1 x = true) then (x, true) else acc) l
theorem dst_far {m A X Y B : Nat} (hA : A < m) (hX : X < m) (hY : Y < m) (hB : B < m) (_ : Y ≠ A) (h2 : A = B ∨ dst m A Y < dst m A B) : (X ≠ Y ∧ (Y = B ∨ dst m Y X < dst m Y B)) ↔ (X ≠ A ∧ (A = B ∨ dst m A X < dst m A B)) ∧ dst m A Y < dst m A X := by
  unfold dst at *
  repeat' split at h2
  all_goals (repeat' split)
  all_goals omega
theorem far_iff {s y x id : Nat} (h : openB s y id = true) : openB y x id = true ↔ openB s x id = true ∧ lessB (sub y s) (sub x s) = true := by
  have e : lessB (sub y s) (sub x s) = true ↔ dst M (s % M) (y % M) < dst M (s % M) (x % M) := by
    unfold lessB; rw [sub_dst, sub_dst, decide_eq_true_eq]
  rw [e]
  rw [open_iff] at h ⊢
  rw [open_iff]
  exact dst_far (Nat.mod_lt _ M_pos) (Nat.mod_lt _ M_pos) (Nat.mod_lt _ M_pos) (Nat.mod_lt _ M_pos) h.1 h.2
theorem rf_nr (s : Pe) (id : Nat) (A : List Int) : ∀ (K : List Pe) (a r : Pe × Bool), (a.2 = false ∧ a.1 = s ∧ r = ((-1, 0), false)) ∨ (a.2 = true ∧ r = a ∧ openB s.2 a.1.2 id = true) →
    rfG (fun x => openB s.2 x.2 id) (fun y x => lessB (sub y.2 s.2) (sub x.2 s.2)) A r K = nrR (nrG (fun a b => openB a b id) A a K)
  | [], a, r, h => by
    rw [rfG, nrG]
    unfold nrR
    rcases h with ⟨h1, _, h3⟩ | ⟨h1, h2, _⟩
    · rw [h3, if_neg (by rw [h1]; simp)]
    · rw [h2, if_pos h1]
  | x :: K, a, r, h => by
    rw [rfG, nrG]
    refine rf_nr s id A K _ _ ?_
    rcases h with ⟨h1, h2, h3⟩ | ⟨h1, h2, h3⟩
    · subst h3
      rw [h2]
      by_cases hc : memB A x.1 = false ∧ openB s.2 x.2 id = true
      · rw [if_pos hc, if_pos ⟨hc.1, hc.2, .inl rfl⟩]
        exact .inr ⟨rfl, rfl, hc.2⟩
      · rw [if_neg hc, if_neg (fun hd => hc ⟨hd.1, hd.2.1⟩)]
        exact .inl ⟨h1, h2, rfl⟩
    · subst h2
      have hf := far_iff (x := x.2) h3
      by_cases hc : memB A x.1 = false ∧ openB r.1.2 x.2 id = true
      · rw [if_pos hc, if_pos ⟨hc.1, (hf.1 hc.2).1, .inr (hf.1 hc.2).2⟩]
        exact .inr ⟨rfl, rfl, (hf.1 hc.2).1⟩
      · rw [if_neg hc, if_neg (fun hd => hc ⟨hd.1, hf.2 ⟨hd.2.1, hd.2.2.resolve_left (by rw [h1]; simp)⟩⟩)]
        exact .inr ⟨h1, rfl, h3⟩
/-- while the known ones are gone through -/
structure NrW (g g8 : Nat) (w wx : World) (s p y : Pe) (u v l z : Value) (id : Nat) (K : List Pe) (A : List Int) : Prop where
  bel : Below g w wx
  t : TB wx g s p u v
  i : At wx (g + 1) id
  r : PB wx (g + 2) (0, 0)
  b : PB wx g8 y
  l : Lies wx l K
  z : Nums wx z A
theorem NrW.bel2 {g g8 : Nat} {w wx wy : World} {s p y : Pe} {u v l z : Value} {id : Nat} {K : List Pe} {A : List Int} (h : NrW g g8 w wx s p y u v l z id K A) (hg : w.heap.size = g) (k : Below wx.heap.size wx wy) : NrW g g8 w wy s p y u v l z id K A :=
  ⟨belTo hg h.bel k, h.t.bel k, h.i.below k, h.r.bel k, h.b.bel k, h.l.bel k, h.z.bel k⟩
theorem nums_put {w wx : World} {z : Value} {A : List Int} {g8 : Nat} (h : Nums wx z A) (hw : Nums w z A) (hg : w.heap.size ≤ g8) (cs : Array Value) : Nums (wx.setRow g8 cs) z A := by
  rcases h with h | ⟨b, o, c, rfl, h2⟩
  · exact .inl h
  · refine .inr ⟨b, o, c, rfl, ?_⟩
    cases A with
    | nil => intro j u hu; simp [ints] at hu
    | cons a A =>
      obtain ⟨b', o', c', e1, _, hlt⟩ := hw.some (by simp)
      simp only [Value.slice.injEq, Option.some.injEq, Addr.mk.injEq, and_true] at e1
      obtain ⟨⟨rfl, rfl⟩, _⟩ := e1
      exact range_row h2 (by omega)
theorem NrW.put {g g8 : Nat} {w wx : World} {s p y : Pe} {u v l z : Value} {id : Nat} {K : List Pe} {A : List Int} (h : NrW g g8 w wx s p y u v l z id K A) (_ : w.heap.size = g) (hg8 : g + 3 ≤ g8) (hne : l.ownBlock ≠ some g8) (hz8 : w.heap.size ≤ g8) (hzw : Nums w z A) (x : Pe) : NrW g g8 w (wx.setRow g8 (peA x)) s p x u v l z id K A :=
  ⟨bel_setRow h.bel (by omega) _, tb_row h.t _ (by omega), Blk.setRow_other h.i _ _ (by omega), pb_row h.r _ (by omega), h.b.set x, lies_set h.l (fun _ => hne) _, nums_put h.z hzw hz8 _⟩
set_option maxHeartbeats 16000000 in
theorem refnear_core {w : World} {s p : Pe} {u v z : Value} {K : List Pe} {A : List Int} (id : Nat) (op : Pe → Bool) (ls : Pe → Pe → Bool) (hA : Nums w z A) (hn : K.length ≤ 1000000) (hna : A.length ≤ 1000000)
    (hK : ∀ W, Below w.heap.size w W → Calls Try.prog 56 #[.agg (tabA s p u v)] W fun e w' => ∃ r, e = .returned r ∧ Lies w' r K ∧ (∀ k, r.ownBlock = some k → W.heap.size ≤ k) ∧ Below W.heap.size W w')
    (hO : ∀ x : Pe, Gives Try.prog 58 #[idv s.2, idv x.2, idv id] (.bool (op x))) (hL : ∀ y x : Pe, Gives Try.prog 59 #[idv (sub y.2 s.2), idv (sub x.2 s.2)] (.bool (ls y x))) :
    Calls Try.prog 31 #[.agg (tabA s p u v), idv id, z] w fun e w' => e = .returned (.tuple #[.agg (peA (rfG op ls A ((-1, 0), false) K).1), .bool (rfG op ls A ((-1, 0), false) K).2]) ∧ Below w.heap.size w w' := by
  have B0 := (((Below.refl w.heap.size w).alloc (Nat.le_refl _) (.cells (tabA s p u v) 43)).alloc (by simp) (.cells (row (dig 20 id)) 24)).alloc (by simp; omega) (.cells (peA (0, 0)) 28)
  have T0 : TB (((w.alloc (.cells (tabA s p u v) 43)).alloc (.cells (row (dig 20 id)) 24)).alloc (.cells (peA (0, 0)) 28)) w.heap.size s p u v := Blk.alloc (Blk.alloc (Blk.new ..) _) _
  have I0 : At (((w.alloc (.cells (tabA s p u v) 43)).alloc (.cells (row (dig 20 id)) 24)).alloc (.cells (peA (0, 0)) 28)) (w.heap.size + 1) id := by
    have := (At.new (w.alloc (.cells (tabA s p u v) 43)) id).alloc (.cells (peA (0, 0)) 28)
    rwa [World.size_alloc] at this
  have R0 : PB (((w.alloc (.cells (tabA s p u v) 43)).alloc (.cells (row (dig 20 id)) 24)).alloc (.cells (peA (0, 0)) 28)) (w.heap.size + 2) (0, 0) := by
    have := PB.new ((w.alloc (.cells (tabA s p u v) 43)).alloc (.cells (row (dig 20 id)) 24)) (0, 0)
    rwa [World.size_alloc, World.size_alloc] at this
  have HZ := Lib.hid hA
  obtain ⟨za, zc, rfl⟩ := hA.form
  have HO := Lib.hid hO
  have HLS := Lib.hid hL
  have HK := Lib.hid hK
  have HNN := Lib.hid refnone_any
  have HNK := Lib.hid hn
  have HNA := Lib.hid hna
  clear hO hK hL hn hna hA
  generalize hres : rfG op ls A ((-1, 0), false) K = res at *
  have HRES := Lib.hid hres
  clear hres
  generalize hma : A.length = ma at *
  have HMA := Lib.hid hma
  clear hma
  rw [show idv id = .agg (row (dig 20 id)) from rfl]
  go_enter Try.func31, Try.ntmps31
  go_upto_region 1 with (fail)
  rw [peer_zero]
  generalize ((w.alloc _).alloc _).alloc _ = W at *
  generalize hg : w.heap.size = g at *
  have hg3 : g + 3 ≤ W.heap.size := R0.lt
  go_upto_region 2 with (first
    | (go_at_call 37; (with_reducible refine (HNN.out _).mono ?_); rintro e w1 ⟨rfl, k1⟩; have T1 := T0.bel k1; have I1 := I0.below k1; have R1 := R0.bel k1; have B1 := belTo hg B0 k1; have hs1 := k1.size; clear k1)
    | (refine p_storeP rfl rfl _ _ rfl (-1, 0) rfl rfl ?_))
  (try simp only [Act.put])
  have k2 := (Below.refl w1.heap.size w1).alloc (Nat.le_refl _) (.cells (peA (-1, 0)) 28)
  have T2 := T1.bel k2
  have I2 := Lib.hid (I1.below k2)
  have R2 := Lib.hid (R1.bel k2)
  have B2 := belTo hg B1 k2
  have Y2 := Lib.hid (PB.new w1 (-1, 0))
  have hg8 : g + 3 ≤ w1.heap.size := by omega
  clear k2 T0 I0 R0 B0 T1 I1 R1 B1 hs1 hg3
  generalize w1.alloc _ = W2 at *
  generalize w1.heap.size = g8 at *
  go_upto_region 5 with (first
    | (refine p_midT rfl _ rfl g rfl T2 ?_)
    | (go_at_call 56; (with_reducible refine (HK.out _ B2).mono ?_); rintro e w3 ⟨l, rfl, hl, hlb, k3⟩; have HL3 := Lib.hid hl; obtain ⟨la, lc, rfl⟩ := hl.form; have HW : Hid (NrW g g8 w w3 s p (-1, 0) u v (.slice la K.length lc) (.slice za ma zc) id K A) := ⟨belTo hg B2 k3, T2.bel k3, I2.out.below k3, R2.out.bel k3, Y2.out.bel k3, hl, HZ.out.bel (hg ▸ belTo hg B2 k3)⟩; have hy8 := Y2.out.lt; clear k3 hl))
  have HNE : Hid ((Value.slice la K.length lc).ownBlock ≠ some g8) := fun h => by have := hlb g8 h; omega
  clear hlb hy8 T2 I2 R2 Y2 B2 HK HL3
  generalize hkl : K.length = n at *
  have HKL := Lib.hid hkl
  clear hkl
  go_loopw [9, 11] (fun f i wr => ∃ (k : Nat) (acc : Pe × Bool), i = .int .i64 (k : Int) ∧ f = .bool acc.2 ∧ k ≤ n ∧ NrW g g8 w wr s p acc.1 u v (.slice la n lc) (.slice za ma zc) id K A ∧ rfG op ls A acc (K.drop k) = res) (fun _ i _ => n - (intOf i).toNat)
  case atStart => exact ⟨0, ((-1, 0), false), rfl, rfl, Nat.zero_le _, HW.out, by rw [List.drop_zero]; exact HRES.out⟩
  case round =>
    clear HW HRES
    obtain ⟨k, ⟨y, fb⟩, rfl, rfl, hk, hW, hE⟩ := hrel
    have HW := Lib.hid hW
    have HEQ := Lib.hid hE
    clear hW hE
    by_cases hlt : k < n
    · have hx := getD_at (L := K) (k := k) (by have := HKL.out; omega)
      obtain ⟨b, o, c, e1, _, _, r1, _⟩ := HW.out.l.at hx
      simp only [Value.slice.injEq] at e1
      obtain ⟨rfl, e2, rfl⟩ := e1
      have hdrop : K.drop k = K.getD k (0, 0) :: K.drop (k + 1) := by
        have : k < K.length := by have := HKL.out; omega
        rw [List.drop_eq_getElem_cons this, List.getD_eq_getElem?_getD, List.getElem?_eq_getElem this]; rfl
      have hE := HEQ.out
      rw [hdrop, rfG] at hE
      have HE2 := Lib.hid hE
      clear e2 hx hdrop hE HEQ
      generalize K.getD k (0, 0) = x at *
      have k1 := (Below.refl wr.heap.size wr).alloc (Nat.le_refl _) (.cells (peA x) 28)
      have X1 := PB.new wr x
      have HW1 := Lib.hid (HW.out.bel2 hg k1)
      have b1 : (k : Int) < (n : Int) := by omega
      have b2 : (0 : Int) ≤ (k : Int) := by omega
      have s1 : IntKind.i64.wrap ((k : Int) + 1) = (k : Int) + 1 := IntWalk.i64_in _ (by have := HNK.out; have := HKL.out; omega)
      go_upto_region 8 with (first
        | (refine p_midP rfl _ rfl b (o + k * 21) rfl x r1 ?_)
        | (refine p_storeP rfl rfl _ _ rfl x rfl rfl ?_))
      (try simp only [Act.put])
      clear k1 r1 HW
      generalize wr.alloc _ = W3 at *
      generalize wr.heap.size = g12 at *
      have d1 := X1.A
      have HCC : Hid (Calls Try.prog 57 #[.slice za ma zc, .int .i64 x.1] W3 fun e w'' => e = .returned (.bool (memB A x.1)) ∧ Below W3.heap.size W3 w'') := refin_any x.1 HW1.out.z (by have := HNA.out; have := HMA.out; omega)
      have hoo := HO.out x
      have hls := HLS.out y x
      dsimp only at HE2
      generalize memB A x.1 = mb at *
      generalize op x = ox at *
      generalize ls y x = lx at *
      cases mb
      · cases ox
        · have hE := HE2.out
          rw [if_neg (by simp)] at hE
          have HE3 := Lib.hid hE
          clear hE HE2
          go_wp2_with (first
            | go_big_skip
            | (go_at_call 57; (with_reducible refine HCC.out.mono ?_); rintro e w3 ⟨rfl, k3⟩; have HW3 := Lib.hid (HW1.out.bel2 hg k3); have X3 := X1.bel k3; have i1 := HW3.out.t.sI; have i2 := X3.I; have i3 := blk_range HW3.out.i; clear k3)
            | (go_guarded; refine o_midI _ rfl g 1 rfl s.2 i1 ?_; simp only [Act.put, List.setIfInBounds_toArray, List.set_cons_succ, List.set_cons_zero])
            | (go_guarded; refine o_midI _ rfl g12 1 rfl x.2 i2 ?_; simp only [Act.put, List.setIfInBounds_toArray, List.set_cons_succ, List.set_cons_zero])
            | (go_guarded; refine o_midI _ rfl (g + 1) 0 rfl id i3 ?_; simp only [Act.put, List.setIfInBounds_toArray, List.set_cons_succ, List.set_cons_zero])
            | (go_at_call 58; (with_reducible refine (hoo.calls _).mono ?_); rintro e w4 ⟨rfl, k4⟩; have HW4 := Lib.hid (HW3.out.bel2 hg k4); have X4 := X3.bel k4; clear k4))
          exact ⟨⟨k + 1, (y, fb), by go_num, rfl, by omega, HW4.out, HE3.out⟩, by simp [intOf]; omega⟩
        · go_upto_region 9 with (first
            | go_big_skip
            | (go_at_call 57; (with_reducible refine HCC.out.mono ?_); rintro e w3 ⟨rfl, k3⟩; have HW3 := Lib.hid (HW1.out.bel2 hg k3); have X3 := X1.bel k3; have i1 := HW3.out.t.sI; have i2 := X3.I; have i3 := blk_range HW3.out.i; clear k3)
            | (go_guarded; refine o_midI _ rfl g 1 rfl s.2 i1 ?_; simp only [Act.put, List.setIfInBounds_toArray, List.set_cons_succ, List.set_cons_zero])
            | (go_guarded; refine o_midI _ rfl g12 1 rfl x.2 i2 ?_; simp only [Act.put, List.setIfInBounds_toArray, List.set_cons_succ, List.set_cons_zero])
            | (go_guarded; refine o_midI _ rfl (g + 1) 0 rfl id i3 ?_; simp only [Act.put, List.setIfInBounds_toArray, List.set_cons_succ, List.set_cons_zero])
            | (go_at_call 58; (with_reducible refine (hoo.calls _).mono ?_); rintro e w4 ⟨rfl, k4⟩; have HW4 := Lib.hid (HW3.out.bel2 hg k4); have X4 := X3.bel k4; clear k4))
          have i1 := HW4.out.t.sI
          have i2 := X4.I
          have i3 := HW4.out.b.I
          have hMy : Gives Try.prog 60 #[idv y.2, idv s.2] (idv (sub y.2 s.2)) := fun w => refMinus_all _ _ w
          have hMx : Gives Try.prog 60 #[idv x.2, idv s.2] (idv (sub x.2 s.2)) := fun w => refMinus_all _ _ w
          have X4H := Lib.hid X4
          clear X1 X3 X4 HW1 HW3 HCC hoo d1
          generalize sub y.2 s.2 = sy at *
          generalize sub x.2 s.2 = sx at *
          cases fb
          · have hE := HE2.out
            rw [if_pos (by simp)] at hE
            have HE3 := Lib.hid hE
            clear hE HE2
            refine wp_region_quiet_below (by kernel_rfl) (by kernel_rfl) ?_
            repeat (first
              | go_big_quiet_skip
              | (go_big_quiet_want
                 first
                 | (first | (refine q_midI _ rfl g8 1 rfl y.2 (by with_reducible exact i3) ?_) | (refine q_midI _ rfl g 1 rfl s.2 (by with_reducible exact i1) ?_) | (refine q_midI _ rfl g12 1 rfl x.2 (by with_reducible exact i2) ?_)
                    simp only [Act.put, List.setIfInBounds_toArray, List.set_cons_succ, List.set_cons_zero]
                    go_big_quiet_on)
                 | (go_big_quiet_op
                    first | go_big_quiet_on | go_big_quiet_call (first | with_reducible exact hMy.grown _ _ | with_reducible exact hMx.grown _ _ | with_reducible exact hls.grown _ _))))
            refine wpQuiet_nil ?_
            intro w9 hw'
            have k9 := quiet_end hw'
            clear hw'
            have HW5 := Lib.hid (HW4.out.bel2 hg k9)
            have x5 := (X4H.out.bel k9).range
            have b5 := HW5.out.b
            clear k9 HW4 X4H i1 i2 i3
            go_wp2_with (first
              | (refine p_midP rfl _ rfl g12 0 rfl x x5 ?_)
              | (refine p_putO rfl _ _ rfl g8 rfl x rfl b5 ?_))
            exact ⟨⟨k + 1, (x, true), by go_num, rfl, by omega, HW5.out.put hg hg8 HNE.out (by omega) HZ.out x, HE3.out⟩, by simp [intOf]; omega⟩
          · cases lx
            · have hE := HE2.out
              rw [if_neg (by simp)] at hE
              have HE3 := Lib.hid hE
              clear hE HE2
              refine wp_region_quiet_below (by kernel_rfl) (by kernel_rfl) ?_
              repeat (first
                | go_big_quiet_skip
                | (go_big_quiet_want
                   first
                   | (first | (refine q_midI _ rfl g8 1 rfl y.2 (by with_reducible exact i3) ?_) | (refine q_midI _ rfl g 1 rfl s.2 (by with_reducible exact i1) ?_) | (refine q_midI _ rfl g12 1 rfl x.2 (by with_reducible exact i2) ?_)
                      simp only [Act.put, List.setIfInBounds_toArray, List.set_cons_succ, List.set_cons_zero]
                      go_big_quiet_on)
                   | (go_big_quiet_op
                      first | go_big_quiet_on | go_big_quiet_call (first | with_reducible exact hMy.grown _ _ | with_reducible exact hMx.grown _ _ | with_reducible exact hls.grown _ _))))
              refine wpQuiet_nil ?_
              intro w9 hw'
              have k9 := quiet_end hw'
              clear hw'
              have HW5 := Lib.hid (HW4.out.bel2 hg k9)
              clear k9 HW4 X4H
              go_wp2
              exact ⟨⟨k + 1, (y, true), by go_num, rfl, by omega, HW5.out, HE3.out⟩, by simp [intOf]; omega⟩
            · have hE := HE2.out
              rw [if_pos (by simp)] at hE
              have HE3 := Lib.hid hE
              clear hE HE2
              refine wp_region_quiet_below (by kernel_rfl) (by kernel_rfl) ?_
              repeat (first
                | go_big_quiet_skip
                | (go_big_quiet_want
                   first
                   | (first | (refine q_midI _ rfl g8 1 rfl y.2 (by with_reducible exact i3) ?_) | (refine q_midI _ rfl g 1 rfl s.2 (by with_reducible exact i1) ?_) | (refine q_midI _ rfl g12 1 rfl x.2 (by with_reducible exact i2) ?_)
                      simp only [Act.put, List.setIfInBounds_toArray, List.set_cons_succ, List.set_cons_zero]
                      go_big_quiet_on)
                   | (go_big_quiet_op
                      first | go_big_quiet_on | go_big_quiet_call (first | with_reducible exact hMy.grown _ _ | with_reducible exact hMx.grown _ _ | with_reducible exact hls.grown _ _))))
              refine wpQuiet_nil ?_
              intro w9 hw'
              have k9 := quiet_end hw'
              clear hw'
              have HW5 := Lib.hid (HW4.out.bel2 hg k9)
              have x5 := (X4H.out.bel k9).range
              have b5 := HW5.out.b
              clear k9 HW4 X4H i1 i2 i3
              go_wp2_with (first
                | (refine p_midP rfl _ rfl g12 0 rfl x x5 ?_)
                | (refine p_putO rfl _ _ rfl g8 rfl x rfl b5 ?_))
              exact ⟨⟨k + 1, (x, true), by go_num, rfl, by omega, HW5.out.put hg hg8 HNE.out (by omega) HZ.out x, HE3.out⟩, by simp [intOf]; omega⟩
      · have hE := HE2.out
        rw [if_neg (by simp)] at hE
        have HE3 := Lib.hid hE
        clear hE HE2
        go_wp2_with (first
          | go_big_skip
          | (go_at_call 57; (with_reducible refine HCC.out.mono ?_); rintro e w3 ⟨rfl, k3⟩; have HW3 := Lib.hid (HW1.out.bel2 hg k3); clear k3))
        exact ⟨⟨k + 1, (y, fb), by go_num, rfl, by omega, HW3.out, HE3.out⟩, by simp [intOf]; omega⟩
    · obtain rfl : k = n := by omega
      have hfin : res = (y, fb) := by
        rw [← HEQ.out, List.drop_of_length_le (by have := HKL.out; omega), rfG]
      have HFI := Lib.hid hfin
      have n1 : ¬ (k : Int) < (k : Int) := by omega
      have y1 := HW.out.b.range
      have r1 := HW.out.r
      have hB := HW.out.bel
      clear hfin HEQ
      go_wp2_with (first
        | (refine p_midP rfl _ rfl g8 0 rfl y y1 ?_)
        | (refine p_putO rfl _ _ rfl (g + 2) rfl y rfl r1 ?_))
      exact bodyPost_ret (results_P2 Try.results31 _ _ (g + 2) _ rfl rfl (r1.set y)) rfl ⟨by rw [HFI.out]; rfl, by (try rw [hg]); exact bel_setRow hB (by omega) _⟩
theorem refnear_any {w : World} {s p : Pe} {u v z : Value} {S L : List Pe} {A : List Int} (id : Nat) (hS : Lies w u S) (hF : Lies w v L) (hA : Nums w z A) (hn : S.length + L.length ≤ 900) (hna : A.length ≤ 1000000) :
    Calls Try.prog 31 #[.agg (tabA s p u v), idv id, z] w fun e w' => e = .returned (.tuple #[.agg (peA (nrR (nrG (fun a b => openB a b id) A (s, false) (knL s p S L))).1), .bool (nrR (nrG (fun a b => openB a b id) A (s, false) (knL s p S L))).2]) ∧ Below w.heap.size w w' := by
  have h := refnear_core (s := s) (p := p) (u := u) (v := v) (K := knL s p S L) id (fun x => openB s.2 x.2 id) (fun y x => lessB (sub y.2 s.2) (sub x.2 s.2)) hA (Nat.le_trans (kn_le s p S L) (by omega)) hna (fun _ hb => refknown_any (hS.bel hb) (hF.bel hb) hn) (fun x w => refOpen_all _ _ _ w) fun y x w => refLess_all _ _ w
  rw [rf_nr s id A (knL s p S L) (s, false) ((-1, 0), false) (.inl ⟨rfl, rfl, rfl⟩)] at h
  exact h
end Go.Proofs.Ytfajfmcabpmchaa
