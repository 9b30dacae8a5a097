/- A table forgets an address. -/
import Derived.Test.YtkcljbolopephaaTabAdopt
import Derived.Deep.RegionHeld3
namespace Go.Proofs.Ytkcljbolopephaa
set_option maxRecDepth 100000
open Go Go.RowKit Go.Sort

def forP (a : Int) (x : Pe) : Pe := if x.1 = a then (-1, 0) else x
theorem delete_nil {w : World} {q : Nat} {a : Int} (hq : w.cell? ⟨q, 0, none⟩ = some (.int .i64 a)) :
    Calls Try.prog 67 #[nilS, .func (.func 68) #[] #[.pointer (some ⟨q, 0, none⟩)]] w fun r w' => r = .returned nilS ∧ Below w.heap.size w w' := by
  have h0 := indexF_any (lies_nil w) (by simp) hq
  rw [show idxI a [] = -1 from rfl] at h0
  have HC := Lib.hid h0
  clear h0 hq
  go_enter Try.func67, Try.ntmps67
  go_wp2_with (go_at_call 80; (with_reducible refine HC.out.mono ?_); rintro e w1 ⟨rfl, k1⟩; have HB := Lib.hid k1; clear k1)
  go_ret
  exact ⟨rfl, HB.out⟩
/-- .. behind them -/
structure PreD (g : Nat) (w wr : World) (s p : Pe) (a : Int) (r1 r2 : Value) (S : List Pe) : Prop where
  bel : Below g w wr
  t : TB wr g s p r1 r2
  ad : wr.cell? ⟨g + 1, 0, none⟩ = some (.int .i64 a)
  x : TB wr (g + 2) (0, 0) (0, 0) nilS nilS
  o : wr.ownsRow (g + 3) 25 21 r1 S.length (flat S)
/-- while the fingers are gone through -/
structure FoW (g b : Nat) (w wr : World) (s p : Pe) (a : Int) (r1 r2 : Value) (S : List Pe) (f : Nat → Pe) (n : Nat) : Prop where
  bel : Below g w wr
  t : TB wr g s p r1 r2
  ad : wr.cell? ⟨g + 1, 0, none⟩ = some (.int .i64 a)
  x : TB wr (g + 2) (0, 0) (0, 0) nilS nilS
  o : wr.ownsRow (g + 3) 25 21 r1 S.length (flat S)
  ne : r1.ownBlock ≠ some b
  lo : g + 3 ≤ b
  d : Dat wr b 0 f n
theorem FoW.bel2 {g b n : Nat} {w wr w' : World} {s p : Pe} {a : Int} {r1 r2 : Value} {S : List Pe} {f : Nat → Pe} (h : FoW g b w wr s p a r1 r2 S f n) (hg : w.heap.size = g) (hb : Below wr.heap.size wr w') : FoW g b w w' s p a r1 r2 S f n :=
  ⟨belTo hg h.bel hb, h.t.bel hb, cell_bel h.ad hb, h.x.bel hb, own_bel h.o hb, h.ne, h.lo, h.d.bel hb⟩
theorem FoW.put {g b n : Nat} {w wr : World} {s p : Pe} {a : Int} {r1 r2 : Value} {S : List Pe} {f : Nat → Pe} (h : FoW g b w wr s p a r1 r2 S f n) {i : Nat} (hi : i < n) (y : Pe) : FoW g b w (wr.setCells b (0 + i * 21) (peC y)) s p a r1 r2 S (fun j => if j = i then y else f j) n := by
  have hgr := grown_set wr b (0 + i * 21) (peC y)
  have hlo := h.lo
  have hlt := h.d.lt
  have hk : ∀ k, k ≠ b → k < wr.heap.size → (wr.setCells b (0 + i * 21) (peC y)).heap[k]? = wr.heap[k]? := fun k hk hl => hgr.block k hl (by simpa using hk)
  refine ⟨⟨hgr.os.trans h.bel.os, hgr.tape.trans h.bel.tape, hgr.output.trans h.bel.output, Nat.le_trans h.bel.size hgr.size, fun k hk' => (hk k (by omega) (by omega)).trans (h.bel.block k hk')⟩, (hk g (by omega) (by omega)).trans h.t, cell_but h.ad hgr (by omega), (hk (g + 2) (by omega) (by omega)).trans h.x, ?_, h.ne, h.lo, h.d.set hi y⟩
  exact own_keep h.o fun k e => hk k (fun e2 => h.ne (by rw [e, e2])) (h.o.lt k e).2
/-- before the fingers are gone through -/
structure PreW (g : Nat) (w wr : World) (s p : Pe) (a : Int) (r1 r2 : Value) (S L : List Pe) : Prop where
  bel : Below g w wr
  t : TB wr g s p r1 r2
  ad : wr.cell? ⟨g + 1, 0, none⟩ = some (.int .i64 a)
  x : TB wr (g + 2) (0, 0) (0, 0) nilS nilS
  o : wr.ownsRow (g + 3) 25 21 r1 S.length (flat S)
  o2 : wr.ownsRow (g + 3) 25 21 r2 L.length (flat L)
  ne : ∀ k, r1.ownBlock = some k → r2.ownBlock ≠ some k
theorem PreW.bel2 {g : Nat} {w wr w' : World} {s p : Pe} {a : Int} {r1 r2 : Value} {S L : List Pe} (h : PreW g w wr s p a r1 r2 S L) (hg : w.heap.size = g) (hb : Below wr.heap.size wr w') : PreW g w w' s p a r1 r2 S L :=
  ⟨belTo hg h.bel hb, h.t.bel hb, cell_bel h.ad hb, h.x.bel hb, own_bel h.o hb, own_bel h.o2 hb, h.ne⟩
theorem PreW.setp {g : Nat} {w wr : World} {s p : Pe} {a : Int} {r1 r2 : Value} {S L : List Pe} (h : PreW g w wr s p a r1 r2 S L) (_ : w.heap.size = g) (p' : Pe) : PreW g w (wr.setRow g (tabA s p' r1 r2)) s p' a r1 r2 S L :=
  ⟨bel_setRow h.bel (Nat.le_refl _) _, h.t.set _ _ _ _, cell_but h.ad (grown_row wr g _) (by omega), tb_row h.x _ (by omega), own_row h.o _ (by omega), own_row h.o2 _ (by omega), h.ne⟩
set_option maxHeartbeats 8000000 in
theorem forget_any {w : World} {s p : Pe} {u v : Value} {S L : List Pe} (a : Int) (hS : Lies w u S) (hF : Lies w v L) (hn : S.length ≤ 1000) (hf : L.length ≤ 1000) :
    Calls Try.prog 34 #[.agg (tabA s p u v), .int .i64 a] w fun e w' => ∃ r1 r2, e = .returned (.agg (tabA s (forP a p) r1 r2)) ∧ Lies w' r1 (delL a S) ∧ Lies w' r2 (L.map (forP a)) ∧ Below w.heap.size w w' := by
  have B0 := ((Below.refl w.heap.size w).alloc (Nat.le_refl _) (.cells (tabA s p u v) 28)).alloc (by simp) (.cells #[.int .i64 a] 3)
  have B1 := B0.alloc (by simp; omega) (.cells (tabA (0, 0) (0, 0) nilS nilS) 28)
  have T0 : TB (((w.alloc (.cells (tabA s p u v) 28)).alloc (.cells #[.int .i64 a] 3)).alloc (.cells (tabA (0, 0) (0, 0) nilS nilS) 28)) w.heap.size s p u v := Blk.alloc (Blk.alloc (Blk.new ..) _) _
  have A0 : (((w.alloc (.cells (tabA s p u v) 28)).alloc (.cells #[.int .i64 a] 3)).alloc (.cells (tabA (0, 0) (0, 0) nilS nilS) 28)).cell? ⟨w.heap.size + 1, 0, none⟩ = some (.int .i64 a) := by
    have := ((Blk.new (w.alloc (.cells (tabA s p u v) 28)) #[.int .i64 a] 3).alloc (.cells (tabA (0, 0) (0, 0) nilS nilS) 28)).cell 0
    rwa [World.size_alloc] at this
  have X0 : TB (((w.alloc (.cells (tabA s p u v) 28)).alloc (.cells #[.int .i64 a] 3)).alloc (.cells (tabA (0, 0) (0, 0) nilS nilS) 28)) (w.heap.size + 2) (0, 0) (0, 0) nilS nilS := by
    have := TB.zero ((w.alloc (.cells (tabA s p u v) 28)).alloc (.cells #[.int .i64 a] 3))
    rwa [World.size_alloc, World.size_alloc] at this
  have HC := Lib.hid (copied_any (s := s) (p := p) (hS.bel B1) (hF.bel B1) (by omega) (by omega))
  have HN := Lib.hid hn
  have HNL := Lib.hid hf
  clear hS hF hn hf B0
  go_enter Try.func34, Try.ntmps34
  go_upto_region 1 with (fail)
  rw [tab_zero]
  generalize ((w.alloc _).alloc _).alloc _ = W at *
  generalize hg : w.heap.size = g at *
  have hgW : g + 3 ≤ W.heap.size := X0.lt
  go_upto_region 2 with (first
    | (refine p_midT rfl _ rfl g rfl T0 ?_)
    | (go_at_call 45; (with_reducible refine HC.out.mono ?_); rintro e w3 ⟨r1, r2, rfl, o1, o2, ha, k3⟩; have t3 := T0.bel k3; have x3 := X0.bel k3; have a3 := cell_bel A0 k3; have O1 := Lib.hid o1; have O2 := Lib.hid o2; have HA := Lib.hid ha; have b3 := belTo hg B1 k3; clear o1 o2 ha k3)
    | (refine p_putT rfl _ _ rfl g rfl rfl (own_one O1.out) (own_one O2.out) t3 ?_))
  have t4 := t3.set s p r1 r2
  have x4 := tb_row x3 (tabA s p r1 r2) (show g + 2 ≠ g by omega)
  have a4 := cell_but a3 (grown_row w3 g (tabA s p r1 r2)) (show g + 1 ≠ g by omega)
  have O3 := Lib.hid (own_base (own_row O1.out (tabA s p r1 r2) (show g < W.heap.size by omega)) (show g + 3 ≤ W.heap.size by omega))
  have O4 := Lib.hid (own_base (own_row O2.out (tabA s p r1 r2) (show g < W.heap.size by omega)) (show g + 3 ≤ W.heap.size by omega))
  have b4 : Below g w (w3.setRow g (tabA s p r1 r2)) := bel_setRow b3 (Nat.le_refl _) _
  clear T0 X0 A0 t3 x3 a3 O1 O2 b3 HC B1
  generalize w3.setRow g (tabA s p r1 r2) = W4 at *
  have Q4 := Lib.hid (PreW.mk b4 t4 a4 x4 O3.out O4.out HA.out)
  have c21 := t4.pA
  clear O3 O4 HA x4 b4
  go_upto_if 13 with (fail)
  go_cut [] from 13 (fun wx => Hid (PreW g w wx s (forP a p) a r1 r2 S L))
  case first =>
    by_cases hpa : p.1 = a
    · have e1 : (p.1 == a) = true := by rw [beq_addr]; exact decide_eq_true hpa
      have hf : forP a p = (-1, 0) := by unfold forP; rw [if_pos hpa]
      have HPF := Lib.hid hf
      have HNN := Lib.hid none_any
      clear hf hpa
      go_wp2_with (first
        | (go_at_call 42; (with_reducible refine (HNN.out _).mono ?_); rintro e w5 ⟨rfl, k5⟩; have Q5 := Lib.hid (Q4.out.bel2 hg k5); clear k5)
        | (refine p_putP rfl _ _ rfl g rfl (-1, 0) rfl Q5.out.t ?_))
      (try simp only [Act.put])
      go_meet
      rw [HPF.out]
      exact Q5.out.setp hg (-1, 0)
    · have e1 : (p.1 == a) = false := by rw [beq_addr]; exact decide_eq_false hpa
      have hf : forP a p = p := by unfold forP; rw [if_neg hpa]
      have HPF := Lib.hid hf
      clear hf hpa
      go_wp2
      go_meet
      rw [HPF.out]
      exact Q4
  case rest =>
    clear Q4 c21 t4 a4
    have hQ := hcut.out
    have HQ := hcut
    clear hcut
    generalize hpp : forP a p = p' at *
    have HPP := Lib.hid hpp
    clear hpp
    have c43 := hQ.t.cv
    rcases own_dat hQ.o2 with ⟨rfl, rfl⟩ | ⟨b, c, rfl, hc, hbl, hD⟩
    · clear hQ
      have hL2 : ∀ (w' : World) (b1 : Nat), wc.grownBy w' (some b1) → r1.ownBlock = some b1 → Lies w' nilS (List.map (forP a) []) := fun w' _ _ _ => lies_nil w'
      have HL2 := Lib.hid hL2
      have HL3 : Hid (∀ (w' : World), Below wc.heap.size wc w' → Lies w' nilS (List.map (forP a) [])) := fun w' _ => lies_nil w'
      clear hL2
      go_upto_region 5 with (fail)
      refine wp_loop_rounds 1 ?_
      rw [rounds_succ]
      have hQ := HQ.out
      have HS0 := Lib.hid (PreD.mk hQ.bel hQ.t hQ.ad hQ.x hQ.o)
      have hne2 : nilS.ownBlock ≠ some g := by simp [Value.ownBlock]
      have hne3 : nilS.ownBlock ≠ some (g + 2) := by simp [Value.ownBlock]
      clear hQ HQ
      have hS := HS0.out
      have c42 := hS.t.cu
      have t0 := hS.t
      have hmf : ∀ (fn : Fn) (first cap : Array Value) (w : World), (Instr.makeFunc fn first cap).run Try.prog w = .ok (.func fn first cap) w := fun _ _ _ _ => rfl
      rcases own_dat hS.o with ⟨rfl, rfl⟩ | ⟨b1, c1, rfl, hc1, hbl1, hD1⟩
      · have HDN := Lib.hid (delete_nil hS.ad)
        clear hS
        go_upto_region 11 with (first
          | (go_at_call 67; (with_reducible refine HDN.out.mono ?_); rintro r w6 ⟨rfl, k6⟩; have B6 := Lib.hid k6; have t6 := t0.bel k6; have x6 := HS0.out.x.bel k6; have b6 := belTo hg HS0.out.bel k6; clear k6)
          | (refine p_putS rfl _ _ rfl g rfl nilS rfl rfl t6 ?_))
        have t7 := t6.set s p' nilS nilS
        have x7 := tb_row x6 (tabA s p' nilS nilS) (show g + 2 ≠ g by omega)
        have b7 := bel_setRow b6 (Nat.le_refl g) (tabA s p' nilS nilS)
        have L7 := lies_set (HL3.out _ B6.out) (fun _ => hne2) (tabA s p' nilS nilS)
        have HL7 := Lib.hid L7
        clear t6 x6 b6 B6 L7 HL2 HL3 HS0 t0 c42 HDN
        generalize w6.setRow g (tabA s p' nilS nilS) = W7 at *
        go_wp2_with (first
          | (refine p_midT rfl _ rfl g rfl t7 ?_)
          | (refine p_putT rfl _ _ rfl (g + 2) rfl rfl rfl (lies_one HL7.out) x7 ?_))
        exact bodyPost_ret (results_T1 Try.results34 _ _ (g + 2) rfl (x7.set _ _ _ _)) rfl ⟨_, _, by rw [HPP.out], lies_nil _, lies_set HL7.out (fun _ => hne3) _, by (try rw [hg]); exact bel_setRow b7 (by omega) _⟩
      · have HDN := Lib.hid (delete_any (c := c1) hD1 HN.out hc1 hS.ad (by omega))
        clear hD1 hS
        go_upto_region 11 with (first
          | (go_at_call 67; (with_reducible refine HDN.out.mono ?_); rintro r w6 ⟨k6, f6, rfl, hk6, d6, g6, e6⟩; have G6 := Lib.hid g6; have D6 := Lib.hid d6; have E6 := Lib.hid e6; have t6 : TB w6 g s p' _ _ := cells_but t0 g6 (by omega); have x6 : TB w6 (g + 2) (0, 0) (0, 0) nilS nilS := cells_but HS0.out.x g6 (by omega); have b6 := bel_but HS0.out.bel g6 (by omega) (by have := HS0.out.x.lt; omega); clear d6 g6 e6)
          | (refine p_putS rfl _ _ rfl g rfl (.slice (some ⟨b1, 0, none⟩) k6 c1) rfl rfl t6 ?_))
        have t7 := t6.set s p' (.slice (some ⟨b1, 0, none⟩) k6 c1) nilS
        have x7 := tb_row x6 (tabA s p' (.slice (some ⟨b1, 0, none⟩) k6 c1) nilS) (show g + 2 ≠ g by omega)
        have b7 := bel_setRow b6 (Nat.le_refl g) (tabA s p' (.slice (some ⟨b1, 0, none⟩) k6 c1) nilS)
        have L7 := lies_set (HL2.out _ b1 G6.out rfl) (fun _ => hne2) (tabA s p' (.slice (some ⟨b1, 0, none⟩) k6 c1) nilS)
        have hd6 : seg f6 0 k6 = delL a S := by rw [E6.out, seg_fun]
        have hk7 : k6 = (delL a S).length := by rw [← hd6, seg_length]; rfl
        have hk8 : k6 ≤ c1 := Nat.le_trans hk6 hc1
        have D7 : Lies w6 (.slice (some ⟨b1, 0, none⟩) k6 c1) (delL a S) := by rw [← hd6]; exact D6.out.lies hk8
        have HD7 := Lib.hid (lies_set (g := g) D7 (fun _ => by simp only [Value.ownBlock, ne_eq, Option.some.injEq]; omega) (tabA s p' (.slice (some ⟨b1, 0, none⟩) k6 c1) nilS))
        have HL7 := Lib.hid L7
        clear t6 x6 b6 L7 HL2 HL3 HS0 t0 c42 HDN hd6 hk7 D7 D6 E6 G6
        generalize w6.setRow g (tabA s p' (.slice (some ⟨b1, 0, none⟩) k6 c1) nilS) = W7 at *
        go_wp2_with (first
          | (refine p_midT rfl _ rfl g rfl t7 ?_)
          | (refine p_putT rfl _ _ rfl (g + 2) rfl rfl rfl (lies_one HL7.out) x7 ?_))
        exact bodyPost_ret (results_T1 Try.results34 _ _ (g + 2) rfl (x7.set _ _ _ _)) rfl ⟨_, _, by rw [HPP.out], lies_set (g := g + 2) HD7.out (fun _ => by simp only [Value.ownBlock, ne_eq, Option.some.injEq]; omega) _, lies_set HL7.out (fun _ => hne3) _, by (try rw [hg]); exact bel_setRow b7 (by omega) _⟩
    · have hF0 : FoW g b w wc s p' a r1 (.slice (some ⟨b, 0, none⟩) L.length c) S (fun' L) L.length := ⟨hQ.bel, hQ.t, hQ.ad, hQ.x, hQ.o, fun e => hQ.ne b e rfl, hbl, hD⟩
      have HF0 := Lib.hid hF0
      clear hQ HQ hD hF0
      go_upto_region 5 with (fail)
      go_loopw [5, 6, 19] (fun _ _ i wr => ∃ (k : Nat) (f : Nat → Pe), i = .int .i64 (k : Int) ∧ k ≤ L.length ∧ FoW g b w wr s p' a r1 (.slice (some ⟨b, 0, none⟩) L.length c) S f L.length ∧ (∀ i, i < k → f i = forP a (fun' L i)) ∧ ∀ i, k ≤ i → f i = fun' L i) (fun _ _ i _ => L.length - (intOf i).toNat)
      case atStart => exact ⟨0, fun' L, rfl, Nat.zero_le _, HF0.out, fun i hi => by omega, fun _ _ => rfl⟩
      case round =>
        clear HF0
        obtain ⟨k, f, rfl, hk, hW, h1, h2⟩ := hrel
        have HW := Lib.hid hW
        have H1 := Lib.hid h1
        have H2 := Lib.hid h2
        clear hW h1 h2
        by_cases hlt : k < L.length
        · have r1' := HW.out.d.at hlt
          rw [H2.out k (Nat.le_refl _), Nat.zero_add] at r1'
          generalize hfy : fun' L k = y at *
          have HFY := Lib.hid hfy
          clear hfy
          have B1 := (Below.refl wr.heap.size wr).alloc (Nat.le_refl _) (.cells (peA y) 25)
          have X1 := (PB.new wr y).A
          have HW1 := Lib.hid (HW.out.bel2 hg B1)
          have s1 : IntKind.i64.wrap ((k : Int) + 1) = (k : Int) + 1 := IntWalk.i64_in _ (by have := HNL.out; omega)
          have b1 : (k : Int) < (L.length : Int) := by omega
          have b2 : (0 : Int) ≤ (k : Int) := by omega
          go_upto_region 7 with (first
            | (refine p_midP rfl _ rfl b (k * 21) rfl y r1' ?_)
            | (refine p_storeP rfl rfl _ _ rfl y rfl rfl ?_))
          (try simp only [Act.put])
          clear r1' B1 HW
          generalize wr.alloc _ = W1 at *
          generalize wr.heap.size = g1 at *
          have a1 := HW1.out.ad
          by_cases hya : y.1 = a
          · have e1 : (y.1 == a) = true := by rw [beq_addr]; exact decide_eq_true hya
            have hfor : forP a y = (-1, 0) := by unfold forP; rw [if_pos hya]
            have HFR := Lib.hid hfor
            clear hfor hya
            go_upto_region 8 with (fail)
            clear a1 X1 e1
            have c9 := HW1.out.t.cv
            refine wp_region_held_drew (S := (fun w9 => w9.cell? ⟨g, 43, none⟩ = some (.slice (some ⟨b, 0, none⟩) L.length c) ∧ True)) (by kernel_rfl) ?_ (fun hHeld => ?_)
            · exact ⟨c9, trivial⟩
            have HW2 := HW1.out.bel2 hg (drew_bel W1)
            clear HW1 c9
            generalize W1.drew = W2 at *
            have c9 := HW2.t.cv
            refine wpAnyH_take (i := 0) (v := ?_) rfl (by kernel_rfl) (by kernel_rfl) (by kernel_rfl) (fun _ _ _ h => h) (Or.inl ⟨by rfl, ?_⟩) (by assumption) ?_
            rotate_left
            · intro w9 hSw
              (try dsimp only at hSw)
              go_simp
              (try with_reducible rfl)
            (try simp only [Act.put]); (try simp only [List.setIfInBounds_toArray]); (try simp only [List.set_cons_succ]); (try simp only [List.set_cons_zero])
            iterate 1
              (try dsimp only [List.getElem_toArray, List.getElem_cons_succ, List.getElem_cons_zero])
              (try simp only [Act.put]); (try simp only [List.setIfInBounds_toArray]); (try simp only [List.set_cons_succ]); (try simp only [List.set_cons_zero])
            refine wpAnyH_take (i := 1) (v := ?_) rfl (by kernel_rfl) (by kernel_rfl) (by kernel_rfl) (fun _ _ _ h => h) (Or.inl ⟨by rfl, ?_⟩) (by assumption) ?_
            rotate_left
            · intro w9 hSw
              (try dsimp only at hSw)
              obtain ⟨hSw, -⟩ := hSw
              go_simp
              (try with_reducible rfl)
            (try simp only [Act.put]); (try simp only [List.setIfInBounds_toArray]); (try simp only [List.set_cons_succ]); (try simp only [List.set_cons_zero])
            refine wpAnyH_take (i := 2) (v := ?_) rfl (by kernel_rfl) (by kernel_rfl) (by kernel_rfl) (fun _ _ _ h => h) (Or.inl ⟨by rfl, ?_⟩) (by assumption) ?_
            rotate_left
            · intro w9 hSw
              (try dsimp only at hSw)
              go_simp
              (try with_reducible rfl)
            (try simp only [Act.put]); (try simp only [List.setIfInBounds_toArray]); (try simp only [List.set_cons_succ]); (try simp only [List.set_cons_zero])
            iterate 2
              (try dsimp only [List.getElem_toArray, List.getElem_cons_succ, List.getElem_cons_zero])
              (try simp only [Act.put]); (try simp only [List.setIfInBounds_toArray]); (try simp only [List.set_cons_succ]); (try simp only [List.set_cons_zero])
            refine wpAnyH_ready (rs := [3]) (by kernel_rfl) (by simp) ?_
            refine AllReadyH.cons rfl (fun K hK => ?_) ?_
            rotate_left
            · exact AllReadyH.nil
            go_simp
            go_wp2_with (go_at_call 42; (with_reducible refine (none_any _).mono ?_); rintro e w3 ⟨rfl, k3⟩; have HW3 := HW2.bel2 hg k3)
            refine hK.out _ _ ?_ (fun hHeld => ?_)
            · exact ⟨HW3.t.cv, trivial⟩
            clear hK K
            (try simp only [Act.put]); (try simp only [List.setIfInBounds_toArray]); (try simp only [List.set_cons_succ]); (try simp only [List.set_cons_zero])
            have HW4 := HW3.put hlt (-1, 0)
            rw [Nat.zero_add] at HW4
            refine wpAnyH_take (i := 4) (v := ?_) rfl (by kernel_rfl) (by kernel_rfl) (by kernel_rfl) (fun _ _ _ h => h) (Or.inl ⟨by rfl, ?_⟩) (by assumption) ?_
            rotate_left
            · intro w9 hSw
              (try dsimp only at hSw)
              go_simp
              (try with_reducible rfl)
            (try simp only [Act.put]); (try simp only [List.setIfInBounds_toArray]); (try simp only [List.set_cons_succ]); (try simp only [List.set_cons_zero])
            iterate 2
              (try dsimp only [List.getElem_toArray, List.getElem_cons_succ, List.getElem_cons_zero])
              (try simp only [Act.put]); (try simp only [List.setIfInBounds_toArray]); (try simp only [List.set_cons_succ]); (try simp only [List.set_cons_zero])
            refine wpAnyH_ready (rs := [5]) (by kernel_rfl) (by simp) ?_
            refine AllReadyH.cons rfl (fun K hK => ?_) ?_
            rotate_left
            · exact AllReadyH.nil
            rw [if_pos (by rfl)]
            refine wp_store_mid 25 _ _ rfl b (k * 21) (peA (-1, 0)) rfl rfl (by rw [peA_size]; have := HW3.d.thereAt hlt; rwa [Nat.zero_add] at this) (by rw [peA_size]; exact sizeP) (peA_one _) ?_
            refine hK.out _ _ ?_ (fun hHeld => ?_)
            · exact ⟨HW4.t.cv, trivial⟩
            clear hK K
            (try simp only [Act.put]); (try simp only [List.setIfInBounds_toArray]); (try simp only [List.set_cons_succ]); (try simp only [List.set_cons_zero])
            iterate 2
              (try dsimp only [List.getElem_toArray, List.getElem_cons_succ, List.getElem_cons_zero])
              (try simp only [Act.put]); (try simp only [List.setIfInBounds_toArray]); (try simp only [List.set_cons_succ]); (try simp only [List.set_cons_zero])
            refine wpAnyH_done (by kernel_rfl) ?_ _
            have HW5 := Lib.hid HW4
            clear hHeld HW3 c9 HW2 HW4
            rw [peA_list]
            generalize w3.setCells b (k * 21) _ = W5 at *
            go_wp2
            exact ⟨⟨k + 1, _, by go_num, by omega, HW5.out, fun i hi => by
              by_cases e : i = k
              · subst e; simp only [if_true]; rw [HFY.out, HFR.out]
              · rw [if_neg e]; exact H1.out i (by omega), fun i hi => by rw [if_neg (by omega)]; exact H2.out i (by omega)⟩, by simp [intOf]; omega⟩
          · have e1 : (y.1 == a) = false := by rw [beq_addr]; exact decide_eq_false hya
            have hfor : forP a y = y := by unfold forP; rw [if_neg hya]
            have HFR := Lib.hid hfor
            clear hfor hya
            go_wp2
            exact ⟨⟨k + 1, f, by go_num, by omega, HW1.out, fun i hi => by
              by_cases e : i = k
              · subst e; rw [H2.out _ (Nat.le_refl _), HFY.out, HFR.out]
              · exact H1.out i (by omega), fun i hi => H2.out i (by omega)⟩, by simp [intOf]; omega⟩
        · obtain rfl : k = L.length := by omega
          have hsg : seg f 0 L.length = L.map (forP a) := by
            rw [seg_congr (g := fun i => forP a (fun' L i)) fun i _ hi => H1.out i hi]
            conv => rhs; rw [← seg_fun L]
            unfold seg
            rw [List.map_map]; rfl
          have hne := HW.out.ne
          have hlo := HW.out.lo
          have hL2 : ∀ (w' : World) (b1 : Nat), wr.grownBy w' (some b1) → r1.ownBlock = some b1 → Lies w' (.slice (some ⟨b, 0, none⟩) L.length c) (L.map (forP a)) := fun w' b1 hgr e1 => by
            have hbb : b ≠ b1 := fun e => hne (by rw [e1, e])
            rw [← hsg]
            exact Dat.lies (HW.out.d.kept (hgr.block b HW.out.d.lt (by simpa using hbb)) hgr.size) hc
          have hL3 : ∀ (w' : World), Below wr.heap.size wr w' → Lies w' (.slice (some ⟨b, 0, none⟩) L.length c) (L.map (forP a)) := fun w' hb => by
            rw [← hsg]; exact Dat.lies (HW.out.d.bel hb) hc
          have HL2 := Lib.hid hL2
          have HL3 := Lib.hid hL3
          have HS0 := Lib.hid (PreD.mk HW.out.bel HW.out.t HW.out.ad HW.out.x HW.out.o)
          have hne2 : (Value.slice (some ⟨b, 0, none⟩) L.length c).ownBlock ≠ some g := by simp only [Value.ownBlock, ne_eq, Option.some.injEq]; omega
          have hne3 : (Value.slice (some ⟨b, 0, none⟩) L.length c).ownBlock ≠ some (g + 2) := by simp only [Value.ownBlock, ne_eq, Option.some.injEq]; omega
          clear hsg hne hL2 hL3 HW H1 H2
          have hS := HS0.out
          have c42 := hS.t.cu
          have t0 := hS.t
          have hmf : ∀ (fn : Fn) (first cap : Array Value) (w : World), (Instr.makeFunc fn first cap).run Try.prog w = .ok (.func fn first cap) w := fun _ _ _ _ => rfl
          rcases own_dat hS.o with ⟨rfl, rfl⟩ | ⟨b1, c1, rfl, hc1, hbl1, hD1⟩
          · have HDN := Lib.hid (delete_nil hS.ad)
            clear hS
            go_upto_region 11 with (first
              | (go_at_call 67; (with_reducible refine HDN.out.mono ?_); rintro r w6 ⟨rfl, k6⟩; have B6 := Lib.hid k6; have t6 := t0.bel k6; have x6 := HS0.out.x.bel k6; have b6 := belTo hg HS0.out.bel k6; clear k6)
              | (refine p_putS rfl _ _ rfl g rfl nilS rfl rfl t6 ?_))
            have t7 := t6.set s p' nilS (.slice (some ⟨b, 0, none⟩) L.length c)
            have x7 := tb_row x6 (tabA s p' nilS (.slice (some ⟨b, 0, none⟩) L.length c)) (show g + 2 ≠ g by omega)
            have b7 := bel_setRow b6 (Nat.le_refl g) (tabA s p' nilS (.slice (some ⟨b, 0, none⟩) L.length c))
            have L7 := lies_set (HL3.out _ B6.out) (fun _ => hne2) (tabA s p' nilS (.slice (some ⟨b, 0, none⟩) L.length c))
            have HL7 := Lib.hid L7
            clear t6 x6 b6 B6 L7 HL2 HL3 HS0 t0 c42 HDN
            generalize w6.setRow g (tabA s p' nilS (.slice (some ⟨b, 0, none⟩) L.length c)) = W7 at *
            go_wp2_with (first
              | (refine p_midT rfl _ rfl g rfl t7 ?_)
              | (refine p_putT rfl _ _ rfl (g + 2) rfl rfl rfl (lies_one HL7.out) x7 ?_))
            exact bodyPost_ret (results_T1 Try.results34 _ _ (g + 2) rfl (x7.set _ _ _ _)) rfl ⟨_, _, by rw [HPP.out], lies_nil _, lies_set HL7.out (fun _ => hne3) _, by (try rw [hg]); exact bel_setRow b7 (by omega) _⟩
          · have HDN := Lib.hid (delete_any (c := c1) hD1 HN.out hc1 hS.ad (by omega))
            clear hD1 hS
            go_upto_region 11 with (first
              | (go_at_call 67; (with_reducible refine HDN.out.mono ?_); rintro r w6 ⟨k6, f6, rfl, hk6, d6, g6, e6⟩; have G6 := Lib.hid g6; have D6 := Lib.hid d6; have E6 := Lib.hid e6; have t6 : TB w6 g s p' _ _ := cells_but t0 g6 (by omega); have x6 : TB w6 (g + 2) (0, 0) (0, 0) nilS nilS := cells_but HS0.out.x g6 (by omega); have b6 := bel_but HS0.out.bel g6 (by omega) (by have := HS0.out.x.lt; omega); clear d6 g6 e6)
              | (refine p_putS rfl _ _ rfl g rfl (.slice (some ⟨b1, 0, none⟩) k6 c1) rfl rfl t6 ?_))
            have t7 := t6.set s p' (.slice (some ⟨b1, 0, none⟩) k6 c1) (.slice (some ⟨b, 0, none⟩) L.length c)
            have x7 := tb_row x6 (tabA s p' (.slice (some ⟨b1, 0, none⟩) k6 c1) (.slice (some ⟨b, 0, none⟩) L.length c)) (show g + 2 ≠ g by omega)
            have b7 := bel_setRow b6 (Nat.le_refl g) (tabA s p' (.slice (some ⟨b1, 0, none⟩) k6 c1) (.slice (some ⟨b, 0, none⟩) L.length c))
            have L7 := lies_set (HL2.out _ b1 G6.out rfl) (fun _ => hne2) (tabA s p' (.slice (some ⟨b1, 0, none⟩) k6 c1) (.slice (some ⟨b, 0, none⟩) L.length c))
            have hd6 : seg f6 0 k6 = delL a S := by rw [E6.out, seg_fun]
            have hk7 : k6 = (delL a S).length := by rw [← hd6, seg_length]; rfl
            have hk8 : k6 ≤ c1 := Nat.le_trans hk6 hc1
            have D7 : Lies w6 (.slice (some ⟨b1, 0, none⟩) k6 c1) (delL a S) := by rw [← hd6]; exact D6.out.lies hk8
            have HD7 := Lib.hid (lies_set (g := g) D7 (fun _ => by simp only [Value.ownBlock, ne_eq, Option.some.injEq]; omega) (tabA s p' (.slice (some ⟨b1, 0, none⟩) k6 c1) (.slice (some ⟨b, 0, none⟩) L.length c)))
            have HL7 := Lib.hid L7
            clear t6 x6 b6 L7 HL2 HL3 HS0 t0 c42 HDN hd6 hk7 D7 D6 E6 G6
            generalize w6.setRow g (tabA s p' (.slice (some ⟨b1, 0, none⟩) k6 c1) (.slice (some ⟨b, 0, none⟩) L.length c)) = W7 at *
            go_wp2_with (first
              | (refine p_midT rfl _ rfl g rfl t7 ?_)
              | (refine p_putT rfl _ _ rfl (g + 2) rfl rfl rfl (lies_one HL7.out) x7 ?_))
            exact bodyPost_ret (results_T1 Try.results34 _ _ (g + 2) rfl (x7.set _ _ _ _)) rfl ⟨_, _, by rw [HPP.out], lies_set (g := g + 2) HD7.out (fun _ => by simp only [Value.ownBlock, ne_eq, Option.some.injEq]; omega) _, lies_set HL7.out (fun _ => hne3) _, by (try rw [hg]); exact bel_setRow b7 (by omega) _⟩
end Go.Proofs.Ytkcljbolopephaa
