/- A finger is pointed to a peer, and those behind it as far as it reaches. -/
import Derived.Test.YtkcljbolopephaaTabFinger
import Derived.Test.YtkcljbolopephaaTabForget
import Derived.Test.YtkcljbolopephaaTabAdopt
import Derived.BigGuard
import Derived.Deep.CutRange
namespace Go.Proofs.Ytkcljbolopephaa
set_option maxRecDepth 100000
open Go Go.RowKit Go.Sort

/-- the fingers from i on, n of them, and the next one to point -/
def ptL (fg : Nat → Pe × Bool) : Nat → Nat → List Pe → List Pe × Nat
  | 0, _, L => (L, 0)
  | n + 1, i, L => if (fg i).2 = true then ptL fg n (i + 1) (L.set i (fg i).1) else (L, i)
def okK (k : Int) : Bool := decide (0 ≤ k) && decide (k < 160)
theorem fun_set (L : List Pe) {i : Nat} (hi : i < L.length) (y : Pe) : fun' (L.set i y) = fun j => if j = i then y else fun' L j := by
  funext j
  unfold fun'
  rw [List.getD_eq_getElem?_getD, List.getElem?_set]
  by_cases e : i = j
  · subst e; rw [if_pos rfl, if_pos hi, if_pos rfl]; rfl
  · rw [if_neg e, if_neg (fun h => e h.symm), ← List.getD_eq_getElem?_getD]
/-- while the fingers are pointed -/
structure PoW (g b : Nat) (w wr : World) (s p x : Pe) (r1 r2 : Value) (S L : List Pe) : Prop where
  bel : Below g w wr
  t : TB wr g s p r1 r2
  pb : PB wr (g + 1) x
  x : TB wr (g + 2) (0, 0) (0, 0) nilS nilS
  o : wr.ownsRow (g + 3) 25 21 r1 S.length (flat S)
  ne : r1.ownBlock ≠ some b
  lo : g + 3 ≤ b
  d : Dat wr b 0 (fun' L) L.length
theorem PoW.bel2 {g b : Nat} {w wr w' : World} {s p x : Pe} {r1 r2 : Value} {S L : List Pe} (h : PoW g b w wr s p x r1 r2 S L) (hg : w.heap.size = g) (hb : Below wr.heap.size wr w') : PoW g b w w' s p x r1 r2 S L :=
  ⟨belTo hg h.bel hb, h.t.bel hb, h.pb.bel hb, h.x.bel hb, own_bel h.o hb, h.ne, h.lo, h.d.bel hb⟩
theorem PoW.put {g b : Nat} {w wr : World} {s p x : Pe} {r1 r2 : Value} {S L : List Pe} (h : PoW g b w wr s p x r1 r2 S L) {i : Nat} (hi : i < L.length) (y : Pe) : PoW g b w (wr.setCells b (0 + i * 21) (peC y)) s p x r1 r2 S (L.set i y) := by
  have hgr := grown_set wr b (0 + i * 21) (peC y)
  have hlo := h.lo
  have hlt := h.d.lt
  have hk : ∀ k, k ≠ b → k < wr.heap.size → (wr.setCells b (0 + i * 21) (peC y)).heap[k]? = wr.heap[k]? := fun k hk hl => hgr.block k hl (by simpa using hk)
  refine ⟨⟨hgr.os.trans h.bel.os, hgr.tape.trans h.bel.tape, hgr.output.trans h.bel.output, Nat.le_trans h.bel.size hgr.size, fun k hk' => (hk k (by omega) (by omega)).trans (h.bel.block k hk')⟩, (hk g (by omega) (by omega)).trans h.t, (hk (g + 1) (by omega) (by omega)).trans h.pb, (hk (g + 2) (by omega) (by omega)).trans h.x, ?_, h.ne, h.lo, ?_⟩
  · exact own_keep h.o fun k e => hk k (fun e2 => h.ne (by rw [e, e2])) (h.o.lt k e).2
  · rw [List.length_set, fun_set L hi]; exact h.d.set hi y
/-- what a Point answers -/
def PointP (B : Nat) (s p : Pe) (S F : List Pe) (next : Nat) (ok : Bool) (e : Ending) (w' : World) : Prop :=
  (ok = false ∧ e = .returned (.tuple #[.agg (tabA (0, 0) (0, 0) nilS nilS), .int .i64 0, .int .i64 1])) ∨ (ok = true ∧ ∃ r1 r2, e = .returned (.tuple #[.agg (tabA s p r1 r2), .int .i64 (next : Int), .int .i64 0]) ∧ Lies w' r1 S ∧ Lies w' r2 F ∧ (∀ k, r1.ownBlock = some k → B ≤ k) ∧ ∀ k, r2.ownBlock = some k → B ≤ k)
theorem point_end {g b c n : Nat} {w wr : World} {s p x : Pe} {r1 : Value} {S L : List Pe} {next n2 : Nat} {F : List Pe} {ok : Bool} (h : PoW g b w wr s p x r1 (.slice (some ⟨b, 0, none⟩) n c) S L) (hl : L.length = n) (hc : n ≤ c) (e : L = F) (e2 : next = n2) (hok : ok = true) (hg : w.heap.size = g) :
    PointP w.heap.size s p S F n2 ok (.returned (.tuple #[.agg (tabA s p r1 (.slice (some ⟨b, 0, none⟩) n c)), .int .i64 (next : Int), .int .i64 0])) (wr.setRow (g + 2) (tabA s p r1 (.slice (some ⟨b, 0, none⟩) n c))) ∧ Below w.heap.size w (wr.setRow (g + 2) (tabA s p r1 (.slice (some ⟨b, 0, none⟩) n c))) := by
  have hlo := h.lo
  subst e e2
  refine ⟨.inr ⟨hok, _, _, rfl, own_lies (own_row h.o _ (by omega)), ?_, fun k e => by have := (h.o.lt k e).1; omega, fun k e => by have h2 : (some b : Option Nat) = some k := e; rw [Option.some.injEq] at h2; omega⟩, ?_⟩
  · refine lies_set ?_ (fun _ => by simp only [Value.ownBlock, ne_eq, Option.some.injEq]; omega) _
    have := Dat.lies h.d (by rw [hl]; exact hc)
    rwa [seg_fun, hl] at this
  · rw [hg]; exact bel_setRow h.bel (by omega) _
set_option maxHeartbeats 8000000 in
theorem point_core {w : World} {s p : Pe} {u v : Value} {S L F : List Pe} {nx : Nat} (x : Pe) (r : Int) (it es ot : Bool) (fg : Nat → Nat → Pe × Bool) (hS : Lies w u S) (hF : Lies w v L) (hn : S.length ≤ 1000000) (hf : L.length ≤ 1000000) (hE : eqP x s = es) (hGN : ptL (fg r.toNat) (160 - r.toNat) r.toNat L = (F, nx)) (hIL : it = true → L.length = 160)
    (hI : ∀ W, Below w.heap.size w W → Calls Try.prog 25 #[.agg (tabA s p u v)] W fun e w' => e = .returned (.bool it) ∧ Below W.heap.size W w') (hO : Gives Try.prog 44 #[.agg (tabA s p u v), .agg (peA x)] (.bool ot))
    (hG : ∀ (u v : Value) (i k : Nat), i < 160 → Gives Try.prog 49 #[.agg (tabA s p u v), .int .i64 (i : Int), .int .i64 (k : Int), .agg (peA x)] (.tuple #[.agg (peA (fg k i).1), .bool (fg k i).2])) :
    Calls Try.prog 15 #[.agg (tabA s p u v), .int .i64 r, .agg (peA x)] w fun e w' => PointP w.heap.size s p S F nx (it && (okK r && (es || ot))) e w' ∧ Below w.heap.size w w' := by
  have hX := Box3.made w s p u v x
  have HS := Lib.hid (hS.bel hX.bel)
  have HF := Lib.hid (hF.bel hX.bel)
  have HI := Lib.hid (hI _ hX.bel)
  have HG := Lib.hid hG
  have HGN := Lib.hid hGN
  clear hGN
  have HC : Hid (∀ W', Lies W' u S → Lies W' v L → Calls Try.prog 45 #[.agg (tabA s p u v)] W' fun e w' => ∃ r1 r2, e = .returned (.agg (tabA s p r1 r2)) ∧ w'.ownsRow W'.heap.size 25 21 r1 S.length (flat S) ∧ w'.ownsRow W'.heap.size 25 21 r2 L.length (flat L) ∧
      (∀ k, r1.ownBlock = some k → r2.ownBlock ≠ some k) ∧ Below W'.heap.size W' w') := fun W' h1 h2 => copied_any h1 h2 hn hf
  clear hS hF hn hf hI hG
  go_enter Try.func15, Try.ntmps15
  go_upto_region 1 with (fail)
  rw [tab_zero]
  generalize ((w.alloc _).alloc _).alloc _ = W at *
  obtain ⟨b0, t0, p0, x0⟩ := hX
  generalize hg : w.heap.size = g at *
  have hgW : g + 3 ≤ W.heap.size := x0.lt
  cases it
  · go_wp2_with (first
      | go_big_skip
      | (refine p_midT rfl _ rfl g rfl t0 ?_)
      | (go_at_call 25; (with_reducible refine HI.out.mono ?_); rintro e w1 ⟨rfl, k1⟩; have x1 := x0.bel k1; have b1 := belTo hg b0 k1; clear k1)
      | (refine p_build0 rfl rfl ?_)
      | (refine p_putT rfl _ _ rfl (g + 2) rfl rfl rfl rfl x1 ?_))
    refine bodyPost_ret (results_T3 Try.results15 _ _ (g + 2) _ _ rfl rfl rfl (x1.set _ _ _ _)) rfl ⟨.inl ⟨rfl, rfl⟩, by (try rw [hg]); exact bel_setRow b1 (by omega) _⟩
  have hL160 := hIL rfl
  clear hIL
  by_cases hr1 : r < 0
  · have e1 : okK r = false := by unfold okK; rw [decide_eq_false (p := 0 ≤ r) (by omega)]; rfl
    have HE := Lib.hid e1
    clear e1
    go_wp2_with (first
      | go_big_skip
      | (refine p_midT rfl _ rfl g rfl t0 ?_)
      | (go_at_call 25; (with_reducible refine HI.out.mono ?_); rintro e w1 ⟨rfl, k1⟩; have t1 := t0.bel k1; have s1 := t1.self; have p1 := (p0.bel k1).range; have x1 := x0.bel k1; have b1 := belTo hg b0 k1; clear k1)
      | (go_guarded; refine o_midT _ rfl g rfl t1 ?_; simp only [Act.put, List.setIfInBounds_toArray, List.set_cons_succ, List.set_cons_zero])
      | (go_guarded; refine o_midP _ rfl (g + 1) 0 rfl x p1 ?_; simp only [Act.put, List.setIfInBounds_toArray, List.set_cons_succ, List.set_cons_zero])
      | (go_guarded; refine o_midP _ rfl g 0 rfl s s1 ?_; simp only [Act.put, List.setIfInBounds_toArray, List.set_cons_succ, List.set_cons_zero])
      | (go_guarded; refine o_neqP _ _ rfl x s rfl rfl hE2 ?_; simp only [Act.put, List.setIfInBounds_toArray, List.set_cons_succ, List.set_cons_zero])
      | (go_at_call 44; (with_reducible refine (hO.calls _).mono ?_); rintro e w2 ⟨rfl, k2⟩; have x2 := x1.bel k2; have b2 := belTo hg b1 k2; clear k2)
      | (refine p_build0 rfl rfl ?_)
      | (refine p_putT rfl _ _ rfl (g + 2) rfl rfl rfl rfl x2 ?_)
      | (refine p_putT rfl _ _ rfl (g + 2) rfl rfl rfl rfl x1 ?_))
    refine bodyPost_ret (results_T3 Try.results15 _ _ (g + 2) _ _ rfl rfl rfl (x1.set _ _ _ _)) rfl ⟨.inl ⟨by rw [HE.out]; rfl, rfl⟩, by (try rw [hg]); exact bel_setRow b1 (by omega) _⟩
  by_cases hr8 : 160 ≤ r
  · have e1 : okK r = false := by unfold okK; rw [decide_eq_false (p := r < 160) (by omega), Bool.and_false]
    have HE := Lib.hid e1
    clear e1
    go_wp2_with (first
      | go_big_skip
      | (refine p_midT rfl _ rfl g rfl t0 ?_)
      | (go_at_call 25; (with_reducible refine HI.out.mono ?_); rintro e w1 ⟨rfl, k1⟩; have t1 := t0.bel k1; have s1 := t1.self; have p1 := (p0.bel k1).range; have x1 := x0.bel k1; have b1 := belTo hg b0 k1; clear k1)
      | (go_guarded; refine o_midT _ rfl g rfl t1 ?_; simp only [Act.put, List.setIfInBounds_toArray, List.set_cons_succ, List.set_cons_zero])
      | (go_guarded; refine o_midP _ rfl (g + 1) 0 rfl x p1 ?_; simp only [Act.put, List.setIfInBounds_toArray, List.set_cons_succ, List.set_cons_zero])
      | (go_guarded; refine o_midP _ rfl g 0 rfl s s1 ?_; simp only [Act.put, List.setIfInBounds_toArray, List.set_cons_succ, List.set_cons_zero])
      | (go_guarded; refine o_neqP _ _ rfl x s rfl rfl hE2 ?_; simp only [Act.put, List.setIfInBounds_toArray, List.set_cons_succ, List.set_cons_zero])
      | (go_at_call 44; (with_reducible refine (hO.calls _).mono ?_); rintro e w2 ⟨rfl, k2⟩; have x2 := x1.bel k2; have b2 := belTo hg b1 k2; clear k2)
      | (refine p_build0 rfl rfl ?_)
      | (refine p_putT rfl _ _ rfl (g + 2) rfl rfl rfl rfl x2 ?_)
      | (refine p_putT rfl _ _ rfl (g + 2) rfl rfl rfl rfl x1 ?_))
    refine bodyPost_ret (results_T3 Try.results15 _ _ (g + 2) _ _ rfl rfl rfl (x1.set _ _ _ _)) rfl ⟨.inl ⟨by rw [HE.out]; rfl, rfl⟩, by (try rw [hg]); exact bel_setRow b1 (by omega) _⟩
  have e1 : okK r = true := by unfold okK; rw [decide_eq_true (by omega), decide_eq_true (by omega)]; rfl
  have HE := Lib.hid e1
  clear e1
  obtain ⟨m, rfl⟩ : ∃ m : Nat, r = (m : Int) := ⟨r.toNat, by omega⟩
  have hm : m < 160 := by omega
  have d1 : decide ((m : Int) < 0) = false := decide_eq_false (by omega)
  have d2 : decide ((160 : Int) ≤ (m : Int)) = false := decide_eq_false (by omega)
  generalize hok : (true && (okK ((m : Nat) : Int) && (es || ot))) = ok
  have hcase : (es = false ∧ ot = false) ∨ (ok = true ∧ (es = true ∨ es = false ∧ ot = true)) := by
    rw [← hok, HE.out]; cases es <;> cases ot <;> simp
  have HOK := Lib.hid hok
  clear hok
  rcases hcase with ⟨he, ho⟩ | ⟨hok, hcc⟩
  · subst he ho
    have hE2 : (!eqP x s) = true := by rw [hE]; rfl
    have hokf : ok = false := by rw [← HOK.out, HE.out]; rfl
    have HOF := Lib.hid hokf
    clear hokf
    go_wp2_with (first
      | go_big_skip
      | (refine p_midT rfl _ rfl g rfl t0 ?_)
      | (go_at_call 25; (with_reducible refine HI.out.mono ?_); rintro e w1 ⟨rfl, k1⟩; have t1 := t0.bel k1; have s1 := t1.self; have p1 := (p0.bel k1).range; have x1 := x0.bel k1; have b1 := belTo hg b0 k1; clear k1)
      | (go_guarded; refine o_midT _ rfl g rfl t1 ?_; simp only [Act.put, List.setIfInBounds_toArray, List.set_cons_succ, List.set_cons_zero])
      | (go_guarded; refine o_midP _ rfl (g + 1) 0 rfl x p1 ?_; simp only [Act.put, List.setIfInBounds_toArray, List.set_cons_succ, List.set_cons_zero])
      | (go_guarded; refine o_midP _ rfl g 0 rfl s s1 ?_; simp only [Act.put, List.setIfInBounds_toArray, List.set_cons_succ, List.set_cons_zero])
      | (go_guarded; refine o_neqP _ _ rfl x s rfl rfl hE2 ?_; simp only [Act.put, List.setIfInBounds_toArray, List.set_cons_succ, List.set_cons_zero])
      | (go_at_call 44; (with_reducible refine (hO.calls _).mono ?_); rintro e w2 ⟨rfl, k2⟩; have x2 := x1.bel k2; have b2 := belTo hg b1 k2; clear k2)
      | (refine p_build0 rfl rfl ?_)
      | (refine p_putT rfl _ _ rfl (g + 2) rfl rfl rfl rfl x2 ?_)
      | (refine p_putT rfl _ _ rfl (g + 2) rfl rfl rfl rfl x1 ?_))
    refine bodyPost_ret (results_T3 Try.results15 _ _ (g + 2) _ _ rfl rfl rfl (x2.set _ _ _ _)) rfl ⟨.inl ⟨by rw [HE.out]; rfl, rfl⟩, by (try rw [hg]); exact bel_setRow b2 (by omega) _⟩
  have HOT := Lib.hid (HOK.out.trans hok)
  clear hok HOK
  have hmi : (m : Int) < 160 := by omega
  have hmz : (0 : Int) ≤ (m : Int) := by omega
  clear hr1 hr8
  go_upto_region 1 with (fail)
  go_cut [34] from 12 (fun v wx => v = .bool false ∧ Hid (Below W.heap.size W wx))
  case first =>
    rcases hcc with he | ⟨he, ho⟩
    · subst he
      have hE2 : (!eqP x s) = false := by rw [hE]; rfl
      go_wp2_with (first
        | go_big_skip
        | (refine p_midT rfl _ rfl g rfl t0 ?_)
        | (go_at_call 25; (with_reducible refine HI.out.mono ?_); rintro e w1 ⟨rfl, k1⟩; have t1 := t0.bel k1; have s1 := t1.self; have p1 := (p0.bel k1).range; have KK := Lib.hid k1; clear k1)
        | (go_guarded; refine o_midP _ rfl (g + 1) 0 rfl x p1 ?_; simp only [Act.put, List.setIfInBounds_toArray, List.set_cons_succ, List.set_cons_zero])
        | (go_guarded; refine o_midP _ rfl g 0 rfl s s1 ?_; simp only [Act.put, List.setIfInBounds_toArray, List.set_cons_succ, List.set_cons_zero])
        | (go_guarded; refine o_neqP _ _ rfl x s rfl rfl hE2 ?_; simp only [Act.put, List.setIfInBounds_toArray, List.set_cons_succ, List.set_cons_zero]))
      go_meet
      exact ⟨rfl, KK⟩
    · subst he ho
      have hE2 : (!eqP x s) = true := by rw [hE]; rfl
      go_wp2_with (first
        | go_big_skip
        | (refine p_midT rfl _ rfl g rfl t0 ?_)
        | (go_at_call 25; (with_reducible refine HI.out.mono ?_); rintro e w1 ⟨rfl, k1⟩; have t1 := t0.bel k1; have s1 := t1.self; have p1 := (p0.bel k1).range; have K1 := Lib.hid k1; clear k1)
        | (go_guarded; refine o_midT _ rfl g rfl t1 ?_; simp only [Act.put, List.setIfInBounds_toArray, List.set_cons_succ, List.set_cons_zero])
        | (go_guarded; refine o_midP _ rfl (g + 1) 0 rfl x p1 ?_; simp only [Act.put, List.setIfInBounds_toArray, List.set_cons_succ, List.set_cons_zero])
        | (go_guarded; refine o_midP _ rfl g 0 rfl s s1 ?_; simp only [Act.put, List.setIfInBounds_toArray, List.set_cons_succ, List.set_cons_zero])
        | (go_guarded; refine o_neqP _ _ rfl x s rfl rfl hE2 ?_; simp only [Act.put, List.setIfInBounds_toArray, List.set_cons_succ, List.set_cons_zero])
        | (go_at_call 44; (with_reducible refine (hO.calls _).mono ?_); rintro e w2 ⟨rfl, k2⟩; have KK := Lib.hid (step K1.out k2); clear k2))
      go_meet
      exact ⟨rfl, KK⟩
  case rest =>
    obtain ⟨rfl, hk⟩ := hcut
    have hk := hk.out
    have b2 := belTo hg b0 hk
    have t2 := t0.bel hk
    have p2 := p0.bel hk
    have x2 := x0.bel hk
    have HS2 := Lib.hid (HS.out.bel hk)
    have HF2 := Lib.hid (HF.out.bel hk)
    have hW2 : g + 3 ≤ wc.heap.size := Nat.le_trans hgW hk.size
    clear hk b0 t0 p0 x0 HS HF HI hE hO hcc hgW d1 d2 HE
    go_upto_region 4 with (first
      | (refine p_midT rfl _ rfl g rfl t2 ?_)
      | (go_at_call 45; (with_reducible refine (HC.out _ HS2.out HF2.out).mono ?_); rintro e w3 ⟨r1, r2, rfl, o1, o2, ha, k3⟩; have t3 := t2.bel k3; have p3 := p2.bel k3; have x3 := x2.bel k3; have O1 := Lib.hid o1; have O2 := Lib.hid o2; have HA := Lib.hid ha; have b3 := belTo hg b2 k3; clear o1 o2 ha k3)
      | (refine p_putT rfl _ _ rfl g rfl rfl (own_one O1.out) (own_one O2.out) t3 ?_))
    have t4 := t3.set s p r1 r2
    have x4 := tb_row x3 (tabA s p r1 r2) (show g + 2 ≠ g by omega)
    have p4 := pb_row p3 (tabA s p r1 r2) (show g + 1 ≠ g by omega)
    have O3 := own_base (own_row O1.out (tabA s p r1 r2) (show g < wc.heap.size by omega)) hW2
    have O4 := own_base (own_row O2.out (tabA s p r1 r2) (show g < wc.heap.size by omega)) hW2
    have b4 : Below g w (w3.setRow g (tabA s p r1 r2)) := bel_setRow b3 (Nat.le_refl _) _
    clear t2 p2 x2 b2 t3 p3 x3 b3 O1 O2 HS2 HF2 HC
    generalize w3.setRow g (tabA s p r1 r2) = W4 at *
    rcases own_dat O4 with ⟨rfl, rfl⟩ | ⟨b, c, rfl, hc, hbl, hD⟩
    · exact absurd hL160 (by simp)
    have P0 : Hid (PoW g b w W4 s p x r1 (.slice (some ⟨b, 0, none⟩) L.length c) S L) := ⟨b4, t4, p4, x4, O3, fun e => HA.out b e rfl, hbl, hD⟩
    have HC := Lib.hid hc
    have hpt := HGN.out
    rw [Int.toNat_natCast] at hpt
    have HPT := Lib.hid hpt
    have HLL : Hid (L.length = L.length) := rfl
    clear t4 p4 x4 O3 O4 b4 hD hc hbl HGN hpt HA
    generalize hln : L.length = n at *
    have HL0 := Lib.hid hln
    have HL160 := Lib.hid hL160
    clear hln HLL hL160
    go_upto_region 5 with (fail)
    go_loopw [9, 10, 11] (fun i _ _ wr => ∃ (k : Nat) (L' : List Pe), i = .int .i64 (k : Int) ∧ m ≤ k ∧ k ≤ 160 ∧ L'.length = n ∧ PoW g b w wr s p x r1 (.slice (some ⟨b, 0, none⟩) n c) S L' ∧ ptL (fg m) (160 - k) k L' = (F, nx)) (fun i _ _ _ => 160 - (intOf i).toNat)
    case atStart => exact ⟨m, L, rfl, Nat.le_refl _, Nat.le_of_lt hm, HL0.out, P0.out, HPT.out⟩
    case round =>
      clear P0 HPT HL0
      obtain ⟨k, L', rfl, hmk, hk, hl, hP, hE⟩ := hrel
      have HP := Lib.hid hP
      have HL := Lib.hid hl
      have HEQ := Lib.hid hE
      clear hP hl hE
      by_cases hlt : k < 160
      · have hE := HEQ.out
        rw [show 160 - k = (160 - (k + 1)) + 1 by omega, ptL] at hE
        have hG8 := HG.out r1 (.slice (some ⟨b, 0, none⟩) n c) k m hlt
        generalize fg m k = yh at *
        obtain ⟨y, h⟩ := yh
        have HE2 := Lib.hid hE
        clear hE HEQ
        have s1 : IntKind.i64.wrap ((k : Int) + 1) = (k : Int) + 1 := IntWalk.i64_in _ (by omega)
        have bn := HL160.out
        have b1 : (k : Int) < (n : Int) := by omega
        have b3 : (k : Int) < (160 : Int) := by omega
        have b2 : (0 : Int) ≤ (k : Int) := by omega
        have bk : k < n := by omega
        clear bn
        have t1 := HP.out.t
        have p1 := HP.out.pb.range
        cases h
        · have he := HE2.out
          rw [if_neg (by simp)] at he
          have HF1 := Lib.hid (congrArg Prod.fst he)
          have HN1 := Lib.hid (congrArg Prod.snd he)
          clear he HE2
          go_wp2_with (first
            | go_big_skip
            | (refine p_midT rfl _ rfl g rfl t1 ?_)
            | (refine p_midP rfl _ rfl (g + 1) 0 rfl x p1 ?_)
            | (go_at_call 49; (with_reducible refine (hG8.calls _).mono ?_); rintro e w5 ⟨rfl, k5⟩; have HP5 := Lib.hid (HP.out.bel2 hg k5); have HP6 := Lib.hid (HP5.out.bel2 hg ((Below.refl w5.heap.size w5).alloc (Nat.le_refl _) (.cells (peA y) 25))); have t6 := HP6.out.t; clear k5)
            | (refine p_storeP rfl rfl _ _ rfl y rfl rfl ?_)
            | (refine p_midT rfl _ rfl g rfl t6 ?_)
            | (refine p_putT rfl _ _ rfl (g + 2) rfl rfl (own_one HP6.out.o) rfl HP6.out.x ?_))
          exact bodyPost_ret (results_T3 Try.results15 _ _ (g + 2) _ _ rfl rfl rfl (HP6.out.x.set _ _ _ _)) rfl (point_end HP6.out HL.out HC.out HF1.out HN1.out (by first | exact HOT.out | simpa using HOT.out) hg)
        · have he := HE2.out
          rw [if_pos rfl] at he
          have HE3 := Lib.hid he
          clear he HE2
          go_upto_region 8 with (first
            | (refine p_midT rfl _ rfl g rfl t1 ?_)
            | (refine p_midP rfl _ rfl (g + 1) 0 rfl x p1 ?_)
            | (go_at_call 49; (with_reducible refine (hG8.calls _).mono ?_); rintro e w5 ⟨rfl, k5⟩; have HP5 := Lib.hid (HP.out.bel2 hg k5); have HP6 := Lib.hid (HP5.out.bel2 hg ((Below.refl w5.heap.size w5).alloc (Nat.le_refl _) (.cells (peA y) 25))); have Y6 := (PB.new w5 y).range; clear k5)
            | (refine p_storeP rfl rfl _ _ rfl y rfl rfl ?_))
          (try simp only [Act.put])
          clear HP HP5 t1 p1
          generalize w5.alloc _ = W6 at *
          generalize w5.heap.size = g6 at *
          have c9 := HP6.out.t.cv
          have th := HP6.out.d.thereAt (show k < L'.length by rw [HL.out]; exact bk)
          have HP7 := Lib.hid (HP6.out.put (show k < L'.length by rw [HL.out]; exact bk) y)
          have TH := Lib.hid th
          clear th
          go_upto_region 6 with (first
            | (refine p_midP rfl _ rfl g6 0 rfl y Y6 ?_)
            | (refine p_idxP rfl _ _ rfl b 0 n c k rfl rfl bk ?_)
            | (refine wpList_store_mid rfl 25 _ _ rfl b (0 + k * 21) (peA y) rfl rfl (by rw [peA_size]; exact TH.out) (by rw [peA_size]; exact sizeP) (peA_one y) ?_))
          rw [peA_list]
          generalize W6.setCells b (0 + k * 21) _ = W7 at *
          clear c9 Y6 TH HP6
          go_wp2
          exact ⟨⟨k + 1, L'.set k y, by go_num, by omega, by omega, by rw [List.length_set]; exact HL.out, HP7.out, HE3.out⟩, by simp [intOf]; omega⟩
      · obtain rfl : k = 160 := by omega
        have he := HEQ.out
        rw [Nat.sub_self, ptL] at he
        have HF1 := Lib.hid (congrArg Prod.fst he)
        have HN1 := Lib.hid (congrArg Prod.snd he)
        clear he HEQ
        have t1 := HP.out.t
        go_wp2_with (first
          | (refine p_midT rfl _ rfl g rfl t1 ?_)
          | (refine p_putT rfl _ _ rfl (g + 2) rfl rfl (own_one HP.out.o) rfl HP.out.x ?_))
        exact bodyPost_ret (results_T3 Try.results15 _ _ (g + 2) _ _ rfl rfl rfl (HP.out.x.set _ _ _ _)) rfl (by have h := point_end HP.out HL.out HC.out HF1.out HN1.out HOT.out hg; rw [hg, Bool.true_and] at h; exact h)
def pointB (s p : Pe) (S L : List Pe) (x : Pe) (k : Int) : Bool := isT s p S L && (okK k && (eqP x s || otherB s x))
def pointG (s x : Pe) (k i : Nat) : Pe × Bool := fngR (eqP x s) (halfB s.2 (s.2 + 2 ^ i) x.2) x i k
theorem point_any {w : World} {s p : Pe} {u v : Value} {S L : List Pe} (x : Pe) (r : Int) (hS : Lies w u S) (hF : Lies w v L) (hn : S.length ≤ 1000000) (hf : L.length ≤ 1000000) (hIL : isT s p S L = true → L.length = 160) :
    Calls Try.prog 15 #[.agg (tabA s p u v), .int .i64 r, .agg (peA x)] w fun e w' => PointP w.heap.size s p S (ptL (pointG s x r.toNat) (160 - r.toNat) r.toNat L).1 (ptL (pointG s x r.toNat) (160 - r.toNat) r.toNat L).2 (pointB s p S L x r) e w' ∧ Below w.heap.size w w' :=
  point_core x r _ _ _ (pointG s x) hS hF hn hf rfl rfl hIL (fun _ hb => is_any (hS.bel hb) (hF.bel hb) hn hf) (isOther_gives s p u v x) fun u v i k hi _ => finger_any s p u v x i k hi
end Go.Proofs.Ytkcljbolopephaa
