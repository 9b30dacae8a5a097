/- What bytes are read as: a letter, whole. -/
import Derived.Test.YtplcdjmidelboaaLetGet2
namespace Go.Proofs.Ytplcdjmidelboaa
set_option maxRecDepth 100000
open Go Go.RowKit Go.Sort

theorem own_down {w : World} {B e s n : Nat} {v : Value} {xs : List Value} (h : w.ownsRow B e s v n xs) : w.ownsRow 0 e s v n xs := by
  refine ⟨h.1, h.2.imp id ?_⟩
  rintro ⟨g, cap, cur, rfl, _, h2, h3⟩
  exact ⟨g, cap, cur, rfl, Nat.zero_le _, h2, h3⟩
theorem own_up {w : World} {B e s n : Nat} {v : Value} {xs : List Value} (h : w.ownsRow 0 e s v n xs) (hb : ∀ k, v.ownBlock = some k → B ≤ k) : w.ownsRow B e s v n xs := by
  refine ⟨h.1, h.2.imp id ?_⟩
  rintro ⟨g, cap, cur, rfl, _, h2, h3⟩
  exact ⟨g, cap, cur, rfl, hb g rfl, h2, h3⟩
theorem own_base {w : World} {B B' e s n : Nat} {v : Value} {xs : List Value} (h : w.ownsRow B e s v n xs) (hb : B' ≤ B) : w.ownsRow B' e s v n xs := own_up (own_down h) fun k hk => Nat.le_trans hb (h.lt k hk).1
theorem own_cell {w : World} {B e s n j i : Nat} {v x : Value} {xs : List Value} (h : w.ownsRow B e s v n xs) (hj : j < B) : (w.setCell ⟨j, i, none⟩ x).ownsRow B e s v n xs :=
  own_keep h fun k hk => Below.heap_setCell _ _ _ _ (by have := (h.lt k hk).1; show k ≠ j; omega)
theorem own_setRow {w : World} {B e s n j : Nat} {v : Value} {xs : List Value} (h : w.ownsRow B e s v n xs) (hj : j < B) (cs : Array Value) : (w.setRow j cs).ownsRow B e s v n xs :=
  own_keep h fun k hk => Go.setRow_other w j k cs (by have := (h.lt k hk).1; omega)
theorem own_one {w : World} {B e s n : Nat} {v : Value} {xs : List Value} (h : w.ownsRow B e s v n xs) : v.oneCell' = true := by
  rcases own_shape h with ⟨rfl, _⟩ | ⟨b, c, rfl, _⟩ <;> rfl
/-- a letter's rows are the call's own -/
structure OwnL (w : World) (B : Nat) (l : Lt) (u v : Value) : Prop where
  a : w.ownsRow B 3 1 u l.avoid.length (ints l.avoid)
  p : w.ownsRow B 25 21 v l.peers.length (flat l.peers)
theorem OwnL.ltM {w : World} {B : Nat} {l : Lt} {u v : Value} (h : OwnL w B l u v) : LtM w l u v := ⟨own_nums h.a, own_lies h.p⟩
theorem OwnL.base {w : World} {B B' : Nat} {l : Lt} {u v : Value} (h : OwnL w B l u v) (hb : B' ≤ B) : OwnL w B' l u v := ⟨own_base h.a hb, own_base h.p hb⟩
theorem OwnL.keep {w w' : World} {B g : Nat} {l : Lt} {u v : Value} (h : OwnL w B l u v) (hk : Keep w w' g g) (hg : g < B) : OwnL w' B l u v := ⟨own_keepG h.a hk hg, own_keepG h.p hk hg⟩
theorem OwnL.bel {w w' : World} {B : Nat} {l : Lt} {u v : Value} (h : OwnL w B l u v) (hb : Below w.heap.size w w') : OwnL w' B l u v := ⟨own_bel h.a hb, own_bel h.p hb⟩
theorem OwnL.cell {w : World} {B j i : Nat} {l : Lt} {u v x : Value} (h : OwnL w B l u v) (hj : j < B) : OwnL (w.setCell ⟨j, i, none⟩ x) B l u v := ⟨own_cell h.a hj, own_cell h.p hj⟩
theorem OwnL.row {w : World} {B j : Nat} {l : Lt} {u v : Value} (h : OwnL w B l u v) (hj : j < B) (cs : Array Value) : OwnL (w.setRow j cs) B l u v := ⟨own_setRow h.a hj cs, own_setRow h.p hj cs⟩

/-- a letter on the way: it stands in block q, what is answered in block r; k is its kind -/
structure Way (g h c : Nat) (s : ByteArray) (w0 wx : World) (r q : Nat) (k : Int) (early : Bool) (l : Lt) (p : Nat) (u v : Value) : Prop where
  lb : LB wx q l u v
  rd : Rd wx g h c s p
  z : LB wx r zeroL nilS nilS
  ow : OwnL wx (q + 1) l u v
  kd : l.kind = k
  np : early = true → l.peer = noP
  keep : Keep w0 wx g g
  n1 : g < r
  n2 : r < q
  n3 : w0.heap.size ≤ r
theorem Way.call {g h c : Nat} {s : ByteArray} {w0 wx wy : World} {r q : Nat} {k : Int} {early : Bool} {l : Lt} {p p' : Nat} {u v : Value} (x : Way g h c s w0 wx r q k early l p u v) (hr : Rd wy g h c s p') (hk : Keep wx wy g g) : Way g h c s w0 wy r q k early l p' u v :=
  ⟨x.lb.keep hk (by have := x.n1; have := x.n2; omega), hr, x.z.keep hk (by have := x.n1; omega), x.ow.keep hk (by have := x.n1; have := x.n2; omega), x.kd, x.np, x.keep.trans hk, x.n1, x.n2, x.n3⟩
theorem Way.grow {g h c : Nat} {s : ByteArray} {w0 wx wy : World} {r q : Nat} {k : Int} {early : Bool} {l : Lt} {p : Nat} {u v : Value} (x : Way g h c s w0 wx r q k early l p u v) (hb : Below wx.heap.size wx wy) : Way g h c s w0 wy r q k early l p u v :=
  x.call (x.rd.below hb) (Keep.of hb g g)
theorem Way.set {g h c : Nat} {s : ByteArray} {w0 wx wy : World} {r q : Nat} {k : Int} {early early' : Bool} {l l' : Lt} {p : Nat} {u v u' v' : Value} (x : Way g h c s w0 wx r q k early l p u v) (hb : Below q wx wy) (hl : LB wy q l' u' v') (ho : OwnL wy (q + 1) l' u' v') (hk : l'.kind = k) (hn : early' = true → l'.peer = noP) : Way g h c s w0 wy r q k early' l' p u' v' :=
  ⟨hl, x.rd.belowB hb (by have := x.n1; have := x.n2; omega), Blk.below x.z hb x.n2, ho, hk, hn, x.keep.thenB (hb.mono (by have := x.n2; have := x.n3; omega)), x.n1, x.n2, x.n3⟩
theorem bel_cell (w : World) (q i : Nat) (x : Value) : Below q w (w.setCell ⟨q, i, none⟩ x) := (Below.refl q w).setCell (p := ⟨q, i, none⟩) (Nat.le_refl _) x
theorem bel_row (w : World) (q : Nat) (cs : Array Value) : Below q w (w.setRow q cs) := bel_setRow (Below.refl q w) (Nat.le_refl _) cs
/-- what is known on the way -/
abbrev OnWay (g h c : Nat) (s : ByteArray) (w0 : World) (r q : Nat) (k : Int) (early : Bool) (X : Except Nat St) (f : St → Except Nat St) (wx : World) : Prop :=
  Hid (∃ l p u v, Way g h c s w0 wx r q k early l p u v ∧ X = f (l, p))
/-- what reading a letter ends with -/
structure GotL (w : World) (g h c : Nat) (s : ByteArray) (X : Except Nat St) (e : Ending) (w' : World) : Prop where
  ok : ∀ l p, X = .ok (l, p) → ∃ u v, e = .returned (.agg (ltA l u v)) ∧ OwnL w' w.heap.size l u v ∧ Rd w' g h c s p
  no : ∀ n, X = .error n → e = Pan n
  keep : Keep w w' g g
theorem lt_pan {w w' : World} {g h c : Nat} {s : ByteArray} {X : Except Nat St} {n : Nat} (hX : X = .error n) (hk : Keep w w' g g) : GotL w g h c s X (Pan n) w' :=
  ⟨fun a q hx => (by rw [hX] at hx; cases hx), fun m hm => (by rw [hX] at hm; cases hm; rfl), hk⟩
theorem lt_ok {w w' : World} {g h c : Nat} {s : ByteArray} {X : Except Nat St} {l : Lt} {u v : Value} {p : Nat} (hX : X = .ok (l, p)) (ho : OwnL w' w.heap.size l u v) (hr : Rd w' g h c s p) (hk : Keep w w' g g) : GotL w g h c s X (.returned (.agg (ltA l u v))) w' :=
  ⟨fun a q' hx => (by rw [hX] at hx; simp only [Except.ok.injEq, Prod.mk.injEq] at hx; obtain ⟨rfl, rfl⟩ := hx; exact ⟨u, v, rfl, ho, hr⟩), fun m hm => (by rw [hX] at hm; cases hm), hk⟩
theorem opt_no {α : Type} {c : Bool} (h : c = false) (X : Except Nat (α × Nat)) (s : St) (put : α → Lt) : opt c X s put = .ok s := by unfold opt; rw [if_neg (by rw [h]; decide)]
theorem opt_err {α : Type} {c : Bool} (h : c = true) {X : Except Nat (α × Nat)} {e : Nat} (hX : X = .error e) (s : St) (put : α → Lt) : opt c X s put = .error e := by unfold opt; rw [if_pos h, hX]
theorem opt_ok {α : Type} {c : Bool} (h : c = true) {X : Except Nat (α × Nat)} {v : α} {q : Nat} (hX : X = .ok (v, q)) (s : St) (put : α → Lt) : opt c X s put = .ok (put v, q) := by unfold opt; rw [if_pos h, hX]
theorem p_buildL {ops : Array Oper} {rest : List Oper} {o : Oper} {a : Act} {w : World} {Q : Exit → Act → World → Prop} (hgd : o.guard = none) (x y z : Operand) (ho : o.op = .build 30 #[(0, x), (1, y), (6, z)])
    (k : Int) (f p : Pe) (hx : a.eval x = .int .i64 k) (hy : a.eval y = .agg (peA f)) (hz : a.eval z = .agg (peA p)) (h : wpList Try.prog ops Q rest (a.put o.dst (.agg (ltA { zeroL with kind := k, fr := f, peer := p } nilS nilS))) w) : wpList Try.prog ops Q (o :: rest) a w := by
  refine wpList_plain hgd fun K hK => ?_
  have e := run_build (P := Try.prog) w 30 #[(0, .int .i64 k), (1, .agg (peA f)), (6, .agg (peA p))] _ (built3 k f p)
  unfold Oper.wp execOp
  simp only [ho, List.map_toArray, List.map_cons, List.map_nil, hx, hy, hz, Sem.run_bind, e, Sem.run_pure, Result.andThen_ok]
  exact hK _ _ h
theorem zeroLt : Try.zeroCells30 = ltA zeroL nilS nilS := by kernel_rfl
theorem newL_eq (k : Int) (f : Pe) : ({ zeroL with kind := k, fr := f, peer := noP } : Lt) = newL k f := rfl
theorem slice_form {w : World} {B e size n : Nat} {v : Value} {xs : List Value} (h : w.ownsRow B e size v n xs) : ∃ a m c, v = .slice a m c := by
  rcases own_shape h with ⟨rfl, _⟩ | ⟨b, c, rfl, _⟩ <;> exact ⟨_, _, _, rfl⟩
theorem rdM_le {m : Nat} {b : List Nat} {p v q : Nat} (h : rdM m b p = .ok (v, q)) : v ≤ m := by
  unfold rdM at h
  split at h
  · cases h
  · split at h
    · cases h
    · simp only [Except.ok.injEq, Prod.mk.injEq] at h; omega
set_option maxHeartbeats 8000000 in
theorem get_any {w : World} {g h c : Nat} {s : ByteArray} (k00 : Rd w g h c s 0) (hs : s.size ≤ 1000000) :
    Calls Try.prog 41 #[.pointer (some ⟨g, 0, none⟩)] w (GotL w g h c s (getS (bytesN s))) := by
  have hg0 := k00.lt
  have hgh := k00.ne
  have B0 := (Below.refl w.heap.size w).alloc (Nat.le_refl _) (.cells (ltA zeroL nilS nilS) 30)
  have k0 := k00.below B0
  have K0 := Lib.hid (Keep.of B0 g g)
  have Z0 := LB.new w zeroL nilS nilS
  have hgW : w.heap.size + 1 = (w.alloc (.cells (ltA zeroL nilS nilS) 30)).heap.size := by simp
  cases hn : rdN (bytesN s) 0 with
  | error e =>
    have HX : Hid (getS (bytesN s) = .error e) := by unfold Hid getS rdK; rw [hn]
    obtain ⟨he, v, hC⟩ := num_no k0 hs hn
    have HC := Lib.hid hC
    have HM := Lib.hid (fun w => mustN_no v e he w)
    clear hn k0 k00 hC he Z0 B0 hgW
    generalize getS (bytesN s) = X at *
    go_enter Try.func41, Try.ntmps41
    go_upto_region 1 with (fail)
    rw [zeroLt]
    generalize w.alloc _ = W at *
    go_wp2_with (first
      | (go_at_call 60; (with_reducible refine HC.out.mono ?_); rintro e1 w1 ⟨rfl, hk1⟩)
      | (go_at_call 59; (with_reducible refine (HM.out _).mono ?_); rintro e1 w2 ⟨he, rfl⟩; rw [pan_eq] at he; subst he))
    exact ⟨rfl, lt_pan HX.out (K0.out.trans (by assumption))⟩
  | ok r =>
    obtain ⟨n, p1⟩ := r
    have HC := Lib.hid (num_ok k0 hs hn)
    have HM := Lib.hid (mustN_ok n)
    by_cases hkk : n < 1 ∨ 8 < n
    · have HX : Hid (getS (bytesN s) = .error 3) := by unfold Hid getS rdK; rw [hn]; simp only [if_pos hkk]
      have HPO := Lib.hid (fun w => partsOf_any (n : Int) w)
      rw [show isK (n : Int) = false by unfold isK; simp only [decide_eq_false_iff_not]; omega] at HPO
      clear hn k0 k00 Z0 B0 hgW hkk
      generalize maskK (n : Int) = mk at *
      generalize getS (bytesN s) = X at *
      go_enter Try.func41, Try.ntmps41
      go_upto_region 1 with (fail)
      rw [zeroLt]
      generalize w.alloc _ = W at *
      go_wp2_with (first
        | (go_at_call 60; (with_reducible refine HC.out.mono ?_); rintro e1 w1 ⟨rfl, hr1, hk1⟩)
        | (go_at_call 59; (with_reducible refine (HM.out _).mono ?_); rintro e1 w2 ⟨rfl, rfl⟩)
        | (go_at_call 17; (with_reducible refine (HPO.out _).mono ?_); rintro e1 w2 ⟨rfl, rfl⟩)
        | (go_at_call 42; (with_reducible refine (refuse_3 _).mono ?_); rintro e1 w2 ⟨he, rfl⟩; rw [pan_eq] at he; subst he))
      exact ⟨rfl, lt_pan HX.out (K0.out.trans (by assumption))⟩
    · have HPO := Lib.hid (fun w => partsOf_any (n : Int) w)
      rw [show isK (n : Int) = true by unfold isK; simp only [decide_eq_true_eq]; omega] at HPO
      have hn8 : n ≤ 8 := by omega
      have HG := Lib.hid (fun (W : World) (q : Nat) (k : Rd W g h c s q) => getPeer_any k hs)
      have hcv : IntKind.i64.wrap (n : Int) = (n : Int) := IntWalk.i64_in _ (by omega)
      have HReq := Lib.hid (fun w => hasReq_any (n : Int) w)
      have HId := Lib.hid (fun w => hasId_any (n : Int) w)
      have HAvoid := Lib.hid (fun w => hasAvoid_any (n : Int) w)
      have HDone := Lib.hid (fun w => hasDone_any (n : Int) w)
      have HPeer := Lib.hid (fun w => hasPeer_any (n : Int) w)
      have HPeers := Lib.hid (fun w => hasPeers_any (n : Int) w)
      generalize hmk : maskK (n : Int) = mk at *
      have HX1 : Hid (getS (bytesN s) = match rdE (bytesN s) p1 with
        | .error e => .error e
        | .ok (f, p) => t1 (bytesN s) (newL (n : Int) f, p)) := by unfold Hid getS rdK; rw [hn]; simp only [if_neg hkk]; cases rdE (bytesN s) p1 <;> rfl
      clear hn k0 k00 B0 hkk hmk
      generalize getS (bytesN s) = X at *
      generalize hgr : w.heap.size = r at *
      go_enter Try.func41, Try.ntmps41
      go_upto_region 1 with (fail)
      rw [zeroLt]
      (try rw [hgr])
      generalize w.alloc _ = W at *
      go_upto_region 4 with (first
        | (go_at_call 60; (with_reducible refine HC.out.mono ?_); rintro e1 w1 ⟨rfl, hr1, hk1⟩)
        | (go_at_call 59; (with_reducible refine (HM.out _).mono ?_); rintro e1 w2 ⟨rfl, rfl⟩)
        | (go_at_call 17; (with_reducible refine (HPO.out _).mono ?_); rintro e1 w2 ⟨rfl, rfl⟩)
        | (go_at_call 42; (with_reducible refine (pass_3 _).mono ?_); rintro e1 w2 ⟨rfl, rfl⟩))
      have Z1 := Z0.keep hk1 (by omega)
      have K1 := Lib.hid (K0.out.trans hk1)
      clear HC HM HPO Z0 K0
      cases hn2 : rdE (bytesN s) p1 with
      | error e =>
        have HXE : Hid (X = .error e) := by have := HX1.out; rw [hn2] at this; exact this
        have HC := Lib.hid (Got.not (HG.out _ _ hr1) hn2)
        clear hn2 HX1
        go_wp2_with (go_at_call 61; (with_reducible refine HC.out.mono ?_); rintro e1 w2 ⟨he, k2⟩; rw [pan_eq] at he; subst he)
        exact ⟨rfl, lt_pan HXE.out (K1.out.trans (by assumption))⟩
      | ok r2 =>
        obtain ⟨f, p2⟩ := r2
        have HXE : Hid (X = t1 (bytesN s) (newL (n : Int) f, p2)) := by have := HX1.out; rw [hn2] at this; exact this
        have HC := Lib.hid (Got.yes (HG.out _ _ hr1) hn2)
        have HN := none_any
        clear hn2 HX1
        go_upto_region 5 with (first
          | (go_at_call 61; (with_reducible refine HC.out.mono ?_); rintro e1 w3 ⟨rfl, r3, k3⟩; have Z3 := Z1.keep k3 (by omega); have K3 := Lib.hid (K1.out.trans k3); have R3 := Lib.hid r3; clear r3 k3)
          | (go_at_call 25; (with_reducible refine (HN _).mono ?_); rintro e1 w4 ⟨rfl, k4⟩; have Z4 := Z3.bel k4; have K4 := Lib.hid (K3.out.trans (Keep.of k4 g g)); have R4 := Lib.hid (R3.out.below k4); clear k4)
          | (refine p_buildL rfl _ _ _ rfl (n : Int) f noP rfl rfl rfl ?_)
          | ((with_reducible show wpList _ _ _ (Oper.mk _ (Op.store _ _ _) _ _ _ _ :: _) _ _); refine p_newL rfl rfl _ _ rfl rfl rfl rfl rfl ?_))
        rw [newL_eq]
        have L5 := LB.new w4 (newL (n : Int) f) nilS nilS
        have B5 := (Below.refl w4.heap.size w4).alloc (Nat.le_refl _) (.cells (ltA (newL (n : Int) f) nilS nilS) 30)
        have hq := Z4.lt
        have W5 : Way g h c s w (w4.alloc (.cells (ltA (newL (n : Int) f) nilS nilS) 30)) r w4.heap.size (n : Int) true (newL (n : Int) f) p2 nilS nilS :=
          ⟨L5, R4.out.below B5, Z4.bel B5, ⟨World.ownsRow_nil _ _ _ _, World.ownsRow_nil _ _ _ _⟩, rfl, fun _ => rfl, K4.out.trans (Keep.of B5 g g), by omega, hq, by omega⟩
        have HW : OnWay g h c s w r w4.heap.size (n : Int) true X (t1 (bytesN s)) (w4.alloc (.cells (ltA (newL (n : Int) f) nilS nilS) 30)) := Lib.hid ⟨_, _, _, _, W5, HXE.out⟩
        clear L5 B5 W5 HXE Z4 R4 K4 Z1 K1 HC HN hr1 hk1 Z3 K3 R3 hq hgW
        generalize w4.heap.size = q at *
        generalize w4.alloc _ = wc at *
        have HNU := Lib.hid (fun (W : World) (p : Nat) (k : Rd W g h c s p) (e : Nat) (hx : rdN (bytesN s) p = .error e) => num_no k hs hx)
        have HNY := Lib.hid (fun (W : World) (p : Nat) (k : Rd W g h c s p) (v q : Nat) (hx : rdN (bytesN s) p = .ok (v, q)) => num_ok k hs hx)
        have HPU := Lib.hid (fun (W : World) (p : Nat) (k : Rd W g h c s p) (e : Nat) (hx : rdP (bytesN s) p = .error e) => pl_no k hs hx)
        have HPY := Lib.hid (fun (W : World) (p : Nat) (k : Rd W g h c s p) (v q : Nat) (hx : rdP (bytesN s) p = .ok (v, q)) => pl_ok k hs hx)
        have HIA := Lib.hid (fun (W : World) (p : Nat) (k : Rd W g h c s p) => getInts_any k hs)
        have HIP := Lib.hid (fun (W : World) (p : Nat) (k : Rd W g h c s p) => getPeers_any k hs)
        have HBO := Lib.hid (fun (W : World) (p : Nat) (k : Rd W g h c s p) => getBool_any k hs)
        have HNP := Lib.hid (fun w => needs_any (n : Int) w)
        clear hs hg0 hgh hn8 hcv hgr
        generalize (n : Int) = k at *
        generalize hbb : bytesN s = b at *
        go_upto_if 28 with (go_at_call 20; (with_reducible refine (HReq.out _).mono ?_); rintro e wh ⟨rfl, rfl⟩)
        go_cut [] from 28 (fun wx => OnWay g h c s w r q k true X (t2 b) wx)
        case first =>
          obtain ⟨l, p, u, v, hW, hX⟩ := HW.out
          have HX : Hid (X = thn (s1 b (l, p)) (t2 b)) := hX
          have HWW := Lib.hid hW
          have hkd := hW.kd
          clear HW hX hW
          cases hc : reqK k with
          | false =>
            have HXN : Hid (X = t2 b (l, p)) := by
              have := HX.out
              unfold s1 at this
              rw [opt_no (by rw [hkd]; exact hc)] at this
              exact this
            go_wp2
            go_meet
            exact Lib.hid ⟨l, p, u, v, HWW.out, HXN.out⟩
          | true =>
            have hc' : reqK l.kind = true := by rw [hkd]; exact hc
            cases hn : rdN b p with
            | error e =>
              have HXE : Hid (X = .error e) := by
                have := HX.out
                unfold s1 at this
                rw [opt_err hc' hn] at this
                exact this
              obtain ⟨he, v0, hC⟩ := HNU.out _ _ HWW.out.rd _ hn
              have HC := Lib.hid hC
              have HM := Lib.hid (fun w => mustN_no v0 e he w)
              clear hn he hC HX
              go_wp2_with (first
                | (go_at_call 60; (with_reducible refine HC.out.mono ?_); rintro e1 w1 ⟨rfl, hk1⟩)
                | (go_at_call 59; (with_reducible refine (HM.out _).mono ?_); rintro e1 w2 ⟨he, rfl⟩; rw [pan_eq] at he; subst he))
              exact ⟨rfl, lt_pan HXE.out (HWW.out.keep.trans (by assumption))⟩
            | ok rr =>
              obtain ⟨v1, p1⟩ := rr
              have HXN : Hid (X = t2 b ({ l with req := v1 }, p1)) := by
                have := HX.out
                unfold s1 at this
                rw [opt_ok hc' hn] at this
                exact this
              have HC := Lib.hid (HNY.out _ _ HWW.out.rd _ _ hn)
              have HM := Lib.hid (mustN_ok v1)
              clear hn HX
              go_wp2_with (first
                | (go_at_call 60; (with_reducible refine HC.out.mono ?_); rintro e1 w1 ⟨rfl, hr1, hk1⟩; have W1 := HWW.out.call hr1 hk1; have c1 := W1.lb.req; have f1 := W1.lb.free 22; clear hr1 hk1)
                | (go_at_call 59; (with_reducible refine (HM.out _).mono ?_); rintro e1 w2 ⟨rfl, rfl⟩))
              (try simp only [Act.put])
              go_meet
              exact Lib.hid ⟨_, _, _, _, W1.set (bel_cell _ _ _ _) (W1.lb.setReq v1) ⟨(W1.ow.cell (Nat.lt_succ_self _)).a, (W1.ow.cell (Nat.lt_succ_self _)).p⟩ W1.kd W1.np, HXN.out⟩
        case rest =>
          clear HW
          have HW := hcut
          clear hcut
          go_upto_if 36 with (go_at_call 20; (with_reducible refine (HId.out _).mono ?_); rintro e wh ⟨rfl, rfl⟩)
          go_cut [] from 36 (fun wx => OnWay g h c s w r q k true X (t3 b) wx)
          case first =>
            obtain ⟨l, p, u, v, hW, hX⟩ := HW.out
            have HX : Hid (X = thn (s2 b (l, p)) (t3 b)) := hX
            have HWW := Lib.hid hW
            have hkd := hW.kd
            clear HW hX hW
            cases hc : idK k with
            | false =>
              have HXN : Hid (X = t3 b (l, p)) := by
                have := HX.out
                unfold s2 at this
                rw [opt_no (by rw [hkd]; exact hc)] at this
                exact this
              go_wp2
              go_meet
              exact Lib.hid ⟨l, p, u, v, HWW.out, HXN.out⟩
            | true =>
              have hc' : idK l.kind = true := by rw [hkd]; exact hc
              cases hn : rdP b p with
              | error e =>
                have HXE : Hid (X = .error e) := by
                  have := HX.out
                  unfold s2 at this
                  rw [opt_err hc' hn] at this
                  exact this
                obtain ⟨he, v0, hC⟩ := HPU.out _ _ HWW.out.rd _ hn
                have HC := Lib.hid hC
                have HM := Lib.hid (fun w => mustI_no v0 e he w)
                clear hn he hC HX
                go_wp2_with (first
                  | (go_at_call 63; (with_reducible refine HC.out.mono ?_); rintro e1 w1 ⟨rfl, hk1⟩)
                  | (go_at_call 62; (with_reducible refine (HM.out _).mono ?_); rintro e1 w2 ⟨he, hk2⟩; rw [pan_eq] at he; subst he))
                exact ⟨rfl, lt_pan HXE.out ((HWW.out.keep.trans hk1).trans (Keep.of hk2 g g))⟩
              | ok rr =>
                obtain ⟨v1, p1⟩ := rr
                have HXN : Hid (X = t3 b ({ l with id := v1 }, p1)) := by
                  have := HX.out
                  unfold s2 at this
                  rw [opt_ok hc' hn] at this
                  exact this
                have HC := Lib.hid (HPY.out _ _ HWW.out.rd _ _ hn)
                have HM := Lib.hid (mustI_ok v1)
                clear hn HX
                go_wp2_with (first
                  | (go_at_call 63; (with_reducible refine HC.out.mono ?_); rintro e1 w1 ⟨rfl, hr1, hk1⟩; have W1 := HWW.out.call hr1 hk1; clear hr1 hk1)
                  | (go_at_call 62; (with_reducible refine (HM.out _).mono ?_); rintro e1 w2 ⟨rfl, hk2⟩; have W2 := W1.grow hk2; have L2 := W2.lb; clear hk2)
                  | ((with_reducible show wpList _ _ _ (Oper.mk _ (Op.store _ _ _) _ _ _ _ :: _) _ _); refine p_putId rfl _ _ rfl q rfl v1 rfl L2 ?_))
                (try simp only [Act.put])
                go_meet
                exact Lib.hid ⟨_, _, _, _, W2.set (bel_row _ _ _) (W2.lb.setL _ _ _) ⟨(W2.ow.row (Nat.lt_succ_self _) _).a, (W2.ow.row (Nat.lt_succ_self _) _).p⟩ W2.kd W2.np, HXN.out⟩
          case rest =>
            clear HW
            have HW := hcut
            clear hcut
            go_upto_if 44 with (go_at_call 20; (with_reducible refine (HAvoid.out _).mono ?_); rintro e wh ⟨rfl, rfl⟩)
            go_cut [] from 44 (fun wx => OnWay g h c s w r q k true X (t4 b) wx)
            case first =>
              obtain ⟨l, p, u, v, hW, hX⟩ := HW.out
              have HX : Hid (X = thn (s3 b (l, p)) (t4 b)) := hX
              have HWW := Lib.hid hW
              have hkd := hW.kd
              clear HW hX hW
              cases hc : idK k with
              | false =>
                have HXN : Hid (X = t4 b (l, p)) := by
                  have := HX.out
                  unfold s3 at this
                  rw [opt_no (by rw [hkd]; exact hc)] at this
                  exact this
                go_wp2
                go_meet
                exact Lib.hid ⟨l, p, u, v, HWW.out, HXN.out⟩
              | true =>
                have hc' : idK l.kind = true := by rw [hkd]; exact hc
                cases hn : rdA b p with
                | error e =>
                  have HXE : Hid (X = .error e) := by
                    have := HX.out
                    unfold s3 at this
                    rw [opt_err hc' hn] at this
                    exact this
                  have HC := Lib.hid ((HIA.out _ _ HWW.out.rd).mono fun _ _ k => (show _ ∧ _ from ⟨k.no e hn, k.keep⟩))
                  clear hn HX
                  go_wp2_with (go_at_call 64; (with_reducible refine HC.out.mono ?_); rintro e1 w1 ⟨he, hk1⟩; rw [pan_eq] at he; subst he)
                  exact ⟨rfl, lt_pan HXE.out (HWW.out.keep.trans hk1)⟩
                | ok rr =>
                  obtain ⟨v1, p1⟩ := rr
                  have HXN : Hid (X = t4 b ({ l with avoid := v1 }, p1)) := by
                    have := HX.out
                    unfold s3 at this
                    rw [opt_ok hc' hn] at this
                    exact this
                  have HC := Lib.hid ((HIA.out _ _ HWW.out.rd).mono fun _ _ k => (show (∃ _, _ ∧ _ ∧ _) ∧ _ from ⟨k.ok v1 p1 hn, k.keep⟩))
                  have hq1 : q + 1 ≤ wc.heap.size := HWW.out.lb.lt
                  clear hn HX
                  go_wp2_with (first
                    | (go_at_call 64; (with_reducible refine HC.out.mono ?_); rintro e1 w1 ⟨⟨v2, rfl, ho1, hr1⟩, hk1⟩; have W1 := HWW.out.call hr1 hk1; have HO1 := Lib.hid ho1; have c1 := W1.lb.cu; have f1 := W1.lb.free 43; obtain ⟨a2, n2, c2, rfl⟩ := slice_form ho1; clear hr1 hk1 ho1))
                  (try simp only [Act.put])
                  go_meet
                  exact Lib.hid ⟨_, _, _, _, W1.set (bel_cell _ _ _ _) (W1.lb.setU v1 _) ⟨own_cell (own_base HO1.out hq1) (Nat.lt_succ_self _), (W1.ow.cell (Nat.lt_succ_self _)).p⟩ W1.kd W1.np, HXN.out⟩
            case rest =>
              clear HW
              have HW := hcut
              clear hcut
              go_upto_if 49 with (go_at_call 20; (with_reducible refine (HDone.out _).mono ?_); rintro e wh ⟨rfl, rfl⟩)
              go_cut [] from 49 (fun wx => OnWay g h c s w r q k true X (t5 b) wx)
              case first =>
                obtain ⟨l, p, u, v, hW, hX⟩ := HW.out
                have HX : Hid (X = thn (s4 b (l, p)) (t5 b)) := hX
                have HWW := Lib.hid hW
                have hkd := hW.kd
                clear HW hX hW
                cases hc : doneK k with
                | false =>
                  have HXN : Hid (X = t5 b (l, p)) := by
                    have := HX.out
                    unfold s4 at this
                    rw [opt_no (by rw [hkd]; exact hc)] at this
                    exact this
                  go_wp2
                  go_meet
                  exact Lib.hid ⟨l, p, u, v, HWW.out, HXN.out⟩
                | true =>
                  have hc' : doneK l.kind = true := by rw [hkd]; exact hc
                  cases hn : rdM 1 b p with
                  | error e =>
                    have HXE : Hid (X = .error e) := by
                      have := HX.out
                      unfold s4 at this
                      rw [opt_err hc' hn] at this
                      exact this
                    have HC := Lib.hid (Got.not (HBO.out _ _ HWW.out.rd) hn)
                    clear hn HX
                    go_wp2_with (go_at_call 66; (with_reducible refine HC.out.mono ?_); rintro e1 w1 ⟨he, hk1⟩; rw [pan_eq] at he; subst he)
                    exact ⟨rfl, lt_pan HXE.out (HWW.out.keep.trans hk1)⟩
                  | ok rr =>
                    obtain ⟨v1, p1⟩ := rr
                    have HXN : Hid (X = t5 b ({ l with done := decide (v1 = 1) }, p1)) := by
                      have := HX.out
                      unfold s4 at this
                      rw [opt_ok hc' hn] at this
                      exact this
                    have HC := Lib.hid (Got.yes (HBO.out _ _ HWW.out.rd) hn)
                    unfold encB at HC
                    clear hn HX
                    go_wp2_with (first
                      | (go_at_call 66; (with_reducible refine HC.out.mono ?_); rintro e1 w1 ⟨rfl, hr1, hk1⟩; have W1 := HWW.out.call hr1 hk1; have c1 := W1.lb.done; have f1 := W1.lb.free 44; clear hr1 hk1))
                    (try simp only [Act.put])
                    go_meet
                    exact Lib.hid ⟨_, _, _, _, W1.set (bel_cell _ _ _ _) (W1.lb.setDone _) ⟨(W1.ow.cell (Nat.lt_succ_self _)).a, (W1.ow.cell (Nat.lt_succ_self _)).p⟩ W1.kd W1.np, HXN.out⟩
              case rest =>
                clear HW
                have HW := hcut
                clear hcut
                go_upto_if 54 with (go_at_call 20; (with_reducible refine (HPeer.out _).mono ?_); rintro e wh ⟨rfl, rfl⟩)
                go_cut [7] from 54 (fun _ wx => OnWay g h c s w r q k false X (s6 b) wx)
                case first =>
                  obtain ⟨l, p, u, v, hW, hX⟩ := HW.out
                  have HX : Hid (X = thn (s5 b (l, p)) (s6 b)) := hX
                  have HWW := Lib.hid hW
                  have hkd := hW.kd
                  clear HW hX hW
                  cases hc : peerK k with
                  | false =>
                    have HXN : Hid (X = s6 b (l, p)) := by
                      have := HX.out
                      unfold s5 at this
                      rw [opt_no (by rw [hkd]; exact hc)] at this
                      exact this
                    go_wp2
                    go_meet
                    exact Lib.hid ⟨l, p, u, v, ⟨HWW.out.lb, HWW.out.rd, HWW.out.z, HWW.out.ow, HWW.out.kd, fun h => (by cases h), HWW.out.keep, HWW.out.n1, HWW.out.n2, HWW.out.n3⟩, HXN.out⟩
                  | true =>
                    have hc' : peerK l.kind = true := by rw [hkd]; exact hc
                    cases hn : rdM 1 b p with
                    | error e =>
                      have hY : rdY l.kind b p = .error e := by unfold rdY; rw [hn]
                      have HXE : Hid (X = .error e) := by
                        have := HX.out
                        unfold s5 at this
                        rw [opt_err hc' hY] at this
                        exact this
                      have HC := Lib.hid (Got.not (HBO.out _ _ HWW.out.rd) hn)
                      clear hn HX hY
                      go_wp2_with (go_at_call 66; (with_reducible refine HC.out.mono ?_); rintro e1 w1 ⟨he, hk1⟩; rw [pan_eq] at he; subst he)
                      exact ⟨rfl, lt_pan HXE.out (HWW.out.keep.trans hk1)⟩
                    | ok rr =>
                      obtain ⟨v1, p1⟩ := rr
                      have HC := Lib.hid (Got.yes (HBO.out _ _ HWW.out.rd) hn)
                      unfold encB at HC
                      by_cases hv : v1 = 0
                      · rw [show decide (v1 = 1) = false by rw [hv]; rfl] at HC
                        by_cases hk2 : k = 2
                        · have hY : rdY l.kind b p = .error 3 := by unfold rdY; rw [hn]; simp only [if_pos hv]; rw [if_pos (by rw [hkd]; exact hk2)]
                          have HXE : Hid (X = .error 3) := by
                            have := HX.out
                            unfold s5 at this
                            rw [opt_err hc' hY] at this
                            exact this
                          have e2 : (k == 2) = true := by rw [hk2]; rfl
                          clear hn HX hY hv hk2 hc hc'
                          go_wp2_with (first
                            | go_big_skip
                            | (go_at_call 66; (with_reducible refine HC.out.mono ?_); rintro e1 w1 ⟨rfl, hr1, hk1⟩; have W1 := HWW.out.call hr1 hk1; have c1 := W1.lb.kind; rw [W1.kd] at c1; clear hr1 hk1)
                            | (go_at_call 33; (with_reducible refine (HNP.out _).mono ?_); rintro e1 w2 ⟨rfl, rfl⟩)
                            | (go_at_call 42; (with_reducible refine (refuse_3 _).mono ?_); rintro e1 w2 ⟨he, rfl⟩; rw [pan_eq] at he; subst he))
                          exact ⟨rfl, lt_pan HXE.out W1.keep⟩
                        · have hY : rdY l.kind b p = .ok (noP, p1) := by unfold rdY; rw [hn]; simp only [if_pos hv]; rw [if_neg (by rw [hkd]; exact hk2)]
                          have HXN : Hid (X = s6 b ({ l with peer := noP }, p1)) := by
                            have := HX.out
                            unfold s5 at this
                            rw [opt_ok hc' hY] at this
                            exact this
                          have e2 : (k == 2) = false := by rw [beq_eq_false_iff_ne]; exact hk2
                          have hnn := HWW.out.np rfl
                          have HXN : Hid (X = s6 b (l, p1)) := by
                            have := HXN.out
                            rw [← hnn] at this
                            exact this
                          clear hn HX hY hv hk2 hc hc' hnn
                          go_wp2_with (first
                            | go_big_skip
                            | (go_at_call 66; (with_reducible refine HC.out.mono ?_); rintro e1 w1 ⟨rfl, hr1, hk1⟩; have W1 := HWW.out.call hr1 hk1; have c1 := W1.lb.kind; rw [W1.kd] at c1; clear hr1 hk1)
                            | (go_at_call 33; (with_reducible refine (HNP.out _).mono ?_); rintro e1 w2 ⟨rfl, rfl⟩)
                            | (go_at_call 42; (with_reducible refine (pass_3 _).mono ?_); rintro e1 w2 ⟨rfl, rfl⟩))
                          go_meet
                          exact Lib.hid ⟨l, p1, u, v, ⟨W1.lb, W1.rd, W1.z, W1.ow, W1.kd, fun h => (by cases h), W1.keep, W1.n1, W1.n2, W1.n3⟩, HXN.out⟩
                      · have hv1 : v1 = 1 := by have := rdM_le hn; omega
                        rw [show decide (v1 = 1) = true by rw [hv1]; rfl] at HC
                        cases hn2 : rdE b p1 with
                        | error e =>
                          have hY : rdY l.kind b p = .error e := by unfold rdY; rw [hn]; simp only [if_neg hv]; exact hn2
                          have HXE : Hid (X = .error e) := by
                            have := HX.out
                            unfold s5 at this
                            rw [opt_err hc' hY] at this
                            exact this
                          have HP := Lib.hid (fun (W : World) (kk : Rd W g h c s p1) => Got.not (HG.out _ _ kk) hn2)
                          clear hn HX hY hv hv1 hn2 hc hc'
                          go_wp2_with (first
                            | go_big_skip
                            | (go_at_call 66; (with_reducible refine HC.out.mono ?_); rintro e1 w1 ⟨rfl, hr1, hk1⟩; have W1 := HWW.out.call hr1 hk1; have c1 := W1.lb.kind; rw [W1.kd] at c1; clear hr1 hk1)
                            | (go_at_call 42; (with_reducible refine (pass_3 _).mono ?_); rintro e1 w2 ⟨rfl, rfl⟩)
                            | (go_at_call 61; (with_reducible refine (HP.out _ W1.rd).mono ?_); rintro e1 w2 ⟨he, k2⟩; rw [pan_eq] at he; subst he))
                          exact ⟨rfl, lt_pan HXE.out (W1.keep.trans k2)⟩
                        | ok r2 =>
                          obtain ⟨x2, p2⟩ := r2
                          have hY : rdY l.kind b p = .ok (x2, p2) := by unfold rdY; rw [hn]; simp only [if_neg hv]; exact hn2
                          have HXN : Hid (X = s6 b ({ l with peer := x2 }, p2)) := by
                            have := HX.out
                            unfold s5 at this
                            rw [opt_ok hc' hY] at this
                            exact this
                          have HP := Lib.hid (fun (W : World) (kk : Rd W g h c s p1) => Got.yes (HG.out _ _ kk) hn2)
                          clear hn HX hY hv hv1 hn2 hc hc'
                          go_wp2_with (first
                            | go_big_skip
                            | (go_at_call 66; (with_reducible refine HC.out.mono ?_); rintro e1 w1 ⟨rfl, hr1, hk1⟩; have W1 := HWW.out.call hr1 hk1; have c1 := W1.lb.kind; rw [W1.kd] at c1; clear hr1 hk1)
                            | (go_at_call 42; (with_reducible refine (pass_3 _).mono ?_); rintro e1 w2 ⟨rfl, rfl⟩)
                            | (go_at_call 61; (with_reducible refine (HP.out _ W1.rd).mono ?_); rintro e1 w2 ⟨rfl, hr2, hk2⟩; have W2 := W1.call hr2 hk2; have L2 := W2.lb; clear hr2 hk2)
                            | ((with_reducible show wpList _ _ _ (Oper.mk _ (Op.store _ _ _) _ _ _ _ :: _) _ _); refine p_putPeer rfl _ _ rfl q rfl x2 rfl L2 ?_))
                          (try simp only [Act.put])
                          go_meet
                          exact Lib.hid ⟨_, _, _, _, W2.set (bel_row _ _ _) (W2.lb.setL _ _ _) ⟨(W2.ow.row (Nat.lt_succ_self _) _).a, (W2.ow.row (Nat.lt_succ_self _) _).p⟩ W2.kd (fun h => by cases h), HXN.out⟩
                case rest =>
                  clear HW
                  have HW := hcut
                  clear hcut
                  go_upto_if 70 with (go_at_call 20; (with_reducible refine (HPeers.out _).mono ?_); rintro e wh ⟨rfl, rfl⟩)
                  go_cut [] from 70 (fun wx => OnWay g h c s w r q k false X Except.ok wx)
                  case first =>
                    obtain ⟨l, p, u, v, hW, hX⟩ := HW.out
                    have HX : Hid (X = s6 b (l, p)) := hX
                    have HWW := Lib.hid hW
                    have hkd := hW.kd
                    clear HW hX hW
                    cases hc : peersK k with
                    | false =>
                      have HXN : Hid (X = .ok (l, p)) := by
                        have := HX.out
                        unfold s6 at this
                        rw [opt_no (by rw [hkd]; exact hc)] at this
                        exact this
                      go_wp2
                      go_meet
                      exact Lib.hid ⟨l, p, u, v, HWW.out, HXN.out⟩
                    | true =>
                      have hc' : peersK l.kind = true := by rw [hkd]; exact hc
                      cases hn : rdL b p with
                      | error e =>
                        have HXE : Hid (X = .error e) := by
                          have := HX.out
                          unfold s6 at this
                          rw [opt_err hc' hn] at this
                          exact this
                        have HC := Lib.hid ((HIP.out _ _ HWW.out.rd).mono fun _ _ k => (show _ ∧ _ from ⟨k.no e hn, k.keep⟩))
                        clear hn HX
                        go_wp2_with (go_at_call 67; (with_reducible refine HC.out.mono ?_); rintro e1 w1 ⟨he, hk1⟩; rw [pan_eq] at he; subst he)
                        exact ⟨rfl, lt_pan HXE.out (HWW.out.keep.trans hk1)⟩
                      | ok rr =>
                        obtain ⟨v1, p1⟩ := rr
                        have HXN : Hid (X = .ok ({ l with peers := v1 }, p1)) := by
                          have := HX.out
                          unfold s6 at this
                          rw [opt_ok hc' hn] at this
                          exact this
                        have HC := Lib.hid ((HIP.out _ _ HWW.out.rd).mono fun _ _ k => (show (∃ _, _ ∧ _ ∧ _) ∧ _ from ⟨k.ok v1 p1 hn, k.keep⟩))
                        have hq1 : q + 1 ≤ wc.heap.size := HWW.out.lb.lt
                        clear hn HX
                        go_wp2_with (first
                          | (go_at_call 67; (with_reducible refine HC.out.mono ?_); rintro e1 w1 ⟨⟨v2, rfl, ho1, hr1⟩, hk1⟩; have W1 := HWW.out.call hr1 hk1; have HO1 := Lib.hid ho1; have c1 := W1.lb.cv; have f1 := W1.lb.free 66; obtain ⟨a2, n2, c2, rfl⟩ := slice_form ho1; clear hr1 hk1 ho1))
                        (try simp only [Act.put])
                        go_meet
                        exact Lib.hid ⟨_, _, _, _, W1.set (bel_cell _ _ _ _) (W1.lb.setV v1 _) ⟨(W1.ow.cell (Nat.lt_succ_self _)).a, own_cell (own_base HO1.out hq1) (Nat.lt_succ_self _)⟩ W1.kd (fun h => by cases h), HXN.out⟩
                  case rest =>
                    clear HW
                    obtain ⟨l, p, u, v, hW, hX⟩ := hcut.out
                    have HX := Lib.hid hX
                    have L1 := hW.lb
                    have Z1 := hW.z
                    have ou := own_one hW.ow.a
                    have ov := own_one hW.ow.p
                    have HWW := Lib.hid hW
                    clear hX hW hcut
                    go_wp2_with (first
                      | (refine p_midL rfl _ rfl q rfl L1 ?_)
                      | ((with_reducible show wpList _ _ _ (Oper.mk _ (Op.store _ _ _) _ _ _ _ :: _) _ _); refine p_putL rfl _ _ rfl r rfl rfl ou ov Z1 ?_))
                    have hr3 := HWW.out.n3
                    have hr2 := HWW.out.n2
                    have hr1 := HWW.out.n1
                    have b9 := bel_row wc r (ltA l u v)
                    exact bodyPost_ret (results_L1 Try.results41 _ _ r rfl (Z1.setL l u v)) rfl (lt_ok HX.out (OwnL.base (HWW.out.ow.row (by omega) _) (by omega)) (HWW.out.rd.belowB b9 hr1) (HWW.out.keep.thenB (b9.mono hr3)))
end Go.Proofs.Ytplcdjmidelboaa
