/- What bytes are read as: peers, and rows of addresses and of peers. -/
import Derived.Test.YtplcdjmidelboaaLetGet
import Derived.Maps.AppendAt
import Derived.Laws.OwnMore
namespace Go.Proofs.Ytplcdjmidelboaa
set_option maxRecDepth 100000
open Go Go.RowKit Go.Sort

theorem p_buildP {ops : Array Oper} {rest : List Oper} {o : Oper} {a : Act} {w : World} {Q : Exit → Act → World → Prop} (hgd : o.guard = none) (x y : Operand) (ho : o.op = .build 25 #[(0, x), (1, y)])
    (k : Int) (n : Nat) (hx : a.eval x = .int .i64 k) (hy : a.eval y = idv n) (h : wpList Try.prog ops Q rest (a.put o.dst (.agg (peA (k, n)))) w) : wpList Try.prog ops Q (o :: rest) a w := by
  refine wpList_plain hgd fun K hK => ?_
  have e := run_build (P := Try.prog) w 25 #[(0, .int .i64 k), (1, .agg (row (dig 20 n)))] _ (builtP k n)
  unfold Oper.wp execOp
  simp only [ho, List.map_toArray, List.map_cons, List.map_nil, hx, hy, show idv n = .agg (row (dig 20 n)) from rfl, Sem.run_bind, e, Sem.run_pure, Result.andThen_ok]
  exact hK _ _ h
theorem p_putO {ops : Array Oper} {rest : List Oper} {op : Oper} {a : Act} {w : World} {Q : Exit → Act → World → Prop} (hgd : op.guard = none) (x y : Operand) (ho : op.op = .store 25 x y)
    (g : Nat) (hx : a.eval x = .pointer (some ⟨g, 0, none⟩)) (r : Pe) (hy : a.eval y = .agg (peA r)) {q : Pe} (hg : PB w g q)
    (h : wpList Try.prog ops Q rest (a.put op.dst undef) (w.setRow g (peA r))) : wpList Try.prog ops Q (op :: rest) a w :=
  wpList_store_row hgd 25 x y ho g (peA r) hx hy 25 (peA q) hg (by rw [peA_size]; exact sizeP) (by rw [peA_size, peA_size]) (peA_one r) h
theorem Keep.rowB {w w1 : World} {g b : Nat} (h : Keep w w1 g g) (hb : w.heap.size ≤ b) (cs : Array Value) : Keep w (w1.setRow b cs) g g := h.thenB (bel_setRow (Below.refl w.heap.size w1) hb cs)
set_option maxHeartbeats 2000000 in
theorem getPeer_any {w : World} {g h c : Nat} {s : ByteArray} {p : Nat} (k00 : Rd w g h c s p) (hs : s.size ≤ 1000000) :
    Reads1 61 encP w g h c s (rdE (bytesN s) p) := by
  have hg0 := k00.lt
  have hgh := k00.ne
  have B0 := (Below.refl w.heap.size w).alloc (Nat.le_refl _) (.cells (peA (0, 0)) 25)
  have k0 := k00.below B0
  have K0 := Lib.hid (Keep.of B0 g g)
  have X0 := PB.new w (0, 0)
  have HI := getAddr_any k0 hs
  unfold Reads1 at HI ⊢
  cases hn : rdM 999 (bytesN s) p with
  | error e =>
    have HX : Hid (rdE (bytesN s) p = .error e) := by unfold Hid rdE; rw [hn]
    have HC := Lib.hid (Got.not HI hn)
    clear hn k0 k00 B0 X0 HI
    generalize rdE (bytesN s) p = X at *
    go_enter Try.func61, Try.ntmps61
    go_upto_region 1 with (fail)
    rw [zeroPe]
    generalize w.alloc _ = W at *
    go_wp2_with (go_at_call 65; (with_reducible refine HC.out.mono ?_); rintro e1 w2 ⟨he, k2⟩; rw [pan_eq] at he; subst he)
    exact ⟨rfl, got_pan HX.out (K0.out.trans k2)⟩
  | ok r =>
    obtain ⟨n, p1⟩ := r
    have HC := Lib.hid (Got.yes HI hn)
    cases hn2 : rdP (bytesN s) p1 with
    | error e =>
      have HX : Hid (rdE (bytesN s) p = .error e) := by unfold Hid rdE; rw [hn]; simp only [hn2]
      have HP := Lib.hid (fun (W : World) (k : Rd W g h c s p1) => pl_no k hs hn2)
      clear hn hn2 k0 k00 B0 X0 HI
      generalize rdE (bytesN s) p = X at *
      go_enter Try.func61, Try.ntmps61
      go_upto_region 1 with (fail)
      rw [zeroPe]
      generalize w.alloc _ = W at *
      go_upto_region 2 with (go_at_call 65; (with_reducible refine HC.out.mono ?_); rintro e1 w2 ⟨rfl, r2, k2⟩)
      obtain ⟨he, v, hQ⟩ := HP.out _ r2
      have HQ := Lib.hid hQ
      have HM := Lib.hid (fun w => mustI_no v e he w)
      clear he hQ HP r2
      go_wp2_with (first
        | (go_at_call 63; (with_reducible refine HQ.out.mono ?_); rintro e1 w3 ⟨rfl, k3⟩)
        | (go_at_call 62; (with_reducible refine (HM.out _).mono ?_); rintro e1 w4 ⟨he, k4⟩; rw [pan_eq] at he; subst he))
      exact ⟨rfl, got_pan HX.out (((K0.out.trans k2).trans k3).trans (Keep.of k4 g g))⟩
    | ok r =>
      obtain ⟨i, p2⟩ := r
      have HX : Hid (rdE (bytesN s) p = .ok (((n : Int), i), p2)) := by unfold Hid rdE; rw [hn]; simp only [hn2]
      have HP := Lib.hid (fun (W : World) (k : Rd W g h c s p1) => pl_ok k hs hn2)
      have HM := Lib.hid (fun w => mustI_ok i w)
      have hgw : w.heap.size < (w.alloc (.cells (peA (0, 0)) 25)).heap.size := by simp
      clear hn hn2 k0 k00 B0 HI
      generalize rdE (bytesN s) p = X at *
      go_enter Try.func61, Try.ntmps61
      go_upto_region 1 with (fail)
      rw [zeroPe]
      generalize w.alloc _ = W at *
      generalize hgp : w.heap.size = gp at *
      go_upto_region 2 with (go_at_call 65; (with_reducible refine HC.out.mono ?_); rintro e1 w2 ⟨rfl, r2, k2⟩)
      have HQ := Lib.hid (HP.out _ r2)
      have X2 := Blk.keep X0 k2 (by omega) (by omega)
      have K2 := Lib.hid (K0.out.trans k2)
      clear HP r2 X0 k2 K0 HC
      go_wp2_with (first
        | (go_at_call 63; (with_reducible refine HQ.out.mono ?_); rintro e1 w3 ⟨rfl, r3, k3⟩; have X3 := Blk.keep X2 k3 (by omega) (by omega); have K3 := Lib.hid (K2.out.trans k3); have R3 := Lib.hid r3; clear r3 k3)
        | (go_at_call 62; (with_reducible refine (HM.out _).mono ?_); rintro e1 w4 ⟨rfl, k4⟩; have X4 := Blk.below X3 k4 X3.lt; have K4 := Lib.hid (K3.out.trans (Keep.of k4 g g)); have R4 := Lib.hid (R3.out.below k4); clear k4)
        | (refine p_buildP rfl _ _ rfl (n : Int) i rfl rfl ?_)
        | ((with_reducible show wpList _ _ _ (Oper.mk _ (Op.store _ _ _) _ _ _ _ :: _) _ _); refine p_putO rfl _ _ rfl gp rfl ((n : Int), i) rfl X4 ?_))
      exact bodyPost_ret (results_cell_row Try.results61 _ _ gp 25 (peA ((n : Int), i)) (0, 0) _ rfl (Blk.setRow X4 _) Try.underlying25 rfl (by rw [peA_size]; exact sizeP)) rfl (got_ok (enc := encP) (v := ((n : Int), i)) HX.out (R4.out.belowB (bel_setRow (Below.refl gp _) (Nat.le_refl _) _) (by omega)) (K4.out.rowB (by omega) _))

/-- what reading a row ends with -/
structure GotRow {α : Type} (ty : TypeId) (sz : Nat) (fl : List α → List Value) (w : World) (g h c : Nat) (s : ByteArray) (X : Except Nat (List α × Nat)) (e : Ending) (w' : World) : Prop where
  ok : ∀ L q, X = .ok (L, q) → ∃ v, e = .returned v ∧ w'.ownsRow w.heap.size ty sz v L.length (fl L) ∧ Rd w' g h c s q
  no : ∀ n, X = .error n → e = Pan n
  keep : Keep w w' g g
theorem row_pan {α : Type} {ty : TypeId} {sz : Nat} {fl : List α → List Value} {w w' : World} {g h c : Nat} {s : ByteArray} {X : Except Nat (List α × Nat)} {n : Nat} (hX : X = .error n) (hk : Keep w w' g g) : GotRow ty sz fl w g h c s X (Pan n) w' :=
  ⟨fun a q hx => (by rw [hX] at hx; cases hx), fun m hm => (by rw [hX] at hm; cases hm; rfl), hk⟩
theorem row_ok {α : Type} {ty : TypeId} {sz : Nat} {fl : List α → List Value} {w w' : World} {g h c : Nat} {s : ByteArray} {X : Except Nat (List α × Nat)} {L : List α} {v : Value} {q n : Nat} (hX : X = .ok (L, q)) (hl : L.length = n) (ho : w'.ownsRow w.heap.size ty sz v n (fl L)) (hr : Rd w' g h c s q) (hk : Keep w w' g g) : GotRow ty sz fl w g h c s X (.returned v) w' :=
  ⟨fun a q' hx => (by rw [hX] at hx; simp only [Except.ok.injEq, Prod.mk.injEq] at hx; obtain ⟨rfl, rfl⟩ := hx; exact ⟨v, rfl, by rw [hl]; exact ho, hr⟩), fun m hm => (by rw [hX] at hm; cases hm), hk⟩
theorem infoN : (Try.prog.info? 3).map (fun i => (i.zero, i.size, i.bytes)) = some (some (.int .i64 0), 1, 8) := by kernel_rfl
theorem ints_snoc (L : List Int) (x : Int) : ints L ++ [.int .i64 x] = ints (L ++ [x]) := by simp [ints]
theorem flat_snoc (L : List Pe) (x : Pe) : flat L ++ peC x = flat (L ++ [x]) := by rw [flat_append, flat_single]
/-- a number that was put into a block of its own is appended -/
theorem p_snocI {w : World} {ops : Array Oper} {rest : List Oper} {o : Oper} {a : Act} {Q : Exit → Act → World → Prop} (hgd : o.guard = none) (s x : Operand)
    (ho : o.op = .call { callee := .builtin .append, args := #[s, x], argTypes := #[27, 27] }) (B : Nat) (v : Value) (n : Nat) (L : List Int) (hs : a.eval s = v) (hown : w.ownsRow B 3 1 v n (ints L)) (k : Int) (hx : a.eval x = .slice (some ⟨w.heap.size, 0, none⟩) 1 1)
    (hn : n ≤ 1000000) (hbs : B ≤ w.heap.size)
    (h : ∀ v' w', w'.ownsRow B 3 1 v' (n + 1) (ints (L ++ [k])) → Below B w w' → wpList Try.prog ops Q rest (a.put o.dst v') w') : wpList Try.prog ops Q (o :: rest) a (w.alloc (.cells #[.int .i64 k] 3)) := by
  refine wpList_append1 (w := w) (w0 := w) hgd s x 27 ho B 3 (.int .i64 0) 8 Try.underlying27 infoN rfl v n (ints L) hs hown (.int .i64 k) rfl hx (by omega) (by omega) (Below.refl _ _) hbs ?_
  intro v' w' h1 h2
  rw [ints_snoc] at h1
  exact h v' w' h1 h2
theorem p_snocP {w : World} {ops : Array Oper} {rest : List Oper} {o : Oper} {a : Act} {Q : Exit → Act → World → Prop} (hgd : o.guard = none) (s x : Operand)
    (ho : o.op = .call { callee := .builtin .append, args := #[s, x], argTypes := #[28, 28] }) (B : Nat) (v : Value) (n : Nat) (L : List Pe) (hs : a.eval s = v) (hown : w.ownsRow B 25 21 v n (flat L)) (k : Pe) (hx : a.eval x = .slice (some ⟨w.heap.size, 0, none⟩) 1 1)
    (hn : n ≤ 1000000) (hbs : B ≤ w.heap.size)
    (h : ∀ v' w', w'.ownsRow B 25 21 v' (n + 1) (flat (L ++ [k])) → Below B w w' → wpList Try.prog ops Q rest (a.put o.dst v') w') : wpList Try.prog ops Q (o :: rest) a (w.alloc (.cells (peA k) 25)) := by
  obtain ⟨i, hi', hq⟩ := Option.map_eq_some_iff.1 infoP
  simp only [Prod.mk.injEq] at hq
  obtain ⟨q1, q2, q3⟩ := hq
  have hr := (PB.new w k).range
  refine wpList_append_own_at (w := w.alloc (.cells (peA k) 25)) hgd s x 28 ho B 25 i _ 21 32 Try.underlying28 hi' q1 q2 q3 (peA_size _) (by omega) v n (flat L) hs (hown.alloc _) ⟨w.heap.size, 0, none⟩ 1 1 (flat [k]) hx (by rw [flat_single, peC_length]) (fun j y hj => by rw [Addr.add_mid]; rw [flat_single] at hj; exact hr j y hj) (flat_one _) (by unfold maxLen; omega) (by omega) (by simp; omega) ?_
  intro v' w' h1 h2 _ _
  rw [← flat_append] at h1
  exact h v' w' h1 (((Below.refl B w).alloc hbs _).grown h2 (by simp; omega) fun k hk => (hown.lt k hk).1)
theorem run_sliceP (a : Int) (n : Nat) (w : World) : (Instr.buildSlice 28 1 #[(0, .agg (peA (a, n)))]).run Try.prog w = .ok (.slice (some ⟨w.heap.size, 0, none⟩) 1 1) (w.alloc (.cells (peA (a, n)) 25)) := by kernel_rfl
theorem p_sliceP {ops : Array Oper} {rest : List Oper} {o : Oper} {a : Act} {w : World} {Q : Exit → Act → World → Prop} (hgd : o.guard = none) (x : Operand) (ho : o.op = .buildSlice 28 1 #[(0, x)])
    (p : Pe) (hx : a.eval x = .agg (peA p)) (h : wpList Try.prog ops Q rest (a.put o.dst (.slice (some ⟨w.heap.size, 0, none⟩) 1 1)) (w.alloc (.cells (peA p) 25))) : wpList Try.prog ops Q (o :: rest) a w := by
  refine wpList_plain hgd fun K hK => ?_
  unfold Oper.wp execOp
  simp only [ho, List.map_toArray, List.map_cons, List.map_nil, hx, Sem.run_bind, run_sliceP p.1 p.2 w, Sem.run_pure, Result.andThen_ok]
  exact hK _ _ h
set_option maxHeartbeats 2000000 in
theorem getInts_any {w : World} {g h c : Nat} {s : ByteArray} {p : Nat} (k0 : Rd w g h c s p) (hs : s.size ≤ 1000000) :
    Calls Try.prog 64 #[.pointer (some ⟨g, 0, none⟩), .int .u64 16, .func (.func 65) #[] #[]] w (GotRow 3 1 ints w g h c s (rdA (bytesN s) p)) := by
  have hg0 := k0.lt
  have HI : Calls Try.prog 76 #[.pointer (some ⟨g, 0, none⟩), .int .u64 16] w (Got encN w g h c s (rdM 16 (bytesN s) p)) := getInt_any k0 hs 16 (by decide)
  clear k0
  cases hn : rdM 16 (bytesN s) p with
  | error e =>
    have HX : Hid (rdA (bytesN s) p = .error e) := by unfold Hid rdA; rw [hn]
    have HC := Lib.hid (Got.not HI hn)
    clear hn HI
    generalize rdA (bytesN s) p = X at *
    go_enter Try.func64, Try.ntmps64
    go_wp2_with (go_at_call 76; (with_reducible refine HC.out.mono ?_); rintro e1 w2 ⟨he, k2⟩; rw [pan_eq] at he; subst he)
    exact ⟨rfl, row_pan HX.out k2⟩
  | ok r =>
    obtain ⟨n, p1⟩ := r
    have hn16 : n ≤ 16 := by
      unfold rdM at hn
      split at hn
      · cases hn
      · split at hn
        · cases hn
        · simp only [Except.ok.injEq, Prod.mk.injEq] at hn; omega
    have HX : Hid (rdA (bytesN s) p = rdAs (bytesN s) n [] p1) := by unfold Hid rdA; rw [hn]
    have HC := Lib.hid (Got.yes HI hn)
    have HG := Lib.hid (fun (W : World) (q : Nat) (k : Rd W g h c s q) => getAddr_any k hs)
    clear hn HI
    generalize rdA (bytesN s) p = X at *
    go_enter Try.func64, Try.ntmps64
    go_upto_region 3 with (go_at_call 76; (with_reducible refine HC.out.mono ?_); rintro e1 w1 ⟨rfl, hr1, hk1⟩)
    have HR := Lib.hid hr1
    have HK := Lib.hid hk1
    clear hr1 hk1 HC
    go_loopw [7, 11] (fun v i wr => ∃ (q : Nat) (L : List Int) (p2 : Nat), q ≤ n ∧ i = .int .i64 (q : Int) ∧ L.length = q ∧ X = rdAs (bytesN s) (n - q) L p2 ∧ Rd wr g h c s p2 ∧ Keep w wr g g ∧ wr.ownsRow w.heap.size 3 1 v q (ints L)) (fun _ i _ => n - (intOf i).toNat)
    case atStart => exact ⟨0, [], p1, by omega, rfl, rfl, HX.out, HR.out, HK.out, World.ownsRow_nil _ _ _ _⟩
    case round =>
      obtain ⟨q, L, p2, hq, rfl, hLq, hX, hR, hK, hO⟩ := hrel
      clear HX HR HK
      have HX := Lib.hid hX
      have HR := Lib.hid hR
      have HK := Lib.hid hK
      have HO := Lib.hid hO
      have HL := Lib.hid hLq
      clear hX hR hK hO hLq
      by_cases hlt : q < n
      · obtain ⟨m, hm⟩ : ∃ m, n - q = m + 1 := ⟨n - q - 1, by omega⟩
        have HX2 : Hid (X = rdAs (bytesN s) (m + 1) L p2) := by have := HX.out; rwa [hm] at this
        have HMM : Hid (n - (q + 1) = m) := by unfold Hid; omega
        have b1 : (q : Int) < (n : Int) := by omega
        clear HX hm
        cases hn2 : rdM 999 (bytesN s) p2 with
        | error e =>
          have HXE : Hid (X = .error e) := by have := HX2.out; rw [rdAs, hn2] at this; exact this
          have HC := Lib.hid (Got.not (HG.out _ _ HR.out) hn2)
          clear hn2 HX2
          go_wp2_with (go_at_call 65; (with_reducible refine HC.out.mono ?_); rintro e1 w1 ⟨he, hk1⟩; rw [pan_eq] at he; subst he)
          exact ⟨rfl, row_pan HXE.out (HK.out.trans (by assumption))⟩
        | ok r =>
          obtain ⟨x, p3⟩ := r
          have HXE : Hid (X = rdAs (bytesN s) m (L ++ [(x : Int)]) p3) := by have := HX2.out; rw [rdAs, hn2] at this; exact this
          have HC := Lib.hid (Got.yes (HG.out _ _ HR.out) hn2)
          clear hn2 HX2
          go_wp2_with (first
          | (go_at_call 65; (with_reducible refine HC.out.mono ?_); rintro e1 w1 ⟨rfl, hr1, hk1⟩; have HO1 := Lib.hid (own_keepG HO.out hk1 hg0); have HR1 := Lib.hid hr1; have HK1 := Lib.hid (HK.out.trans hk1); have hs1 := HK1.out.size; clear hr1 hk1)
          | (at_builtin; refine p_snocI rfl _ _ rfl w.heap.size _ q L rfl HO1.out (x : Int) rfl (by omega) hs1 ?_; intro v' w' h1 h2; have H1 := Lib.hid h1; have H2 := Lib.hid h2; clear h1 h2))
          exact ⟨⟨q + 1, L ++ [(x : Int)], p3, by omega, by go_num, by rw [List.length_append, HL.out]; rfl, by rw [HMM.out]; exact HXE.out, HR1.out.belowB H2.out hg0, HK1.out.thenB H2.out, H1.out⟩, by simp [intOf]; omega⟩
      · obtain rfl : n = q := by omega
        have HXE : Hid (X = .ok (L, p2)) := by have := HX.out; rw [Nat.sub_self, rdAs] at this; exact this
        clear HX
        go_wp2
        go_ret
        exact row_ok HXE.out HL.out HO.out HR.out HK.out
set_option maxHeartbeats 2000000 in
theorem getPeers_any {w : World} {g h c : Nat} {s : ByteArray} {p : Nat} (k0 : Rd w g h c s p) (hs : s.size ≤ 1000000) :
    Calls Try.prog 67 #[.pointer (some ⟨g, 0, none⟩), .int .u64 8, .func (.func 61) #[] #[]] w (GotRow 25 21 flat w g h c s (rdL (bytesN s) p)) := by
  have hg0 := k0.lt
  have HI : Calls Try.prog 76 #[.pointer (some ⟨g, 0, none⟩), .int .u64 8] w (Got encN w g h c s (rdM 8 (bytesN s) p)) := getInt_any k0 hs 8 (by decide)
  clear k0
  cases hn : rdM 8 (bytesN s) p with
  | error e =>
    have HX : Hid (rdL (bytesN s) p = .error e) := by unfold Hid rdL; rw [hn]
    have HC := Lib.hid (Got.not HI hn)
    clear hn HI
    generalize rdL (bytesN s) p = X at *
    go_enter Try.func67, Try.ntmps67
    go_wp2_with (go_at_call 76; (with_reducible refine HC.out.mono ?_); rintro e1 w2 ⟨he, k2⟩; rw [pan_eq] at he; subst he)
    exact ⟨rfl, row_pan HX.out k2⟩
  | ok r =>
    obtain ⟨n, p1⟩ := r
    have hn16 : n ≤ 8 := by
      unfold rdM at hn
      split at hn
      · cases hn
      · split at hn
        · cases hn
        · simp only [Except.ok.injEq, Prod.mk.injEq] at hn; omega
    have HX : Hid (rdL (bytesN s) p = rdEs (bytesN s) n [] p1) := by unfold Hid rdL; rw [hn]
    have HC := Lib.hid (Got.yes HI hn)
    have HG := Lib.hid (fun (W : World) (q : Nat) (k : Rd W g h c s q) => getPeer_any k hs)
    clear hn HI
    generalize rdL (bytesN s) p = X at *
    go_enter Try.func67, Try.ntmps67
    go_upto_region 3 with (go_at_call 76; (with_reducible refine HC.out.mono ?_); rintro e1 w1 ⟨rfl, hr1, hk1⟩)
    have HR := Lib.hid hr1
    have HK := Lib.hid hk1
    clear hr1 hk1 HC
    go_loopw [7, 11] (fun v i wr => ∃ (q : Nat) (L : List Pe) (p2 : Nat), q ≤ n ∧ i = .int .i64 (q : Int) ∧ L.length = q ∧ X = rdEs (bytesN s) (n - q) L p2 ∧ Rd wr g h c s p2 ∧ Keep w wr g g ∧ wr.ownsRow w.heap.size 25 21 v q (flat L)) (fun _ i _ => n - (intOf i).toNat)
    case atStart => exact ⟨0, [], p1, by omega, rfl, rfl, HX.out, HR.out, HK.out, World.ownsRow_nil _ _ _ _⟩
    case round =>
      obtain ⟨q, L, p2, hq, rfl, hLq, hX, hR, hK, hO⟩ := hrel
      clear HX HR HK
      have HX := Lib.hid hX
      have HR := Lib.hid hR
      have HK := Lib.hid hK
      have HO := Lib.hid hO
      have HL := Lib.hid hLq
      clear hX hR hK hO hLq
      by_cases hlt : q < n
      · obtain ⟨m, hm⟩ : ∃ m, n - q = m + 1 := ⟨n - q - 1, by omega⟩
        have HX2 : Hid (X = rdEs (bytesN s) (m + 1) L p2) := by have := HX.out; rwa [hm] at this
        have HMM : Hid (n - (q + 1) = m) := by unfold Hid; omega
        have b1 : (q : Int) < (n : Int) := by omega
        clear HX hm
        cases hn2 : rdE (bytesN s) p2 with
        | error e =>
          have HXE : Hid (X = .error e) := by have := HX2.out; rw [rdEs, hn2] at this; exact this
          have HC := Lib.hid (Got.not (HG.out _ _ HR.out) hn2)
          clear hn2 HX2
          go_wp2_with (go_at_call 61; (with_reducible refine HC.out.mono ?_); rintro e1 w1 ⟨he, hk1⟩; rw [pan_eq] at he; subst he)
          exact ⟨rfl, row_pan HXE.out (HK.out.trans (by assumption))⟩
        | ok r =>
          obtain ⟨x, p3⟩ := r
          have HXE : Hid (X = rdEs (bytesN s) m (L ++ [x]) p3) := by have := HX2.out; rw [rdEs, hn2] at this; exact this
          have HC := Lib.hid (Got.yes (HG.out _ _ HR.out) hn2)
          clear hn2 HX2
          go_wp2_with (first
          | (go_at_call 61; (with_reducible refine HC.out.mono ?_); rintro e1 w1 ⟨rfl, hr1, hk1⟩; have HO1 := Lib.hid (own_keepG HO.out hk1 hg0); have HR1 := Lib.hid hr1; have HK1 := Lib.hid (HK.out.trans hk1); have hs1 := HK1.out.size; clear hr1 hk1)
          | (refine p_sliceP rfl _ rfl x rfl ?_)
          | (at_builtin; refine p_snocP rfl _ _ rfl w.heap.size _ q L rfl HO1.out x rfl (by omega) hs1 ?_; intro v' w' h1 h2; have H1 := Lib.hid h1; have H2 := Lib.hid h2; clear h1 h2))
          exact ⟨⟨q + 1, L ++ [x], p3, by omega, by go_num, by rw [List.length_append, HL.out]; rfl, by rw [HMM.out]; exact HXE.out, HR1.out.belowB H2.out hg0, HK1.out.thenB H2.out, H1.out⟩, by simp [intOf]; omega⟩
      · obtain rfl : n = q := by omega
        have HXE : Hid (X = .ok (L, p2)) := by have := HX.out; rw [Nat.sub_self, rdEs] at this; exact this
        clear HX
        go_wp2
        go_ret
        exact row_ok HXE.out HL.out HO.out HR.out HK.out
end Go.Proofs.Ytplcdjmidelboaa
