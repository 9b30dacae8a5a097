/- What bytes are read as: what is thrown on the way is told. -/
import Derived.Test.YtplcdjmidelboaaLetGet3
import Derived.Test.YtplcdjmidelboaaTail
import Derived.Recover
namespace Go.Proofs.Ytplcdjmidelboaa
set_option maxRecDepth 100000
open Go Go.RowKit Go.Sort

theorem run_thrown (n : Int) (w : World) : (Instr.typeAssert (.iface 32 (.int .i64 n)) 20 32 false).run Try.prog w = .ok (.int .i64 n) w := by kernel_rfl
theorem run_some_thrown (n : Int) (w : World) : (binOp .neq 20 (.iface 32 (.int .i64 n)) .nilIface).run Try.prog w = .ok (.bool true) w := by kernel_rfl
theorem run_none_thrown (w : World) : (binOp .neq 20 .nilIface .nilIface).run Try.prog w = .ok (.bool false) w := by kernel_rfl
theorem any_tail {P : Program} {l : List Oper} {Q : Exit → Act → World → Prop} {a : Act} {w : World} {listed : Array Bool} {fuel : Nat} (k : Nat) (hf : fuel = l.length - k) (hs : Region.noSelect l.toArray = true) (hB : seqP .any l.toArray (l.length - k) k listed = true)
    (hQ0 : ∀ c a t v w, Q (.panic c) (a.put (some t) v) w → Q (.panic c) a w) (h : wpList P l.toArray Q (l.drop k) a w) : wpAny P .any l.toArray Q fuel listed a w := by
  have := wpAny_of_seqP (md := .any) (Q' := Q) hs (panic_put hQ0) (l.drop k) k listed a w (fun j => by simp [List.getElem?_drop]) (by rw [List.length_drop]; exact hB) h
  rw [List.length_drop, ← hf] at this
  exact this
theorem p_build0 {w : World} (K : Value → World → Prop) (h : K (.agg (ltA zeroL nilS nilS)) w) : K (.agg (ltA zeroL nilS nilS)) w := h
theorem run_build0 (w : World) : (Instr.build 30 #[]).run Try.prog w = .ok (.agg (ltA zeroL nilS nilS)) w := run_build (P := Try.prog) w 30 #[] _ built0
set_option maxHeartbeats 1000000 in
theorem catch_thrown (g q : Nat) (n : Nat) {l : Lt} {u v : Value} {x : Value} (w : World) (hl : LB w g l u v) (hx : Blk w q #[x] 32) (hq : g < q) :
    CallsD Try.prog 39 #[.pointer (some ⟨g, 0, none⟩), .pointer (some ⟨q, 0, none⟩)] (.panicking [{ v := .iface 32 (.int .i64 (n : Int)), recovered := false }]) w fun e u' w' =>
      e = .returned (.tuple #[]) ∧ u' = .panicking [{ v := .iface 32 (.int .i64 (n : Int)), recovered := true }] ∧ LB w' g zeroL nilS nilS ∧ w'.cell? ⟨q, 0, none⟩ = some (.int .i64 (n : Int)) ∧ Below g w w' := by
  have h1 := run_thrown n
  have h2 := run_some_thrown n
  have h3 := run_build0
  have L2 : LB w.drew g l u v := Blk.below hl (Below.refl _ _).drew hl.lt
  have X2 : Blk (w.drew.setRow g (ltA zeroL nilS nilS)) q #[x] 32 := Blk.setRow_other (Blk.below hx (Below.refl _ _).drew hx.lt) g _ (by omega)
  have B2 : Below g w (w.drew.setRow g (ltA zeroL nilS nilS)) := bel_setRow (Below.refl g w).drew (Nat.le_refl _) _
  have c2 := X2.cell 0
  have f2 := X2.free 0
  refine callsD_of_wpS Try.func39 rfl fun c₀ cs hu => ?_
  apply wpS_seq
  apply wpS_region
  simp [wpOpsS, go_sem, recoverD, hu, Try.ntmps39, Exit.thenS]
  apply wpS_seq
  apply wpS_region
  simp [wpOpsS, go_sem, h2, Exit.thenS]
  refine wpS_cond (t := true) (by simp [Act.eval, Array.replicate]) ?_
  simp only [if_true]
  rw [show (#[Value.pointer (some ⟨g, 0, none⟩), Value.pointer (some ⟨q, 0, none⟩)] ++ ((((Array.replicate 7 undef).setIfInBounds 1 (Value.iface 32 (Value.int IntKind.i64 (n : Int)))).setIfInBounds 0 (Value.iface 32 (Value.int IntKind.i64 (n : Int)))).setIfInBounds 2 (Value.iface 32 (Value.int IntKind.i64 (n : Int)))).setIfInBounds 3 (Value.bool true) : Array Value) = #[Value.pointer (some ⟨g, 0, none⟩), Value.pointer (some ⟨q, 0, none⟩), (Value.iface 32 (Value.int IntKind.i64 (n : Int))), (Value.iface 32 (Value.int IntKind.i64 (n : Int))), (Value.iface 32 (Value.int IntKind.i64 (n : Int))), Value.bool true, undef, undef, undef] from rfl]
  refine wpS_of_wp ?_
  refine wp_region_any (by kernel_rfl) ?_
  change wpAny _ _ _ _ _ _ _ (World.drew _)
  refine wpAny_take (i := 0) (v := .agg (ltA zeroL nilS nilS)) rfl (by kernel_rfl) (by kernel_rfl) (by kernel_rfl) (fun _ _ _ h => h) (Or.inl ⟨by rfl, ?_⟩) ?_
  · intro w9
    go_simp
    (try with_reducible rfl)
    (try exact zeroLt)
  (try simp only [Act.put]); (try simp only [List.setIfInBounds_toArray]); (try simp only [List.set_cons_succ]); (try simp only [List.set_cons_zero])
  (try dsimp only [List.getElem_toArray, List.getElem_cons_succ, List.getElem_cons_zero])
  (try simp only [Act.put]); (try simp only [List.setIfInBounds_toArray]); (try simp only [List.set_cons_succ]); (try simp only [List.set_cons_zero])
  refine wpAny_take (i := 1) (v := (Value.iface 32 (Value.int IntKind.i64 (n : Int)))) rfl (by kernel_rfl) (by kernel_rfl) (by kernel_rfl) (fun _ _ _ h => h) (Or.inl ⟨by rfl, ?_⟩) ?_
  · intro w9
    go_simp
    (try with_reducible rfl)
    (try exact zeroLt)
  (try simp only [Act.put]); (try simp only [List.setIfInBounds_toArray]); (try simp only [List.set_cons_succ]); (try simp only [List.set_cons_zero])
  (try dsimp only [List.getElem_toArray, List.getElem_cons_succ, List.getElem_cons_zero])
  (try simp only [Act.put]); (try simp only [List.setIfInBounds_toArray]); (try simp only [List.set_cons_succ]); (try simp only [List.set_cons_zero])
  refine wpAny_take (i := 2) (v := .int .i64 (n : Int)) rfl (by kernel_rfl) (by kernel_rfl) (by kernel_rfl) (fun _ _ _ h => h) (Or.inl ⟨by rfl, ?_⟩) ?_
  · intro w9
    go_simp
    (try with_reducible rfl)
    (try exact zeroLt)
  (try simp only [Act.put]); (try simp only [List.setIfInBounds_toArray]); (try simp only [List.set_cons_succ]); (try simp only [List.set_cons_zero])
  (try dsimp only [List.getElem_toArray, List.getElem_cons_succ, List.getElem_cons_zero])
  (try simp only [Act.put]); (try simp only [List.setIfInBounds_toArray]); (try simp only [List.set_cons_succ]); (try simp only [List.set_cons_zero])
  refine any_tail 3 (by kernel_rfl) (by kernel_rfl) (by kernel_rfl) (fun _ _ _ _ _ h => h) ?_
  simp only [List.drop_succ_cons, List.drop_zero]
  go_wp2_with (first
    | ((with_reducible show wpList _ _ _ (Oper.mk _ (Op.store _ _ _) _ _ _ _ :: _) _ _); refine p_putL rfl _ _ rfl g rfl rfl rfl rfl L2 ?_))
  simp [bodyPostS, results, Try.results39]
  exact ⟨Blk.other (L2.setL zeroL nilS nilS) q 0 _ (by omega), (X2.put 0 (.int .i64 (n : Int))).cell 0, B2.setCell (p := ⟨q, 0, none⟩) (by simp; omega) _⟩
theorem catch_idle (p q : Addr) (w : World) :
    CallsD Try.prog 39 #[.pointer (some p), .pointer (some q)] .returning w fun e u' w' => e = .returned (.tuple #[]) ∧ u' = .returning ∧ w' = w := by
  have h2 := run_none_thrown
  refine callsD_of_wpS Try.func39 rfl fun c₀ cs hu => ?_
  apply wpS_seq
  apply wpS_region
  simp [wpOpsS, go_sem, recoverD, hu, Try.ntmps39, Exit.thenS]
  apply wpS_seq
  apply wpS_region
  simp [wpOpsS, go_sem, h2, Exit.thenS]
  refine wpS_cond (t := false) (by simp [Act.eval, Array.replicate]) ?_
  simp only [Bool.false_eq_true, if_false]
  refine wpS_of_wp (wp_skip ?_)
  cases c₀
  simp_all [bodyPostS, results, Try.results39]

theorem load_err (w : World) (g : Nat) (n : Int) (hc : w.cell? ⟨g, 0, none⟩ = some (.int .i64 n)) : (loadVar 32 ⟨g, 0, none⟩).run Try.prog w = .ok (.int .i64 n) w := by
  simp [go_sem, hc]
theorem results_Lc {fn : Func} {p q : Tmp} (h : fn.results = #[.cell p 30, .cell q 32]) (tmps : Array Value) (w : World) (g g2 : Nat) {l : Lt} {u v : Value} (n : Int)
    (hp : tmps.getD p undef = .pointer (some ⟨g, 0, none⟩)) (hq : tmps.getD q undef = .pointer (some ⟨g2, 0, none⟩)) (hg : LB w g l u v) (hc : w.cell? ⟨g2, 0, none⟩ = some (.int .i64 n)) :
    (results fn tmps).run Try.prog w = .ok (.tuple #[.agg (ltA l u v), .int .i64 n]) w := by
  have hp' : tmps[p]?.getD undef = .pointer (some ⟨g, 0, none⟩) := by simpa using hp
  have hq' : tmps[q]?.getD undef = .pointer (some ⟨g2, 0, none⟩) := by simpa using hq
  have h2 := load_err w g2 n hc
  simp [results, h, hp', hq', asAddr, run_loadVar_row w g 30 30 (ltA l u v) (0, 0) _ hg Try.underlying30 rfl (by rw [ltA_size]; exact sizeLt), h2]
/-- what Get ends with -/
structure GotN (w : World) (X : Except Nat Lt) (e : Ending) (w' : World) : Prop where
  ok : ∀ l, X = .ok l → ∃ u v, e = .returned (.tuple #[.agg (ltA l u v), .int .i64 0]) ∧ LtM w' l u v
  no : ∀ n, X = .error n → e = .returned (.tuple #[.agg (ltA zeroL nilS nilS), .int .i64 (n : Int)])
  below : Below w.heap.size w w'
theorem gotn_no {w w' : World} {X : Except Nat Lt} {n : Nat} (hX : X = .error n) (hb : Below w.heap.size w w') : GotN w X (.returned (.tuple #[.agg (ltA zeroL nilS nilS), .int .i64 (n : Int)])) w' :=
  ⟨fun a hx => (by rw [hX] at hx; cases hx), fun m hm => (by rw [hX] at hm; cases hm; rfl), hb⟩
theorem gotn_ok {w w' : World} {X : Except Nat Lt} {l : Lt} {u v : Value} (hX : X = .ok l) (hm : LtM w' l u v) (hb : Below w.heap.size w w') : GotN w X (.returned (.tuple #[.agg (ltA l u v), .int .i64 0])) w' :=
  ⟨fun a hx => (by rw [hX] at hx; cases hx; exact ⟨u, v, rfl, hm⟩), fun m hm => (by rw [hX] at hm; cases hm), hb⟩
theorem keep_bel {B g : Nat} {w0 w w' : World} (h : Below B w0 w) (k : Keep w w' g g) (hB : B ≤ w.heap.size) (hg : B ≤ g) : Below B w0 w' := Keep.below h k hB hg hg
set_option maxHeartbeats 4000000 in
theorem Get_any (s : ByteArray) (w : World) (hs : s.size ≤ 1000000) : Calls Try.prog 14 #[.string s] w (GotN w (getN (bytesN s))) := by
  have hmf : ∀ (fn : Fn) (first cap : Array Value) (w : World), (Instr.makeFunc fn first cap).run Try.prog w = .ok (.func fn first cap) w := fun _ _ _ _ => rfl
  have hlen : (bytesN s).length = s.size := bytesN_length s
  have Z0 : LB ((w.alloc (.cells (ltA zeroL nilS nilS) 30)).alloc (.cells #[.int .i64 0] 32)) w.heap.size zeroL nilS nilS := Blk.alloc (LB.new w zeroL nilS nilS) _
  have A0 := Blk.new (w.alloc (.cells (ltA zeroL nilS nilS) 30)) #[.int .i64 0] 32
  have B0 := ((Below.refl w.heap.size w).alloc (Nat.le_refl _) (.cells (ltA zeroL nilS nilS) 30)).alloc (by simp) (.cells #[.int .i64 0] 32)
  simp only [World.size_alloc] at A0
  have HNW := Lib.hid (fun w => new_any s w)
  have HG := Lib.hid (fun (W : World) (g h c : Nat) (k : Rd W g h c s 0) => get_any k hs)
  have HL := Lib.hid (fun (W : World) (g h c p : Nat) (k : Rd W g h c s p) => left_any k hs)
  cases hX : getS (bytesN s) with
  | error n =>
    have HX : Hid (getN (bytesN s) = .error n) := by unfold Hid getN; rw [hX]
    have HG2 := Lib.hid (fun (W : World) (g h c : Nat) (k : Rd W g h c s 0) => (HG.out W g h c k).mono fun _ _ k => (show _ ∧ _ from ⟨k.no n hX, k.keep⟩))
    clear HG hX HL hlen
    generalize getN (bytesN s) = X at *
    generalize hgw : w.heap.size = g at *
    go_enter_defers Try.func14, Try.ntmps14
    go_upto_region 1 with (fail)
    rw [zeroLt]
    (try rw [hgw])
    have hw2 : g + 1 < ((w.alloc (.cells (ltA zeroL nilS nilS) 30)).alloc (.cells #[.int .i64 0] 32)).heap.size := by simp; omega
    generalize (w.alloc _).alloc _ = W at *
    go_upto_region 3 with (go_at_call 40; (with_reducible refine (HNW.out _).mono ?_); rintro e w1 ⟨c, rfl, hr, hb1⟩; have HR := Lib.hid hr; have HB1 := Lib.hid hb1; clear hr hb1)
    have HC := Lib.hid (HG2.out _ _ _ _ HR.out)
    have hlt := HR.out.lt
    go_wp2_with (go_at_call 41; (with_reducible refine HC.out.mono ?_); rintro e w2 ⟨he, hk2⟩; rw [pan_eq] at he; subst he)
    rename_i w2
    have Z2 : LB w2 g zeroL nilS nilS := (Z0.bel HB1.out).keep hk2 (by omega)
    have A2 : Blk w2 (g + 1) #[.int .i64 0] 32 := Blk.keep (A0.below HB1.out A0.lt) hk2 (by omega) (by omega)
    have B2 : Below g w w2 := keep_bel (B0.trans (HB1.out.mono (by omega))) hk2 (by have := HB1.out.size; omega) (by omega)
    refine leaves_cons (f := 39) (args := #[.pointer (some ⟨g, 0, none⟩), .pointer (some ⟨g + 1, 0, none⟩)]) (by simp) (by simp [go_sem]) ?_
    refine (catch_thrown g (g + 1) n _ Z2 A2 (by omega)).mono ?_
    rintro e u' w'' ⟨rfl, rfl, Z3, c3, b3⟩
    subst hgw
    exact ⟨_, results_Lc Try.results14 _ _ w.heap.size (w.heap.size + 1) _ rfl rfl Z3 c3, gotn_no HX.out (B2.trans b3)⟩
  | ok r =>
    obtain ⟨l, p⟩ := r
    have HG2 := Lib.hid (fun (W : World) (g h c : Nat) (k : Rd W g h c s 0) => (HG.out W g h c k).mono fun _ _ k => (show (∃ _ _, _ ∧ _ ∧ _) ∧ _ from ⟨k.ok l p hX, k.keep⟩))
    by_cases hp : p < s.size
    · have HX : Hid (getN (bytesN s) = .error 3) := by unfold Hid getN; rw [hX]; simp only [if_pos (show p < (bytesN s).length by omega)]
      have hd : decide ((0 : Int) < ((s.size - p : Nat) : Int)) = true := decide_eq_true (by omega)
      have hd2 : decide (0 < s.size - p) = true := decide_eq_true (by omega)
      clear HG hX hlen
      generalize getN (bytesN s) = X at *
      generalize hgw : w.heap.size = g at *
      go_enter_defers Try.func14, Try.ntmps14
      go_upto_region 1 with (fail)
      rw [zeroLt]
      (try rw [hgw])
      have hw2 : g + 1 < ((w.alloc (.cells (ltA zeroL nilS nilS) 30)).alloc (.cells #[.int .i64 0] 32)).heap.size := by simp; omega
      generalize (w.alloc _).alloc _ = W at *
      go_upto_region 3 with (go_at_call 40; (with_reducible refine (HNW.out _).mono ?_); rintro e w1 ⟨c, rfl, hr, hb1⟩; have HR := Lib.hid hr; have HB1 := Lib.hid hb1; clear hr hb1)
      have HC := Lib.hid (HG2.out _ _ _ _ HR.out)
      have hlt := HR.out.lt
      have hsz := HB1.out.size
      go_wp2_with (first
        | (go_at_call 41; (with_reducible refine HC.out.mono ?_); rintro e w2 ⟨⟨u, v, rfl, ho2, hr2⟩, hk2⟩; have Z2 := (Z0.bel HB1.out).keep hk2 (by omega); have A2 := Blk.keep (A0.below HB1.out A0.lt) hk2 (by omega) (by omega); have B2 := Lib.hid (keep_bel (B0.trans (HB1.out.mono (by omega))) hk2 (by omega) (by omega)); have ou := own_one ho2.a; have ov := own_one ho2.p; have HR2 := Lib.hid hr2; have HK2 := Lib.hid hk2; have HO2 := Lib.hid ho2; clear hr2 hk2 ho2)
        | ((with_reducible show wpList _ _ _ (Oper.mk _ (Op.store _ _ _) _ _ _ _ :: _) _ _); refine p_putL rfl _ _ rfl g rfl rfl ou ov Z2 ?_; have Z3 := Z2.setL l u v; have A3 := Blk.setRow_other A2 g (ltA l u v) (by omega); have B3 := Lib.hid (bel_setRow B2.out (Nat.le_refl _) (ltA l u v)); have HO3 := Lib.hid (HO2.out.row (j := g) (by omega) (ltA l u v)); have hs3 : g + 1 < (w2.setRow g (ltA l u v)).heap.size := A3.lt; have HR3 := Lib.hid (HR2.out.row g (ltA l u v) (by omega) (by omega)))
        | (go_at_call 43; (with_reducible refine (HL.out _ _ _ _ _ HR3.out).mono ?_); rintro e w4 ⟨rfl, k4⟩; have Z4 := Z3.bel k4; have A4 := A3.below k4 A3.lt; have B4 := Lib.hid (B3.out.trans (k4.mono (by omega))); have HO4 := Lib.hid (HO3.out.bel k4); clear k4)
        | (go_at_call 42; (with_reducible refine (refuse_3 _).mono ?_); rintro e w5 ⟨he, rfl⟩; rw [pan_eq] at he; subst he))
      refine leaves_cons (f := 39) (args := #[.pointer (some ⟨g, 0, none⟩), .pointer (some ⟨g + 1, 0, none⟩)]) (by simp) (by simp [go_sem]) ?_
      refine (catch_thrown g (g + 1) 3 _ Z4 A4 (by omega)).mono ?_
      rintro e u' w'' ⟨rfl, rfl, Z5, c5, b5⟩
      subst hgw
      exact ⟨_, results_Lc Try.results14 _ _ w.heap.size (w.heap.size + 1) _ rfl rfl Z5 c5, gotn_no HX.out (B4.out.trans b5)⟩
    · have HX : Hid (getN (bytesN s) = .ok l) := by unfold Hid getN; rw [hX]; simp only [if_neg (show ¬ p < (bytesN s).length by omega)]
      have hd2 : decide (0 < s.size - p) = false := decide_eq_false (by omega)
      have hd : decide ((0 : Int) < ((s.size - p : Nat) : Int)) = false := decide_eq_false (by omega)
      clear HG hX hlen
      generalize getN (bytesN s) = X at *
      generalize hgw : w.heap.size = g at *
      go_enter_defers Try.func14, Try.ntmps14
      go_upto_region 1 with (fail)
      rw [zeroLt]
      (try rw [hgw])
      have hw2 : g + 1 < ((w.alloc (.cells (ltA zeroL nilS nilS) 30)).alloc (.cells #[.int .i64 0] 32)).heap.size := by simp; omega
      generalize (w.alloc _).alloc _ = W at *
      go_upto_region 3 with (go_at_call 40; (with_reducible refine (HNW.out _).mono ?_); rintro e w1 ⟨c, rfl, hr, hb1⟩; have HR := Lib.hid hr; have HB1 := Lib.hid hb1; clear hr hb1)
      have HC := Lib.hid (HG2.out _ _ _ _ HR.out)
      have hlt := HR.out.lt
      have hsz := HB1.out.size
      go_wp2_with (first
        | (go_at_call 41; (with_reducible refine HC.out.mono ?_); rintro e w2 ⟨⟨u, v, rfl, ho2, hr2⟩, hk2⟩; have Z2 := (Z0.bel HB1.out).keep hk2 (by omega); have A2 := Blk.keep (A0.below HB1.out A0.lt) hk2 (by omega) (by omega); have B2 := Lib.hid (keep_bel (B0.trans (HB1.out.mono (by omega))) hk2 (by omega) (by omega)); have ou := own_one ho2.a; have ov := own_one ho2.p; have HR2 := Lib.hid hr2; have HK2 := Lib.hid hk2; have HO2 := Lib.hid ho2; clear hr2 hk2 ho2)
        | ((with_reducible show wpList _ _ _ (Oper.mk _ (Op.store _ _ _) _ _ _ _ :: _) _ _); refine p_putL rfl _ _ rfl g rfl rfl ou ov Z2 ?_; have Z3 := Z2.setL l u v; have A3 := Blk.setRow_other A2 g (ltA l u v) (by omega); have B3 := Lib.hid (bel_setRow B2.out (Nat.le_refl _) (ltA l u v)); have HO3 := Lib.hid (HO2.out.row (j := g) (by omega) (ltA l u v)); have hs3 : g + 1 < (w2.setRow g (ltA l u v)).heap.size := A3.lt; have HR3 := Lib.hid (HR2.out.row g (ltA l u v) (by omega) (by omega)))
        | (go_at_call 43; (with_reducible refine (HL.out _ _ _ _ _ HR3.out).mono ?_); rintro e w4 ⟨rfl, k4⟩; have Z4 := Z3.bel k4; have A4 := A3.below k4 A3.lt; have B4 := Lib.hid (B3.out.trans (k4.mono (by omega))); have HO4 := Lib.hid (HO3.out.bel k4); clear k4)
        | (go_at_call 42; (with_reducible refine (pass_3 _).mono ?_); rintro e w5 ⟨rfl, rfl⟩)
        | (refine p_midL rfl _ rfl g rfl Z4 ?_)
        | ((with_reducible show wpList _ _ _ (Oper.mk _ (Op.store _ _ _) _ _ _ _ :: _) _ _); refine p_putL rfl _ _ rfl g rfl rfl ou ov Z4 ?_; have Z5 := Z4.setL l u v; have A5 := Blk.setRow_other A4 g (ltA l u v) (by omega); have c5 := A5.cell 0; have f5 := A5.free 0; have B5 := Lib.hid (bel_setRow B4.out (Nat.le_refl _) (ltA l u v)); have HO5 := Lib.hid (HO4.out.row (j := g) (by omega) (ltA l u v))))
      have Z6 := Blk.other Z5 (g + 1) 0 (.int .i64 0) (by omega)
      have c6 := (A5.put 0 (.int .i64 0)).cell 0
      have B6 := B5.out.setCell (p := ⟨g + 1, 0, none⟩) (by simp) (.int .i64 0)
      have M6 := (HO5.out.cell (j := g + 1) (i := 0) (x := .int .i64 0) (by omega)).ltM
      refine leaves_cons (f := 39) (args := #[.pointer (some ⟨g, 0, none⟩), .pointer (some ⟨g + 1, 0, none⟩)]) (by simp) (by simp [go_sem]) ?_
      refine (catch_idle ⟨g, 0, none⟩ ⟨g + 1, 0, none⟩ _).mono ?_
      rintro e u' w'' ⟨rfl, rfl, rfl⟩
      subst hgw
      exact ⟨_, results_Lc Try.results14 _ _ w.heap.size (w.heap.size + 1) _ rfl rfl Z6 c6, gotn_ok HX.out M6 B6⟩
end Go.Proofs.Ytplcdjmidelboaa
