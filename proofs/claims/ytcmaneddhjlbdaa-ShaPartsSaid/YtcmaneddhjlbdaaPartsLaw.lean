/- ShaParts: for every text the call returns true: a sum is what the steps of the blocks make of the beginning, one behind the other. No condition. -/
import Derived.Test.YtcmaneddhjlbdaaShaSumRef
import Derived.Test.YtcmaneddhjlbdaaShaKnown
import Derived.Test.YtcmaneddhjlbdaaOwn
namespace Go.Proofs.Ytcmaneddhjlbdaa.PartsLaw
open Go.ChangeShapes Go.WideShapes Go.ChangeAt Go.RowKit Go.Sort
open Go.ChangeMaps (open_string shut_string)

/-- a whole array is loaded, in every world in which nothing that was there has changed -/
theorem q_row {P : Program} {W : World} {o : Oper} {a : Act} {K : Act → Prop} (ty : TypeId) (x : Operand) (ho : o.op = .load ty x) (g : Nat) (hx : a.eval x = .pointer (some ⟨g, 0, none⟩)) (cs : Array Value) (t : TypeId) (d : TypeDesc)
    (hg : Blk W g cs t) (hu : P.underlying ty = some d) (hd : (match d with | .struct _ | .array _ _ => true | _ => false) = true) (hi : (P.info? ty).map (·.size) = some cs.size) (hk : K (a.put o.dst (.agg cs))) : o.quiet P a (fun w' => ∃ p : Regrown, w' = grow (redrawn W p.d) p.os) K := by
  refine ⟨.agg cs, ?_, hk⟩
  rintro w' ⟨p, rfl⟩
  have hg' : Blk (grow (redrawn W p.d) p.os) g cs t := hg.below (below_regrown W p.d p.os) hg.lt
  unfold Oper.quietAt execOp
  simp only [ho, hx, Instr.loadAt, Instr.sureAddr, Sem.run_bind, run_loadVar_row _ g t ty cs (0, 0) d hg' hu hd hi, Sem.run_pure, Result.andThen_ok]
  exact ⟨rfl, rfl⟩

/-- the memory of the statement -/
structure MemU (w wr : World) (g : Nat) (h : S5) : Prop where
  below : Below w.heap.size w wr
  h : Blk wr g (row32 h.list) 24
  hg : w.heap.size ≤ g
theorem MemU.drew {w wr : World} {g : Nat} {h : S5} (k : MemU w wr g h) : MemU w wr.drew g h := ⟨k.below.drew, k.h, k.hg⟩
theorem MemU.grown {w wr w' : World} {g : Nat} {h : S5} (k : MemU w wr g h) (hb : Below wr.heap.size wr w') : MemU w w' g h :=
  ⟨k.below.trans (hb.mono k.below.size), k.h.below hb k.h.lt, k.hg⟩
theorem MemU.row {w wr : World} {g : Nat} {h : S5} (k : MemU w wr g h) (h' : S5) : MemU w (wr.setRow g (row32 h'.list)) g h' :=
  ⟨bel_setRow k.below k.hg _, k.h.setRow _, k.hg⟩
theorem MemU.alloc {w wr : World} {g : Nat} {h : S5} (k : MemU w wr g h) (o : Obj) : MemU w (wr.alloc o) g h := ⟨k.below.alloc k.below.size _, k.h.alloc _, k.hg⟩
theorem MemU.other {w wr : World} {g : Nat} {h : S5} (k : MemU w wr g h) (q i : Nat) (v : Value) (hq : g < q) : MemU w (wr.setCell ⟨q, i, none⟩ v) g h :=
  ⟨k.below.setCell (p := ⟨q, i, none⟩) (by have := k.hg; simp; omega) _, k.h.other _ _ _ (by omega), k.hg⟩

theorem long (s : ByteArray) (w : World) (h : 1000 < s.size) (hs : s.size ≤ 9223372036854775807) : Calls Try.prog 5 #[.string s] w fun e w' => e = .returned (.bool true) ∧ Below w.heap.size w w' := by
  go_enter Try.func5, Try.ntmps5
  go_wp2
  go_ret
  exact ⟨rfl, Below.refl _ _⟩

set_option maxRecDepth 100000 in
set_option maxHeartbeats 3000000 in
theorem short (s : ByteArray) (w : World) (h : s.size ≤ 1000) : Calls Try.prog 5 #[.string s] w fun e w' => e = .returned (.bool true) ∧ Below w.heap.size w w' := by
  have HKN := Lib.hid known_all
  have hp := padB_size s
  have hge := padLen_ge s.size
  have hle := padLen_le s.size
  have hmd := padLen_mod s.size
  have HSN : Hid (sumN s = placeN (stN (padB s) (padLen s.size / 64))) := rfl
  have HPD := Lib.hid (fun w => pad_short s w (by omega))
  have HSM := Lib.hid (fun w => sum_short s w (by omega))
  have hm0 : ((padLen s.size : Int) % 64 != 0) = false := by rw [bne_eq_false_iff_eq]; omega
  generalize padB s = p at *
  go_enter Try.func5, Try.ntmps5
  go_upto_region 4 with (go_at_call 8; with_reducible refine (HPD.out _).mono ?_; rintro e w1 ⟨rfl, B1⟩)
  go_upto_region 5 with (first | (go_at_call 18; refine (start_any _).mono ?_; rintro e w2 ⟨rfl, hb⟩) | (refine wpList_store_newrow rfl 24 _ _ rfl (row32 startS.list) rfl rfl infoSt (row32_one _) rfl ?_))
  have K0 : MemU w (w2.alloc (.cells (row32 startS.list) 24)) w2.heap.size startS :=
    ⟨(B1.trans (hb.mono B1.size)).alloc (Nat.le_trans B1.size hb.size) _, Blk.new _ _ _, Nat.le_trans B1.size hb.size⟩
  have HK := Lib.hid K0
  clear K0 hb B1 w1
  generalize w2.alloc _ = W at *
  generalize w2.heap.size = g at *
  go_wp2
  clear hm0
  go_loopw [6] (fun i wr => ∃ k : Nat, k ≤ padLen s.size / 64 ∧ i = .int .i64 ((64 * k : Nat) : Int) ∧ MemU w wr g (stN p k)) (fun i _ => padLen s.size - (intOf i).toNat)
  case atStart => exact ⟨0, by omega, rfl, HK.out⟩
  case round =>
    clear HK
    obtain ⟨k, hk, rfl, K⟩ := hrel
    have HK := Lib.hid K
    clear K
    by_cases hlt : k < padLen s.size / 64
    · go_wp2
      have hok := stN_ok p k
      have HT : Hid (stN p (k + 1) = stepS (stN p k) (blkB p k)) := rfl
      have hbs : (blkB p k).size = 64 := blkB_size p k (by omega)
      have HB : Hid (blkB p k = p.extract (64 * k) (64 * k + 64)) := rfl
      have c0 : wr.cell? ⟨g, 0, none⟩ = some (.int .u32 ((stN p k).a : Nat)) := HK.out.h.cell 0
      have c1 : wr.cell? ⟨g, 1, none⟩ = some (.int .u32 ((stN p k).b : Nat)) := HK.out.h.cell 1
      have c2 : wr.cell? ⟨g, 2, none⟩ = some (.int .u32 ((stN p k).c : Nat)) := HK.out.h.cell 2
      have c3 : wr.cell? ⟨g, 3, none⟩ = some (.int .u32 ((stN p k).d : Nat)) := HK.out.h.cell 3
      have c4 : wr.cell? ⟨g, 4, none⟩ = some (.int .u32 ((stN p k).e : Nat)) := HK.out.h.cell 4
      have lg := HK.out.h.lt
      have hne : g ≠ wr.heap.size := by omega
      have HC : Hid (∀ W, Calls Try.prog 12 #[.agg #[.int .u32 ((stN p k).a : Nat), .int .u32 ((stN p k).b : Nat), .int .u32 ((stN p k).c : Nat), .int .u32 ((stN p k).d : Nat), .int .u32 ((stN p k).e : Nat)], .string (p.extract (64 * k) (64 * k + 64))] W fun e w' => e = .returned (.tuple #[stv (stepS (stN p k) (blkB p k)), .int .i64 0]) ∧ Below W.heap.size W w') := fun W => step_yes (stN p k) hok (blkB p k) W hbs
      clear hok hbs
      generalize stN p k = r at *
      rw [box_st] at HC
      generalize hR : stepS r (blkB p k) = R at *
      clear hR
      have HCa := Lib.hid ((HC.out (wr.alloc (.cells #[.int .u32 0, .int .u32 0, .int .u32 0, .int .u32 0, .int .u32 0] 24)).drew).mono fun e w' ⟨h1, h2⟩ => (⟨h1, h2, new5 h2⟩ : _ ∧ _ ∧ New5 w' wr.heap.size))
      have HCb := Lib.hid (HC.out wr.drew)
      clear HC
      have g1 : IntKind.i64.wrap (64 * (k : Int) + 64) = 64 * (k : Int) + 64 := IntWalk.i64_in _ (by omega)
      have hcut := run_cut (P := Try.prog) Try.underlying9 p (64 * (k : Int)) (64 * (k : Int) + 64) (64 * k) (64 * k + 64) (by omega) (by omega) (by omega) (by omega)
      go_region_held3 (fun w' => w'.cell? ⟨g, 0, none⟩ = some (.int .u32 (r.a : Nat)) ∧ w'.cell? ⟨g, 1, none⟩ = some (.int .u32 (r.b : Nat)) ∧ w'.cell? ⟨g, 2, none⟩ = some (.int .u32 (r.c : Nat)) ∧ w'.cell? ⟨g, 3, none⟩ = some (.int .u32 (r.d : Nat)) ∧ w'.cell? ⟨g, 4, none⟩ = some (.int .u32 (r.e : Nat)))
        (((try dsimp only); (repeat' apply And.intro) <;> (repeat (first | with_reducible exact c0 | with_reducible exact c1 | with_reducible exact c2 | with_reducible exact c3 | with_reducible exact c4 | with_reducible refine keep_drew ?_ | with_reducible refine keep_alloc ?_ | with_reducible refine keep_set hne ?_ | with_reducible refine keep_below hb3 ?_))))
        (first | (go_at_call 12; (with_reducible refine HCa.out.mono ?_); rintro e w3 ⟨rfl, hb3, n0, n1, n2, n3, n4, m0, m1, m2, m3, m4⟩) | (go_at_call 12; (with_reducible refine HCb.out.mono ?_); rintro e w3 ⟨rfl, hb3⟩))
      · have K1 := (HK.out.drew.grown hb3).alloc (.cells (row32 R.list) 24)
        have Q1 := Blk.new w3 (row32 R.list) 24
        rw [show row32 R.list = #[.int .u32 (R.a : Nat), .int .u32 (R.b : Nat), .int .u32 (R.c : Nat), .int .u32 (R.d : Nat), .int .u32 (R.e : Nat)] from rfl] at K1
        have HQ1 := Lib.hid Q1
        rw [show row32 R.list = #[.int .u32 (R.a : Nat), .int .u32 (R.b : Nat), .int .u32 (R.c : Nat), .int .u32 (R.d : Nat), .int .u32 (R.e : Nat)] from rfl] at HQ1
        clear Q1 hb3 hcut c0 c1 c2 c3 c4 g1 HCa HCb HK
        generalize w3.alloc _ = W4 at *
        rw [show #[.int .u32 (R.a : Nat), .int .u32 (R.b : Nat), .int .u32 (R.c : Nat), .int .u32 (R.d : Nat), .int .u32 (R.e : Nat)] = row32 R.list from rfl] at HQ1
        have HK1 := Lib.hid K1
        clear K1
        go_wp2_with (first | (refine wpList_load_row rfl 24 _ rfl _ rfl 24 _ (0, 0) _ HQ1.out Try.underlying24 rfl (infoRow _) ?_) | (refine wpList_store_row rfl 24 _ _ rfl g (row32 R.list) rfl rfl 24 _ HK1.out.h (infoRow _) (sizeRow _ _) (row32_one _) ?_))
        refine ⟨⟨k + 1, by omega, ?_, ?_⟩, ?_⟩
        · refine congrArg (Value.int .i64) ?_; omega
        · rw [HT.out]; exact HK1.out.row R
        · simp [intOf]; omega
      · have nb : Blk w3 wr.heap.size #[.int .u32 0, .int .u32 0, .int .u32 0, .int .u32 0, .int .u32 0] 24 := Blk.below (Blk.new wr _ _).drew hb3 (by simp)
        have K1 := ((((((HK.out.alloc _).drew.grown hb3).other wr.heap.size 0 (.int .u32 (R.a : Nat)) lg).other wr.heap.size 1 (.int .u32 (R.b : Nat)) lg).other wr.heap.size 2 (.int .u32 (R.c : Nat)) lg).other wr.heap.size 3 (.int .u32 (R.d : Nat)) lg).other wr.heap.size 4 (.int .u32 (R.e : Nat)) lg
        have HQ1 : Hid (Blk _ wr.heap.size (row32 R.list) 24) := ((((nb.put 0 (.int .u32 (R.a : Nat))).put 1 (.int .u32 (R.b : Nat))).put 2 (.int .u32 (R.c : Nat))).put 3 (.int .u32 (R.d : Nat))).put 4 (.int .u32 (R.e : Nat))
        clear nb hb3 n0 n1 n2 n3 n4 m0 m1 m2 m3 m4 hcut c0 c1 c2 c3 c4 g1 HCa HCb HK
        generalize World.setCell _ _ _ = W4 at *
        have HK1 := Lib.hid K1
        clear K1
        go_wp2_with (first | (refine wpList_load_row rfl 24 _ rfl _ rfl 24 _ (0, 0) _ HQ1.out Try.underlying24 rfl (infoRow _) ?_) | (refine wpList_store_row rfl 24 _ _ rfl g (row32 R.list) rfl rfl 24 _ HK1.out.h (infoRow _) (sizeRow _ _) (row32_one _) ?_))
        refine ⟨⟨k + 1, by omega, ?_, ?_⟩, ?_⟩
        · refine congrArg (Value.int .i64) ?_; omega
        · rw [HT.out]; exact HK1.out.row R
        · simp [intOf]; omega
    · obtain rfl : k = padLen s.size / 64 := by omega
      have HP : Hid (∀ w, Calls Try.prog 20 #[.agg (row32 (stN p (padLen s.size / 64)).list)] w fun e w' => e = .returned (idv (sumN s)) ∧ Below w.heap.size w w') := by
        unfold Hid; rw [HSN.out]; exact bytes_any _ (stN_ok p _)
      clear HSN HPD
      generalize stN p (padLen s.size / 64) = r at *
      generalize sumN s = N at *
      go_upto_region 15 with (first | (go_at_call 14; with_reducible refine (HSM.out _).mono ?_; rintro e w3 ⟨rfl, hb⟩) | (refine wpList_store_new rfl rfl _ _ rfl _ rfl rfl ?_))
      have K3 := (HK.out.grown hb).alloc (.cells (row (dig 20 N)) 34)
      have A1 := At.new w3 N
      clear hb HK HSM
      generalize w3.heap.size = g3 at *
      generalize w3.alloc _ = W3 at *
      have H1 := K3.h
      have HB := Lib.hid K3.below
      clear K3
      have C16 := Lib.hid (fun (d : Nat) (os : Array Obj) => Calls.regrown_of (HKN.out (grow (redrawn W3 d) os)))
      have C20 := Lib.hid (fun (d : Nat) (os : Array Obj) => Calls.regrown_of (HP.out (grow (redrawn W3 d) os)))
      clear HKN HP
      refine wp_region_quiet_below (by kernel_rfl) (by kernel_rfl) ?_
      repeat (first
        | go_big_quiet_skip
        | (go_big_quiet_want
           first
           | (first | (refine q_at _ rfl _ _ rfl A1 ?_) | (refine q_row 24 _ rfl g rfl (row32 r.list) 24 _ H1 Try.underlying24 rfl (infoRow _) ?_) | (refine q_eql _ _ rfl _ _ rfl rfl (eqB_self _) ?_)
              simp only [Act.put, List.setIfInBounds_toArray, List.set_cons_succ, List.set_cons_zero]
              go_big_quiet_on)
           | (go_big_quiet_op
              first | go_big_quiet_on | go_big_quiet_call (first | with_reducible exact C16.out _ _ | with_reducible exact C20.out _ _))))
      refine wpQuiet_nil ?_
      intro _ hw'
      obtain ⟨⟨dq, osq⟩, hw''⟩ := hw'
      subst hw''
      have B5 : Hid (Below w.heap.size w (grow (redrawn W3 dq) osq)) := HB.out.trans ((below_regrown W3 dq osq).mono HB.out.size)
      go_wp2
      go_ret
      exact ⟨rfl, B5.out⟩

theorem walk (s : ByteArray) (w : World) (hs : s.size ≤ 9223372036854775807) : Calls Try.prog 5 #[.string s] w fun e w' => e = .returned (.bool true) ∧ Below w.heap.size w w' := by
  rcases Nat.lt_or_ge 1000 s.size with h | h
  · exact long s w h hs
  · exact short s w h

set_option maxRecDepth 100000 in
theorem lifted (os : Os) (started : os.Started) (H : Type) (enc : TypeId × Value → H) :
    ReturnsInHanded {} Try.checked os 5 .any (Rows.shaPartsSpec.pre6 enc Try.prog Try.f5 Rows.shaPartsRow.domain false) (Rows.shaPartsSpec.post enc Try.prog Try.f5 false true false false) := by
  refine returnsInHanded_of_change (C := Try.checked) own started (by kernel_rfl) Try.func5
    (ChangeSpec.witness6 (enc := enc) (C := Try.checked) false ⟨#[], #[.string ⟨#[]⟩], []⟩ 8 (by kernel_rfl) (by kernel_rfl) (by kernel_rfl) (by kernel_rfl)) ?_
  intro W base args ds gs before hval0 hW hcnd _
  have hval : ∀ (j : Nat) t v, Try.f5.params[j]? = some t → args[j]? = some v → Value.okWide Try.prog W .any base t v := hval0
  have hW' := hW
  obtain ⟨p, q, hA0, hV, rfl, hfz, hnd⟩ := hW
  have hA : DataW.TrodAll enc Try.prog W 0 (fun _ => true) true Try.f5.params.toList args.toList ds p := hA0
  rw [Try.params5] at hA hval
  obtain ⟨v0, vs0, d0, ds0, p0, q0, hargs, rfl, rfl, h0, r0⟩ := trodAll_cons hA
  obtain ⟨rfl, rfl, rfl⟩ := trodAll_nil r0
  obtain rfl : args = #[v0] := by cases args; simp_all
  obtain ⟨rfl, rfl⟩ := trodVars_none hV
  have k0 := h0
  have lt0 : ∀ x ∈ p0, x.block < W.heap.size := by obtain ⟨m, hm⟩ := k0; exact DataW.trod_lt m _ _ _ hm
  obtain ⟨n0, rfl, _, _, ws0⟩ := open_string Try.underlying9 (hval 0 9 v0 rfl rfl) h0
  clear hA0 hval0
  refine (walk n0 W ws0).mono fun e W' ⟨he, bel⟩ => ?_
  subst he
  exact ⟨_, rfl, _, _, _, [], _, [], hW', trodAll_mk1 (shut_bool Try.underlying4 _), (trodAll_cons_mk (Below.trod laidOut (by kernel_rfl) (of_decide_eq_true (by kernel_rfl)) k0 bel lt0) trodAll_mk0), rfl, bel.frame _, fun h => by cases h⟩

theorem proved : Rows.ShaPartsSaid :=
  OpenClaim.holds_of_wide 5 Try.f5 rfl rfl rfl rfl rfl rfl rfl ⟨rfl, rfl, rfl, rfl, rfl⟩ rfl rfl rfl rfl rfl (by kernel_rfl) Try.func5 (by kernel_rfl)
    (of_decide_eq_true (by kernel_rfl)) (by unfold Func.isWrapper; first | (rw [if_pos (by decide +kernel)]; kernel_rfl) | (rw [if_neg (by decide +kernel)]; exact ⟨rfl, rfl⟩))
    (fun os started H enc _ => lifted os started H enc)
end Go.Proofs.Ytcmaneddhjlbdaa.PartsLaw
