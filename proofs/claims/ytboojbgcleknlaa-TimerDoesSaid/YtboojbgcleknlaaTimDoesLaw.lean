/- TimerDoes: for every script the call returns true: timers answer it just as a row does. No condition. -/
import Derived.Test.YtboojbgcleknlaaTimPair
import Derived.Deep.CutBlock
import Derived.Deep.CutRange
namespace Go.Proofs.Ytboojbgcleknlaa.TimDoesLaw
open Go Go.ChangeShapes Go.WideShapes Go.ChangeAt Go.RowKit Go.Sort
open Go.ChangeMaps (open_string shut_string)

/-- between two steps: both have one row, at one time -/
def Lk (B : Nat) (w0 w : World) (g r : Nat) : Prop := ∃ n K, Ph B w0 w g r n K n K
theorem Lk.bel {B : Nat} {w0 w w' : World} {g r : Nat} (h : Lk B w0 w g r) (hb : Below w.heap.size w w') : Lk B w0 w' g r := by
  obtain ⟨n, K, t⟩ := h
  exact ⟨n, K, t.bel hb⟩
theorem Lk.below {B : Nat} {w0 w : World} {g r : Nat} (h : Lk B w0 w g r) : Below B w0 w := by
  obtain ⟨n, K, t⟩ := h
  exact t.below
theorem Lk.le {B : Nat} {w0 w : World} {g r : Nat} (h : Lk B w0 w g r) : B ≤ w.heap.size := by
  obtain ⟨n, K, t⟩ := h
  exact t.le
theorem nextV_form (K : List Du) : ∃ i t b, nextV K = .tuple #[.int .i64 i, .int .i64 t, .bool b] := by
  cases K with
  | nil => exact ⟨0, 0, false, rfl⟩
  | cons d K => exact ⟨d.id, d.tm, true, rfl⟩
theorem outT_len (n t : Int) (K : List Du) : (outT n t K).length ≤ K.length := by
  unfold outT
  split
  · exact Nat.zero_le _
  · rw [List.length_map]; exact List.length_filter_le ..
/-- a step's box -/
def BoxC (w : World) (q : Nat) (s : Stp) : Prop := w.cell? ⟨q, 0, none⟩ = some (.int .i64 s.kind) ∧ w.cell? ⟨q, 1, none⟩ = some (.int .i64 s.id) ∧ w.cell? ⟨q, 2, none⟩ = some (.int .i64 s.tm)
theorem box_cells {w : World} {q : Nat} {s : Stp} (h : Blk w q (stpC s) 30) : BoxC w q s := ⟨h.cell 0, h.cell 1, h.cell 2⟩
theorem fr_box {w w' : World} {q : Nat} {s : Stp} (h : Fr w w') (hb : Blk w q (stpC s) 30) : Blk w' q (stpC s) 30 := h _ _ _ (by decide) (by decide) (by decide) (by decide) hb
theorem sizeS : (Try.prog.info? 30).map (·.size) = some 3 := by kernel_rfl
theorem p_midS {ops : Array Oper} {rest : List Oper} {o : Oper} {a : Act} {w : World} {Q : Exit → Act → World → Prop} (hgd : o.guard = none) (x : Operand) (ho : o.op = .load 30 x)
    (b i : Nat) (hx : a.eval x = .pointer (some ⟨b, i, none⟩)) (s : Stp) (hg : w.rangeAt b i (stpC s).toList)
    (h : wpList Try.prog ops Q rest (a.put o.dst (.agg #[.int .i64 s.kind, .int .i64 s.id, .int .i64 s.tm])) w) : wpList Try.prog ops Q (o :: rest) a w :=
  wpList_load_mid hgd 30 x ho b i hx (stpC s).toList _ hg Try.underlying30 rfl sizeS h
set_option maxRecDepth 100000 in
set_option maxHeartbeats 8000000 in
theorem main (l : List Stp) (v : Value) {w : World} (hS : Scr w v l) (h1 : l.length ≤ 200) : Calls Try.prog 3 #[v] w fun e w' => e = .returned (.bool true) ∧ Below w.heap.size w w' := by
  obtain ⟨va, vc, rfl⟩ := hS.form
  have HS := Lib.hid hS
  have H0 := Lib.hid (ht_new (Below.refl w.heap.size w) (Nat.le_refl _))
  obtain ⟨n, hn⟩ : ∃ n, n = l.length := ⟨_, rfl⟩
  rw [← hn] at h1 HS ⊢
  have hn1 : ¬ (200 : Int) < (n : Int) := by omega
  have HN := Lib.hid hn
  clear hS hn
  go_enter Try.func3, Try.ntmps3
  go_upto_region 4 with (go_at_call 7; (with_reducible refine H0.out.mono ?_); rintro e w1 ⟨rfl, k1, _⟩; have H1 : Hid (Lk w.heap.size w (w1.alloc (.cells #[.slice none 0 0, .int .i64 0] 28)) (w.heap.size + 1) w1.heap.size) := (⟨0, [], Ph.new k1⟩); clear k1)
  clear H0
  go_upto_region 5 with (fail)
  generalize w1.alloc (.cells #[.slice none 0 0, .int .i64 0] 28) = W1 at *
  generalize w1.heap.size = r at *
  generalize hg : w.heap.size + 1 = g at *
  have HG := Lib.hid hg
  clear hg
  go_wp2
  go_loopw [5] (fun i wr => ∃ k : Nat, k ≤ n ∧ i = .int .i64 k ∧ Lk w.heap.size w wr g r) (fun i _ => n - (intOf i).toNat)
  case atStart => exact ⟨0, by omega, rfl, H1.out⟩
  case round =>
    obtain ⟨k, hk, rfl, hL⟩ := hrel
    have HL := Lib.hid hL
    clear hL H1
    by_cases hlt : k < n
    · obtain ⟨s, hs⟩ : ∃ s, l[k]? = some s := ⟨_, List.getElem?_eq_getElem (by have := HN.out; omega)⟩
      obtain ⟨b, o, rfl, hr, hfit⟩ := HS.out.at HL.out.below hs
      have HR := Lib.hid hr
      have HF := Lib.hid hfit
      have BX := Lib.hid (Blk.new wr (stpC s) 30)
      have HL2 : Hid (Lk w.heap.size w (wr.alloc (.cells (stpC s) 30)) g r) := HL.out.bel ((Below.refl _ _).alloc (Nat.le_refl _) _)
      obtain ⟨kd, id, tm⟩ := s
      simp only [stpC] at BX HL2
      clear hs hr hfit HL
      go_upto_block 2 with (refine p_midS rfl _ rfl b (o + k * 3) rfl ⟨kd, id, tm⟩ HR.out ?_)
      generalize wr.alloc (.cells #[.int .i64 kd, .int .i64 id, .int .i64 tm] 30) = W at *
      generalize wr.heap.size = q at *
      clear HR
      have BXs : Hid (Blk W q (stpC ⟨kd, id, tm⟩) 30) := BX.out
      clear BX
      go_cut [] from 39 to 133 (fun wx => Lk w.heap.size w wx g r)
      case first =>
        obtain ⟨nw, K, t⟩ := HL2.out
        have T1 := Lib.hid t
        have hlen := t.len
        clear t HL2
        by_cases k0 : kd = 0
        · subst k0
          have BD := Lib.hid (BXs.out.drew)
          have HP := Lib.hid (ph_set (T1.out.bel (drew_bel W)) (k := id) HF.out tm)
          have HQ : Hid (∀ w', Ph w.heap.size w w' g r nw (rowS nw K id tm) nw K → _) := fun w' t' => ph_rset t'
          generalize hrow : rowS nw K id tm = K' at *
          clear hrow
          generalize codeS nw K id tm = er at *
          have zr : (er != er) = false := by simp
          obtain ⟨c0, c1, c2⟩ := box_cells BXs.out
          go_upto_region 11 with (fail)
          obtain ⟨d0, d1, d2⟩ := box_cells BD.out
          go_region_held3 (fun w' => w'.cell? ⟨q, 1, none⟩ = some (.int .i64 id) ∧ w'.cell? ⟨q, 2, none⟩ = some (.int .i64 tm))
            (first | exact ⟨c1, c2⟩ | exact ⟨d1, d2⟩ | exact ⟨x1, x2⟩ | exact ⟨y1, y2⟩)
            (first
            | (go_at_call 8; (with_reducible refine HP.out.mono ?_); rintro e w2 ⟨rfl, t2, f2⟩; have BE := fr_box f2 BD.out; obtain ⟨x0, x1, x2⟩ := box_cells BE; have HQ2 := Lib.hid (HQ.out _ t2); clear t2 f2)
            | (go_at_call 9; (with_reducible refine HQ2.out.mono ?_); rintro e w3 ⟨rfl, t3, f3⟩; obtain ⟨y0, y1, y2⟩ := box_cells (fr_box f3 BE); have T3 : Hid (Lk w.heap.size w w3 g r) := ⟨_, _, t3⟩; clear t3 f3))
          all_goals
            go_wp2
            go_meet
            exact T3.out
        · by_cases k1 : kd = 1
          · subst k1
            have BD := Lib.hid (BXs.out.drew)
            have HP := Lib.hid (ph_cancel (T1.out.bel (drew_bel W)) (k := id) HF.out)
            have HQ : Hid (∀ w', Ph w.heap.size w w' g r nw (delK id K) nw K → _) := fun w' t' => ph_rcancel t'
            generalize hrow : delK id K = K' at *
            clear hrow
            generalize hasK id K = er at *
            have zr : (er != er) = false := by simp
            obtain ⟨c0, c1, c2⟩ := box_cells BXs.out
            go_upto_region 14 with (fail)
            obtain ⟨d0, d1, d2⟩ := box_cells BD.out
            go_region_with (first
              | (go_at_call 10; (with_reducible refine HP.out.mono ?_); rintro e w2 ⟨rfl, t2, f2⟩; obtain ⟨x0, x1, x2⟩ := box_cells (fr_box f2 BD.out); have HQ2 := Lib.hid (HQ.out _ t2); clear t2 f2)
              | (go_at_call 11; (with_reducible refine HQ2.out.mono ?_); rintro e w3 ⟨rfl, t3, _⟩; have T3 : Hid (Lk w.heap.size w w3 g r) := ⟨_, _, t3⟩; clear t3))
            all_goals
              go_wp2
              go_meet
              exact T3.out
          · by_cases k2 : kd = 2
            · subst k2
              have HP := Lib.hid (ph_tick T1.out tm)
              have HQ : Hid (∀ w', Ph w.heap.size w w' g r (nowT nw tm) (rowT nw tm K) nw K → _) := fun w' t' => ph_rtick t'
              have hol := Nat.le_trans (outT_len nw tm K) hlen
              generalize hrow : rowT nw tm K = K' at *
              clear hrow
              generalize outT nw tm K = out at *
              generalize nowT nw tm = n2 at *
              generalize codeT nw tm = er at *
              have zr : (er != er) = false := by simp
              obtain ⟨c0, c1, c2⟩ := box_cells BXs.out
              go_upto_region 18 with (go_at_call 12; (with_reducible refine HP.out.mono ?_); rintro e w2 ⟨a1, e1, rfl, i2, t2, f2⟩; obtain ⟨x0, x1, x2⟩ := box_cells (fr_box f2 BXs.out); have HI2 := Lib.hid i2; have HQ2 := Lib.hid (HQ.out _ t2); clear t2 f2 i2)
              go_upto_region 19 with (go_at_call 13; (with_reducible refine HQ2.out.mono ?_); rintro e w3 ⟨a2, e2, rfl, i3, t3, f3⟩; have HI := Lib.hid (ints_same (f3.isI HI2.out) i3 (by omega)); have T3 : Hid (Lk w.heap.size w w3 g r) := ⟨_, _, t3⟩; clear t3 f3 i3)
              go_wp2_with (go_at_call 14; (with_reducible refine HI.out.mono ?_); rintro e w4 ⟨rfl, b4⟩; have T4 := Lib.hid (T3.out.bel b4); clear b4)
              go_meet
              exact T4.out
            · have z0 : (kd == 0) = false := by simp [k0]
              have z1 : (kd == 1) = false := by simp [k1]
              have z2 : (kd == 2) = false := by simp [k2]
              have T3 : Hid (Lk w.heap.size w W g r) := ⟨_, _, T1.out⟩
              go_wp2
              go_meet
              exact T3.out
      case rest =>
      clear HL2 BXs HF
      obtain ⟨nw, K, t⟩ := hcut
      have HT := Lib.hid t
      have hrow := t.row
      have htime := t.time
      obtain ⟨ra, rc, hrow⟩ := hrow
      have hlen := t.len
      obtain ⟨ni, nt, nb, hnx⟩ := nextV_form K
      have HN1 : Hid (∀ w', Below wc.heap.size wc w' → Calls Try.prog 15 #[.pointer (some ⟨g, 0, none⟩)] w' fun e w2 => e = .returned (.tuple #[.int .i64 ni, .int .i64 nt, .bool nb]) ∧ Below wc.heap.size wc w2) := fun w' hb => by
        have h := ph_next (t.bel hb)
        rw [hnx] at h
        exact h.mono fun e w2 hh => ⟨hh.1, hb.trans (hh.2.mono hb.size)⟩
      have HN2 : Hid (∀ w', Below wc.heap.size wc w' → Calls Try.prog 16 #[.pointer (some ⟨r, 0, none⟩)] w' fun e w2 => e = .returned (.tuple #[.int .i64 ni, .int .i64 nt, .bool nb]) ∧ Below wc.heap.size wc w2) := fun w' hb => by
        have h := ph_rnext (t.bel hb)
        rw [hnx] at h
        exact h.mono fun e w2 hh => ⟨hh.1, hb.trans (hh.2.mono hb.size)⟩
      have HZ : Hid (∀ w', Below wc.heap.size wc w' → (w'.cell? ⟨r, 1, none⟩ = some (.int .i64 nw)) ∧ (w'.cell? ⟨r, 0, none⟩ = some (.slice ra K.length rc)) ∧
          (∀ d os, Calls Try.prog 17 #[.pointer (some ⟨g, 0, none⟩)] (grow (redrawn w' d) os) fun e w2 => e = .returned (.int .i64 nw) ∧ ∃ p : Regrown, w2 = grow (redrawn w' p.d) p.os) ∧
          (∀ d os, Calls Try.prog 18 #[.pointer (some ⟨g, 0, none⟩)] (grow (redrawn w' d) os) fun e w2 => e = .returned (.int .i64 (K.length : Int)) ∧ ∃ p : Regrown, w2 = grow (redrawn w' p.d) p.os)) := fun w' hb => by
        have hr : r < wc.heap.size := by
          obtain ⟨_, _, _, _, _, R, _⟩ := t
          exact R.lt
        refine ⟨(hb.cell (p := ⟨r, 1, none⟩) hr).trans htime, (hb.cell (p := ⟨r, 0, none⟩) hr).trans hrow, fun d os => ?_, fun d os => ?_⟩
        · refine (ph_now (t.bel (hb.trans ((below_regrown w' d os).mono hb.size)))).mono ?_
          rintro e w2 ⟨rfl, rfl⟩
          exact ⟨rfl, ⟨d, os⟩, rfl⟩
        · refine (ph_size (t.bel (hb.trans ((below_regrown w' d os).mono hb.size)))).mono ?_
          rintro e w2 ⟨rfl, rfl⟩
          exact ⟨rfl, ⟨d, os⟩, rfl⟩
      have HLK : Hid (Lk w.heap.size w wc g r) := ⟨nw, K, t⟩
      clear t hrow htime hnx HT
      generalize K.length = z at *
      have HA1 := Lib.hid (HN1.out wc (Below.refl _ _))
      have zi : (ni != ni) = false := by simp
      have zt : (nt != nt) = false := by simp
      have zb : (nb != nb) = false := by simp
      have zw : (nw != nw) = false := by simp
      have zz : ((z : Int) != (z : Int)) = false := by simp
      go_upto_region 23 with (first
        | (go_at_call 15; (with_reducible refine HA1.out.mono ?_); rintro e w2 ⟨rfl, b2⟩; have HA2 := Lib.hid (HN2.out w2 b2); clear b2)
        | (go_at_call 16; (with_reducible refine HA2.out.mono ?_); rintro e w3 ⟨rfl, b3⟩; have HB3 := Lib.hid b3; clear b3))
      obtain ⟨q1, q2, q3, q4⟩ := HZ.out w3 HB3.out
      have Q1 := fun d os => cell_regrown q1 d os
      have Q2 := fun d os => cell_regrown q2 d os
      have Q3 := Lib.hid q3
      have Q4 := Lib.hid q4
      clear q1 q2 q3 q4 HA1 HA2 HN1 HN2 HZ
      refine wp_region_quiet_below (by kernel_rfl) (by kernel_rfl) ?_
      repeat (first
        | go_big_quiet_skip
        | (go_big_quiet_want
           first
           | (go_big_quiet_op
              first | go_big_quiet_on | go_big_quiet_call (first | with_reducible exact Q3.out _ _ | with_reducible exact Q4.out _ _))))
      refine wpQuiet_nil ?_
      intro w4 hw'
      have HE : Hid (Lk w.heap.size w w4 g r) := HLK.out.bel (HB3.out.trans ((quiet_end hw').mono HB3.out.size))
      clear hw' Q1 Q2 Q3 Q4
      go_wp2
      first
        | exact ⟨⟨k + 1, by omega, by go_num, HE.out⟩, by simp [intOf]; omega⟩
        | (go_roundw; case rel => (repeat apply Exists.intro); exact ⟨⟨k + 1, by omega, by go_num, HE.out⟩, rfl⟩)
    · obtain rfl : n = k := by omega
      go_wp2_with (go_at_call 19; (with_reducible refine (timed_any _).mono ?_); rintro e w5 ⟨rfl, b5⟩; have HE := Lib.hid (HL.out.bel b5); clear b5)
      go_ret
      exact ⟨rfl, HE.out.below⟩
set_option maxRecDepth 100000 in
set_option maxHeartbeats 2000000 in
theorem walk (l : List Stp) (v : Value) {w : World} (hS : Scr w v l) : Calls Try.prog 3 #[v] w fun e w' => e = .returned (.bool true) ∧ Below w.heap.size w w' := by
  by_cases h1 : l.length ≤ 200
  · exact main l v hS h1
  · obtain ⟨va, vc, rfl⟩ := hS.form
    have hn1 : (200 : Int) < (l.length : Int) := by omega
    clear hS h1
    generalize l.length = n at *
    go_enter Try.func3, Try.ntmps3
    go_wp2
    go_ret
    exact ⟨rfl, Below.refl _ _⟩

set_option maxRecDepth 100000 in
theorem lifted (os : Os) (started : os.Started) (H : Type) (enc : TypeId × Value → H) :
    ReturnsInHanded {} Try.checked os 3 .any (Rows.timerDoesSpec.pre6 enc Try.prog Try.f3 Rows.timerDoesRow.domain false) (Rows.timerDoesSpec.post enc Try.prog Try.f3 false true false false) := by
  refine returnsInHanded_of_change (C := Try.checked) own started (by kernel_rfl) Try.func3
    (ChangeSpec.witness6 (enc := enc) (C := Try.checked) false ⟨#[], #[.slice none 0 0], []⟩ 8 (by kernel_rfl) (by kernel_rfl) (by kernel_rfl) (by kernel_rfl)) ?_
  intro W base args ds gs before hval0 hW hcnd _
  have hval : ∀ (j : Nat) t v, Try.f3.params[j]? = some t → args[j]? = some v → Value.okWide Try.prog W .any base t v := hval0
  have hW' := hW
  obtain ⟨p, q, hA0, hV, rfl, hfz, hnd⟩ := hW
  have hA : DataW.TrodAll enc Try.prog W 0 (fun _ => true) true Try.f3.params.toList args.toList ds p := hA0
  rw [Try.params3] at hA hval
  obtain ⟨v0, vs0, d0, ds0, p0, q0, hargs, rfl, rfl, h0, r0⟩ := trodAll_cons hA
  obtain ⟨rfl, rfl, rfl⟩ := trodAll_nil r0
  obtain rfl : args = #[v0] := by cases args; simp_all
  obtain ⟨rfl, rfl⟩ := trodVars_none hV
  have k0 := h0
  have lt0 : ∀ x ∈ p0, x.block < W.heap.size := by obtain ⟨m, hm⟩ := k0; exact DataW.trod_lt m _ _ _ hm
  obtain ⟨n0, ok0⟩ := open_script (hval 0 22 v0 rfl rfl) h0
  clear hA0 hval0
  refine (walk n0 v0 ok0).mono fun e W' ⟨he, bel⟩ => ?_
  subst he
  exact ⟨_, rfl, _, _, _, [], _, [], hW', trodAll_mk1 (shut_bool Try.underlying4 _), (trodAll_cons_mk (Below.trod laidOut (by kernel_rfl) (of_decide_eq_true (by kernel_rfl)) k0 bel lt0) trodAll_mk0), rfl, bel.frame _, fun h => by cases h⟩

theorem proved : Rows.TimerDoesSaid :=
  OpenClaim.holds_of_wide 3 Try.f3 rfl rfl rfl rfl rfl rfl rfl ⟨rfl, rfl, rfl, rfl, rfl⟩ rfl rfl rfl rfl rfl (by kernel_rfl) Try.func3 (by kernel_rfl)
    (of_decide_eq_true (by kernel_rfl)) (by unfold Func.isWrapper; first | (rw [if_pos (by decide +kernel)]; kernel_rfl) | (rw [if_neg (by decide +kernel)]; exact ⟨rfl, rfl⟩))
    (fun os started H enc _ => lifted os started H enc)
end Go.Proofs.Ytboojbgcleknlaa.TimDoesLaw
