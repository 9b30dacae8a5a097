/- Rows of words, and states, are compared; a state as an argument. -/
import Derived.Test.YtcmaneddhjlbdaaShaWordsRef
import Derived.Test.YtcmaneddhjlbdaaShaStepRef
import Derived.Test.YtcmaneddhjlbdaaOwn
namespace Go.Proofs.Ytcmaneddhjlbdaa
open Go.ChangeShapes Go.WideShapes Go.ChangeAt Go.RowKit Go.Sort

/-- what Words tells, seen later: none, or eighty words -/
def WV (s : ByteArray) (v : Value) (w : World) : Prop :=
  (s.size ≠ 64 ∧ v = .slice none 0 0) ∨ (s.size = 64 ∧ ∃ g cap, v = .slice (some ⟨g, 0, none⟩) 80 cap ∧ g < w.heap.size ∧ ∀ t, t < 80 → w.cell? ⟨g, t, none⟩ = some (.int .u32 (wd s t : Nat)))
theorem WV.below {s : ByteArray} {v : Value} {w w' : World} (h : WV s v w) (hb : Below w.heap.size w w') : WV s v w' := by
  rcases h with h | ⟨h1, g, cap, h2, h3, h4⟩
  · exact .inl h
  · exact .inr ⟨h1, g, cap, h2, Nat.lt_of_lt_of_le h3 hb.size, fun t ht => (hb.cell (p := ⟨g, t, none⟩) h3).trans (h4 t ht)⟩
theorem WV.alloc {s : ByteArray} {v : Value} {w : World} (h : WV s v w) (o : Obj) : WV s v (w.alloc o) := h.below ((Below.refl _ _).alloc (Nat.le_refl _) _)
/-- the code of Words -/
def wcode (s : ByteArray) : Int := if s.size = 64 then 0 else 1
def SaysWords (s : ByteArray) (w : World) (e : Ending) (w' : World) : Prop := ∃ v, e = .returned (.tuple #[v, .int .i64 (wcode s)]) ∧ WV s v w' ∧ Below w.heap.size w w'
theorem words_all (s : ByteArray) (w : World) : Calls Try.prog 10 #[.string s] w (SaysWords s w) := by
  by_cases h : s.size = 64
  · refine (words_yes s w h).mono ?_
    rintro e w' ⟨g, cap, rfl, h1, h2, h3⟩
    exact ⟨_, by rw [wcode, if_pos h], .inr ⟨h, g, cap, rfl, h1, h2⟩, h3⟩
  · refine (words_no s w h).mono ?_
    rintro e w' ⟨rfl, rfl⟩
    exact ⟨_, by rw [wcode, if_neg h], .inl ⟨h, rfl⟩, Below.refl _ _⟩
theorem refWords_all (s : ByteArray) (w : World) : Calls Try.prog 11 #[.string s] w (SaysWords s w) := by
  by_cases h : s.size = 64
  · refine (refWords_yes s w h).mono ?_
    rintro e w' ⟨g, cap, rfl, h1, h2, h3⟩
    exact ⟨_, by rw [wcode, if_pos h], .inr ⟨h, g, cap, rfl, h1, h2⟩, h3⟩
  · refine (refWords_no s w h).mono ?_
    rintro e w' ⟨rfl, rfl⟩
    exact ⟨_, by rw [wcode, if_neg h], .inl ⟨h, rfl⟩, Below.refl _ _⟩
theorem same_nil (w : World) : Calls Try.prog 17 #[.slice none 0 0, .slice none 0 0] w fun e w' => e = .returned (.bool true) ∧ Below w.heap.size w w' := by
  go_enter Try.func17, Try.ntmps17
  go_wp2
  go_loop [5] (fun i => i = .int .i64 0) (fun _ => 0)
  case atStart => rfl
  case round =>
    obtain rfl := hrel
    go_wp2
    go_ret
    exact ⟨rfl, Below.refl _ _⟩
set_option maxHeartbeats 1000000 in
theorem same_yes (f : Nat → Nat) (g g' cap cap' : Nat) (w : World) (h : ∀ t, t < 80 → w.cell? ⟨g, t, none⟩ = some (.int .u32 (f t : Nat))) (h' : ∀ t, t < 80 → w.cell? ⟨g', t, none⟩ = some (.int .u32 (f t : Nat))) :
    Calls Try.prog 17 #[.slice (some ⟨g, 0, none⟩) 80 cap, .slice (some ⟨g', 0, none⟩) 80 cap'] w fun e w' => e = .returned (.bool true) ∧ Below w.heap.size w w' := by
  have H := Lib.hid h
  have H' := Lib.hid h'
  clear h h'
  go_enter Try.func17, Try.ntmps17
  go_wp2
  go_loopw [5] (fun i wr => ∃ k n : Nat, k ≤ 80 ∧ i = .int .i64 k ∧ wr = w.drewN n) (fun i _ => 80 - (intOf i).toNat)
  case atStart => exact ⟨0, 0, by omega, rfl, rfl⟩
  case round =>
    obtain ⟨k, n, hk, rfl, rfl⟩ := hrel
    by_cases hlt : k < 80
    · have c1 : (w.drewN n).cell? ⟨g, k, none⟩ = some (.int .u32 (f k : Nat)) := by simpa using H.out k hlt
      have c2 : (w.drewN n).cell? ⟨g', k, none⟩ = some (.int .u32 (f k : Nat)) := by simpa using H'.out k hlt
      have HB : Hid (∀ m, ∃ n', (w.drewN n).drewN m = w.drewN n') := fun m => ⟨n + m, by simp [World.drewN, Nat.add_assoc]⟩
      generalize f k = x at *
      generalize w.drewN n = W at *
      go_wp2
      have b0 : (0 : Int) ≤ (k : Int) ∧ (k : Int) < 80 := by omega
      go_quiet (fail)
      go_wp2
      obtain ⟨n', hn'⟩ := HB.out nq
      exact ⟨⟨k + 1, n', by omega, by go_num, hn'⟩, by simp [intOf]; omega⟩
    · obtain rfl : k = 80 := by omega
      go_wp2
      go_ret
      exact ⟨rfl, bel_drewN (Below.refl _ _) n⟩
theorem same_all (s : ByteArray) (v v' : Value) (w : World) (h : WV s v w) (h' : WV s v' w) : Calls Try.prog 17 #[v, v'] w fun e w' => e = .returned (.bool true) ∧ Below w.heap.size w w' := by
  rcases h with ⟨h1, rfl⟩ | ⟨h1, g, cap, rfl, _, h2⟩
  · rcases h' with ⟨_, rfl⟩ | ⟨h3, _⟩
    · exact same_nil w
    · exact absurd h3 h1
  · rcases h' with ⟨h3, _⟩ | ⟨_, g', cap', rfl, _, h4⟩
    · exact absurd h1 h3
    · exact same_yes (wd s) g g' cap cap' w h2 h4

/-! states are compared -/
theorem info22s : (Try.prog.info? 22).map (·.size) = some 1 := by kernel_rfl
theorem run_part22 (l : List Nat) (i : Nat) (h : i < l.length) (w : World) : (Go.part 22 (row32 l) i).run Try.prog w = .ok (.int .u32 ((l[i] : Nat) : Int)) w := by
  have ha : (isAgg 22).run Try.prog w = .ok false w := by
    unfold isAgg
    rw [Sem.run_bind, run_underlying Try.underlying22 w]
    rfl
  have hg : (row32 l)[i]? = some (.int .u32 ((l[i] : Nat) : Int)) := by rw [row32_get, List.getElem?_eq_getElem h]; rfl
  simp [Go.part, ha, hg]
theorem run_equalIn_st (d : Nat) (l : List Nat) (hl : l.length = 5) (w : World) : (Op.equalIn (d + 2) 24 (.agg (row32 l)) (.agg (row32 l))).run Try.prog w = .ok true w := by
  rw [Op.equalIn]
  simp only [Sem.run_bind, run_underlying Try.underlying24, Result.andThen_ok]
  have hs : (sizeOf 22).run Try.prog w = .ok 1 w := by
    have := info22s
    cases hq : Try.prog.info? 22 with
    | none => simp [hq] at this
    | some i => simp [hq] at this; simp [sizeOf, typeInfo, hq, this]
  simp only [hs, Result.andThen_ok]
  rw [Std.Legacy.Range.forIn_eq_forIn_range']
  simp only [Nat.mul_one, Std.Legacy.Range.size, Nat.sub_zero, Nat.add_sub_cancel, Nat.div_one]
  have key : ∀ k s, s + k = 5 → (forIn (List.range' s k) ((none, ()) : Option Bool × Unit) fun i __s => do
            let __do_lift ← Go.part 22 (row32 l) i
            let __do_lift_1 ← Go.part 22 (row32 l) i
            let __do_lift ← Op.equalIn (d + 1) 22 __do_lift __do_lift_1
            if (!__do_lift) = true then pure (ForInStep.done (some false, ())) else pure (ForInStep.yield (none, ()))).run Try.prog w
      = .ok (none, ()) w := by
    intro k
    induction k with
    | zero => intro s _; simp
    | succ k ih =>
      intro s hs
      rw [List.range'_succ, List.forIn_cons]
      simp only [Sem.run_bind, run_part22 l s (by omega) w, Result.andThen_ok, run_equalIn_int w d 22 .u32 .u32 _ _ Try.underlying22]
      have e' : (((l[s] : Nat) : Int) == ((l[s] : Nat) : Int)) = true := beq_self_eq_true _
      simp only [e', Bool.not_true, Bool.false_eq_true, if_false, Sem.run_pure, Result.andThen_ok]
      exact ih (s + 1) (by omega)
  rw [key 5 0 (by omega)]
  simp
theorem guard24 : Try.prog.eqGuardType Try.prog.depth 24 = false := by kernel_rfl
theorem o_eqst {o : Oper} {a : Act} {w : World} {K : Act → World → Prop} {Q : Exit → Act → World → Prop} (x y : Operand) (ho : o.op = .binOp .eql 24 x y 24)
    (R : S5) (hx : a.eval x = .agg (row32 R.list)) (hy : a.eval y = .agg (row32 R.list)) (h : K (a.put o.dst (.bool true)) w) : o.wp Try.prog a w K Q := by
  have e : (binOp .eql 24 (.agg (row32 R.list)) (.agg (row32 R.list))).run Try.prog w = .ok (.bool true) w := by
    rw [run_eql_struct, run_equalIn_st 9998 _ (list_length _)]; rfl
  have e2 := run_eqGuard_agg (P := Try.prog) w .eql 24 x y (row32 R.list) (row32 R.list) guard24
  unfold Oper.wp execOp
  simp only [ho, hx, hy, Sem.run_bind, e2, e, Sem.run_pure, Result.andThen_ok]
  exact h
theorem o_row {P : Program} {o : Oper} {a : Act} {w : World} {K : Act → World → Prop} {Q : Exit → Act → World → Prop} (ty : TypeId) (x : Operand) (ho : o.op = .load ty x) (g : Nat) (hx : a.eval x = .pointer (some ⟨g, 0, none⟩)) (cs : Array Value) (t : TypeId) (d : TypeDesc)
    (hg : Blk w g cs t) (hu : P.underlying ty = some d) (hd : (match d with | .struct _ | .array _ _ => true | _ => false) = true) (hi : (P.info? ty).map (·.size) = some cs.size) (h : K (a.put o.dst (.agg cs)) w) : o.wp P a w K Q :=
  wp_load_row ty x ho g hx t cs (0, 0) d hg hu hd hi h

/-! a state as an argument -/
theorem cellsSt : Try.prog.cellsOf 24 = 5 := by kernel_rfl
theorem cells22 : Try.prog.cellsOf 22 = 1 := by kernel_rfl
theorem mapM_each {α β : Type} {f : α → Option β} : ∀ {l : List α} {ys : List β}, l.mapM f = some ys → ∀ x ∈ l, ∃ y, f x = some y
  | [], _, _, x, hx => by cases hx
  | a :: l, ys, h, x, hx => by
    rw [List.mapM_cons] at h
    cases ha : f a with
    | none => rw [ha] at h; cases h
    | some y =>
      cases hl : l.mapM f with
      | none => rw [ha, hl] at h; cases h
      | some zs =>
        rcases List.mem_cons.1 hx with rfl | hx
        · exact ⟨y, ha⟩
        · exact mapM_each hl x hx
theorem open_st {H : Type} {enc : TypeId × Value → H} {w : World} {base : Nat} {sp : Nat → Bool} {held : Bool} {r : Reach} {b0 : Nat} {v : Value} {d : DataW H} {ps : List MemPlace}
    (hval : Value.okWide Try.prog w r b0 24 v) (hd : DataW.Trod enc Try.prog w base sp held 24 v d ps) : ∃ h : S5, h.ok ∧ v = stv h := by
  simp only [Value.okWide, Try.underlying24] at hval
  obtain ⟨cs, rfl, hsz, _⟩ := hval
  rw [cellsSt] at hsz
  obtain ⟨fuel, hf⟩ := hd
  cases fuel with
  | zero => simp [DataW.trod] at hf
  | succ m =>
    unfold DataW.trod at hf
    rw [Try.underlying24] at hf
    simp only [Value.cells, cellsSt, cells22, Nat.mul_one] at hf
    split at hf
    · cases hx : (List.range 5).mapM fun i => DataW.trod enc Try.prog w base sp held m 22 ((cs.toList.drop i).take 1) with
      | none => rw [hx] at hf; cases hf
      | some xs =>
        have hall := mapM_each hx
        have hc : ∀ i, i < 5 → ∃ n : Nat, n < 4294967296 ∧ cs.toList[i]? = some (.int .u32 (n : Int)) := by
          intro i hi5
          have hi : i < cs.toList.length := by simpa [hsz] using hi5
          obtain ⟨y, hy⟩ := hall i (List.mem_range.2 hi5)
          rw [List.drop_eq_getElem_cons hi, List.take_succ_cons, List.take_zero] at hy
          obtain ⟨n, e1, _, wf⟩ := DataW.trod_int Try.underlying22 hy
          have e2 : cs.toList[i] = .int .u32 n := by simpa using e1
          have hw : 0 ≤ n ∧ n < 4294967296 := by
            have h0 : IntKind.min .u32 = 0 := rfl
            have h1 : IntKind.max .u32 = 4294967295 := u32_max
            simp only [Lit.wf, h0, h1, Bool.and_eq_true, decide_eq_true_eq] at wf
            omega
          exact ⟨n.toNat, by omega, by rw [List.getElem?_eq_getElem hi, e2, Int.toNat_of_nonneg hw.1]⟩
        obtain ⟨a, ha, ea⟩ := hc 0 (by omega)
        obtain ⟨b, hb, eb⟩ := hc 1 (by omega)
        obtain ⟨c, hcc, ec⟩ := hc 2 (by omega)
        obtain ⟨d', hd, ed⟩ := hc 3 (by omega)
        obtain ⟨e, he, ee⟩ := hc 4 (by omega)
        refine ⟨⟨a, b, c, d', e⟩, ⟨ha, hb, hcc, hd, he⟩, ?_⟩
        rw [box_st]
        congr 1
        apply Array.ext_getElem?
        intro i
        rcases Nat.lt_or_ge i 5 with h5 | h5
        · match i, h5 with
          | 0, _ => rw [← Array.getElem?_toList, ea]; rfl
          | 1, _ => rw [← Array.getElem?_toList, eb]; rfl
          | 2, _ => rw [← Array.getElem?_toList, ec]; rfl
          | 3, _ => rw [← Array.getElem?_toList, ed]; rfl
          | 4, _ => rw [← Array.getElem?_toList, ee]; rfl
        · rw [Array.getElem?_eq_none (by omega), Array.getElem?_eq_none (by simpa using h5)]
    · cases hf
end Go.Proofs.Ytcmaneddhjlbdaa
