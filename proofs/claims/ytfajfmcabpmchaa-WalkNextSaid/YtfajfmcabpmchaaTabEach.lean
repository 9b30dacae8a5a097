/- The iterator over the peers of several rows. -/
import Derived.Test.YtfajfmcabpmchaaTabSeq
import Derived.Test.YtfajfmcabpmchaaTail
namespace Go.Proofs.Ytfajfmcabpmchaa
set_option maxRecDepth 100000
open Go Go.RowKit Go.Shelf Go.Sort
attribute [local go_sem] Oper.semAt_some

section
variable {P : Program} {n l : Nat}
/-- no operation is a defer statement -/
def noDefer (ops : Array Oper) : Bool := ops.all fun o => match o.op with | .defer _ => false | _ => true
theorem noDefer_at {ops : Array Oper} (h : noDefer ops = true) {i : Nat} {o : Oper} (ho : ops[i]? = some o) : ∀ c, o.op ≠ .defer c := fun c e => by
  have := (Array.all_eq_true_iff_forall_mem.1 h) o (Array.mem_of_getElem? ho)
  rw [e] at this
  cases this
/-- what an operation does outside of a round it does in one -/
theorem oper_round {o : Oper} {a : Act} {w : World} {K : Act → World → Prop} {Q : Exit → Act → World → Prop} (hd : ∀ c, o.op ≠ .defer c) (h : o.wp P a w K Q) : o.wpIn (Fence.wide.inRound l) n P a w K Q := by
  refine ⟨fun _ _ => trivial, ?_⟩
  rw [Oper.semAt_eq _ _ _ hd]
  unfold Oper.wp at h
  generalize (execOp a.eval o).run P w = r at *
  cases r with
  | ok x w' =>
    cases x with
    | enter f args => exact ⟨fun h => (by cases h), callsIn_wide.2 h⟩
    | row r args => exact ⟨fun h => (by cases h), fun c cs _ => let ⟨v, w2, h1, h2⟩ := h c cs; ⟨v, w2, h1, stepsIn_wide.2 h2⟩⟩
    | _ => first | exact h | exact h.elim
  | halt x w' => cases x <;> first | exact h | exact h.elim
theorem any_round {ops : Array Oper} {md : Region.Mode} {Q : Exit → Act → World → Prop} (hd : noDefer ops = true) (hQ : ¬ LetsOut Q) : ∀ (fuel : Nat) (listed : Array Bool) (a : Act) (w : World),
    wpAny P md ops Q fuel listed a w → wpAnyIn (Fence.wide.inRound l) n P md ops Q fuel listed a w
  | 0, _, _, _, h => h
  | fuel + 1, listed, a, w, h => by
    refine ⟨h.1, fun i hi => ?_⟩
    have h1 := h.2 i hi
    unfold wpOp at h1
    unfold wpOpIn
    split
    · rename_i hn
      simp only [hn] at h1
      exact any_round hd hQ fuel _ _ _ h1
    · rename_i o ho
      simp only [ho] at h1
      split
      · rename_i hw
        simp only [hw, if_true] at h1
        rcases h1 with h1 | h1
        · exact oper_round (noDefer_at hd ho) (Oper.wp_mono (fun a w h2 => any_round hd hQ fuel _ a w h2) h1)
        · exact absurd h1.2 hQ
      · rename_i hw
        simp only [hw] at h1
        exact ⟨fun _ _ => trivial, any_round hd hQ fuel _ _ _ h1⟩
/-- .. with a tail -/
theorem round_tail0 {id : Nat} {Q : Exit → Act → World → Prop} {a : Act} {w : World} {ops : List Oper} (k : Nat)
    (hm : P.follows .mixedOrders = true) (hd : noDefer ops.toArray = true) (hB : tail0 .any ops.toArray k = true) (hO : ∀ a w, ¬ Q .outgrown a w) (hQ0 : ∀ c a t v w, Q (.panic c) (a.put (some t) v) w → Q (.panic c) a w)
    (h : wpStill P ops.toArray w.drew (fun a' => wpList P ops.toArray Q (ops.drop k) a' w.drew) (ops.take k) a) : (Code.region id ops.toArray true).wpIn (Fence.wide.inRound l) n P Q a w :=
  wpIn_region_any hm (any_round hd (fun ⟨a, w, h⟩ => hO a w h) _ _ _ _ (any_tail0 k hB hQ0 h))
/-- an operation of a plain region that does no more than outside of a round: in a round, and under a wide fence -/
theorem in_round {l : Nat} {ops : Array Oper} {rest : List Oper} {o : Oper} {a : Act} {w : World} {Q : Exit → Act → World → Prop} (hgd : o.guard = none) (hd : ∀ c, o.op ≠ .defer c)
    (h : o.wp P a w (wpListIn (Fence.wide.inRound l) n P ops Q rest) Q) : wpListIn (Fence.wide.inRound l) n P ops Q (o :: rest) a w := by
  have hw : Region.wanted o (yielded ops a.tmps) = true := by simp [Region.wanted, hgd]
  unfold wpListIn
  rw [if_pos hw]
  exact oper_round hd h
theorem oper_wide {o : Oper} {a : Act} {w : World} {K : Act → World → Prop} {Q : Exit → Act → World → Prop} (hd : ∀ c, o.op ≠ .defer c) (h : o.wp P a w K Q) : o.wpIn Fence.wide n P a w K Q := by
  refine ⟨fun _ _ => trivial, ?_⟩
  rw [Oper.semAt_eq _ _ _ hd]
  unfold Oper.wp at h
  generalize (execOp a.eval o).run P w = r at *
  cases r with
  | ok x w' =>
    cases x with
    | enter f args => exact ⟨fun h => (by cases h), callsIn_wide.2 h⟩
    | row r args => exact ⟨fun h => (by cases h), fun c cs _ => let ⟨v, w2, h1, h2⟩ := h c cs; ⟨v, w2, h1, stepsIn_wide.2 h2⟩⟩
    | _ => first | exact h | exact h.elim
  | halt x w' => cases x <;> first | exact h | exact h.elim
theorem in_wide {ops : Array Oper} {rest : List Oper} {o : Oper} {a : Act} {w : World} {Q : Exit → Act → World → Prop} (hgd : o.guard = none) (hd : ∀ c, o.op ≠ .defer c)
    (h : o.wp P a w (wpListIn Fence.wide n P ops Q rest) Q) : wpListIn Fence.wide n P ops Q (o :: rest) a w := by
  have hw : Region.wanted o (yielded ops a.tmps) = true := by simp [Region.wanted, hgd]
  unfold wpListIn
  rw [if_pos hw]
  exact oper_wide hd h
/-- a region that draws its order and makes memory alone, in a round -/
theorem round_quiet {id : Nat} {Q : Exit → Act → World → Prop} {a : Act} {w : World} {ops : List Oper} (hm : P.follows .mixedOrders = true) (hd : noDefer ops.toArray = true) (hB : Region.lexB .any ops.toArray = true) (hO : ∀ a w, ¬ Q .outgrown a w)
    (h : wpQuiet P ops.toArray (fun w' => ∃ p : Regrown, w' = grow (redrawn w p.d) p.os) (fun a' => ∀ w', (∃ p : Regrown, w' = grow (redrawn w p.d) p.os) → Q .normal a' w') ops a) : (Code.region id ops.toArray true).wpIn (Fence.wide.inRound l) n P Q a w := by
  simp only [Region.lexB, Bool.and_eq_true] at hB
  refine wpIn_region_any hm (any_round hd (fun ⟨a, w, h⟩ => hO a w h) _ _ _ _ ?_)
  refine wpAny_of_quiet (C := fun w' => ∃ p : Regrown, w' = grow (redrawn w p.d) p.os) (Q := fun a' => ∀ w', (∃ p : Regrown, w' = grow (redrawn w p.d) p.os) → Q .normal a' w') (fun _ w' hw' h => h w' hw') _ _ _ _ ⟨⟨w.drawn + 1, #[]⟩, by rw [grow_empty]; rfl⟩ ?_
  have := wpAnyQ_lex (C := fun w' => ∃ p : Regrown, w' = grow (redrawn w p.d) p.os) (md := .any) hB.1 ops 0 (Array.replicate ops.toArray.size false) a (by simp) (by simpa using hB.2) h
  simpa using this
end
/-- the rows one behind the other -/
def catN (Ls : Nat → List Pe) : Nat → List Pe
  | 0 => []
  | i + 1 => catN Ls i ++ Ls i
theorem cat_get (Ls : Nat → List Pe) {m i j : Nat} {x : Pe} (hi : i < m) (h : (Ls i)[j]? = some x) : (catN Ls m)[(catN Ls i).length + j]? = some x := by
  induction m with
  | zero => omega
  | succ m ih =>
    have hj : j < (Ls i).length := (List.getElem?_eq_some_iff.1 h).1
    rcases Nat.lt_or_ge i m with h1 | h1
    · have := ih h1
      rw [catN, List.getElem?_append_left (List.getElem?_eq_some_iff.1 this).1]
      exact this
    · obtain rfl : i = m := by omega
      rw [catN, List.getElem?_append_right (by omega), Nat.add_sub_cancel_left]
      exact h
/-- what the iterator reads: m rows -/
structure EachR (c0 g m : Nat) (vs : Nat → Value) (Ls : Nat → List Pe) (W : World) : Prop where
  c : W.cell? ⟨c0, 0, none⟩ = some (.slice (some ⟨g, 0, none⟩) m m)
  v : ∀ i, i < m → W.cell? ⟨g, i, none⟩ = some (vs i)
  l : ∀ i, i < m → Lies W (vs i) (Ls i)
theorem EachR.keep {c0 g m : Nat} {vs : Nat → Value} {Ls : Nat → List Pe} {W W' : World} (h : EachR c0 g m vs Ls W) (hb : Below W.heap.size W W') : EachR c0 g m vs Ls W' :=
  ⟨cell_bel h.c hb, fun i hi => cell_bel (h.v i hi) hb, fun i hi => (h.l i hi).bel hb⟩
theorem grown_bel {w w' : World} (h : w.grownBy w' none) : Below w.heap.size w w' := ⟨h.os, h.tape, h.output, h.size, fun i hi => h.block i hi (by simp)⟩
section
variable {n : Nat}
/-- the rows are laid in a block, which the iterator holds -/
theorem each_any (a : Option Addr) (k c : Nat) (w : World) :
    Calls Try.prog 43 #[.slice a k c] w fun e w' => e = .returned (.func (.func 73) #[] #[.pointer (some ⟨w.heap.size, 0, none⟩)]) ∧ w' = w.alloc (.cells #[.slice a k c] 91) := by
  have hmf : ∀ (fn : Fn) (first cap : Array Value) (w : World), (Instr.makeFunc fn first cap).run Try.prog w = .ok (.func fn first cap) w := fun _ _ _ _ => rfl
  go_enter Try.func43, Try.ntmps43
  go_wp2
  go_ret
  exact ⟨rfl, rfl⟩
set_option maxHeartbeats 4000000 in
theorem goes_each (hn : 1 ≤ n) (c0 g m : Nat) (vs : Nat → Value) (Ls : Nat → List Pe) (hm : m ≤ 1000000) (hl : ∀ i, i < m → (Ls i).length ≤ 1000000) :
    Goes Fence.wide n #[.pointer (some ⟨c0, 0, none⟩)] (catN Ls m) (EachR c0 g m vs Ls) := by
  intro l J Jx W hJ hR hY h0
  have hro : Fence.wide.round = none := rfl
  have hf : Fence.wide.fn 73 := trivial
  have HJ := Lib.hid hJ
  have HR := Lib.hid hR
  have HY := Lib.hid hY
  have q0 := (hR 0 W h0).c
  clear hJ hR hY
  refine callsIn_of_wp Try.func73 rfl hf ?_ hro
  simp only [Try.ntmps73, List.size_toArray, List.length_cons, List.length_nil, Nat.reduceAdd, Nat.reduceSub, Array.replicate_succ, Array.replicate_zero, List.push_toArray, List.append_toArray, List.nil_append, List.cons_append]
  gi_wp2
  gi_loopw [4, 6, 9] (fun _ _ i wr => ∃ k : Nat, i = .int .i64 (k : Int) ∧ k ≤ m ∧ J (catN Ls k).length wr) (fun _ _ i _ => m - (intOf i).toNat)
  case atStart => exact ⟨0, rfl, Nat.zero_le _, h0⟩
  case round =>
    obtain ⟨k, rfl, hk, hJs⟩ := hrel
    rcases Nat.lt_or_ge k m with hlt | hge
    · have hE := HR.out _ _ hJs
      have q1 := hE.v k hlt
      have hL := hE.l k hlt
      have hll := hl k hlt
      have s1 : IntKind.i64.wrap ((k : Int) + 1) = (k : Int) + 1 := IntWalk.i64_in _ (by omega)
      obtain ⟨av, cv, hv⟩ := hL.form
      rw [hv] at q1 hL
      have HV := Lib.hid hv
      clear hE
      generalize hln : (Ls k).length = z at *
      have HLN := Lib.hid hln
      have h2 : (k : Int) < (m : Int) := by omega
      clear hln
      have HJs := Lib.hid hJs
      have HLi := Lib.hid hL
      clear hJs hL hv
      gi_wp2
      gi_loopw [6, 15] (fun _ i wr => ∃ j : Nat, i = .int .i64 (j : Int) ∧ j ≤ z ∧ J ((catN Ls k).length + j) wr) (fun _ i _ => z - (intOf i).toNat)
      case atStart => exact ⟨0, rfl, Nat.zero_le _, HJs.out⟩
      case round =>
        obtain ⟨j, rfl, hj, hJ2⟩ := hrel
        clear HJs HLi
        rcases Nat.lt_or_ge j z with hjl | hjg
        · cases hx : (Ls k)[j]? with
          | none => rw [List.getElem?_eq_none_iff] at hx; have := HLN.out; omega
          | some x =>
            obtain ⟨b, o, c, e1, _, _, r1, _⟩ := (HR.out _ _ hJ2).l k hlt |>.at hx
            rw [HV.out] at e1
            simp only [Value.slice.injEq] at e1
            obtain ⟨rfl, e2, rfl⟩ := e1
            clear e2
            have hg := cat_get Ls hlt hx
            have B1 : Below wr.heap.size wr ((wr.alloc (.cells (peA (0, 0)) 28)).setRow wr.heap.size (peA x)) := bel_setRow ((Below.refl wr.heap.size wr).alloc (Nat.le_refl _) _) (Nat.le_refl _) _
            have X1 : PB ((wr.alloc (.cells (peA (0, 0)) 28)).setRow wr.heap.size (peA x)) wr.heap.size x := Blk.setRow (PB.new wr (0, 0)) _
            have X0 := PB.new wr (0, 0)
            obtain ⟨fn, tmps, assign, body, hy, hround⟩ := HY.out _ x _ hg (HJ.out _ _ _ hJ2 (bel_grown B1 none))
            have hjz : (j : Int) < (z : Int) := by omega
            have hj0 : (0 : Int) ≤ (j : Int) := by omega
            have s2 : IntKind.i64.wrap ((j : Int) + 1) = (j : Int) + 1 := IntWalk.i64_in _ (by omega)
            have r2 := X1.range
            gi_wp2_with (first
              | (refine in_wide rfl (fun _ h => by cases h) (o_midP _ rfl b (o + j * 21) rfl x r1 ?_))
              | (refine in_wide rfl (fun _ h => by cases h) (wp_store_row 28 _ _ rfl wr.heap.size (peA x) rfl rfl 28 (peA (0, 0)) X0 (by rw [peA_size]; exact sizeP) (by rw [peA_size, peA_size]) (peA_one _) ?_))
              | (refine in_wide rfl (fun _ h => by cases h) (o_midP _ rfl wr.heap.size 0 rfl x r2 ?_)))
            rw [peer_zero, hy]
            clear hy r1 r2 X0 X1 B1
            gi_wp2
            refine hround.mono ?_
            rintro e W3 (⟨rfl, hJ3⟩ | ⟨rfl, hJx3⟩)
            · gi_wp2
              go_roundw
              case rel => exact ⟨j + 1, by go_num, by omega, by rw [show (catN Ls k).length + (j + 1) = (catN Ls k).length + j + 1 from rfl]; exact hJ3⟩
              case measure => simp [intOf]; omega
            · gi_wp2
              refine bodyPost_ret (results_none rfl _ _ _) rfl ?_
              exact ⟨⟨_, rfl⟩, .inr hJx3⟩
        · obtain rfl : j = z := by omega
          have hJ3 : J (catN Ls (k + 1)).length wr := by rw [catN, List.length_append, HLN.out]; exact hJ2
          clear hJ2
          gi_wp2
          go_roundw
          case rel => exact ⟨k + 1, by go_num, by omega, hJ3⟩
          case measure => simp [intOf]; omega
    · obtain rfl : k = m := by omega
      gi_wp2
      go_end0
      exact ⟨⟨_, rfl⟩, .inl hJs⟩
end
end Go.Proofs.Ytfajfmcabpmchaa
