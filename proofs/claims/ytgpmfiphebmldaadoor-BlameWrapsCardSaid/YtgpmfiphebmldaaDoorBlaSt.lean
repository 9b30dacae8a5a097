/- What a script builds, as lists; the two rows of its state in memory, and how they move. -/
import Derived.Test.YtgpmfiphebmldaaDoorBlaScr
import Derived.Laws.OwnMore
import Derived.Test.YtgpmfiphebmldaaDoorBlaRow
namespace Go.Proofs.YtgpmfiphebmldaaDoor
open Go Go.RowKit Go.Sort

def lastO (l : List (Option ET)) : Option ET := l.getLast?.getD none
def stepO (s : Stp) (l : List (Option ET)) : List (Option ET) :=
  if s.kind = 0 then l ++ [newO s.code]
  else if s.kind = 1 then (if l.length = 0 then l else l.set (l.length - 1) (wrapO s.op ((l[l.length - 1]?).getD none)))
  else if s.kind = 2 then (if 0 ≤ s.n ∧ s.n ≤ l.length then l.take (l.length - s.n.toNat) ++ [joinO (l.drop (l.length - s.n.toNat))] else l)
  else l ++ [none]
def runO (l : List Stp) : List (Option ET) := l.foldl (fun a s => stepO s a) []
theorem runO_snoc (l : List Stp) (s : Stp) : runO (l ++ [s]) = stepO s (runO l) := by simp [runO]
/-- weights of all -/
def wts : List (Option ET) → Nat
  | [] => 0
  | o :: r => 2 + wtO o + wts r
theorem wts_append : ∀ (a b : List (Option ET)), wts (a ++ b) = wts a + wts b
  | [], b => by simp [wts]
  | o :: r, b => by rw [List.cons_append, wts, wts, wts_append r b]; omega
theorem wts_get : ∀ (l : List (Option ET)) (j : Nat) (o : Option ET), l[j]? = some o → 2 + wtO o ≤ wts l
  | [], j, o, h => by simp at h
  | a :: r, 0, o, h => by simp at h; subst h; rw [wts]; omega
  | a :: r, j + 1, o, h => by rw [wts]; have := wts_get r j o (by simpa using h); omega
theorem wts_length : ∀ (l : List (Option ET)), 2 * l.length ≤ wts l
  | [] => by simp [wts]
  | o :: r => by rw [wts, List.length_cons]; have := wts_length r; omega
theorem wts_some : ∀ (l : List (Option ET)), ET.wtL (some_ l) ≤ wts l
  | [] => by simp [some_, ET.wtL]
  | none :: r => by simp only [some_, wts]; have := wts_some r; omega
  | some t :: r => by simp only [some_, wts, ET.wtL]; have := wts_some r; have : wtO (some t) = t.wt := rfl; omega
theorem wts_set : ∀ (l : List (Option ET)) (j : Nat) (o q : Option ET) (d : Nat), l[j]? = some o → wtO q ≤ wtO o + d → wts (l.set j q) ≤ wts l + d
  | [], j, o, q, d, h, _ => by simp at h
  | a :: r, 0, o, q, d, h, hq => by simp at h; subst h; simp only [List.set_cons_zero, wts]; omega
  | a :: r, j + 1, o, q, d, h, hq => by simp only [List.set_cons_succ, wts]; have := wts_set r j o q d (by simpa using h) hq; omega
theorem wt_new (c : Int) : wtO (newO c) ≤ 30 := by
  unfold newO
  split
  · exact Nat.zero_le _
  · exact Nat.le_refl _
theorem wt_wrap (op : ByteArray) (o : Option ET) : wtO (wrapO op o) ≤ wtO o + (op.size + 4) := by
  cases o with
  | none => exact Nat.zero_le _
  | some t => show op.size + 4 + t.wt ≤ t.wt + (op.size + 4); omega
theorem wt_join (l : List (Option ET)) : wtO (joinO l) ≤ wts l + 4 := by
  unfold joinO
  split
  · exact Nat.zero_le _
  · show 4 + ET.wtL (some_ l) ≤ wts l + 4
    have := wts_some l
    omega
theorem wts_step (s : Stp) (l : List (Option ET)) : wts (stepO s l) ≤ wts l + (36 + s.op.size) := by
  unfold stepO
  split
  · rw [wts_append]; simp only [wts]; have := wt_new s.code; omega
  · split
    · split
      · omega
      · rename_i h
        have hg : l[l.length - 1]? = some (l[l.length - 1]'(by omega)) := List.getElem?_eq_getElem _
        have := wts_set l (l.length - 1) _ (wrapO s.op ((l[l.length - 1]?).getD none)) (s.op.size + 4) hg (by rw [hg]; exact wt_wrap s.op _)
        omega
    · split
      · split
        · rw [wts_append]
          simp only [wts]
          have h1 := wt_join (l.drop (l.length - s.n.toNat))
          have h2 : wts l = wts (l.take (l.length - s.n.toNat)) + wts (l.drop (l.length - s.n.toNat)) := by rw [← wts_append, List.take_append_drop]
          omega
        · omega
      · rw [wts_append]; simp only [wts]; have : wtO none = 0 := rfl; omega
theorem wts_run (l : List Stp) (k : Nat) : wts (runO (l.take k)) ≤ 36 * k + opsum (l.take k) := by
  induction k with
  | zero => simp [runO, wts]
  | succ k ih =>
    cases h : l[k]? with
    | none =>
      have hl : l.length ≤ k := List.getElem?_eq_none_iff.1 h
      rw [List.take_of_length_le (by omega)]
      rw [List.take_of_length_le hl] at ih
      omega
    | some s =>
      rw [take_snoc l k s h, runO_snoc, opsum_snoc]
      have := wts_step s (runO (l.take k))
      omega

/-! the two rows -/
def off (lv mv : Value) (i : Nat) : Prop := some i ≠ lv.ownBlock ∧ some i ≠ mv.ownBlock
structure LRow (B : Nat) (wr : World) (lv mv : Value) (us : List Value) (L : List (Option ET)) : Prop where
  own : wr.ownsRow B 30 1 lv L.length us
  is : Eos wr (off lv mv) us L
structure MRow (B : Nat) (wr : World) (lv mv : Value) (xs : List (Array Value)) (L : List (Option ET)) : Prop where
  own : wr.ownsRow B 32 4 mv L.length (flatT xs)
  is : Tos wr (off lv mv) xs L
/-- the same row's block, or a new one -/
def Next (wr : World) (v v' : Value) : Prop := v'.ownBlock = v.ownBlock ∨ ∃ f, v'.ownBlock = some f ∧ wr.heap.size ≤ f
theorem Next.refl (wr : World) (v : Value) : Next wr v v := .inl rfl
theorem moved {wr w' : World} {lv mv lv' mv' : Value} {row : Option Nat} (hg : wr.grownBy w' row) (hrow : row = lv.ownBlock ∨ row = mv.ownBlock ∨ row = none) (hl : Next wr lv lv') (hm : Next wr mv mv') :
    ∀ i, i < wr.heap.size → off lv mv i → w'.heap[i]? = wr.heap[i]? ∧ off lv' mv' i := by
  intro i hi ho
  refine ⟨hg.block i hi (by rcases hrow with rfl | rfl | rfl; exact ho.1; exact ho.2; simp), ?_, ?_⟩
  · rcases hl with h | ⟨f, h, hf⟩
    · rw [h]; exact ho.1
    · rw [h]; simp; omega
  · rcases hm with h | ⟨f, h, hf⟩
    · rw [h]; exact ho.2
    · rw [h]; simp; omega
theorem Eos.moved {wr w' : World} {lv mv lv' mv' : Value} {us : List Value} {L : List (Option ET)} (h : Eos wr (off lv mv) us L) (k : ∀ i, i < wr.heap.size → off lv mv i → w'.heap[i]? = wr.heap[i]? ∧ off lv' mv' i) : Eos w' (off lv' mv') us L :=
  Eos.mk h.length fun j v o h1 h2 => (((h.get j v o h1 h2).mono (q := fun i => off lv mv i ∧ i < wr.heap.size) fun _ hi hp => ⟨hp, hi⟩).kept fun i hi hp => (k i hi hp.1).1).mono fun i _ hp => (k i hp.2 hp.1).2
theorem Eo.moved {wr w' : World} {lv mv lv' mv' v : Value} {o : Option ET} (h : Eo wr (off lv mv) v o) (k : ∀ i, i < wr.heap.size → off lv mv i → w'.heap[i]? = wr.heap[i]? ∧ off lv' mv' i) : Eo w' (off lv' mv') v o :=
  ((h.mono (q := fun i => off lv mv i ∧ i < wr.heap.size) fun _ hi hp => ⟨hp, hi⟩).kept fun i hi hp => (k i hi hp.1).1).mono fun i _ hp => (k i hp.2 hp.1).2
theorem To.moved {wr w' : World} {lv mv lv' mv' : Value} {X : Array Value} {o : Option ET} (h : To wr (off lv mv) X o) (k : ∀ i, i < wr.heap.size → off lv mv i → w'.heap[i]? = wr.heap[i]? ∧ off lv' mv' i) : To w' (off lv' mv') X o :=
  ((h.mono (q := fun i => off lv mv i ∧ i < wr.heap.size) fun _ hi hp => ⟨hp, hi⟩).kept fun i hi hp => (k i hi hp.1).1).mono fun i _ hp => (k i hp.2 hp.1).2
theorem Tos.moved {wr w' : World} {lv mv lv' mv' : Value} {xs : List (Array Value)} {L : List (Option ET)} (h : Tos wr (off lv mv) xs L) (k : ∀ i, i < wr.heap.size → off lv mv i → w'.heap[i]? = wr.heap[i]? ∧ off lv' mv' i) : Tos w' (off lv' mv') xs L :=
  ⟨h.1, fun j X o h1 h2 => (h.2 j X o h1 h2).moved k⟩
theorem rows_apart {B : Nat} {wr : World} {lv mv : Value} {n m : Nat} {us zs : List Value} (hl : wr.ownsRow B 30 1 lv n us) (hm : wr.ownsRow B 32 4 mv m zs) : lv.ownBlock = none ∨ lv.ownBlock ≠ mv.ownBlock := by
  rcases hl.2 with ⟨rfl, _⟩ | ⟨g, cap, cur, rfl, _, hg, _⟩
  · exact .inl rfl
  · rcases hm.2 with ⟨rfl, _⟩ | ⟨g', cap', cur', rfl, _, hg', _⟩
    · exact .inr (by simp [Value.ownBlock])
    · refine .inr fun h => ?_
      simp only [Value.ownBlock, Option.some.injEq] at h
      subst h
      rw [hg] at hg'
      simp only [Option.some.injEq, Obj.cells.injEq] at hg'
      exact absurd hg'.2.1 (by decide)
theorem grow_alloc {wr w' : World} {o : Obj} {row : Option Nat} (h : (wr.alloc o).grownBy w' row) : wr.grownBy w' row :=
  ⟨h.os, h.tape, h.output, by have := h.size; rw [World.size_alloc] at this; omega, fun k hk hr => (h.block k (by rw [World.size_alloc]; omega) hr).trans (Below.heap_alloc wr o k hk)⟩
theorem LRow.later {B : Nat} {wr w' : World} {lv mv : Value} {us : List Value} {L : List (Option ET)} (h : LRow B wr lv mv us L) (hb : Below wr.heap.size wr w') : LRow B w' lv mv us L :=
  ⟨h.own.kept (row := none) ⟨hb.os, hb.tape, hb.output, hb.size, fun k hk _ => hb.block k hk⟩ (by cases lv.ownBlock <;> simp), h.is.kept fun i hi _ => hb.block i hi⟩
theorem MRow.later {B : Nat} {wr w' : World} {lv mv : Value} {xs : List (Array Value)} {L : List (Option ET)} (h : MRow B wr lv mv xs L) (hb : Below wr.heap.size wr w') : MRow B w' lv mv xs L :=
  ⟨h.own.kept (row := none) ⟨hb.os, hb.tape, hb.output, hb.size, fun k hk _ => hb.block k hk⟩ (by cases mv.ownBlock <;> simp), h.is.kept fun i hi _ => hb.block i hi⟩
/-- the first row is changed -/
theorem l_change {B : Nat} {wr w' : World} {lv mv lv' : Value} {us : List Value} {xs : List (Array Value)} {L M : List (Option ET)} (hL : LRow B wr lv mv us L) (hM : MRow B wr lv mv xs M) (hg : wr.grownBy w' lv.ownBlock) (hn : Next wr lv lv') :
    Eos w' (off lv' mv) us L ∧ MRow B w' lv' mv xs M ∧ (∀ v o, Eo wr (off lv mv) v o → Eo w' (off lv' mv) v o) := by
  have k := moved hg (.inl rfl) hn (Next.refl wr mv)
  refine ⟨hL.is.moved k, ⟨hM.own.kept hg ?_, hM.is.moved k⟩, fun v o h => h.moved k⟩
  rcases rows_apart hL.own hM.own with h | h
  · rw [h]; cases mv.ownBlock <;> simp
  · exact .inr fun e => h e.symm
/-- the second row is changed -/
theorem m_change {B : Nat} {wr w' : World} {lv mv mv' : Value} {us : List Value} {xs : List (Array Value)} {L M : List (Option ET)} (hL : LRow B wr lv mv us L) (hM : MRow B wr lv mv xs M) (hg : wr.grownBy w' mv.ownBlock) (hn : Next wr mv mv') :
    LRow B w' lv mv' us L ∧ Tos w' (off lv mv') xs M ∧ (∀ X o, To wr (off lv mv) X o → To w' (off lv mv') X o) := by
  have k := moved hg (.inr (.inl rfl)) (Next.refl wr lv) hn
  exact ⟨⟨hL.own.kept hg (rows_apart hL.own hM.own), hL.is.moved k⟩, hM.is.moved k, fun X o h => h.moved k⟩
/-- one more in the first row -/
theorem l_push {B : Nat} {wr w' : World} {lv mv lv' : Value} {us : List Value} {xs : List (Array Value)} {L M : List (Option ET)} (hB : B ≤ wr.heap.size) (hL : LRow B wr lv mv us L) (hM : MRow B wr lv mv xs M) {v : Value} {o : Option ET} (hv : Eo wr (off lv mv) v o)
    (hO : w'.ownsRow B 30 1 lv' (L.length + 1) (us ++ #[v].toList)) (hG : (wr.alloc (.cells #[v] 30)).grownBy w' lv.ownBlock) (hb : lv'.ownBlock = lv.ownBlock ∨ lv'.ownBlock = some (wr.heap.size + 1)) :
    LRow B w' lv' mv (us ++ [v]) (L ++ [o]) ∧ MRow B w' lv' mv xs M ∧ Below B wr w' := by
  have hn : Next wr lv lv' := hb.imp id fun h => ⟨_, h, by omega⟩
  obtain ⟨h1, h2, h3⟩ := l_change hL hM (grow_alloc hG) hn
  refine ⟨⟨by rw [List.length_append]; exact hO, h1.append ⟨h3 v o hv, trivial⟩⟩, h2, ?_⟩
  exact (Below.refl B wr).grown (grow_alloc hG) hB fun k hk => (hL.own.lt k hk).1
/-- one more in the second row -/
theorem m_push {B : Nat} {wr w' : World} {lv mv mv' : Value} {us : List Value} {xs : List (Array Value)} {L M : List (Option ET)} (hB : B ≤ wr.heap.size) (hL : LRow B wr lv mv us L) (hM : MRow B wr lv mv xs M) {X : Array Value} {o : Option ET} (hX : To wr (off lv mv) X o)
    (hO : w'.ownsRow B 32 4 mv' (M.length + 1) (flatT xs ++ X.toList)) (hG : (wr.alloc (.cells X 32)).grownBy w' mv.ownBlock) (hb : mv'.ownBlock = mv.ownBlock ∨ mv'.ownBlock = some (wr.heap.size + 1)) :
    LRow B w' lv mv' us L ∧ MRow B w' lv mv' (xs ++ [X]) (M ++ [o]) ∧ Below B wr w' := by
  have hn : Next wr mv mv' := hb.imp id fun h => ⟨_, h, by omega⟩
  obtain ⟨h1, h2, h3⟩ := m_change hL hM (grow_alloc hG) hn
  refine ⟨h1, ⟨by rw [List.length_append, flatT_snoc]; exact hO, h2.snoc (h3 X o hX)⟩, ?_⟩
  exact (Below.refl B wr).grown (grow_alloc hG) hB fun k hk => (hM.own.lt k hk).1
theorem own_shape {w : World} {B e size n : Nat} {v : Value} {xs : List Value} (h : w.ownsRow B e size v n xs) : ∃ a c, v = .slice a n c := by
  rcases h.2 with ⟨h, h0⟩ | ⟨g, cap, cur, h, _⟩
  · rw [h0]; exact ⟨_, _, h⟩
  · exact ⟨_, _, h⟩
theorem infoStep : (Tryd.prog.info? 55).map (·.size) = some 4 := by kernel_rfl
theorem p_midS {ops : Array Oper} {rest : List Oper} {o : Oper} {a : Act} {w : World} {Q : Exit → Act → World → Prop} (hgd : o.guard = none) (x : Operand) (ho : o.op = .load 55 x)
    (g i : Nat) (hx : a.eval x = .pointer (some ⟨g, i, none⟩)) (s : Stp) (hg : w.rangeAt g i (stpC s).toList)
    (h : wpList Tryd.prog ops Q rest (a.put o.dst (.agg (stpC s))) w) : wpList Tryd.prog ops Q (o :: rest) a w :=
  wpList_load_mid hgd 55 x ho g i hx (stpC s).toList _ hg Tryd.underlying55 rfl infoStep (by rw [Array.toArray_toList]; exact h)
theorem stp_one (s : Stp) : (stpC s).all (·.oneCell') = true := by simp [stpC, Value.oneCell']
/-- what New gives, told whole -/
theorem new_conc (c : Int) (h1 : -9223372036854775808 ≤ c) (h2 : c ≤ 9223372036854775807) : ∃ v : Value, (∀ w, Calls Tryd.prog 23 #[.int .i64 c] w fun e w' => e = .returned v ∧ w = w') ∧ (∀ w p, Eo w p v (newO c)) ∧ (v = .nilIface ∨ v = .iface 59 (.int .i64 c)) := by
  by_cases h : c = 0
  · subst h
    exact ⟨.nilIface, fun w => (new_zero w).mono fun _ _ ⟨a, b⟩ => ⟨a, b.symm⟩, fun _ _ => rfl, .inl rfl⟩
  · refine ⟨_, fun w => (new_code c h w).mono fun _ _ ⟨a, b⟩ => ⟨a, b.symm⟩, fun w p => ?_, .inr rfl⟩
    have hn : newO c = some (.code c) := by unfold newO; rw [if_neg h]
    rw [hn]
    exact Er.code c ⟨h, h1, h2⟩
/-- a tree's answer, its cells told -/
theorem tree_ret {f : FuncId} {args : Array Value} {w : World} {p : Nat → Prop} {o : Option ET} (h : Calls Tryd.prog f args w fun e w' => ∃ X, e = .returned (.agg X) ∧ To w' p X o ∧ Below w.heap.size w w') :
    Calls Tryd.prog f args w fun e w' => ∃ k c op a n cap, e = .returned (.agg #[.int .i64 k, .int .i64 c, .string op, .slice a n cap]) ∧ To w' p #[.int .i64 k, .int .i64 c, .string op, .slice a n cap] o ∧ Below w.heap.size w w' :=
  h.mono fun e w' ⟨X, h1, h2, h3⟩ => by
    obtain ⟨c, op, a, n, cap, rfl⟩ := to_shape h2
    exact ⟨_, _, _, _, _, _, h1, h2, h3⟩
theorem to_new {w : World} {p q : Nat → Prop} {X : Array Value} {c : Int} (h : To w p X (newO c)) : To w q X (newO c) := by
  unfold newO at *
  split at h
  · rename_i h0; rw [if_pos h0]; exact h
  · rename_i h0
    rw [if_neg h0]
    have h : Tr w p X (.code c) := h
    cases h with
    | code _ hc => exact Tr.code c hc
theorem keep_other {W w' : World} {B e size n g : Nat} {v : Value} {xs : List Value} {cs : Array Value} {T : TypeId} (hown : W.ownsRow B e size v n xs) (hb : Blk W g cs T) (hT : T ≠ e) (hg : W.grownBy w' v.ownBlock) : Blk w' g cs T := by
  refine (hg.block g hb.lt ?_).trans hb
  rcases hown.2 with ⟨rfl, _⟩ | ⟨g', cap, cur, rfl, _, hg', _⟩
  · simp [Value.ownBlock]
  · intro h
    simp only [Value.ownBlock, Option.some.injEq] at h
    subst h
    have hb' : W.heap[g]? = some (.cells cs T (0, 0)) := hb
    rw [hb'] at hg'
    simp only [Option.some.injEq, Obj.cells.injEq] at hg'
    exact hT hg'.2.1
theorem grow_off {w w' : World} {o : Option Nat} (h : w.grownBy w' o) (hs : ∀ k, o = some k → False) : Below w.heap.size w w' := ⟨h.os, h.tape, h.output, h.size, fun k hk => h.block k hk (fun e => hs k e.symm)⟩
/-- what Wrap gives, told whole -/
theorem wrap_none (op : ByteArray) (w : World) : Calls Tryd.prog 21 #[.string op, .nilIface] w fun e w' => e = .returned .nilIface ∧ Below w.heap.size w w' :=
  (wrap_any (fun _ => True) op .nilIface none w rfl).mono fun e w' ⟨v, h1, h2, h3⟩ => ⟨by rw [h1]; exact congrArg Ending.returned h2, h3⟩
theorem wrap_some (p : Nat → Prop) (op : ByteArray) (v : Value) (t : ET) (w : World) (h : Er w p v t) : Calls Tryd.prog 21 #[.string op, v] w fun e w' => ∃ b, e = .returned (.iface 66 (.pointer (some ⟨b, 0, none⟩))) ∧ Er w' (fun k => p k ∨ w.heap.size ≤ k) (.iface 66 (.pointer (some ⟨b, 0, none⟩))) (.wrap op t) ∧ Below w.heap.size w w' :=
  (wrap_any p op v (some t) w h).mono fun e w' ⟨v', h1, h2, h3⟩ => by
    have h2 : Er w' (fun k => p k ∨ w.heap.size ≤ k) v' (.wrap op t) := h2
    cases h2 with
    | wrap b _ u _ hp hb hu => exact ⟨b, h1, .wrap b op u t hp hb hu, h3⟩
theorem fresh_off {w0 w : World} {lv mv : Value} {B : Nat} {n m : Nat} {us zs : List Value} (hl : w0.ownsRow B 30 1 lv n us) (hm : w0.ownsRow B 32 4 mv m zs) {i : Nat} (h : off lv mv i ∨ w0.heap.size ≤ i) (_ : w = w) : off lv mv i := by
  rcases h with h | h
  · exact h
  · exact ⟨fun e => by have := (hl.lt i e.symm).2; omega, fun e => by have := (hm.lt i e.symm).2; omega⟩
/-- one of the first row is set -/
theorem l_set {B : Nat} {wr : World} {mv : Value} {g n c : Nat} {us : List Value} {xs : List (Array Value)} {L M : List (Option ET)} (hB : B ≤ wr.heap.size) (hL : LRow B wr (.slice (some ⟨g, 0, none⟩) n c) mv us L) (hn : n = L.length) (hM : MRow B wr (.slice (some ⟨g, 0, none⟩) n c) mv xs M) (j : Nat) {v : Value} {o : Option ET} (hv : Eo wr (off (.slice (some ⟨g, 0, none⟩) n c) mv) v o) :
    LRow B (wr.setCell ⟨g, j, none⟩ v) (.slice (some ⟨g, 0, none⟩) n c) mv (us.set j v) (L.set j o) ∧ MRow B (wr.setCell ⟨g, j, none⟩ v) (.slice (some ⟨g, 0, none⟩) n c) mv xs M ∧ Below B wr (wr.setCell ⟨g, j, none⟩ v) := by
  subst hn
  obtain ⟨h1, h2⟩ := hL.own.stored j v
  obtain ⟨k1, k2, k3⟩ := l_change hL hM h2 (Next.refl _ _)
  refine ⟨⟨by rw [List.length_set]; exact h1, ?_⟩, k2, (Below.refl B wr).grown h2 hB fun k hk => (hL.own.lt k hk).1⟩
  refine Eos.mk (by rw [List.length_set, List.length_set]; exact k1.length) fun i u q hu hq => ?_
  rw [List.getElem?_set] at hu hq
  by_cases e : j = i
  · subst e
    simp only [if_pos] at hu hq
    split at hu
    · split at hq
      · cases hu; cases hq; exact k3 v o hv
      · cases hq
    · cases hu
  · rw [if_neg e] at hu hq
    exact k1.get i u q hu hq
theorem flat_set : ∀ (xs : List (Array Value)), (∀ X ∈ xs, X.size = 4) → ∀ (j : Nat), j < xs.length → ∀ (a b c d : Value), (((((flatT xs).set (j * 4) a).set (j * 4 + 1) b).set (j * 4 + 2) c).set (j * 4 + 3) d) = flatT (xs.set j #[a, b, c, d])
  | [], _, j, h, _, _, _, _ => by simp at h
  | Y :: xs, hs, 0, _, a, b, c, d => by
    have hY : Y.toList.length = 4 := by rw [Array.length_toList]; exact hs Y (List.mem_cons_self ..)
    rw [show flatT (Y :: xs) = Y.toList ++ flatT xs from rfl, List.set_cons_zero, show flatT (#[a, b, c, d] :: xs) = [a, b, c, d] ++ flatT xs from rfl]
    match Y.toList, hY with
    | [y0, y1, y2, y3], _ => rfl
  | Y :: xs, hs, j + 1, h, a, b, c, d => by
    have hY : Y.toList.length = 4 := by rw [Array.length_toList]; exact hs Y (List.mem_cons_self ..)
    have ih := flat_set xs (fun Z hZ => hs Z (List.mem_cons_of_mem _ hZ)) j (by simpa using h) a b c d
    rw [show flatT (Y :: xs) = Y.toList ++ flatT xs from rfl, List.set_cons_succ, show flatT (Y :: xs.set j #[a, b, c, d]) = Y.toList ++ flatT (xs.set j #[a, b, c, d]) from rfl, ← ih]
    rw [List.set_append_right _ _ (by omega), List.set_append_right _ _ (by omega), List.set_append_right _ _ (by omega), List.set_append_right _ _ (by omega), hY,
      show (j + 1) * 4 - 4 = j * 4 by omega, show (j + 1) * 4 + 1 - 4 = j * 4 + 1 by omega, show (j + 1) * 4 + 2 - 4 = j * 4 + 2 by omega, show (j + 1) * 4 + 3 - 4 = j * 4 + 3 by omega]
/-- one of the second row is set -/
theorem m_set {B : Nat} {wr : World} {lv : Value} {g n c : Nat} {us : List Value} {xs : List (Array Value)} {L M : List (Option ET)} (hB : B ≤ wr.heap.size) (hL : LRow B wr lv (.slice (some ⟨g, 0, none⟩) n c) us L) (hM : MRow B wr lv (.slice (some ⟨g, 0, none⟩) n c) xs M) (hn : n = M.length) (j : Nat) (hj : j < n) {a b d e : Value} {o : Option ET} (hX : To wr (off lv (.slice (some ⟨g, 0, none⟩) n c)) #[a, b, d, e] o) :
    LRow B ((((wr.setCell ⟨g, j * 4, none⟩ a).setCell ⟨g, j * 4 + 1, none⟩ b).setCell ⟨g, j * 4 + 2, none⟩ d).setCell ⟨g, j * 4 + 3, none⟩ e) lv (.slice (some ⟨g, 0, none⟩) n c) us L ∧
    MRow B ((((wr.setCell ⟨g, j * 4, none⟩ a).setCell ⟨g, j * 4 + 1, none⟩ b).setCell ⟨g, j * 4 + 2, none⟩ d).setCell ⟨g, j * 4 + 3, none⟩ e) lv (.slice (some ⟨g, 0, none⟩) n c) (xs.set j #[a, b, d, e]) (M.set j o) ∧
    Below B wr ((((wr.setCell ⟨g, j * 4, none⟩ a).setCell ⟨g, j * 4 + 1, none⟩ b).setCell ⟨g, j * 4 + 2, none⟩ d).setCell ⟨g, j * 4 + 3, none⟩ e) := by
  subst hn
  obtain ⟨h1, g1⟩ := hM.own.stored (j * 4) a
  obtain ⟨h2, g2⟩ := h1.stored (j * 4 + 1) b
  obtain ⟨h3, g3⟩ := h2.stored (j * 4 + 2) d
  obtain ⟨h4, g4⟩ := h3.stored (j * 4 + 3) e
  have hg := Off.trans (Off.trans (Off.trans g1 g2) g3) g4
  obtain ⟨k1, k2, k3⟩ := m_change hL hM hg (Next.refl _ _)
  refine ⟨k1, ⟨?_, ?_⟩, (Below.refl B wr).grown hg hB fun k hk => (hM.own.lt k hk).1⟩
  · rw [List.length_set, ← flat_set xs hM.is.size j (by rw [hM.is.1]; exact hj)]
    exact h4
  · refine ⟨by rw [List.length_set, List.length_set]; exact k2.1, fun i Y q hu hq => ?_⟩
    rw [List.getElem?_set] at hu hq
    by_cases ee : j = i
    · subst ee
      rw [if_pos rfl, if_pos (by rw [hM.is.1]; exact hj)] at hu
      rw [if_pos rfl, if_pos hj] at hq
      have e1 := Option.some.inj hu
      have e2 := Option.some.inj hq
      rw [← e1, ← e2]
      exact k3 _ _ hX
    · rw [if_neg ee] at hu hq
      exact k2.2 i Y q hu hq
theorem to_fresh {w0 w : World} {lv mv : Value} {B n m : Nat} {us zs : List Value} (hl : w0.ownsRow B 30 1 lv n us) (hm : w0.ownsRow B 32 4 mv m zs) {X : Array Value} {o : Option ET} (h : To w (fun k => off lv mv k ∨ w0.heap.size ≤ k) X o) : To w (off lv mv) X o :=
  h.mono fun _ _ h => fresh_off hl hm h (w := w0) rfl
theorem eo_fresh {w0 w : World} {lv mv : Value} {B n m : Nat} {us zs : List Value} (hl : w0.ownsRow B 30 1 lv n us) (hm : w0.ownsRow B 32 4 mv m zs) {v : Value} {o : Option ET} (h : Eo w (fun k => off lv mv k ∨ w0.heap.size ≤ k) v o) : Eo w (off lv mv) v o :=
  h.mono fun _ _ h => fresh_off hl hm h (w := w0) rfl
end Go.Proofs.YtgpmfiphebmldaaDoor
