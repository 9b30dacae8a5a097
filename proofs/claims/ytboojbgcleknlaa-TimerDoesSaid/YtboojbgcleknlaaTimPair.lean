/- The timers and the document's, side by side, told by one row; and a step's box. -/
import Derived.Test.YtboojbgcleknlaaTimOpen
namespace Go.Proofs.Ytboojbgcleknlaa
open Go Go.RowKit Go.Sort

theorem perm_insK (d : Du) (K : List Du) : (insK d K).Perm (d :: K) := by
  induction K with
  | nil => exact List.Perm.refl _
  | cons x K ih =>
    rw [insK]
    split
    · exact List.Perm.refl _
    · exact (ih.cons x).trans (List.Perm.swap d x K)
theorem hasK_perm {L K : List Du} (h : L.Perm K) (k : Int) : hasK k L = hasK k K := by
  rw [Bool.eq_iff_iff, hasK_yes, hasK_yes]
  exact ⟨fun ⟨d, hd, e⟩ => ⟨d, (h.mem_iff).1 hd, e⟩, fun ⟨d, hd, e⟩ => ⟨d, (h.mem_iff).2 hd, e⟩⟩
theorem delK_perm {L K : List Du} (h : L.Perm K) (k : Int) : (delK k L).Perm (delK k K) := h.filter _
theorem setK_perm {L K : List Du} (h : L.Perm K) (k t : Int) : (delK k L ++ [(⟨k, t⟩ : Du)]).Perm (setK k t K) :=
  (List.perm_append_comm.trans ((delK_perm h k).cons ⟨k, t⟩)).trans (perm_insK ⟨k, t⟩ (delK k K)).symm
theorem gone_perm {L K : List Du} (h : L.Perm K) (hu : Ids K) (ho : Ord K) (k : Int) : decide ((delK k L).length < L.length) = hasK k K := by
  rw [(delK_perm h k).length_eq, h.length_eq]
  cases e : hasK k K with
  | true =>
    obtain ⟨d, hd, ed⟩ := (hasK_yes k K).1 e
    have := del_len hu ho hd ed
    simp
    omega
  | false =>
    have : delK k K = K := del_none fun d hd ed => by
      have := (hasK_yes k K).2 ⟨d, hd, ed⟩
      rw [e] at this
      cases this
    rw [this]
    simp

/-- what is of other types stays -/
def Fr (w w' : World) : Prop := ∀ (k : Nat) (cs : Array Value) (ty : TypeId), ty ≠ 50 → ty ≠ 53 → ty ≠ 28 → ty ≠ 57 → Blk w k cs ty → Blk w' k cs ty
theorem Fr.bel {w w' : World} (h : Below w.heap.size w w') : Fr w w' := fun _ _ _ _ _ _ _ hb => hb.below h hb.lt
theorem Fr.isI {w w' : World} (h : Fr w w') {u : Value} {l : List Int} (hu : IsI w u l) : IsI w' u l := by
  obtain ⟨a, c, h1, h2⟩ := hu
  refine ⟨a, c, h1, h2.imp id ?_⟩
  rintro ⟨b, cs, h3, h4, h5⟩
  exact ⟨b, cs, h3, h _ _ _ (by decide) (by decide) (by decide) (by decide) h4, h5⟩

/-- the timers have the row K1 at n1, the document's the row K2 at n2 -/
def Ph (B : Nat) (w0 w : World) (g r : Nat) (n1 : Int) (K1 : List Du) (n2 : Int) (K2 : List Du) : Prop := ∃ mb v L u, Tm w g mb v n1 K1 ∧ Rf w r u n2 L ∧ L.Perm K2 ∧ (Ord K2 ∧ Ids K2 ∧ K2.length ≤ 1000) ∧ Below B w0 w ∧ B ≤ w.heap.size ∧
  (B ≤ g ∧ B ≤ mb ∧ ∀ k, v.ownBlock = some k → B ≤ k) ∧ (B ≤ r ∧ ∀ k, u.ownBlock = some k → B ≤ k)
section
variable {B : Nat} {w0 w w' : World} {g r : Nat} {n1 n2 : Int} {K1 K2 : List Du}
theorem Ph.bel (t : Ph B w0 w g r n1 K1 n2 K2) (hb : Below w.heap.size w w') : Ph B w0 w' g r n1 K1 n2 K2 := by
  obtain ⟨mb, v, L, u, T, R, hp, ho, h1, h2, h3⟩ := t
  exact ⟨mb, v, L, u, T.bel hb, R.bel hb, hp, ho, h1.trans (hb.mono h2), Nat.le_trans h2 hb.size, h3⟩
theorem Ph.below (t : Ph B w0 w g r n1 K1 n2 K2) : Below B w0 w := by obtain ⟨_, _, _, _, _, _, _, _, h, _⟩ := t; exact h
theorem Ph.le (t : Ph B w0 w g r n1 K1 n2 K2) : B ≤ w.heap.size := by obtain ⟨_, _, _, _, _, _, _, _, _, h, _⟩ := t; exact h
theorem Ph.len (t : Ph B w0 w g r n1 K1 n2 K2) : K1.length ≤ 1000 := by obtain ⟨_, _, _, _, T, _⟩ := t; exact T.len
theorem Ph.time (t : Ph B w0 w g r n1 K1 n2 K2) : w.cell? ⟨r, 1, none⟩ = some (.int .i64 n2) := by obtain ⟨_, _, _, _, _, R, _⟩ := t; exact R.c1
theorem Ph.row (t : Ph B w0 w g r n1 K1 n2 K2) : ∃ a c, w.cell? ⟨r, 0, none⟩ = some (.slice a K2.length c) := by
  obtain ⟨_, _, L, u, _, R, hp, _⟩ := t
  obtain ⟨a, c, rfl⟩ := R.form
  exact ⟨a, c, by rw [R.c0, hp.length_eq]⟩
theorem Ph.step1 {mb : Nat} {v u : Value} {L : List Du} {n1' : Int} {K1' : List Du} (T : Tm w g mb v n1 K1) (R : Rf w r u n2 L) (hp : L.Perm K2) (ho : Ord K2 ∧ Ids K2 ∧ K2.length ≤ 1000) (h1 : Below B w0 w) (h2 : B ≤ w.heap.size)
    (h3 : B ≤ g ∧ B ≤ mb ∧ ∀ k, v.ownBlock = some k → B ≤ k) (h4 : B ≤ r ∧ ∀ k, u.ownBlock = some k → B ≤ k) (N : TmN w w' g mb v n1' K1') : Ph B w0 w' g r n1' K1' n2 K2 ∧ Fr w w' := by
  have hF : Fr w w' := fun k cs ty t1 t2 _ _ hb => Blk.tmN T N hb t1 t2
  obtain ⟨v', T', K, hv⟩ := id N
  refine ⟨⟨mb, v', L, u, T', ?_, hp, ho, h1.trans ⟨K.os, K.tape, K.output, K.size, fun k hk => K.block k (by omega) (by omega) (by omega) (fun e => by have := h3.2.2 k e; omega)⟩, Nat.le_trans h2 K.size, ⟨h3.1, h3.2.1, fun k hk => ?_⟩, h4⟩, hF⟩
  · have hr := Blk.tmN T N R.blk (by decide) (by decide)
    refine R.same (hr.trans R.blk.symm) fun k hk => ?_
    obtain ⟨cur, hb⟩ := R.own_blk hk
    exact (Blk.tmN T N hb (by decide) (by decide)).trans hb.symm
  · rcases hv with hv | ⟨b, hb, hl⟩
    · exact h3.2.2 k (hv ▸ hk)
    · rw [hb] at hk; have := Option.some.inj hk; omega
theorem Ph.step2 {mb : Nat} {v u : Value} {L L' : List Du} {n2' : Int} {K2' : List Du} (T : Tm w g mb v n1 K1) (R : Rf w r u n2 L) (hp : L'.Perm K2') (ho : Ord K2' ∧ Ids K2' ∧ K2'.length ≤ 1000) (h1 : Below B w0 w) (h2 : B ≤ w.heap.size)
    (h3 : B ≤ g ∧ B ≤ mb ∧ ∀ k, v.ownBlock = some k → B ≤ k) (h4 : B ≤ r ∧ ∀ k, u.ownBlock = some k → B ≤ k) (N : RfN w w' r u n2' L') : Ph B w0 w' g r n1 K1 n2' K2' ∧ Fr w w' := by
  obtain ⟨u', R', K, hu⟩ := N
  have keep : ∀ (k : Nat) (cs : Array Value) (ty : TypeId), ty ≠ 28 → ty ≠ 57 → Blk w k cs ty → w'.heap[k]? = w.heap[k]? := fun k cs ty t1 t2 hb => by
    refine K.block k hb.lt (hb.type R.blk t1) (hb.type R.blk t1) fun e => ?_
    obtain ⟨cur, hc⟩ := R.own_blk e
    exact hb.type hc t2 rfl
  have hF : Fr w w' := fun k cs ty _ _ t1 t2 hb => (keep k cs ty t1 t2 hb).trans hb
  obtain ⟨h, f, U⟩ := T
  have hm : w'.heap[mb]? = w.heap[mb]? := by
    refine K.block mb U.me.map.lt (fun e => U.me.map.ne R.blk e.symm) (fun e => U.me.map.ne R.blk e.symm) fun e => ?_
    obtain ⟨cur, hc⟩ := R.own_blk e
    exact U.me.map.ne hc rfl
  have M' : Me w' g mb n1 v K1.length h K1.length f := by
    refine U.me.same (keep g _ _ (by decide) (by decide) U.me.blk) hm fun k hk => ?_
    rcases U.me.row with ⟨rfl, _⟩ | ⟨b, c, rfl, q, _⟩
    · cases hk
    · obtain rfl : b = k := Option.some.inj hk
      obtain ⟨cur, q, _⟩ := q
      exact keep b _ _ (by decide) (by decide) q
  refine ⟨⟨mb, v, L', u', ⟨h, f, M', U.heap, U.gd, U.con⟩, R', hp, ho, h1.trans ⟨K.os, K.tape, K.output, K.size, fun k hk => K.block k (by omega) (by omega) (by omega) (fun e => by have := h4.2 k e; omega)⟩, Nat.le_trans h2 K.size, h3, ⟨h4.1, fun k hk => ?_⟩⟩, hF⟩
  rcases hu with hu | hu
  · exact h4.2 k (hu ▸ hk)
  · have := hu k hk; omega
theorem Tm.good {mb : Nat} {v : Value} (T : Tm w g mb v n1 K1) : Ord K1 ∧ Ids K1 ∧ K1.length ≤ 1000 := ⟨T.ord, T.ids, T.len⟩
/-- each call, by the timers, and by the document's behind them -/
theorem ph_set (t : Ph B w0 w g r n1 K1 n2 K2) {k : Int} (hk : Fit k) (x : Int) : Calls Try.prog 8 #[.pointer (some ⟨g, 0, none⟩), .int .i64 k, .int .i64 x] w fun e w' => e = .returned (.int .i64 (codeS n1 K1 k x)) ∧ Ph B w0 w' g r n1 (rowS n1 K1 k x) n2 K2 ∧ Fr w w' := by
  obtain ⟨mb, v, L, u, T, R, hp, ho, h1, h2, h3, h4⟩ := t
  refine (set_all T hk x).mono ?_
  rintro e w1 ⟨rfl, N⟩
  exact ⟨rfl, Ph.step1 T R hp ho h1 h2 h3 h4 N⟩
theorem ph_rset {n : Int} {K : List Du} {k x : Int} (t : Ph B w0 w g r n (rowS n K k x) n K) : Calls Try.prog 9 #[.pointer (some ⟨r, 0, none⟩), .int .i64 k, .int .i64 x] w fun e w' => e = .returned (.int .i64 (codeS n K k x)) ∧ Ph B w0 w' g r n (rowS n K k x) n (rowS n K k x) ∧ Fr w w' := by
  obtain ⟨mb, v, L, u, T, R, hp, ho, h1, h2, h3, h4⟩ := t
  have hg := T.good
  unfold codeS
  by_cases c1 : x < n
  · rw [if_pos c1]
    refine (refset_past R c1 k).mono ?_
    rintro e w1 ⟨rfl, rfl⟩
    have e0 : rowS n K k x = K := by unfold rowS; rw [if_pos c1]
    rw [e0] at T ⊢
    exact ⟨rfl, ⟨mb, v, L, u, T, R, hp, ho, h1, h2, h3, h4⟩, Fr.bel (Below.refl _ _)⟩
  · rw [if_neg c1]
    refine (refset_any R (by rw [hp.length_eq]; omega) c1 k).mono ?_
    intro e w1 hE
    unfold SetE at hE
    rw [hasK_perm hp, hp.length_eq] at hE
    by_cases c2 : hasK k K = false ∧ 1000 ≤ K.length
    · rw [if_pos c2] at hE ⊢
      obtain ⟨rfl, rfl⟩ := hE
      have e0 : rowS n K k x = K := by unfold rowS; rw [if_neg c1, if_pos c2]
      rw [e0] at T ⊢
      exact ⟨rfl, ⟨mb, v, L, u, T, R, hp, ho, h1, h2, h3, h4⟩, Fr.bel (Below.refl _ _)⟩
    · rw [if_neg c2] at hE ⊢
      obtain ⟨rfl, N⟩ := hE
      have e0 : rowS n K k x = setK k x K := by unfold rowS; rw [if_neg c1, if_neg c2]
      rw [e0] at T hg ⊢
      exact ⟨rfl, Ph.step2 T R (setK_perm hp k x) hg h1 h2 h3 h4 N⟩
theorem ph_cancel (t : Ph B w0 w g r n1 K1 n2 K2) {k : Int} (hk : Fit k) : Calls Try.prog 10 #[.pointer (some ⟨g, 0, none⟩), .int .i64 k] w fun e w' => e = .returned (.bool (hasK k K1)) ∧ Ph B w0 w' g r n1 (delK k K1) n2 K2 ∧ Fr w w' := by
  obtain ⟨mb, v, L, u, T, R, hp, ho, h1, h2, h3, h4⟩ := t
  refine (cancel_all T hk).mono ?_
  rintro e w1 ⟨rfl, N⟩
  exact ⟨rfl, Ph.step1 T R hp ho h1 h2 h3 h4 N⟩
theorem ph_rcancel {n : Int} {K : List Du} {k : Int} (t : Ph B w0 w g r n (delK k K) n K) : Calls Try.prog 11 #[.pointer (some ⟨r, 0, none⟩), .int .i64 k] w fun e w' => e = .returned (.bool (hasK k K)) ∧ Ph B w0 w' g r n (delK k K) n (delK k K) ∧ Fr w w' := by
  obtain ⟨mb, v, L, u, T, R, hp, ho, h1, h2, h3, h4⟩ := t
  have hg := T.good
  refine (refcancel_any R k).mono ?_
  rintro e w1 ⟨rfl, N⟩
  rw [gone_perm hp ho.2.1 ho.1]
  exact ⟨rfl, Ph.step2 T R (delK_perm hp k) hg h1 h2 h3 h4 N⟩
theorem ph_tick (t : Ph B w0 w g r n1 K1 n2 K2) (x : Int) : Calls Try.prog 12 #[.pointer (some ⟨g, 0, none⟩), .int .i64 x] w fun e w' => ∃ a c, e = .returned (.tuple #[.slice a (outT n1 x K1).length c, .int .i64 (codeT n1 x)]) ∧ IsI w' (.slice a (outT n1 x K1).length c) (outT n1 x K1) ∧ Ph B w0 w' g r (nowT n1 x) (rowT n1 x K1) n2 K2 ∧ Fr w w' := by
  obtain ⟨mb, v, L, u, T, R, hp, ho, h1, h2, h3, h4⟩ := t
  refine (tick_all T x).mono ?_
  rintro e w1 ⟨a, c, rfl, hI, N⟩
  exact ⟨a, c, rfl, hI, Ph.step1 T R hp ho h1 h2 h3 h4 N⟩
theorem ph_rtick {n : Int} {K : List Du} {x : Int} (t : Ph B w0 w g r (nowT n x) (rowT n x K) n K) : Calls Try.prog 13 #[.pointer (some ⟨r, 0, none⟩), .int .i64 x] w fun e w' => ∃ a c, e = .returned (.tuple #[.slice a (outT n x K).length c, .int .i64 (codeT n x)]) ∧ IsI w' (.slice a (outT n x K).length c) (outT n x K) ∧ Ph B w0 w' g r (nowT n x) (rowT n x K) (nowT n x) (rowT n x K) ∧ Fr w w' := by
  obtain ⟨mb, v, L, u, T, R, hp, ho, h1, h2, h3, h4⟩ := t
  have hg := T.good
  unfold outT codeT
  by_cases c1 : x < n
  · rw [if_pos c1, if_pos c1]
    refine (reftick_past R c1).mono ?_
    rintro e w1 ⟨rfl, rfl⟩
    have e0 : rowT n x K = K := by unfold rowT; rw [if_pos c1]
    have e1 : nowT n x = n := by unfold nowT; rw [if_pos c1]
    rw [e0, e1] at T ⊢
    exact ⟨none, 0, rfl, ⟨none, 0, rfl, .inl ⟨rfl, rfl, rfl⟩⟩, ⟨mb, v, L, u, T, R, hp, ho, h1, h2, h3, h4⟩, Fr.bel (Below.refl _ _)⟩
  · rw [if_neg c1, if_neg c1]
    refine (reftick_any R hp ho.1 ho.2.1 ho.2.2 c1).mono ?_
    rintro e w1 ⟨a, c, rfl, ⟨L1, hp1, N⟩, hI⟩
    have e0 : rowT n x K = restK x K := by unfold rowT; rw [if_neg c1]
    have e1 : nowT n x = x := by unfold nowT; rw [if_neg c1]
    rw [e0, e1] at T ⊢
    rw [e0] at hg
    rw [List.length_map]
    exact ⟨a, c, rfl, hI, Ph.step2 T R hp1 hg h1 h2 h3 h4 N⟩
theorem ph_next (t : Ph B w0 w g r n1 K1 n2 K2) : Calls Try.prog 15 #[.pointer (some ⟨g, 0, none⟩)] w fun e w' => e = .returned (nextV K1) ∧ Below w.heap.size w w' := by
  obtain ⟨mb, v, L, u, T, _⟩ := t
  exact next_any T
theorem ph_rnext (t : Ph B w0 w g r n1 K1 n2 K2) : Calls Try.prog 16 #[.pointer (some ⟨r, 0, none⟩)] w fun e w' => e = .returned (nextV K2) ∧ Below w.heap.size w w' := by
  obtain ⟨mb, v, L, u, T, R, hp, ho, _⟩ := t
  exact refnext_any R hp ho.1
theorem ph_now (t : Ph B w0 w g r n1 K1 n2 K2) : Calls Try.prog 17 #[.pointer (some ⟨g, 0, none⟩)] w fun e w' => e = .returned (.int .i64 n1) ∧ w' = w := by
  obtain ⟨mb, v, L, u, T, _⟩ := t
  exact now_any T
theorem ph_size (t : Ph B w0 w g r n1 K1 n2 K2) : Calls Try.prog 18 #[.pointer (some ⟨g, 0, none⟩)] w fun e w' => e = .returned (.int .i64 (K1.length : Int)) ∧ w' = w := by
  obtain ⟨mb, v, L, u, T, _⟩ := t
  exact size_any T
end
/-- both are made -/
theorem Ph.new {B : Nat} {w0 w : World} {g : Nat} (h : HasT B w0 w g 0 []) : Ph B w0 (w.alloc (.cells #[.slice none 0 0, .int .i64 0] 28)) g w.heap.size 0 [] 0 [] := by
  have hb : Below w.heap.size w (w.alloc (.cells #[.slice none 0 0, .int .i64 0] 28)) := (Below.refl _ _).alloc (Nat.le_refl _) _
  have hle := h.le
  obtain ⟨mb, v, T, h1, h2, h3, h4, h5⟩ := h.bel hb
  exact ⟨mb, v, [], .slice none 0 0, T, ⟨Blk.new _ _ _, World.ownsRow_nil _ _ _ _, by simp⟩, List.Perm.refl _, ⟨List.Pairwise.nil, (fun a ha => by cases ha), by simp⟩, h1, h2, ⟨h3, h4, h5⟩, hle, fun k hk => by cases hk⟩
end Go.Proofs.Ytboojbgcleknlaa
