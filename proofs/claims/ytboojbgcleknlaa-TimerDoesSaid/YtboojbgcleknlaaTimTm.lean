/- Timers, told by a row in order; and what only asks them. -/
import Derived.Test.YtboojbgcleknlaaTimForget
import Derived.Lib.AppendZeros
namespace Go.Proofs.Ytboojbgcleknlaa
open Go Go.RowKit Go.Sort

/-- timers in block g, with their map in block mb, and their row v -/
structure Me (w : World) (g mb : Nat) (now : Int) (v : Value) (n : Nat) (h : Nat → Du) (N : Nat) (f : Int → Option Nat) : Prop where
  blk : Blk w g #[.int .i64 now, v, .map (some mb)] 50
  row : (v = .slice none 0 0 ∧ n = 0) ∨ ∃ b c, v = .slice (some ⟨b, 0, none⟩) n c ∧ RowAt w b n c h ∧ b ≠ g ∧ c ≤ maxLen
  map : OwnsF w mb N f
  ids : ∀ i, i < n → Fit (h i).id
  len : n ≤ 1000
section
variable {w w' : World} {g mb : Nat} {now : Int} {v : Value} {b n c : Nat} {h : Nat → Du} {N : Nat} {f : Int → Option Nat}
theorem Me.lt (M : Me w g mb now v n h N f) : g < w.heap.size := M.blk.lt
theorem Me.gm (M : Me w g mb now v n h N f) : g ≠ mb := M.map.ne M.blk
theorem Me.hq (M : Me w g mb now v n h N f) (hn : 0 < n) : ∃ b c, v = .slice (some ⟨b, 0, none⟩) n c ∧ Hq w g mb now b n c h N f := by
  rcases M.row with ⟨_, h0⟩ | ⟨b, c, rfl, r, h1, h2⟩
  · omega
  · exact ⟨b, c, rfl, M.blk, r, M.map, h1, h2, M.ids, M.len⟩
theorem Hq.me (H : Hq w g mb now b n c h N f) : Me w g mb now (.slice (some ⟨b, 0, none⟩) n c) n h N f := ⟨H.blk, .inr ⟨b, c, rfl, H.row, H.ne, H.cap⟩, H.map, H.ids, H.len⟩
theorem Me.form (M : Me w g mb now v n h N f) : ∃ a c, v = .slice a n c := by
  rcases M.row with ⟨rfl, rfl⟩ | ⟨b, c, rfl, _⟩
  · exact ⟨_, _, rfl⟩
  · exact ⟨_, _, rfl⟩
theorem Me.own_lt (M : Me w g mb now v n h N f) {k : Nat} (hk : v.ownBlock = some k) : k < w.heap.size ∧ k ≠ g ∧ k ≠ mb := by
  rcases M.row with ⟨rfl, rfl⟩ | ⟨b, c, rfl, r, h1, _⟩
  · cases hk
  · obtain rfl : b = k := Option.some.inj hk
    obtain ⟨cur, r, _⟩ := r
    exact ⟨r.lt, h1, M.map.ne r⟩
theorem Me.same (M : Me w g mb now v n h N f) (h1 : w'.heap[g]? = w.heap[g]?) (h2 : w'.heap[mb]? = w.heap[mb]?) (h3 : ∀ k, v.ownBlock = some k → w'.heap[k]? = w.heap[k]?) : Me w' g mb now v n h N f := by
  refine ⟨h1.trans M.blk, ?_, M.map.same h2, M.ids, M.len⟩
  rcases M.row with h | ⟨b, c, rfl, r, k1, k2⟩
  · exact .inl h
  · exact .inr ⟨b, c, rfl, r.same (h3 b rfl), k1, k2⟩
theorem Me.bel (M : Me w g mb now v n h N f) (hb : Below w.heap.size w w') : Me w' g mb now v n h N f := M.same (hb.block g M.lt) (hb.block mb M.map.lt) fun k hk => hb.block k (M.own_lt hk).1
/-- other timers' change leaves them -/
theorem Me.other (M : Me w g mb now v n h N f) {g2 m2 : Nat} {o : Option Nat} (K : Kp w w' g2 m2 o) (h1 : g ≠ g2) (h2 : g ≠ m2) (h3 : o ≠ some g) (h4 : mb ≠ g2) (h5 : mb ≠ m2) (h6 : o ≠ some mb) (h7 : ∀ k, v.ownBlock = some k → k ≠ g2 ∧ k ≠ m2 ∧ o ≠ some k) : Me w' g mb now v n h N f :=
  M.same (K.block g M.lt h1 h2 h3) (K.block mb M.map.lt h4 h5 h6) fun k hk => K.block k (M.own_lt hk).1 (h7 k hk).1 (h7 k hk).2.1 (h7 k hk).2.2

/-- one more place behind the row -/
theorem RowAt.own (r : RowAt w b n c h) (hc : c ≤ maxLen) : ∃ xs, w.ownsRow 0 53 2 (.slice (some ⟨b, 0, none⟩) n c) n xs ∧ ∀ i, i < n → xs[i * 2]? = some (.int .i64 (h i).id) ∧ xs[i * 2 + 1]? = some (.int .i64 (h i).tm) := by
  obtain ⟨cur, r, k1, k2, k3⟩ := r
  have hl : (cur.toList.take (n * 2)).length = n * 2 := by rw [List.length_take, Array.length_toList]; omega
  refine ⟨cur.toList.take (n * 2), ⟨hl, .inr ⟨b, c, cur, rfl, Nat.zero_le _, r, k2, hc, k1, rfl⟩⟩, fun i hi => ?_⟩
  obtain ⟨a1, a2⟩ := k3 i hi
  rw [List.getElem?_take, List.getElem?_take, if_pos (by omega), if_pos (by omega)]
  exact ⟨by simpa using a1, by simpa using a2⟩
theorem own_row {xs : List Value} (r : w.ownsRow 0 53 2 (.slice (some ⟨b, 0, none⟩) n c) n xs) (hx : ∀ i, i < n → xs[i * 2]? = some (.int .i64 (h i).id) ∧ xs[i * 2 + 1]? = some (.int .i64 (h i).tm)) : RowAt w b n c h ∧ c ≤ maxLen := by
  rcases r.2 with ⟨h', _⟩ | ⟨b', c', cur, h', _, hg, hc, hm, hs, ht⟩
  · simp at h'
  · simp only [Value.slice.injEq, Option.some.injEq, Addr.mk.injEq, and_true, true_and] at h'
    obtain ⟨rfl, rfl⟩ := h'
    refine ⟨⟨cur, hg, hs, hc, fun i hi => ?_⟩, hm⟩
    obtain ⟨a1, a2⟩ := hx i hi
    rw [← ht, List.getElem?_take] at a1 a2
    split at a1
    · split at a2
      · exact ⟨by simpa using a1, by simpa using a2⟩
      · cases a2
    · cases a1
theorem own_some {B e size : Nat} {xs : List Value} (r : w.ownsRow B e size v (n + 1) xs) : ∃ g c, v = .slice (some ⟨g, 0, none⟩) (n + 1) c := by
  rcases r.2 with ⟨_, h0⟩ | ⟨g, c, _, h1, _⟩
  · omega
  · exact ⟨g, c, h1⟩
theorem Me.app (M : Me w g mb now v n h N f) (hn : n < 1000) : ∃ b c w', (Builtin.append_ #[48, 48] 48 #[v, .slice (some ⟨w.heap.size, 0, none⟩) 1 1]).run Try.prog (w.alloc (.cells #[.int .i64 0, .int .i64 0] 53)) = .ok (.slice (some ⟨b, 0, none⟩) (n + 1) c) w' ∧
    w'.cell? ⟨g, 1, none⟩ = some v ∧ w'.frozen? ⟨g, 1, none⟩ = false ∧
    Hq (w'.setCell ⟨g, 1, none⟩ (.slice (some ⟨b, 0, none⟩) (n + 1) c)) g mb now b (n + 1) c (upd h n ⟨0, 0⟩) N f ∧ Kp w (w'.setCell ⟨g, 1, none⟩ (.slice (some ⟨b, 0, none⟩) (n + 1) c)) g mb v.ownBlock ∧ (v.ownBlock = some b ∨ w.heap.size ≤ b) := by
  obtain ⟨i0, hi, hq⟩ := Option.map_eq_some_iff.1 infoD
  simp only [Prod.mk.injEq] at hq
  obtain ⟨q1, q2, q3⟩ := hq
  have hb := Blk.new w #[.int .i64 0, .int .i64 0] 53
  obtain ⟨xs, hx1, hx2⟩ : ∃ xs, w.ownsRow 0 53 2 v n xs ∧ ∀ i, i < n → xs[i * 2]? = some (.int .i64 (h i).id) ∧ xs[i * 2 + 1]? = some (.int .i64 (h i).tm) := by
    rcases M.row with ⟨rfl, rfl⟩ | ⟨b, c, rfl, r, _, h2⟩
    · exact ⟨[], World.ownsRow_nil _ _ _ _, fun i hi => by omega⟩
    · exact r.own h2
  have hxl : xs.length = n * 2 := hx1.1
  obtain ⟨v', w', hr, h2, h3, _, h5⟩ := run_append_own_at (P := Try.prog) (w.alloc (.cells #[.int .i64 0, .int .i64 0] 53)) 0 48 48 53 i0 _ 2 16 Try.underlying48 hi q1 q2 q3 rfl (by omega) v n xs (hx1.alloc _) ⟨w.heap.size, 0, none⟩ 1 1 [.int .i64 0, .int .i64 0] rfl
    (fun j u hj => by
      rw [Addr.add_mid, Nat.zero_add, hb.cell]
      simpa using hj) (fun u hu => by simp at hu; rcases hu with rfl | rfl <;> rfl) (by unfold maxLen; omega) (by omega) (by omega)
  obtain ⟨b, c, rfl⟩ := own_some h2
  have hrow := own_row (h := upd h n ⟨0, 0⟩) h2 (fun i hi => by
    by_cases e : i = n
    · subst e
      rw [upd_at, List.getElem?_append_right (by omega), List.getElem?_append_right (by omega), hxl, Nat.sub_self, show i * 2 + 1 - i * 2 = 1 by omega]
      exact ⟨rfl, rfl⟩
    · rw [upd_ne e, List.getElem?_append_left (by omega), List.getElem?_append_left (by omega)]
      exact hx2 i (by omega))
  have hgl := M.lt
  have hml := M.map.lt
  have hog : v.ownBlock ≠ some g := fun e => (M.own_lt e).2.1 rfl
  have hom : v.ownBlock ≠ some mb := fun e => (M.own_lt e).2.2 rfl
  have hbo : v.ownBlock = some b ∨ b = w.heap.size + 1 := by
    rcases h5 with h5 | h5
    · exact .inl (h5.symm.trans rfl)
    · exact .inr (by have := Option.some.inj h5; simpa using this)
  have hbg : b ≠ g := by
    rcases hbo with e | e
    · exact fun x => hog (x ▸ e)
    · omega
  have hbm : b ≠ mb := by
    rcases hbo with e | e
    · exact fun x => hom (x ▸ e)
    · omega
  have hB : Below w.heap.size w (w.alloc (.cells #[.int .i64 0, .int .i64 0] 53)) := (Below.refl _ _).alloc (Nat.le_refl _) _
  have K1 : Kp w w' g mb v.ownBlock := (Kp.of hB g mb _).trans (Kp.row h3)
  have hbk : Blk w' g #[.int .i64 now, v, .map (some mb)] 50 := (h3.block g (by simp; omega) (fun e => hog e.symm)).trans ((hB.block g hgl).trans M.blk)
  have e : ∀ j, j ≠ g → (w'.setCell ⟨g, 1, none⟩ (.slice (some ⟨b, 0, none⟩) (n + 1) c)).heap[j]? = w'.heap[j]? := fun j hj => heap_setCell_other _ ⟨g, 1, none⟩ j _ hj
  refine ⟨b, c, w', hr, hbk.cell 1, hbk.free 1, ⟨hbk.put 1 _, hrow.1.same (e b hbg), ?_, hbg, hrow.2, fun i hi => ?_, by omega⟩, K1.trans (Kp.own _ g mb _ 1 _), hbo.imp id (fun e => by omega)⟩
  · exact M.map.same ((e mb (Ne.symm M.gm)).trans ((h3.block mb (by simp; omega) (fun e => hom e.symm)).trans (hB.block mb hml)))
  · by_cases e : i = n
    · subst e; rw [upd_at]; exact rfl
    · rw [upd_ne e]; exact M.ids i (by omega)
end

/-! the rows in order -/
theorem Con.set_old {h : Nat → Du} {n p : Nat} {f : Int → Option Nat} {E : List Int} {K : List Du} (C : Con h n K) (G : Gd h n f E) (hp : p < n) (t : Int) : Con (upd h p ⟨(h p).id, t⟩) n (setK (h p).id t K) := by
  refine ⟨fun d => ?_, ?_, ord_setK _ _ C.ord⟩
  · rw [mem_setK]
    constructor
    · rintro (rfl | ⟨h1, h2⟩)
      · exact ⟨p, hp, upd_at _ _ _⟩
      · obtain ⟨i, hi, rfl⟩ := (C.mem d).1 h1
        exact ⟨i, hi, upd_ne fun e => h2 (by rw [e])⟩
    · rintro ⟨i, hi, e⟩
      by_cases ei : i = p
      · subst ei; rw [upd_at] at e; exact .inl e.symm
      · rw [upd_ne ei] at e
        exact .inr ⟨(C.mem d).2 ⟨i, hi, e⟩, fun x => ei (G.inj hi hp (by rw [e, x]))⟩
  · have hm : h p ∈ K := (C.mem _).2 ⟨p, hp, rfl⟩
    have := del_len (C.ids G) C.ord hm rfl
    rw [setK, len_insK, this]
    exact C.len
theorem Con.set_new {h : Nat → Du} {n : Nat} {K : List Du} (C : Con h n K) {k : Int} (hk : ∀ i, i < n → (h i).id ≠ k) (t : Int) : Con (upd h n ⟨k, t⟩) (n + 1) (setK k t K) := by
  have hK : ∀ d ∈ K, d.id ≠ k := fun d hd => by
    obtain ⟨i, hi, rfl⟩ := (C.mem d).1 hd
    exact hk i hi
  refine ⟨fun d => ?_, ?_, ord_setK _ _ C.ord⟩
  · rw [mem_setK]
    constructor
    · rintro (rfl | ⟨h1, h2⟩)
      · exact ⟨n, by omega, upd_at _ _ _⟩
      · obtain ⟨i, hi, rfl⟩ := (C.mem d).1 h1
        exact ⟨i, by omega, upd_ne (by omega)⟩
    · rintro ⟨i, hi, e⟩
      by_cases ei : i = n
      · subst ei; rw [upd_at] at e; exact .inl e.symm
      · rw [upd_ne ei] at e
        have hd := (C.mem d).2 ⟨i, by omega, e⟩
        exact .inr ⟨hd, hK d hd⟩
  · rw [setK, len_insK, del_none hK, ← C.len]
theorem Con.del {h h' : Nat → Du} {m p : Nat} {f : Int → Option Nat} {E : List Int} {K : List Du} (C : Con h (m + 1) K) (G : Gd h (m + 1) f E) (hp : p < m + 1) (B : But h h' m p) : Con h' m (delK (h p).id K) := by
  refine ⟨fun d => ?_, ?_, C.ord.filter _⟩
  · rw [mem_delK, B d]
    constructor
    · rintro ⟨h1, h2⟩
      obtain ⟨i, hi, rfl⟩ := (C.mem d).1 h1
      exact ⟨i, hi, fun e => h2 (by rw [e]), rfl⟩
    · rintro ⟨i, hi, hn, rfl⟩
      exact ⟨(C.mem _).2 ⟨i, hi, rfl⟩, fun e => hn (G.inj hi hp e)⟩
  · have hm : h p ∈ K := (C.mem _).2 ⟨p, hp, rfl⟩
    have := del_len (C.ids G) C.ord hm rfl
    have := C.len
    omega
theorem Gd.set_old {h : Nat → Du} {n p : Nat} {f : Int → Option Nat} (G : Gd h n f []) (hp : p < n) (t : Int) : Gd (upd h p ⟨(h p).id, t⟩) n f [] := by
  have hid : ∀ i, (upd h p ⟨(h p).id, t⟩ i).id = (h i).id := fun i => by
    by_cases e : i = p
    · subst e; rw [upd_at]
    · rw [upd_ne e]
  exact ⟨fun i hi => by rw [hid]; exact G.fits i hi, fun k hk => (G.back k hk).imp (fun ⟨i, hi, e⟩ => ⟨i, hi, by rw [hid]; exact e⟩) id, (fun k hk => by cases hk), List.nodup_nil⟩
theorem Gd.set_new {h : Nat → Du} {n : Nat} {f : Int → Option Nat} (G : Gd h n f []) {k : Int} (hk : f k = none) (t : Int) : Gd (upd h n ⟨k, t⟩) (n + 1) (upf f k n) [] := by
  have hne : ∀ i, i < n → (h i).id ≠ k := fun i hi e => by have := G.fits i hi; rw [e, hk] at this; cases this
  refine ⟨fun i hi => ?_, fun j hj => .inl ?_, fun j hj => (by cases hj), List.nodup_nil⟩
  · by_cases e : i = n
    · subst e; rw [upd_at, upf_at]
    · rw [upd_ne e, upf_ne (hne i (by omega))]; exact G.fits i (by omega)
  · by_cases e : j = k
    · subst e; exact ⟨n, by omega, by rw [upd_at]⟩
    · rw [upf_ne e] at hj
      rcases G.back j hj with ⟨i, hi, e⟩ | h
      · exact ⟨i, by omega, by rw [upd_ne (by omega)]; exact e⟩
      · cases h
theorem Gd.none {h : Nat → Du} {n : Nat} {f : Int → Option Nat} {E : List Int} {K : List Du} (C : Con h n K) (G : Gd h n f E) {k : Int} (hk : f k = none) : (∀ i, i < n → (h i).id ≠ k) ∧ hasK k K = false := by
  have hne : ∀ i, i < n → (h i).id ≠ k := fun i hi e => by have := G.fits i hi; rw [e, hk] at this; cases this
  refine ⟨hne, hasK_no fun d hd => ?_⟩
  obtain ⟨i, hi, rfl⟩ := (C.mem d).1 hd
  exact hne i hi
theorem Gd.some {h : Nat → Du} {n p : Nat} {f : Int → Option Nat} {K : List Du} (C : Con h n K) (G : Gd h n f []) {k : Int} (hk : f k = some p) : p < n ∧ (h p).id = k ∧ hasK k K = true := by
  rcases G.back k (by rw [hk]; simp) with ⟨i, hi, e⟩ | h
  · have := G.fits i hi
    rw [e, hk] at this
    obtain rfl := Option.some.inj this
    exact ⟨hi, e, (hasK_yes k K).2 ⟨h p, (C.mem _).2 ⟨p, hi, rfl⟩, e⟩⟩
  · cases h
theorem Heap.congr {h h' : Nat → Du} {n : Nat} (H : Heap h n) (e : ∀ i, i < n → h' i = h i) : Heap h' n := fun i h1 h2 => by
  rw [e i h2, e _ (by omega)]; exact H i h1 h2

/-- timers in block g: the time, and the row in order -/
structure Tk (w : World) (g mb : Nat) (v : Value) (now : Int) (K : List Du) (h : Nat → Du) (f : Int → Option Nat) : Prop where
  me : Me w g mb now v K.length h K.length f
  heap : Heap h K.length
  gd : Gd h K.length f []
  con : Con h K.length K
def Tm (w : World) (g mb : Nat) (v : Value) (now : Int) (K : List Du) : Prop := ∃ h f, Tk w g mb v now K h f
/-- behind a change of them -/
def TmN (w w' : World) (g mb : Nat) (v : Value) (now : Int) (K : List Du) : Prop := ∃ v', Tm w' g mb v' now K ∧ Kp w w' g mb v.ownBlock ∧ (v'.ownBlock = v.ownBlock ∨ ∃ b, v'.ownBlock = some b ∧ w.heap.size ≤ b)
section
variable {w w' : World} {g mb : Nat} {v : Value} {now : Int} {K : List Du}
theorem Tm.bel (T : Tm w g mb v now K) (hb : Below w.heap.size w w') : Tm w' g mb v now K := by
  obtain ⟨h, f, T⟩ := T
  exact ⟨h, f, T.me.bel hb, T.heap, T.gd, T.con⟩
theorem Tm.lt (T : Tm w g mb v now K) : g < w.heap.size := by obtain ⟨h, f, T⟩ := T; exact T.me.lt
theorem Tm.len (T : Tm w g mb v now K) : K.length ≤ 1000 := by obtain ⟨h, f, T⟩ := T; exact T.me.len
theorem Tm.ord (T : Tm w g mb v now K) : Ord K := by obtain ⟨h, f, T⟩ := T; exact T.con.ord
theorem Tm.ids (T : Tm w g mb v now K) : Ids K := by obtain ⟨h, f, T⟩ := T; exact T.con.ids T.gd
theorem Tm.form (T : Tm w g mb v now K) : ∃ a c, v = .slice a K.length c := by obtain ⟨h, f, T⟩ := T; exact T.me.form
theorem Tm.c0 (T : Tm w g mb v now K) : w.cell? ⟨g, 0, none⟩ = some (.int .i64 now) := by obtain ⟨h, f, T⟩ := T; exact T.me.blk.cell 0
theorem Tm.c1 (T : Tm w g mb v now K) : w.cell? ⟨g, 1, none⟩ = some v := by obtain ⟨h, f, T⟩ := T; exact T.me.blk.cell 1
set_option maxHeartbeats 1000000 in
theorem now_any (T : Tm w g mb v now K) : Calls Try.prog 17 #[.pointer (some ⟨g, 0, none⟩)] w fun e w' => e = .returned (.int .i64 now) ∧ w' = w := by
  have c0 := T.c0
  clear T
  go_enter Try.func17, Try.ntmps17
  go_wp2
  go_ret
  exact ⟨rfl, rfl⟩
theorem now_nil (w : World) : Calls Try.prog 17 #[.pointer none] w fun e w' => e = .returned (.int .i64 0) ∧ w' = w := by
  go_enter Try.func17, Try.ntmps17
  go_wp2
  go_ret
  exact ⟨rfl, rfl⟩
theorem size_any (T : Tm w g mb v now K) : Calls Try.prog 18 #[.pointer (some ⟨g, 0, none⟩)] w fun e w' => e = .returned (.int .i64 (K.length : Int)) ∧ w' = w := by
  have c1 := T.c1
  obtain ⟨a, c, rfl⟩ := T.form
  clear T
  go_enter Try.func18, Try.ntmps18
  go_wp2
  go_ret
  exact ⟨rfl, rfl⟩
theorem size_nil (w : World) : Calls Try.prog 18 #[.pointer none] w fun e w' => e = .returned (.int .i64 0) ∧ w' = w := by
  go_enter Try.func18, Try.ntmps18
  go_wp2
  go_ret
  exact ⟨rfl, rfl⟩
/-- what Next tells of a row -/
def nextV : List Du → Value
  | [] => .tuple #[.int .i64 0, .int .i64 0, .bool false]
  | d :: _ => .tuple #[.int .i64 d.id, .int .i64 d.tm, .bool true]
theorem next_nil (w : World) : Calls Try.prog 15 #[.pointer none] w fun e w' => e = .returned (.tuple #[.int .i64 0, .int .i64 0, .bool false]) ∧ w' = w := by
  have HS := Lib.hid (size_nil w)
  go_enter Try.func15, Try.ntmps15
  go_wp2_with (go_at_call 18; (with_reducible refine HS.out.mono ?_); rintro e w' ⟨rfl, rfl⟩)
  go_ret3
  exact ⟨rfl, rfl⟩
set_option maxHeartbeats 1000000 in
theorem next_any (T : Tm w g mb v now K) : Calls Try.prog 15 #[.pointer (some ⟨g, 0, none⟩)] w fun e w' => e = .returned (nextV K) ∧ Below w.heap.size w w' := by
  have HS := Lib.hid (size_any T)
  cases K with
  | nil =>
    clear T
    go_enter Try.func15, Try.ntmps15
    go_wp2_with (go_at_call 18; (with_reducible refine HS.out.mono ?_); rintro e w' ⟨rfl, rfl⟩)
    go_ret3
    exact ⟨rfl, Below.refl _ _⟩
  | cons d K =>
    have c1 := T.c1
    obtain ⟨h, f, T⟩ := T
    obtain ⟨b, c, rfl, H⟩ := T.me.hq (by simp)
    have e0 := T.con.head T.heap
    obtain ⟨r0, r1⟩ := H.row.cell (i := 0) (by simp)
    rw [e0] at r0 r1
    obtain ⟨n, hn⟩ : ∃ n, n = (d :: K).length := ⟨_, rfl⟩
    have hn1 : (0 : Int) < (n : Int) := by rw [hn]; simp only [List.length_cons]; omega
    have hn2 : ¬ ((n : Int) = 0) := by omega
    have hn3 : ((n : Int) == 0) = false := by simp; omega
    have hr0 : w.cell? ⟨b, 0, none⟩ = some (.int .i64 d.id) := by simpa using r0
    have hr1 : w.cell? ⟨b, 1, none⟩ = some (.int .i64 d.tm) := by simpa using r1
    rw [← hn] at HS c1
    clear T H hn r0 r1
    go_enter Try.func15, Try.ntmps15
    go_upto_region 3 with (go_at_call 18; (with_reducible refine HS.out.mono ?_); rintro e w' ⟨rfl, rfl⟩)
    go_quiet (fail)
    go_wp2
    go_ret3
    exact ⟨rfl, bel_drewN (Below.refl _ _) _⟩
set_option maxHeartbeats 1000000 in
theorem new_any (w : World) : Calls Try.prog 7 #[] w fun e w' => e = .returned (.pointer (some ⟨w.heap.size + 1, 0, none⟩)) ∧ Tm w' (w.heap.size + 1) w.heap.size (.slice none 0 0) 0 [] ∧ Below w.heap.size w w' := by
  have m0 := (OwnsF.made w).alloc (.cells #[.int .i64 0, .slice none 0 0, .map (some w.heap.size)] 50)
  have m1 := Blk.new (w.alloc (.map #[] 0)) #[.int .i64 0, .slice none 0 0, .map (some w.heap.size)] 50
  have hB := ((Below.refl w.heap.size w).alloc (Nat.le_refl _) (.map #[] 0)).alloc (by simp) (.cells #[.int .i64 0, .slice none 0 0, .map (some w.heap.size)] 50)
  rw [World.size_alloc] at m1
  have HF : Hid (Tm ((w.alloc (.map #[] 0)).alloc (.cells #[.int .i64 0, .slice none 0 0, .map (some w.heap.size)] 50)) (w.heap.size + 1) w.heap.size (.slice none 0 0) 0 []) :=
    ⟨fun _ => ⟨0, 0⟩, fun _ => none, ⟨m1, .inl ⟨rfl, rfl⟩, m0, fun i hi => by simp at hi, by simp⟩, fun i h1 h2 => by simp at h2, ⟨fun i hi => by simp at hi, fun k hk => absurd rfl hk, (fun k hk => by cases hk), List.nodup_nil⟩, ⟨fun d => by simp, rfl, List.Pairwise.nil⟩⟩
  have HB := Lib.hid hB
  have hmk := @run_makeMap Try.prog
  clear m0 m1 hB
  go_enter Try.func7, Try.ntmps7
  go_wp2
  go_ret
  exact ⟨rfl, HF.out, HB.out⟩
end
end Go.Proofs.Ytboojbgcleknlaa
