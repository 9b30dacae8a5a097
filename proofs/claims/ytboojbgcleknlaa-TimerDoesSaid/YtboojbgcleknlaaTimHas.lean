/- What each call answers and leaves, at any row; timers of a law's own; two rows of numbers that are the same; the document's example. -/
import Derived.Test.YtboojbgcleknlaaTimRef4
namespace Go.Proofs.Ytboojbgcleknlaa
open Go Go.RowKit Go.Sort

def codeS (now : Int) (K : List Du) (k t : Int) : Int := if t < now then 1 else if hasK k K = false ∧ 1000 ≤ K.length then 12 else 0
def rowS (now : Int) (K : List Du) (k t : Int) : List Du := if t < now then K else if hasK k K = false ∧ 1000 ≤ K.length then K else setK k t K
def outT (now t : Int) (K : List Du) : List Int := if t < now then [] else (dueK t K).map (·.id)
def codeT (now t : Int) : Int := if t < now then 1 else 0
def rowT (now t : Int) (K : List Du) : List Du := if t < now then K else restK t K
def nowT (now t : Int) : Int := if t < now then now else t
section
variable {w w' : World} {g mb : Nat} {v : Value} {now : Int} {K : List Du}
theorem TmN.refl (T : Tm w g mb v now K) : TmN w w g mb v now K := ⟨v, T, Kp.refl _ _ _ _, .inl rfl⟩
theorem set_all (T : Tm w g mb v now K) {k : Int} (hk : Fit k) (t : Int) : Calls Try.prog 8 #[.pointer (some ⟨g, 0, none⟩), .int .i64 k, .int .i64 t] w fun e w' => e = .returned (.int .i64 (codeS now K k t)) ∧ TmN w w' g mb v now (rowS now K k t) := by
  unfold codeS rowS
  by_cases h1 : t < now
  · rw [if_pos h1, if_pos h1]
    refine (set_past T h1 k).mono ?_
    rintro e w1 ⟨rfl, rfl⟩
    exact ⟨rfl, TmN.refl T⟩
  · rw [if_neg h1, if_neg h1]
    cases h2 : hasK k K with
    | true =>
      rw [if_neg (by simp), if_neg (by simp)]
      exact set_old T h1 hk h2
    | false =>
      by_cases h3 : 1000 ≤ K.length
      · rw [if_pos ⟨rfl, h3⟩, if_pos ⟨rfl, h3⟩]
        refine (set_full T h1 hk h2 h3).mono ?_
        rintro e w1 ⟨rfl, rfl⟩
        exact ⟨rfl, TmN.refl T⟩
      · rw [if_neg (fun h => h3 h.2), if_neg (fun h => h3 h.2)]
        exact set_new T h1 hk h2 (by omega)
theorem cancel_all (T : Tm w g mb v now K) {k : Int} (hk : Fit k) : Calls Try.prog 10 #[.pointer (some ⟨g, 0, none⟩), .int .i64 k] w fun e w' => e = .returned (.bool (hasK k K)) ∧ TmN w w' g mb v now (delK k K) := by
  cases h : hasK k K with
  | true => exact cancel_yes T hk h
  | false =>
    refine (cancel_no T hk h).mono ?_
    rintro e w1 ⟨rfl, rfl⟩
    refine ⟨rfl, ?_⟩
    rw [del_none fun d hd e => by
      have := (hasK_yes k K).2 ⟨d, hd, e⟩
      rw [h] at this
      cases this]
    exact TmN.refl T
theorem tick_all (T : Tm w g mb v now K) (t : Int) : Calls Try.prog 12 #[.pointer (some ⟨g, 0, none⟩), .int .i64 t] w fun e w' => ∃ a c, e = .returned (.tuple #[.slice a (outT now t K).length c, .int .i64 (codeT now t)]) ∧ IsI w' (.slice a (outT now t K).length c) (outT now t K) ∧ TmN w w' g mb v (nowT now t) (rowT now t K) := by
  unfold outT codeT nowT rowT
  by_cases h1 : t < now
  · rw [if_pos h1, if_pos h1, if_pos h1, if_pos h1]
    refine (tick_past T h1).mono ?_
    rintro e w1 ⟨rfl, rfl⟩
    exact ⟨none, 0, rfl, ⟨none, 0, rfl, .inl ⟨rfl, rfl, rfl⟩⟩, TmN.refl T⟩
  · rw [if_neg h1, if_neg h1, if_neg h1, if_neg h1]
    refine (tick_any T h1).mono ?_
    rintro e w1 ⟨a, c, rfl, h⟩
    rw [List.length_map]
    exact ⟨a, c, rfl, h.2, h.1⟩
/-- blocks of other types are none of theirs -/
theorem Tm.apart (T : Tm w g mb v now K) {j : Nat} {cs : Array Value} {ty : TypeId} (h : Blk w j cs ty) (h1 : ty ≠ 50) (h2 : ty ≠ 53) : j ≠ g ∧ j ≠ mb ∧ v.ownBlock ≠ some j := by
  obtain ⟨hh, f, T⟩ := T
  refine ⟨h.type T.me.blk h1, T.me.map.ne h, fun e => ?_⟩
  rcases T.me.row with ⟨rfl, _⟩ | ⟨b, c, rfl, r, _⟩
  · cases e
  · obtain rfl : b = j := Option.some.inj e
    obtain ⟨cur, r, _⟩ := r
    exact h.type r h2 rfl
theorem Blk.tmN {K' : List Du} {now' : Int} (T : Tm w g mb v now K) (N : TmN w w' g mb v now' K') {j : Nat} {cs : Array Value} {ty : TypeId} (h : Blk w j cs ty) (h1 : ty ≠ 50) (h2 : ty ≠ 53) : Blk w' j cs ty := by
  obtain ⟨v', _, K1, _⟩ := N
  obtain ⟨a1, a2, a3⟩ := T.apart h h1 h2
  exact h.kp K1 a1 a2 a3
theorem IsI.tmN {K' : List Du} {now' : Int} {u : Value} {l : List Int} (h : IsI w u l) (T : Tm w g mb v now K) (N : TmN w w' g mb v now' K') : IsI w' u l := by
  obtain ⟨a, c, h1, h2⟩ := h
  refine ⟨a, c, h1, h2.imp id ?_⟩
  rintro ⟨b, cs, h3, h4, h5⟩
  exact ⟨b, cs, h3, Blk.tmN T N h4 (by decide) (by decide), h5⟩
end

/-- timers of a law's own in block g; below block B nothing has changed -/
def HasT (B : Nat) (w0 w : World) (g : Nat) (now : Int) (K : List Du) : Prop := ∃ mb v, Tm w g mb v now K ∧ Below B w0 w ∧ B ≤ w.heap.size ∧ B ≤ g ∧ B ≤ mb ∧ ∀ k, v.ownBlock = some k → B ≤ k
section
variable {B : Nat} {w0 w w' : World} {g : Nat} {now : Int} {K : List Du}
theorem HasT.bel (h : HasT B w0 w g now K) (hb : Below w.heap.size w w') : HasT B w0 w' g now K := by
  obtain ⟨mb, v, T, h1, h2, h3⟩ := h
  exact ⟨mb, v, T.bel hb, h1.trans (hb.mono h2), Nat.le_trans h2 hb.size, h3⟩
theorem HasT.le (h : HasT B w0 w g now K) : B ≤ w.heap.size := by obtain ⟨_, _, _, _, h, _⟩ := h; exact h
theorem HasT.below (h : HasT B w0 w g now K) : Below B w0 w := by obtain ⟨_, _, _, h, _⟩ := h; exact h
theorem HasT.len (h : HasT B w0 w g now K) : K.length ≤ 1000 := by obtain ⟨_, _, T, _⟩ := h; exact T.len
theorem HasT.step {mb : Nat} {v : Value} {now' : Int} {K' : List Du} (h1 : Below B w0 w) (h2 : B ≤ w.heap.size) (h3 : B ≤ g) (h4 : B ≤ mb) (h5 : ∀ k, v.ownBlock = some k → B ≤ k) (N : TmN w w' g mb v now' K') : HasT B w0 w' g now' K' := by
  obtain ⟨v', T', K1, hv⟩ := N
  refine ⟨mb, v', T', h1.trans ⟨K1.os, K1.tape, K1.output, K1.size, fun k hk => K1.block k (by omega) (by omega) (by omega) (fun e => by have := h5 k e; omega)⟩, Nat.le_trans h2 K1.size, h3, h4, fun k hk => ?_⟩
  rcases hv with hv | ⟨b, hb, hl⟩
  · exact h5 k (hv ▸ hk)
  · rw [hb] at hk; have := Option.some.inj hk; omega
theorem ht_new (hb : Below B w0 w) (hB : B ≤ w.heap.size) : Calls Try.prog 7 #[] w fun e w' => e = .returned (.pointer (some ⟨w.heap.size + 1, 0, none⟩)) ∧ HasT B w0 w' (w.heap.size + 1) 0 [] ∧ Below w.heap.size w w' := by
  refine (new_any w).mono ?_
  rintro e w1 ⟨rfl, T, h⟩
  exact ⟨rfl, ⟨w.heap.size, _, T, hb.trans (h.mono hB), Nat.le_trans hB h.size, by omega, hB, fun k hk => by cases hk⟩, h⟩
theorem ht_set (h : HasT B w0 w g now K) {k : Int} (hk : Fit k) (t : Int) : Calls Try.prog 8 #[.pointer (some ⟨g, 0, none⟩), .int .i64 k, .int .i64 t] w fun e w' => e = .returned (.int .i64 (codeS now K k t)) ∧ HasT B w0 w' g now (rowS now K k t) := by
  obtain ⟨mb, v, T, h1, h2, h3, h4, h5⟩ := h
  refine (set_all T hk t).mono ?_
  rintro e w1 ⟨rfl, N⟩
  exact ⟨rfl, HasT.step h1 h2 h3 h4 h5 N⟩
theorem ht_cancel (h : HasT B w0 w g now K) {k : Int} (hk : Fit k) : Calls Try.prog 10 #[.pointer (some ⟨g, 0, none⟩), .int .i64 k] w fun e w' => e = .returned (.bool (hasK k K)) ∧ HasT B w0 w' g now (delK k K) := by
  obtain ⟨mb, v, T, h1, h2, h3, h4, h5⟩ := h
  refine (cancel_all T hk).mono ?_
  rintro e w1 ⟨rfl, N⟩
  exact ⟨rfl, HasT.step h1 h2 h3 h4 h5 N⟩
theorem ht_tick (h : HasT B w0 w g now K) (t : Int) : Calls Try.prog 12 #[.pointer (some ⟨g, 0, none⟩), .int .i64 t] w fun e w' => ∃ a c, e = .returned (.tuple #[.slice a (outT now t K).length c, .int .i64 (codeT now t)]) ∧ IsI w' (.slice a (outT now t K).length c) (outT now t K) ∧ HasT B w0 w' g (nowT now t) (rowT now t K) := by
  obtain ⟨mb, v, T, h1, h2, h3, h4, h5⟩ := h
  refine (tick_all T t).mono ?_
  rintro e w1 ⟨a, c, rfl, hI, N⟩
  exact ⟨a, c, rfl, hI, HasT.step h1 h2 h3 h4 h5 N⟩
theorem ht_next (h : HasT B w0 w g now K) : Calls Try.prog 15 #[.pointer (some ⟨g, 0, none⟩)] w fun e w' => e = .returned (nextV K) ∧ HasT B w0 w' g now K := by
  obtain ⟨mb, v, T, _⟩ := id h
  refine (next_any T).mono ?_
  rintro e w1 ⟨rfl, hb⟩
  exact ⟨rfl, h.bel hb⟩
theorem ht_now (h : HasT B w0 w g now K) : Calls Try.prog 17 #[.pointer (some ⟨g, 0, none⟩)] w fun e w' => e = .returned (.int .i64 now) ∧ w' = w := by
  obtain ⟨mb, v, T, _⟩ := h
  exact now_any T
theorem ht_size (h : HasT B w0 w g now K) : Calls Try.prog 18 #[.pointer (some ⟨g, 0, none⟩)] w fun e w' => e = .returned (.int .i64 (K.length : Int)) ∧ w' = w := by
  obtain ⟨mb, v, T, _⟩ := h
  exact size_any T
end

set_option maxHeartbeats 2000000 in
theorem ints_same {u v : Value} {l : List Int} {w : World} (hu : IsI w u l) (hv : IsI w v l) (hl : l.length ≤ 1000000) : Calls Try.prog 14 #[u, v] w fun e w' => e = .returned (.bool true) ∧ Below w.heap.size w w' := by
  obtain ⟨ua, uc, rfl, hu2⟩ := hu
  obtain ⟨va, vc, rfl, hv2⟩ := hv
  have HU := Lib.hid hu2
  have HV := Lib.hid hv2
  obtain ⟨n, hn⟩ : ∃ n, n = l.length := ⟨_, rfl⟩
  have HN := Lib.hid hn
  rw [← hn] at hl
  rw [← hn]
  clear hu2 hv2 hn
  go_enter Try.func14, Try.ntmps14
  go_wp2
  go_loopw [5] (fun kv wr => ∃ p : Nat, p ≤ n ∧ kv = .int .i64 p ∧ Below w.heap.size w wr) (fun kv _ => n - (intOf kv).toNat)
  case atStart => exact ⟨0, by omega, rfl, Below.refl _ _⟩
  case round =>
    obtain ⟨p, hp, rfl, hB⟩ := hrel
    have HB := Lib.hid hB
    clear hB
    by_cases hlt : p < n
    · obtain ⟨x, hx⟩ : ∃ x, l[p]? = some x := ⟨_, List.getElem?_eq_getElem (by have := HN.out; omega)⟩
      have hne : l ≠ [] := by rintro rfl; simp at hx
      obtain ⟨b1, cs1, rfl, l1, e1⟩ := HU.out.resolve_left (fun h => hne h.1)
      obtain ⟨b2, cs2, rfl, l2, e2⟩ := HV.out.resolve_left (fun h => hne h.1)
      have c1 : wr.cell? ⟨b1, p, none⟩ = some (.int .i64 x) := ((l1.below HB.out l1.lt).cell p).trans (e1 p x hx)
      have c2 : wr.cell? ⟨b2, p, none⟩ = some (.int .i64 x) := ((l2.below HB.out l2.lt).cell p).trans (e2 p x hx)
      have HB2 := Lib.hid (HB.out.trans ((drew_bel wr).mono HB.out.size))
      clear hx hne l1 l2 e1 e2
      go_wp2
      go_region
      go_wp2
      exact ⟨⟨p + 1, by omega, by go_num, HB2.out⟩, by simp [intOf]; omega⟩
    · obtain rfl : n = p := by omega
      go_wp2
      go_ret
      exact ⟨rfl, HB.out⟩
/-- a row of numbers that stands written in the text -/
theorem lit_isI (w : World) (l : List Int) (cs : Array Value) (h : ∀ (j : Nat) (x : Int), l[j]? = some x → cs[j]? = some (.int .i64 x)) : IsI (w.alloc (.cells cs 3)) (.slice (some ⟨w.heap.size, 0, none⟩) l.length l.length) l := ⟨_, _, rfl, .inr ⟨_, cs, rfl, Blk.new _ _ _, h⟩⟩

/-! the document's example -/
section
variable {B : Nat} {w0 w w' : World} {g : Nat}
def K1 : List Du := [⟨7, 5⟩]
def K2 : List Du := [⟨3, 5⟩, ⟨7, 5⟩]
def K3 : List Du := [⟨9, 2⟩, ⟨3, 5⟩, ⟨7, 5⟩]
theorem ex_set1 (h : HasT B w0 w g 0 []) : Calls Try.prog 8 #[.pointer (some ⟨g, 0, none⟩), .int .i64 7, .int .i64 5] w fun e w' => e = .returned (.int .i64 0) ∧ HasT B w0 w' g 0 K1 := ht_set h (k := 7) rfl 5
theorem ex_set2 (h : HasT B w0 w g 0 K1) : Calls Try.prog 8 #[.pointer (some ⟨g, 0, none⟩), .int .i64 3, .int .i64 5] w fun e w' => e = .returned (.int .i64 0) ∧ HasT B w0 w' g 0 K2 := ht_set h (k := 3) rfl 5
theorem ex_set3 (h : HasT B w0 w g 0 K2) : Calls Try.prog 8 #[.pointer (some ⟨g, 0, none⟩), .int .i64 9, .int .i64 2] w fun e w' => e = .returned (.int .i64 0) ∧ HasT B w0 w' g 0 K3 := ht_set h (k := 9) rfl 2
theorem ex_next (h : HasT B w0 w g 0 K3) : Calls Try.prog 15 #[.pointer (some ⟨g, 0, none⟩)] w fun e w' => e = .returned (.tuple #[.int .i64 9, .int .i64 2, .bool true]) ∧ HasT B w0 w' g 0 K3 := ht_next h
theorem ex_tick (h : HasT B w0 w g 0 K3) : Calls Try.prog 12 #[.pointer (some ⟨g, 0, none⟩), .int .i64 5] w fun e w' => ∃ a c, e = .returned (.tuple #[.slice a 3 c, .int .i64 0]) ∧ IsI w' (.slice a 3 c) [9, 3, 7] ∧ HasT B w0 w' g 5 [] := ht_tick h 5
theorem ex_set4 (h : HasT B w0 w g 5 []) : Calls Try.prog 8 #[.pointer (some ⟨g, 0, none⟩), .int .i64 1, .int .i64 4] w fun e w' => e = .returned (.int .i64 1) ∧ HasT B w0 w' g 5 [] := ht_set h (k := 1) rfl 4
end
set_option maxRecDepth 100000 in
set_option maxHeartbeats 4000000 in
theorem timed_any (w : World) : Calls Try.prog 19 #[] w fun e w' => e = .returned (.bool true) ∧ Below w.heap.size w w' := by
  have H0 := Lib.hid (ht_new (Below.refl w.heap.size w) (Nat.le_refl _))
  go_enter Try.func19, Try.ntmps19
  go_upto_region 4 with (go_at_call 7; (with_reducible refine H0.out.mono ?_); rintro e w1 ⟨rfl, h1, _⟩; have H1 := Lib.hid (ex_set1 h1); clear h1)
  generalize w.heap.size + 1 = g at *
  go_upto_region 5 with (go_at_call 8; (with_reducible refine H1.out.mono ?_); rintro e w2 ⟨rfl, h2⟩; have H2 := Lib.hid (ex_set2 h2); clear h2)
  go_upto_region 6 with (go_at_call 8; (with_reducible refine H2.out.mono ?_); rintro e w3 ⟨rfl, h3⟩; have H3 := Lib.hid (ex_set3 h3); clear h3)
  go_upto_region 7 with (go_at_call 8; (with_reducible refine H3.out.mono ?_); rintro e w4 ⟨rfl, h4⟩; have H4 := Lib.hid (ex_next h4); clear h4)
  go_upto_region 8 with (go_at_call 15; (with_reducible refine H4.out.mono ?_); rintro e w5 ⟨rfl, h5⟩; have H5 := Lib.hid (ex_tick h5); clear h5)
  go_upto_region 9 with (go_at_call 12; (with_reducible refine H5.out.mono ?_); rintro e w6 ⟨a, c, rfl, hI, h6⟩; have H6 := Lib.hid h6; have HI := Lib.hid hI; clear h6 hI)
  have b6 : Below w6.heap.size w6 (w6.alloc (.cells #[.int .i64 9, .int .i64 3, .int .i64 7] 3)) := (Below.refl _ _).alloc (Nat.le_refl _) _
  have HC : Hid (Calls Try.prog 14 #[.slice a 3 c, .slice (some ⟨w6.heap.size, 0, none⟩) 3 3] (w6.alloc (.cells #[.int .i64 9, .int .i64 3, .int .i64 7] 3)) fun e w' => e = .returned (.bool true) ∧ Hid (HasT w.heap.size w w' g 5 [])) :=
    (ints_same (HI.out.bel b6) (lit_isI w6 [9, 3, 7] #[.int .i64 9, .int .i64 3, .int .i64 7] (fun j x hj => by
      match j, hj with
      | 0, hj => simp at hj; subst hj; rfl
      | 1, hj => simp at hj; subst hj; rfl
      | 2, hj => simp at hj; subst hj; rfl
      | j + 3, hj => simp at hj)) (by decide)).mono fun e w' hh => ⟨hh.1, (H6.out.bel b6).bel hh.2⟩
  clear b6 H0 H1 H2 H3 H4 H5
  go_wp2_with (first
    | (go_at_call 14; (with_reducible refine HC.out.mono ?_); rintro e w7 ⟨rfl, h7⟩)
    | (go_at_call 17; (with_reducible refine (ht_now h7.out).mono ?_); rintro e w8 ⟨rfl, rfl⟩)
    | (go_at_call 18; (with_reducible refine (ht_size h7.out).mono ?_); rintro e w9 ⟨rfl, rfl⟩)
    | (go_at_call 8; (with_reducible refine (ex_set4 h7.out).mono ?_); rintro e w10 ⟨rfl, h10⟩))
  go_ret
  exact ⟨rfl, h10.below⟩
end Go.Proofs.Ytboojbgcleknlaa
