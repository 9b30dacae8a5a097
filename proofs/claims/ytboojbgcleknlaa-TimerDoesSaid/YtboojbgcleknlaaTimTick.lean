/- What is due by a time is told, and is gone. -/
import Derived.Test.YtboojbgcleknlaaTimSet
namespace Go.Proofs.Ytboojbgcleknlaa
open Go Go.RowKit Go.Sort

theorem infoN : (Try.prog.info? 3).map (fun i => (i.zero, i.size, i.bytes)) = some (some (.int .i64 0), 1, 8) := by kernel_rfl
/-- the cells of numbers -/
def ints (l : List Int) : List Value := l.map (Value.int .i64)
/-- one more number behind a row of the call's own -/
theorem app_int {W : World} {B : Nat} {v : Value} {l : List Int} (h : W.ownsRow B 3 1 v l.length (ints l)) (x : Int) (hB : B ≤ W.heap.size) (hn : l.length ≤ 1000000) : ∃ g c w',
    (Builtin.append_ #[34, 34] 34 #[v, .slice (some ⟨W.heap.size, 0, none⟩) 1 1]).run Try.prog (W.alloc (.cells #[.int .i64 x] 3)) = .ok (.slice (some ⟨g, 0, none⟩) (l.length + 1) c) w' ∧
    w'.ownsRow B 3 1 (.slice (some ⟨g, 0, none⟩) (l.length + 1) c) (l ++ [x]).length (ints (l ++ [x])) ∧ (W.alloc (.cells #[.int .i64 x] 3)).grownBy w' v.ownBlock := by
  obtain ⟨i0, hi, hq⟩ := Option.map_eq_some_iff.1 infoN
  simp only [Prod.mk.injEq] at hq
  obtain ⟨q1, q2, q3⟩ := hq
  have hb := Blk.new W #[.int .i64 x] 3
  obtain ⟨v', w', hr, h2, h3, _, h5⟩ := run_append_own_at (P := Try.prog) (W.alloc (.cells #[.int .i64 x] 3)) B 34 34 3 i0 _ 1 8 Try.underlying34 hi q1 q2 q3 rfl (by omega) v l.length (ints l) (h.alloc _) ⟨W.heap.size, 0, none⟩ 1 1 (ints [x]) rfl
    (fun j u hj => by
      rw [Addr.add_mid, Nat.zero_add, hb.cell]
      simpa [ints] using hj) (fun u hu => by simp [ints] at hu; subst hu; rfl) (by unfold maxLen; omega) (by omega) (by simp; omega)
  obtain ⟨g, c, rfl⟩ := own_some h2
  refine ⟨g, c, w', hr, ?_, h3⟩
  rw [List.length_append, ints, List.map_append]
  exact h2
theorem own_keep {w w' : World} {B e size n : Nat} {v : Value} {xs : List Value} (h : w.ownsRow B e size v n xs) (hk : ∀ k, v.ownBlock = some k → w'.heap[k]? = w.heap[k]?) : w'.ownsRow B e size v n xs := by
  refine ⟨h.1, h.2.imp id ?_⟩
  rintro ⟨g, cap, cur, rfl, h1, h2, h3⟩
  exact ⟨g, cap, cur, rfl, h1, (hk g rfl).trans h2, h3⟩
theorem own_form {w : World} {B e size n : Nat} {v : Value} {xs : List Value} (h : w.ownsRow B e size v n xs) : ∃ a c, v = .slice a n c := by
  rcases h.2 with ⟨h1, rfl⟩ | ⟨g, cap, cur, hv, _⟩
  · exact ⟨_, _, h1⟩
  · exact ⟨_, _, hv⟩

/-! the row in order is parted -/
theorem split_due {A B : List Du} {t : Int} (hA : ∀ d ∈ A, d.tm ≤ t) (hB : ∀ d ∈ B, ¬ d.tm ≤ t) : dueK t (A ++ B) = A ∧ restK t (A ++ B) = B := by
  constructor
  · rw [dueK, List.filter_append, List.filter_eq_self.2 (fun d hd => by simpa using hA d hd), List.filter_eq_nil_iff.2 (fun d hd => by simpa using hB d hd), List.append_nil]
  · rw [restK, List.filter_append, List.filter_eq_nil_iff.2 (fun d hd => by simpa using hA d hd), List.filter_eq_self.2 (fun d hd => by simpa using hB d hd), List.nil_append]
theorem later_all {d : Du} {B : List Du} {t : Int} (ho : Ord (d :: B)) (h : ¬ d.tm ≤ t) : ∀ x ∈ d :: B, ¬ x.tm ≤ t := fun x hx => by
  rcases List.mem_cons.1 hx with rfl | hx
  · exact h
  · have := (List.pairwise_cons.1 ho).1 x hx
    unfold ahead at this
    omega
section
variable {w w' : World} {g mb : Nat} {v : Value} {now : Int} {K : List Du}
theorem tick_nil (t : Int) (w : World) : Calls Try.prog 12 #[.pointer none, .int .i64 t] w fun e w' => e = .returned (.tuple #[.slice none 0 0, .int .i64 6]) ∧ w' = w := by
  go_enter Try.func12, Try.ntmps12
  go_wp2
  go_ret2
  exact ⟨rfl, rfl⟩
theorem tick_past (T : Tm w g mb v now K) {t : Int} (ht : t < now) : Calls Try.prog 12 #[.pointer (some ⟨g, 0, none⟩), .int .i64 t] w fun e w' => e = .returned (.tuple #[.slice none 0 0, .int .i64 1]) ∧ w' = w := by
  have c0 := T.c0
  clear T
  go_enter Try.func12, Try.ntmps12
  go_wp2
  go_ret2
  exact ⟨rfl, rfl⟩
set_option maxHeartbeats 1000000 in
theorem tick_none (T : Tm w g mb v now []) {t : Int} (ht : ¬ t < now) : Calls Try.prog 12 #[.pointer (some ⟨g, 0, none⟩), .int .i64 t] w fun e w' => e = .returned (.tuple #[.slice none 0 0, .int .i64 0]) ∧ TmN w w' g mb v t [] := by
  have c0 := T.c0
  obtain ⟨a, c, rfl⟩ := T.form
  obtain ⟨h, f, T⟩ := T
  have hf0 := T.me.blk.free 0
  have c1 : w.cell? ⟨g, 1, none⟩ = some (.slice a 0 c) := T.me.blk.cell 1
  have d1 : (w.setCell ⟨g, 0, none⟩ (.int .i64 t)).cell? ⟨g, 1, none⟩ = some (.slice a 0 c) := (T.me.blk.put 0 (.int .i64 t)).cell 1
  have B1 : Blk (w.setCell ⟨g, 0, none⟩ (.int .i64 t)) g #[.int .i64 t, .slice a 0 c, .map (some mb)] 50 := T.me.blk.put 0 (.int .i64 t)
  have e : ∀ j, j ≠ g → (w.setCell ⟨g, 0, none⟩ (.int .i64 t)).heap[j]? = w.heap[j]? := fun j hj => heap_setCell_other _ ⟨g, 0, none⟩ j _ hj
  have HS : Hid (Calls Try.prog 24 #[.pointer (some ⟨g, 0, none⟩), .slice none 0 0] (w.setCell ⟨g, 0, none⟩ (.int .i64 t)) fun e w' => e = .returned (.tuple #[]) ∧ Hid (TmN w w' g mb (.slice a ([] : List Du).length c) t [])) := by
    have M1 : OwnsF (w.setCell ⟨g, 0, none⟩ (.int .i64 t)) mb 0 f := T.me.map.same (e mb (Ne.symm T.me.gm))
    refine (forget_all B1 M1).mono ?_
    rintro e' w1 ⟨rfl, m1, g1⟩
    have hgm := T.me.gm
    have hgl := T.me.lt
    refine ⟨rfl, .slice a 0 c, ⟨h, fun _ => none, ⟨(g1.block g (by simpa [World.setCell] using hgl) (fun x => hgm (Option.some.inj x))).trans B1, ?_, m1, T.me.ids, T.me.len⟩, T.heap, ⟨fun i hi => by simp at hi, fun k hk => absurd rfl hk, (fun k hk => by cases hk), List.nodup_nil⟩, T.con⟩, (Kp.own w g mb _ 0 _).trans (Kp.map g1), .inl rfl⟩
    rcases T.me.row with h | ⟨b, c2, h0, r, k1, k2⟩
    · exact .inl h
    · refine .inr ⟨b, c2, h0, r.same ?_, k1, k2⟩
      obtain ⟨cur, r, _⟩ := r
      have hbm := T.me.map.ne r
      exact (g1.block b (by simpa [World.setCell] using r.lt) (fun x => hbm (Option.some.inj x))).trans (e b k1)
  clear T B1 e
  go_enter Try.func12, Try.ntmps12
  go_wp2
  refine wp_loop_rounds 1 ?_
  rw [rounds_succ]
  go_wp2_with (go_at_call 24; (with_reducible refine HS.out.mono ?_); rintro e w1 ⟨rfl, hF⟩)
  go_ret2
  exact ⟨rfl, hF.out⟩
/-- where the ticks stand: j timers were told -/
structure Tik (w wr : World) (g mb b c : Nat) (t : Int) (K : List Du) (u : Value) (j : Nat) (h : Nat → Du) (f : Int → Option Nat) : Prop where
  out : wr.ownsRow w.heap.size 3 1 u j (ints ((K.take j).map (·.id)))
  mem : Hq wr g mb t b (K.length - j) c h K.length f
  heap : Heap h (K.length - j)
  gd : Gd h (K.length - j) f ((K.take j).map (·.id))
  con : Con h (K.length - j) (K.drop j)
  due : ∀ d ∈ K.take j, d.tm ≤ t
  kp : Kp w wr g mb (some b)
  le : j ≤ K.length
def TikA (w wr : World) (g mb b c : Nat) (t : Int) (K : List Du) (u : Value) (j : Nat) : Prop := ∃ h f, Tik w wr g mb b c t K u j h f
def lenOf : Value → Nat | .slice _ n _ => n | _ => 0
/-- behind the ticks -/
def TikE (w w' : World) (g mb : Nat) (v : Value) (t : Int) (K : List Du) (u : Value) : Prop := TmN w w' g mb v t (restK t K) ∧ IsI w' u ((dueK t K).map (·.id))
theorem take_snoc {α : Type} {K : List α} {j : Nat} {d : α} (h : K[j]? = some d) : K.take (j + 1) = K.take j ++ [d] := by rw [List.take_add_one, h]; rfl
theorem del_head {d : Du} {R : List Du} (hu : Ids (d :: R)) (ho : Ord (d :: R)) : delK d.id (d :: R) = R := by
  have hn : ∀ y ∈ R, y.id ≠ d.id := fun y hy ey => by
    have e := hu y (List.mem_cons_of_mem _ hy) d (List.mem_cons_self ..) ey
    subst e
    exact ahead_irrefl _ ((List.pairwise_cons.1 ho).1 _ hy)
  have := del_none hn
  unfold delK at this ⊢
  rw [List.filter_cons_of_neg (by simp), this]
theorem Tik.first {wr : World} {b c : Nat} {t : Int} {u : Value} {j : Nat} {h : Nat → Du} {f : Int → Option Nat} (R : Tik w wr g mb b c t K u j h f) {d : Du} (hd : K[j]? = some d) : h 0 = d ∧ K.drop j = d :: K.drop (j + 1) := by
  obtain ⟨hj, e⟩ := List.getElem?_eq_some_iff.1 hd
  have e2 : K.drop j = d :: K.drop (j + 1) := by rw [List.drop_eq_getElem_cons hj, e]
  have := R.con
  rw [e2] at this
  exact ⟨this.head R.heap, e2⟩
theorem tik_step {wr : World} {b c : Nat} {t : Int} {u : Value} {j : Nat} {h : Nat → Du} {f : Int → Option Nat} (R : Tik w wr g mb b c t K u j h f) {d : Du} (hd : K[j]? = some d) (ht : d.tm ≤ t) (hg : g < w.heap.size) (hm : mb < w.heap.size) (hb : b < w.heap.size) (hl : K.length ≤ 1000) :
    ∃ q c' w3, (Builtin.append_ #[34, 34] 34 #[u, .slice (some ⟨wr.heap.size, 0, none⟩) 1 1]).run Try.prog (wr.alloc (.cells #[.int .i64 d.id] 3)) = .ok (.slice (some ⟨q, 0, none⟩) (j + 1) c') w3 ∧
      Calls Try.prog 23 #[.pointer (some ⟨g, 0, none⟩), .int .i64 0] w3 fun e w4 => e = .returned (.tuple #[]) ∧ Hid (TikA w w4 g mb b c t K (.slice (some ⟨q, 0, none⟩) (j + 1) c') (j + 1)) := by
  obtain ⟨hj, _⟩ := List.getElem?_eq_some_iff.1 hd
  obtain ⟨e0, e1⟩ := R.first hd
  have hlen : ((K.take j).map (·.id)).length = j := by rw [List.length_map, List.length_take]; omega
  have hO := R.out
  have hws := R.kp.size
  obtain ⟨q, c', w3, hr, o3, g3⟩ := app_int (l := (K.take j).map (·.id)) (by rw [hlen]; exact hO) d.id hws (by omega)
  rw [hlen] at hr
  have hl3 : ((K.take j).map (·.id) ++ [d.id]).length = j + 1 := by rw [List.length_append, hlen]; rfl
  rw [hlen, hl3] at o3
  have hsn : (K.take j).map (·.id) ++ [d.id] = (K.take (j + 1)).map (·.id) := by rw [take_snoc hd]; simp
  have hub : ∀ k, u.ownBlock = some k → w.heap.size ≤ k := fun k hk => (hO.lt k hk).1
  have hs : ∀ k, k < w.heap.size → w3.heap[k]? = wr.heap[k]? := fun k hk => (g3.block k (by simp; omega) (fun e => by have := hub k e.symm; omega)).trans (Below.heap_alloc wr _ k (by omega))
  refine ⟨q, c', w3, hr, ?_⟩
  have H3 : Hq w3 g mb t b (K.length - j) c h K.length f := R.mem.same (hs g hg) (hs b hb) (hs mb hm)
  have K3 : Kp w w3 g mb (some b) := ⟨g3.os.trans R.kp.os, g3.tape.trans R.kp.tape, g3.output.trans R.kp.output, by have := g3.size; simp at this; omega, fun k hk h1 h2 h3 => (hs k hk).trans (R.kp.block k hk h1 h2 h3)⟩
  obtain ⟨m, hmm⟩ : ∃ m, K.length - j = m + 1 := ⟨K.length - j - 1, by omega⟩
  have G := R.gd
  have P := R.heap
  have C := R.con
  rw [hmm] at H3 G P C
  refine (take_any H3 (Nat.succ_pos m) (by omega) G P).mono ?_
  rintro e w4 ⟨rfl, h4, f4, H4, K4, P4, G4, B4⟩
  have C4 := C.del G (Nat.succ_pos m) B4
  rw [e1] at C
  rw [e0, e1, del_head (C.ids G) C.ord] at C4
  rw [e0, hsn] at G4
  have hm2 : m = K.length - (j + 1) := by omega
  rw [hm2] at H4 P4 G4 C4
  refine ⟨rfl, h4, f4, ⟨?_, H4, P4, G4, C4, ?_, K3.trans K4, by omega⟩⟩
  · rw [← hsn]
    refine own_keep o3 fun k hk => ?_
    obtain ⟨k1, k2⟩ := o3.lt k hk
    exact K4.block k k2 (by omega) (by omega) (fun e => by injection e; omega)
  · intro x hx
    rw [take_snoc hd] at hx
    rcases List.mem_append.1 hx with hx | hx
    · exact R.due x hx
    · rw [List.mem_singleton.1 hx]; exact ht
theorem tik_end {wr : World} {b c : Nat} {t : Int} {u : Value} {j : Nat} {h : Nat → Du} {f : Int → Option Nat} (R : Tik w wr g mb b c t K u j h f) (he : ∀ d, K[j]? = some d → ¬ d.tm ≤ t) (hl : K.length ≤ 1000) (hF : ∀ d ∈ K, Fit d.id) (cv : Nat) :
    Calls Try.prog 24 #[.pointer (some ⟨g, 0, none⟩), u] wr fun e w' => e = .returned (.tuple #[]) ∧ Hid (TikE w w' g mb (.slice (some ⟨b, 0, none⟩) K.length cv) t K u) := by
  have hle := R.le
  have hlen : ((K.take j).map (·.id)).length = j := by rw [List.length_map, List.length_take]; omega
  have hI : IsI wr u ((K.take j).map (·.id)) := own_isI R.out hlen.symm
  have hB : ∀ d ∈ K.drop j, ¬ d.tm ≤ t := by
    rcases Nat.lt_or_ge j K.length with hj | hj
    · have hd : K[j]? = some K[j] := List.getElem?_eq_getElem hj
      have C := R.con
      rw [(R.first hd).2] at C ⊢
      exact later_all C.ord (he _ hd)
    · rw [List.drop_eq_nil_of_le hj]
      intro d hd
      cases hd
  obtain ⟨e1, e2⟩ := split_due R.due hB
  rw [List.take_append_drop] at e1 e2
  refine (forget_any R.mem R.gd (by omega) hl hI (fun k hk => ?_)).mono ?_
  · obtain ⟨d, hd, rfl⟩ := List.mem_map.1 hk
    exact hF d (List.mem_of_mem_take hd)
  · rintro e w1 ⟨rfl, H1, G1, K1, g1⟩
    have C := R.con
    have P := R.heap
    have hln := C.len
    unfold TikE
    rw [e1, e2]
    refine ⟨rfl, ⟨.slice (some ⟨b, 0, none⟩) (K.length - j) c, ⟨h, rml f ((K.take j).map (·.id)), ?_, ?_, ?_, ?_⟩, R.kp.trans K1, .inl rfl⟩, hI.grow R.mem.map g1⟩
    · have := H1.me; rw [hln] at this; rw [hln]; exact this
    · rw [← hln]; exact P
    · rw [← hln]; exact G1
    · rw [← hln]; exact C
set_option maxRecDepth 100000 in
set_option maxHeartbeats 4000000 in
theorem tick_some (T : Tm w g mb v now K) {t : Int} (ht : ¬ t < now) (hK : 0 < K.length) : Calls Try.prog 12 #[.pointer (some ⟨g, 0, none⟩), .int .i64 t] w fun e w' => ∃ a c, e = .returned (.tuple #[.slice a (dueK t K).length c, .int .i64 0]) ∧ TikE w w' g mb v t K (.slice a (dueK t K).length c) := by
  have c0 := T.c0
  have hl := T.len
  obtain ⟨h, f, T⟩ := T
  obtain ⟨b, c, rfl, H⟩ := T.me.hq hK
  have hf0 := T.me.blk.free 0
  have hgl := H.lt
  have hml := H.map.lt
  have hbl := H.row.lt
  have hF : ∀ d ∈ K, Fit d.id := fun d hd => by
    obtain ⟨i, hi, rfl⟩ := (T.con.mem d).1 hd
    exact T.me.ids i hi
  have e : ∀ j, j ≠ g → (w.setCell ⟨g, 0, none⟩ (.int .i64 t)).heap[j]? = w.heap[j]? := fun j hj => heap_setCell_other _ ⟨g, 0, none⟩ j _ hj
  have HI : Hid (TikA w (w.setCell ⟨g, 0, none⟩ (.int .i64 t)) g mb b c t K (.slice none 0 0) 0) :=
    ⟨h, f, World.ownsRow_nil _ _ _ _, ⟨H.blk.put 0 (.int .i64 t), H.row.same (e b H.ne), H.map.same (e mb (Ne.symm H.gm)), H.ne, H.cap, H.ids, H.len⟩, T.heap, T.gd, T.con, (fun d hd => by cases hd), Kp.own w g mb _ 0 _, Nat.zero_le _⟩
  have HF := Lib.hid hF
  clear T H e hF
  go_enter Try.func12, Try.ntmps12
  go_wp2
  go_loopw [6] (fun u wr => ∃ j : Nat, TikA w wr g mb b c t K u j) (fun u _ => K.length - lenOf u)
  case atStart => exact ⟨0, HI.out⟩
  case round =>
    obtain ⟨j, h1, f1, R⟩ := hrel
    have hle := R.le
    have c1 := R.mem.c1
    obtain ⟨ua, uc, rfl⟩ := own_form R.out
    by_cases hj : j < K.length
    · obtain ⟨d, hd⟩ : ∃ d, K[j]? = some d := ⟨_, List.getElem?_eq_getElem hj⟩
      obtain ⟨r0, r1⟩ := R.mem.row.cell (i := 0) (by omega)
      rw [(R.first hd).1] at r0 r1
      rw [Nat.zero_mul] at r0 r1
      by_cases hdt : d.tm ≤ t
      · obtain ⟨q, c', w3, hap, hC⟩ := tik_step R hd hdt hgl hml hbl hl
        have HA := Lib.hid hap
        have HC := Lib.hid hC
        have hn1 : (0 : Int) < ((K.length - j : Nat) : Int) := by omega
        clear R hap hC hd
        generalize K.length - j = n at *
        go_wp2_with (first
          | (at_builtin; refine Lib.wpList_append_run _ rfl _ _ 34 34 rfl _ _ rfl rfl _ _ HA.out ?_)
          | (go_at_call 23; (with_reducible refine HC.out.mono ?_); rintro e w4 ⟨rfl, hF4⟩))
        exact ⟨⟨j + 1, hF4.out⟩, by simp [lenOf]; omega⟩
      · have HC := Lib.hid (tik_end R (fun x hx => by rw [hd] at hx; rw [← Option.some.inj hx]; exact hdt) hl HF.out c)
        have hn1 : (0 : Int) < ((K.length - j : Nat) : Int) := by omega
        clear R hd
        generalize K.length - j = n at *
        go_wp2_with (go_at_call 24; (with_reducible refine HC.out.mono ?_); rintro e w4 ⟨rfl, hF4⟩)
        go_ret2
        obtain ⟨a', c2, e2, _⟩ := id hF4.out.2
        simp only [List.length_map] at e2
        simp only [Value.slice.injEq] at e2
        obtain ⟨rfl, rfl, rfl⟩ := e2
        exact ⟨_, _, rfl, hF4.out⟩
    · obtain rfl : j = K.length := by omega
      have HC := Lib.hid (tik_end R (fun x hx => by rw [List.getElem?_eq_none (Nat.le_refl _)] at hx; cases hx) hl HF.out c)
      rw [Nat.sub_self] at c1
      clear R
      go_wp2_with (go_at_call 24; (with_reducible refine HC.out.mono ?_); rintro e w4 ⟨rfl, hF4⟩)
      go_ret2
      obtain ⟨a', c2, e2, _⟩ := id hF4.out.2
      simp only [List.length_map] at e2
      simp only [Value.slice.injEq] at e2
      obtain ⟨rfl, e3, rfl⟩ := e2
      rw [e3] at hF4 ⊢
      exact ⟨_, _, rfl, hF4.out⟩
/-- Tick, at any time -/
theorem tick_any (T : Tm w g mb v now K) {t : Int} (ht : ¬ t < now) : Calls Try.prog 12 #[.pointer (some ⟨g, 0, none⟩), .int .i64 t] w fun e w' => ∃ a c, e = .returned (.tuple #[.slice a (dueK t K).length c, .int .i64 0]) ∧ TikE w w' g mb v t K (.slice a (dueK t K).length c) := by
  rcases Nat.eq_zero_or_pos K.length with h0 | h0
  · obtain rfl := List.eq_nil_of_length_eq_zero h0
    refine (tick_none T ht).mono ?_
    rintro e w1 ⟨rfl, h⟩
    exact ⟨none, 0, rfl, h, none, 0, rfl, .inl ⟨rfl, rfl, rfl⟩⟩
  · exact tick_some T ht h0
end
end Go.Proofs.Ytboojbgcleknlaa
