/- The program's calls New, Wrap, Join and Trail. -/
import Derived.Test.YtgpmfiphebmldaaDoorBlaGuard
import Derived.Test.YtgpmfiphebmldaaDoorTail
import Derived.Maps.AppendAt
import Derived.Deep.Cut
import Derived.Lib.Hide
import Derived.StillTailTactics
namespace Go.Proofs.YtgpmfiphebmldaaDoor
open Go.RowKit Go.Sort

/-- of none, or a code -/
def newO (c : Int) : Option ET := if c = 0 then none else some (.code c)
def wrapO (op : ByteArray) : Option ET → Option ET
  | none => none
  | some t => some (.wrap op t)
/-- those that are not none -/
def some_ : List (Option ET) → List ET
  | [] => []
  | none :: r => some_ r
  | some t :: r => t :: some_ r
def joinO (l : List (Option ET)) : Option ET := if some_ l = [] then none else some (.join (some_ l))
theorem some_append : ∀ (a b : List (Option ET)), some_ (a ++ b) = some_ a ++ some_ b
  | [], b => rfl
  | none :: r, b => by simp only [List.cons_append, some_]; exact some_append r b
  | some t :: r, b => by simp only [List.cons_append, some_]; rw [some_append r b]
theorem some_le : ∀ (a : List (Option ET)), (some_ a).length ≤ a.length
  | [] => by simp [some_]
  | none :: r => by simp only [some_, List.length_cons]; have := some_le r; omega
  | some t :: r => by simp only [some_, List.length_cons]; have := some_le r; omega

theorem new_any (c : Int) (h1 : -9223372036854775808 ≤ c) (h2 : c ≤ 9223372036854775807) (w : World) : Calls Tryd.prog 23 #[.int .i64 c] w fun e w' => ∃ v, e = .returned v ∧ Eo w' (fun _ => True) v (newO c) ∧ w' = w := by
  by_cases h : c = 0
  · subst h
    go_enter Tryd.func23, Tryd.ntmps23
    go_wp2
    go_ret
    exact ⟨_, rfl, rfl, rfl⟩
  · have hc : (c == 0) = false := by simpa using h
    have hn : newO c = some (.code c) := by unfold newO; rw [if_neg h]
    rw [hn]
    go_enter Tryd.func23, Tryd.ntmps23
    go_wp2
    go_ret
    exact ⟨_, rfl, Er.code c ⟨h, h1, h2⟩, rfl⟩
theorem wrap_any (p : Nat → Prop) (op : ByteArray) (v : Value) (o : Option ET) (w : World) (hE : Eo w p v o) :
    Calls Tryd.prog 21 #[.string op, v] w fun e w' => ∃ v', e = .returned v' ∧ Eo w' (fun k => p k ∨ w.heap.size ≤ k) v' (wrapO op o) ∧ Below w.heap.size w w' := by
  have h1 := eo_eql hE
  have h2 := eo_guard hE
  cases o with
  | none =>
    cases hE
    go_enter Tryd.func21, Tryd.ntmps21
    go_wp2
    go_ret
    exact ⟨_, rfl, rfl, Below.refl _ _⟩
  | some t =>
    have hE : Er w p v t := hE
    have bel : Below w.heap.size w (w.alloc (.cells #[.string op, v] 69)) := (Below.refl _ _).alloc (Nat.le_refl _) _
    have hR : Er (w.alloc (.cells #[.string op, v] 69)) (fun k => p k ∨ w.heap.size ≤ k) (.iface 66 (.pointer (some ⟨w.heap.size, 0, none⟩))) (.wrap op t) :=
      .wrap w.heap.size op v t (.inr (Nat.le_refl _)) (Blk.new w _ _) ((hE.kept fun k hk _ => bel.block k hk).mono fun _ _ h => .inl h)
    have HR := Lib.hid hR
    clear hR
    cases hE
    all_goals
      go_enter Tryd.func21, Tryd.ntmps21
      go_wp2
      go_ret
      exact ⟨_, rfl, HR.out, bel⟩

/-- cells of errors in a row -/
def Eos (w : World) (p : Nat → Prop) : List Value → List (Option ET) → Prop
  | [], [] => True
  | v :: vs, o :: os => Eo w p v o ∧ Eos w p vs os
  | _, _ => False
theorem Eos.length : ∀ {w : World} {p : Nat → Prop} {vs : List Value} {os : List (Option ET)}, Eos w p vs os → vs.length = os.length
  | _, _, [], [], _ => rfl
  | _, _, _ :: _, _ :: _, h => by rw [List.length_cons, List.length_cons, Eos.length h.2]
  | _, _, [], _ :: _, h => h.elim
  | _, _, _ :: _, [], h => h.elim
theorem Eos.get : ∀ {w : World} {p : Nat → Prop} {vs : List Value} {os : List (Option ET)}, Eos w p vs os → ∀ (j : Nat) v o, vs[j]? = some v → os[j]? = some o → Eo w p v o
  | _, _, [], [], _, j, v, o, h1, _ => by simp at h1
  | _, _, a :: vs, b :: os, h, 0, v, o, h1, h2 => by
    simp only [List.getElem?_cons_zero, Option.some.injEq] at h1 h2
    subst h1; subst h2; exact h.1
  | _, _, a :: vs, b :: os, h, j + 1, v, o, h1, h2 => Eos.get h.2 j v o (by simpa using h1) (by simpa using h2)
  | _, _, [], _ :: _, h, _, _, _, _, _ => h.elim
  | _, _, _ :: _, [], h, _, _, _, _, _ => h.elim
theorem Eos.mk : ∀ {w : World} {p : Nat → Prop} {vs : List Value} {os : List (Option ET)}, vs.length = os.length → (∀ (j : Nat) v o, vs[j]? = some v → os[j]? = some o → Eo w p v o) → Eos w p vs os
  | _, _, [], [], _, _ => trivial
  | _, _, a :: vs, b :: os, h, hg => ⟨hg 0 a b rfl rfl, Eos.mk (by simpa using h) fun j v o h1 h2 => hg (j + 1) v o (by simpa using h1) (by simpa using h2)⟩
  | _, _, [], _ :: _, h, _ => by simp at h
  | _, _, _ :: _, [], h, _ => by simp at h
theorem Eos.append : ∀ {w : World} {p : Nat → Prop} {vs us : List Value} {os qs : List (Option ET)}, Eos w p vs os → Eos w p us qs → Eos w p (vs ++ us) (os ++ qs)
  | _, _, [], _, [], _, _, h => h
  | _, _, _ :: _, _, _ :: _, _, h, k => ⟨h.1, Eos.append h.2 k⟩
  | _, _, [], _, _ :: _, _, h, _ => h.elim
  | _, _, _ :: _, _, [], _, h, _ => h.elim
theorem Eos.kept {w w' : World} {p : Nat → Prop} {vs : List Value} {os : List (Option ET)} (h : Eos w p vs os) (k : Kept w w' p) : Eos w' p vs os := Eos.mk h.length fun j v o h1 h2 => (h.get j v o h1 h2).kept k
theorem Eos.mono {w : World} {p q : Nat → Prop} {vs : List Value} {os : List (Option ET)} (h : Eos w p vs os) (k : ∀ i, i < w.heap.size → p i → q i) : Eos w q vs os := Eos.mk h.length fun j v o h1 h2 => (h.get j v o h1 h2).mono k
theorem Eos.one {w : World} {p : Nat → Prop} {vs : List Value} {os : List (Option ET)} (h : Eos w p vs os) : ∀ v ∈ vs, v.oneCell' = true := fun v hv => by
  obtain ⟨j, hj, rfl⟩ := List.getElem_of_mem hv
  have := h.length
  exact (h.get j _ (os[j]'(by omega)) (List.getElem?_eq_getElem _) (List.getElem?_eq_getElem _)).one

theorem infoErr : (Tryd.prog.info? 30).map (fun i => (i.zero, i.size, i.bytes)) = some (some .nilIface, 1, 16) := by kernel_rfl
/-- one element is appended to an own row: what is appended lies in the block that was made last -/
theorem wpList_snoc {P : Program} {w : World} {ops : Array Oper} {rest : List Oper} {o : Oper} {a : Act} {Q : Exit → Act → World → Prop} (hgd : o.guard = none) (s x : Operand) (t : TypeId)
    (ho : o.op = .call { callee := .builtin .append, args := #[s, x], argTypes := #[t, t] }) (base : Nat) (e : TypeId) (z : Value) (size bytes : Nat) (ht : P.underlying t = some (.slice e))
    (hi : (P.info? e).map (fun i => (i.zero, i.size, i.bytes)) = some (some z, size, bytes)) (hzs : z.cells.size = size) (hsz : 0 < size)
    (v : Value) (n : Nat) (xs : List Value) (hs : a.eval s = v) (hown : w.ownsRow base e size v n xs) (U V : Array Value) (hV : U = V) (hU : U.size = size) (hu : ∀ u ∈ U.toList, u.oneCell' = true) (hx : a.eval x = .slice (some ⟨w.heap.size, 0, none⟩) 1 1)
    (h63 : n + 1 ≤ 9223372036854775807) (hbytes : (n + 1) * bytes ≤ 140737488355328) (hbs : base ≤ w.heap.size)
    (h : ∀ v' w', w'.ownsRow base e size v' (n + 1) (xs ++ U.toList) → (w.alloc (.cells U e)).grownBy w' v.ownBlock → (v'.ownBlock = v.ownBlock ∨ v'.ownBlock = some (w.heap.size + 1)) → wpList P ops Q rest (a.put o.dst v') w') : wpList P ops Q (o :: rest) a (w.alloc (.cells V e)) := by
  subst hV
  obtain ⟨i, hi', hq⟩ := Option.map_eq_some_iff.1 hi
  simp only [Prod.mk.injEq] at hq
  obtain ⟨q1, q2, q3⟩ := hq
  refine wpList_append_own_at (w := w.alloc (.cells U e)) hgd s x t ho base e i z size bytes ht hi' q1 q2 q3 hzs hsz v n xs hs (hown.alloc _) ⟨w.heap.size, 0, none⟩ 1 1 U.toList hx (by simp [hU]) ?_ hu (by unfold maxLen; omega) hbytes (by simp; omega) ?_
  · intro j y hj
    rw [Addr.add_mid, Nat.zero_add, (Blk.new w U e).cell]
    simpa using hj
  · intro v' w' h1 h2 _ h4
    refine h v' w' h1 h2 ?_
    rwa [World.size_alloc] at h4
theorem own_range {w : World} {base n : Nat} {e : TypeId} {size : Nat} {v : Value} {xs : List Value} (h : w.ownsRow base e size v n xs) (hn : 0 < n) : ∃ g cap, v = .slice (some ⟨g, 0, none⟩) n cap ∧ base ≤ g ∧ g < w.heap.size ∧ n ≤ cap ∧ w.rangeAt g 0 xs := by
  have h' := h
  rcases h.2 with ⟨_, h0⟩ | ⟨g, cap, cur, hv, hb, hg, hc, _, _, ht⟩
  · omega
  · subst hv
    refine ⟨g, cap, rfl, hb, Blk.lt hg, hc, fun j v hj => ?_⟩
    rw [Nat.zero_add, cell_of_row w g j cur e _ hg]
    rw [← ht, List.getElem?_take] at hj
    split at hj
    · simpa using hj
    · cases hj

theorem some_take (os : List (Option ET)) (k : Nat) (o : Option ET) (h : os[k]? = some o) : some_ (os.take (k + 1)) = some_ (os.take k) ++ some_ [o] := by rw [take_snoc os k o h, some_append]
theorem eos_some {w : World} {p : Nat → Prop} : ∀ {vs : List Value} {ts : List ET}, Eos w p vs (ts.map some) → ∀ (j : Nat) v t, vs[j]? = some v → ts[j]? = some t → Er w p v t := fun h j v t h1 h2 => h.get j v (some t) h1 (by rw [List.getElem?_map, h2]; rfl)

set_option maxHeartbeats 1000000 in
set_option maxRecDepth 100000 in
theorem join_any (p : Nat → Prop) (g o n cap : Nat) (vs : List Value) (os : List (Option ET)) (w : World) (hn : os.length = n) (hv : w.rangeAt g o vs) (hE : Eos w p vs os) (hn1 : n ≤ 1000000) :
    Calls Tryd.prog 22 #[.slice (some ⟨g, o, none⟩) n cap] w fun e w' => ∃ v', e = .returned v' ∧ Eo w' (fun k => p k ∨ w.heap.size ≤ k) v' (joinO os) ∧ Below w.heap.size w w' := by
  have hlen : vs.length = n := by rw [hE.length]; exact hn
  have HV := Lib.hid hv
  have HE := Lib.hid hE
  have HN := Lib.hid hn
  clear hv hE hn
  go_enter Tryd.func22, Tryd.ntmps22
  go_wp2
  go_loopw [3, 5, 8] (fun v _ i wr => ∃ (k : Nat) (us : List Value), k ≤ n ∧ i = .int .i64 k ∧ Below w.heap.size w wr ∧ wr.ownsRow w.heap.size 30 1 v (some_ (os.take k)).length us ∧ Eos wr (fun k => p k ∧ k < w.heap.size) us ((some_ (os.take k)).map some)) (fun _ _ i _ => n - (intOf i).toNat)
  case atStart => exact ⟨0, [], by omega, rfl, Below.refl _ _, by simpa [some_] using World.ownsRow_nil w w.heap.size 30 1, by simp [some_, Eos]⟩
  case round =>
    obtain ⟨k, us, hk, rfl, hB, hO, hU⟩ := hrel
    have HB := Lib.hid hB
    have HO := Lib.hid hO
    have HU := Lib.hid hU
    clear hB hO hU
    by_cases hlt : k < n
    · obtain ⟨v, hvk⟩ : ∃ v, vs[k]? = some v := ⟨_, List.getElem?_eq_getElem (by omega)⟩
      obtain ⟨q, hqk⟩ : ∃ q, os[k]? = some q := ⟨_, List.getElem?_eq_getElem (by rw [HN.out]; omega)⟩
      have hc0 := HV.out k v hvk
      have hgl : g < w.heap.size := World.block_lt_of_cell? w _ hc0
      have hc : wr.cell? ⟨g, o + k, none⟩ = some v := (HB.out.cell hgl).trans hc0
      have hq : Eo wr (fun k => p k ∧ k < w.heap.size) v q := ((HE.out.get k v q hvk hqk).mono fun i hi hp => ⟨hp, hi⟩).kept fun i hi hp => HB.out.block i hp.2
      have hne := eo_neq hq
      have hgu := eo_guard hq
      have hst := some_take os k q hqk
      have hle : (some_ (os.take k)).length ≤ k := Nat.le_trans (some_le _) (by rw [List.length_take]; omega)
      clear hc0
      cases q with
      | none =>
        have HST := Lib.hid hst
        clear hst hq
        go_wp2
        refine ⟨⟨k + 1, us, by omega, by go_num, HB.out, ?_⟩, by simp [intOf]; omega⟩
        rw [HST.out]
        simpa [some_] using ⟨HO.out, HU.out⟩
      | some t =>
        have hq : Er wr (fun k => p k ∧ k < w.heap.size) v t := hq
        have hsh := er_shape hq
        have HQ := Lib.hid hq
        have HST := Lib.hid hst
        clear hst hq
        obtain ⟨m, hm⟩ : ∃ m, m = (some_ (os.take k)).length := ⟨_, rfl⟩
        have HM := Lib.hid hm
        clear hm
        rw [← HM.out] at HO hle
        have fin : ∀ (v' : Value) (w' : World), w'.ownsRow w.heap.size 30 1 v' (m + 1) (us ++ [v]) → (wr.alloc (.cells #[v] 30)).grownBy w' u3.ownBlock →
            Hid (Below w.heap.size w w' ∧ w'.ownsRow w.heap.size 30 1 v' (some_ (os.take (k + 1))).length (us ++ [v]) ∧ Eos w' (fun k => p k ∧ k < w.heap.size) (us ++ [v]) ((some_ (os.take (k + 1))).map some)) := by
          intro v' w' h1 h2
          have hb0 : Below w.heap.size w (wr.alloc (.cells #[v] 30)) := HB.out.alloc HB.out.size _
          have hb1 : Below w.heap.size w w' := hb0.grown h2 (by simp; have := HB.out.size; omega) fun k hk => (HO.out.lt k hk).1
          refine ⟨hb1, ?_, ?_⟩
          · rw [HST.out, List.length_append, ← HM.out]; exact h1
          · rw [HST.out, List.map_append]
            have hk' : Kept wr w' (fun k => p k ∧ k < w.heap.size) := fun i hi hp => by
              rw [h2.block i (by rw [World.size_alloc]; omega) (fun e => by have := (HO.out.lt i e.symm).1; omega)]
              exact Below.heap_alloc wr _ i hi
            exact (HU.out.kept hk').append ⟨HQ.out.kept hk', trivial⟩
        rcases hsh with ⟨c, rfl⟩ | ⟨b, rfl⟩ | ⟨b, rfl⟩
        all_goals
          go_wp2_with (at_builtin; refine wpList_snoc rfl _ _ 25 rfl w.heap.size 30 .nilIface 1 16 Tryd.underlying25 infoErr rfl (by decide) u3 m us rfl HO.out #[_] _ rfl rfl (by simp [Value.oneCell']) rfl (by omega) (by omega) HB.out.size ?_; intro v' w' hO' hG' _; have HF := fin v' w' hO' hG'; clear hO' hG')
          exact ⟨⟨k + 1, us ++ [_], by omega, by go_num, HF.out⟩, by simp [intOf]; omega⟩
    · obtain rfl : n = k := by omega
      have hall : some_ (os.take n) = some_ os := by rw [← HN.out, List.take_length]
      rw [hall] at HO HU
      by_cases he : some_ os = []
      · have hj : joinO os = none := by unfold joinO; rw [if_pos he]
        rw [he] at HO
        obtain ⟨a, c, rfl⟩ : ∃ a c, u3 = .slice a 0 c := by
          rcases HO.out.2 with ⟨h, _⟩ | ⟨g, cap, cur, h, _⟩
          · exact ⟨_, _, h⟩
          · exact ⟨_, _, h⟩
        go_wp2
        go_ret
        exact ⟨_, rfl, (by rw [hj]; exact rfl), HB.out⟩
      · have hj : joinO os = some (.join (some_ os)) := by unfold joinO; rw [if_neg he]
        obtain ⟨m, hm⟩ : ∃ m, m = (some_ os).length := ⟨_, rfl⟩
        have h0 : 0 < m := by rw [hm]; exact List.length_pos_iff.2 he
        have hm0 : ((m : Int) == 0) = false := by simp; omega
        rw [← hm] at HO
        obtain ⟨g', cap', rfl, hb, hl, hc', hr⟩ := own_range HO.out h0
        have bel : Below w.heap.size w (wr.alloc (.cells #[.slice (some ⟨g', 0, none⟩) m cap'] 77)) := HB.out.alloc HB.out.size _
        have hR : Er (wr.alloc (.cells #[.slice (some ⟨g', 0, none⟩) m cap'] 77)) (fun k => p k ∨ w.heap.size ≤ k) (.iface 75 (.pointer (some ⟨wr.heap.size, 0, none⟩))) (.join (some_ os)) := by
          have hbk : Blk (wr.alloc (.cells #[.slice (some ⟨g', 0, none⟩) m cap'] 77)) wr.heap.size #[.slice (some ⟨g', 0, none⟩) (some_ os).length cap'] 77 := by rw [← hm]; exact Blk.new wr _ _
          refine .join wr.heap.size g' cap' us (some_ os) (.inr HB.out.size) (.inr hb) he hbk (by omega) (by rw [HU.out.length]; simp) (range_kept hr (p := fun _ => True) (fun k hk _ => Below.heap_alloc wr _ k hk) trivial) ?_
          intro j v t h1 h2
          exact ((eos_some HU.out j v t h1 h2).kept fun k hk _ => Below.heap_alloc wr _ k hk).mono fun _ _ h => .inl h.1
        have HR := Lib.hid hR
        clear hR hr hm HU HO
        go_wp2
        go_ret
        exact ⟨_, rfl, (by rw [hj]; exact HR.out), bel⟩
end Go.Proofs.YtgpmfiphebmldaaDoor
