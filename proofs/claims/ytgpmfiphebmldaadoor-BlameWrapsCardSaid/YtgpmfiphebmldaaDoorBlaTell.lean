/- The program's calls Text and Error, whole; Trail; and the document's Same. -/
import Derived.Test.YtgpmfiphebmldaaDoorBlaText
import Derived.Test.YtgpmfiphebmldaaDoorBlaMake
namespace Go.Proofs.YtgpmfiphebmldaaDoor
open Go.RowKit Go.Sort

theorem tell_nil (b : Nat) (w : World) : Calls Tryd.prog 34 #[.pointer (some ⟨b, 0, none⟩), .nilIface] w fun e w' => e = .returned (.tuple #[]) ∧ w' = w := by
  go_enter Tryd.func34, Tryd.ntmps34
  go_wp2
  go_end0
  exact ⟨rfl, rfl⟩

theorem string_any (B b : Nat) (l : List UInt8) (w : World) (h : Bd B b l w) (hB : B ≤ w.heap.size) : Calls Tryd.prog 35 #[.pointer (some ⟨b, 0, none⟩)] w fun e w' => e = .returned (.string (bs l)) ∧ Below B w w' := Tryd.Builder_String_any B b l w h hB

theorem text_any (p : Nat → Prop) (v : Value) (o : Option ET) (w : World) (hE : Eo w p v o) (hG : Glob w) (ho : wtO o ≤ 1000000) :
    Calls Tryd.prog 18 #[v] w fun e w' => e = .returned (.string (bs (textO o))) ∧ Below w.heap.size w w' := by
  have bel : Below w.heap.size w (w.alloc (.cells #[.pointer none, .slice none 0 0] 73)) := (Below.refl _ _).alloc (Nat.le_refl _) _
  have hb : Bd w.heap.size w.heap.size [] (w.alloc (.cells #[.pointer none, .slice none 0 0] 73)) := Lib.fresh_isBuilder _ _ w
  have hT : Calls Tryd.prog 34 #[.pointer (some ⟨w.heap.size, 0, none⟩), v] (w.alloc (.cells #[.pointer none, .slice none 0 0] 73)) fun e w' => e = .returned (.tuple #[]) ∧ Bd w.heap.size w.heap.size (textO o) w' ∧ Below w.heap.size w w' ∧ w.heap.size ≤ w'.heap.size := by
    cases o with
    | none =>
      cases hE
      refine (tell_nil w.heap.size _).mono ?_
      rintro e w' ⟨rfl, rfl⟩
      exact ⟨rfl, hb, bel, bel.size⟩
    | some t =>
      have hE : Er w p v t := hE
      have hl : ([] : List UInt8).length + t.wt ≤ 1000000000 := by
        have : wtO (some t) = t.wt := rfl
        rw [this] at ho
        simp; omega
      refine (tell_any t ho v w.heap.size w.heap.size [] _ ((hE.all (Nat.le_refl _)).bel bel) hb bel.size hG.size (hG.below bel hG.size) hl).mono ?_
      rintro e w' ⟨rfl, h1, h2⟩
      exact ⟨rfl, h1, bel.trans h2, (bel.trans h2).size⟩
  have HT := Lib.hid hT
  clear hT hb bel hE
  go_enter Tryd.func18, Tryd.ntmps18
  go_wp2_with (first
    | (go_at_call 34; (with_reducible refine HT.out.mono ?_); rintro e w1 ⟨rfl, hb1, hb2, hb3⟩)
    | (go_at_call 35; (with_reducible refine (string_any w.heap.size w.heap.size _ _ hb1 hb3).mono ?_); rintro e w2 ⟨rfl, hb4⟩))
  go_ret
  exact ⟨rfl, hb2.trans hb4⟩

theorem error_code (c : Int) (hc : okC c) (w : World) (hG : Glob w) :
    Calls Tryd.prog 86 #[.int .i64 c] w fun e w' => e = .returned (.string (bs (ET.code c).text)) ∧ Below w.heap.size w w' := by
  have h := text_any (fun _ => True) (.iface 59 (.int .i64 c)) (some (.code c)) w (Er.code c hc) hG (by show (30 : Nat) ≤ 1000000; decide)
  go_enter Tryd.func86, Tryd.ntmps86
  go_wp2_with (go_at_call 18; (with_reducible refine h.mono ?_); rintro e w1 ⟨rfl, hb1⟩)
  go_ret
  exact ⟨rfl, hb1⟩
theorem error_wrap (p : Nat → Prop) (b : Nat) (t : ET) (w : World) (hE : Er w p (.iface 66 (.pointer (some ⟨b, 0, none⟩))) t) (hG : Glob w) (ht : t.wt ≤ 1000000) :
    Calls Tryd.prog 87 #[.pointer (some ⟨b, 0, none⟩)] w fun e w' => e = .returned (.string (bs t.text)) ∧ Below w.heap.size w w' := by
  have h := text_any p _ (some t) w hE hG ht
  go_enter Tryd.func87, Tryd.ntmps87
  go_wp2_with (go_at_call 18; (with_reducible refine h.mono ?_); rintro e w1 ⟨rfl, hb1⟩)
  go_ret
  exact ⟨rfl, hb1⟩

/-! rows of texts -/
def strV (l : List ByteArray) : List Value := l.map Value.string
theorem infoStr : (Tryd.prog.info? 9).map (fun i => (i.zero, i.size, i.bytes)) = some (some (.string ⟨#[]⟩), 1, 16) := by kernel_rfl
/-- v is a row of just these texts, made by the call -/
def Txs (B : Nat) (v : Value) (l : List ByteArray) (w : World) : Prop := w.ownsRow B 9 1 v l.length (strV l)

def lenOf : Value → Nat
  | .slice _ n _ => n
  | _ => 0
theorem Txs.len {B : Nat} {v : Value} {l : List ByteArray} {w : World} (h : Txs B v l w) : lenOf v = l.length := by
  rcases h.2 with ⟨rfl, h0⟩ | ⟨g, cap, cur, rfl, _⟩
  · rw [h0]; rfl
  · rfl
theorem Txs.nil (B : Nat) (w : World) : Txs B (.slice none 0 0) [] w := World.ownsRow_nil w B _ 1
theorem strV_snoc (l : List ByteArray) (s : ByteArray) : strV l ++ #[Value.string s].toList = strV (l ++ [s]) := by simp [strV]

set_option maxHeartbeats 1000000 in
set_option maxRecDepth 100000 in
theorem trail_any (p : Nat → Prop) (v : Value) (o : Option ET) (w : World) (hE : Eo w p v o) (ho : wtO o ≤ 1000000) :
    Calls Tryd.prog 16 #[v] w fun e w' => ∃ u, e = .returned u ∧ Txs w.heap.size u (trailO o) w' ∧ Below w.heap.size w w' := by
  have hlen : (trailO o).length ≤ 1000000 := by
    cases o with
    | none => simp [trailO]
    | some t => exact Nat.le_trans (trail_le t) ho
  have HE := Lib.hid (hE.all (Nat.le_refl w.heap.size))
  obtain ⟨N, hN⟩ : ∃ N, N = (trailO o).length := ⟨_, rfl⟩
  rw [← hN] at hlen
  have HN := Lib.hid hN
  clear hE ho hN
  go_enter Tryd.func16, Tryd.ntmps16
  go_wp2
  go_loopw [0, 3, 4, 5, 6] (fun c u _ _ _ wr => ∃ (q : Option ET) (done : List ByteArray), trailO o = done ++ trailO q ∧ Eo wr (fun k => k < w.heap.size) c q ∧ Txs w.heap.size u done wr ∧ Below w.heap.size w wr) (fun _ u _ _ _ _ => N - lenOf u)
  case atStart => exact ⟨o, [], rfl, HE.out, Txs.nil _ _, Below.refl _ _⟩
  case round =>
    obtain ⟨q, done, h1, h2, h3, h4⟩ := hrel
    have H1 := Lib.hid h1
    have H3 := Lib.hid h3
    have H4 := Lib.hid h4
    clear h1 h3 h4
    have tn := t_nw
    have tc := t_cw
    have tw := t_ww
    have tj := t_jw
    cases q with
    | none =>
      cases h2
      go_wp2
      go_ret
      exact ⟨_, rfl, (by have := H1.out; rw [show trailO none = [] from rfl, List.append_nil] at this; rw [this]; exact H3.out), H4.out⟩
    | some t =>
      have h2 : Er wr (fun k => k < w.heap.size) _ t := h2
      cases h2 with
      | code c hc =>
        go_wp2
        go_ret
        exact ⟨_, rfl, (by have := H1.out; rw [show trailO (some (.code c)) = [] from rfl, List.append_nil] at this; rw [this]; exact H3.out), H4.out⟩
      | join b g cap vs ts =>
        go_wp2
        go_ret
        exact ⟨_, rfl, (by have := H1.out; rw [show trailO (some (.join ts)) = [] from rfl, List.append_nil] at this; rw [this]; exact H3.out), H4.out⟩
      | wrap b op v' t' hp hb hv =>
        have hl1 : done.length + 1 ≤ N := by
          have := congrArg List.length H1.out
          rw [List.length_append, ← HN.out] at this
          have e : trailO (some (.wrap op t')) = op :: t'.trail := rfl
          rw [e, List.length_cons] at this
          omega
        have hu := H3.out.len
        have HV := Lib.hid hv
        have HB := Lib.hid hb
        have c0 := hb.cell 0
        have fin : ∀ (v1 : Value) (w1 : World), w1.ownsRow w.heap.size 9 1 v1 (done.length + 1) (strV done ++ #[Value.string op].toList) → (wr.alloc (.cells #[Value.string op] 9)).grownBy w1 u3.ownBlock →
            w1.cell? ⟨b, 1, none⟩ = some v' ∧ Hid (trailO o = (done ++ [op]) ++ trailO (some t') ∧ Eo w1 (fun k => k < w.heap.size) v' (some t') ∧ Txs w.heap.size v1 (done ++ [op]) w1 ∧ Below w.heap.size w w1) := by
          intro v1 w1 a1 a2
          have b1 : Below w.heap.size wr w1 := ((Below.refl w.heap.size wr).alloc H4.out.size _).grown a2 (by simp; have := H4.out.size; omega) fun k hk => (H3.out.lt k hk).1
          refine ⟨(b1.cell (p := ⟨b, 1, none⟩) hp).trans (HB.out.cell 1), ?_, HV.out.bel b1, ?_, H4.out.trans b1⟩
          · rw [H1.out]; simp [trailO, ET.trail]
          · unfold Txs
            rw [List.length_append, ← strV_snoc]
            exact a1
        clear hb hv
        go_wp2_with (at_builtin; refine wpList_snoc rfl _ _ 40 rfl w.heap.size 9 (.string ⟨#[]⟩) 1 16 Tryd.underlying40 infoStr rfl (by decide) u3 done.length (strV done) rfl H3.out #[.string op] _ rfl rfl (by simp [Value.oneCell']) rfl (by omega) (by omega) H4.out.size ?_; intro v1 w1 hO' hG' _; have HF := fin v1 w1 hO' hG'; clear hO' hG'; obtain ⟨hk1, HF⟩ := HF)
        refine ⟨⟨some t', done ++ [op], HF.out⟩, ?_⟩
        have h5 := HF.out.2.2.1.len
        show N - lenOf v1 < N - lenOf u3
        rw [h5, hu, List.length_append]
        simp; omega
end Go.Proofs.YtgpmfiphebmldaaDoor
