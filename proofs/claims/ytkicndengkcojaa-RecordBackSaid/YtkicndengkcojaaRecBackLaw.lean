/- RecordBack: for every record and every text the call returns true: what is put is got; what is got, put again, is the bytes. No condition. -/
import Derived.Test.YtkicndengkcojaaRecRec
import Derived.Test.YtkicndengkcojaaRecOpen
namespace Go.Proofs.Ytkicndengkcojaa.RecBackLaw
set_option maxRecDepth 100000
open Go Go.ChangeShapes Go.WideShapes Go.ChangeAt Go.RowKit Go.Sort
open Go.ChangeMaps (open_string shut_string)

theorem put_len {r : Rc} (hW : r.Wf) : (txt (putV r)).size ≤ 1000000 := by
  rw [txt_size]
  unfold putV
  split
  · rename_i h
    have hr := isR_iff.1 h
    have hn : ∀ v, v < 18446744073709551616 → (numN v).length ≤ 9 := fun v hv => by have := nb_le8 hv; rw [numN_length]; omega
    have h1 := hn r.kind.toNat (by have := hr.kind; omega)
    have h2 := hn r.items.length (by have := hr.len; omega)
    have h3 := itsN_length hW.key hr.short
    have h4 := nextN_length r.nl r.nb hr.next
    have h5 := hn r.mark hW.mark
    have h6 : (markN r).length ≤ 9 := by unfold markN; split; exact h5; simp
    have h7 := hr.len
    unfold putR
    rw [List.length_append]
    split
    · simp; omega
    · simp only [List.length_append]; omega
  · simp
theorem txtN_lt {s : ByteArray} (h : s.size ≤ 64) : ∀ b ∈ txtN (bytesN s), b < 256 := fun b hb => by
  unfold txtN at hb
  rcases List.mem_append.1 hb with hb | hb
  · exact numN_lt (by rw [bytesN_length]; omega) b hb
  · exact bytesN_lt s b hb
/-- the bytes are bytes -/
theorem put_lt {r : Rc} (hr : Right r) (hW : r.Wf) : ∀ b ∈ putR r, b < 256 := by
  have h1 := numN_lt (v := r.kind.toNat) (by have := hr.kind; omega)
  have h2 := numN_lt (v := r.items.length) (by have := hr.len; omega)
  have h3 : ∀ b ∈ itsN r.items, b < 256 := fun b hb => by
    obtain ⟨x, hx, hb⟩ := List.mem_flatMap.1 hb
    unfold itN at hb
    rcases List.mem_append.1 hb with hb | hb
    · exact numN_lt (hW.key x hx) b hb
    · exact txtN_lt (hr.short x hx) b hb
  have h4 : ∀ b ∈ nextN r.nl r.nb, b < 256 := by
    unfold nextN
    intro b hb
    split at hb
    · exact numN_lt (by omega) b hb
    · rename_i h0
      have hi := hr.next.resolve_left h0
      obtain ⟨g1, g2⟩ := isB_len hi
      rcases List.mem_append.1 hb with hb | hb
      · exact numN_lt (by omega) b hb
      · unfold labN at hb
        rcases List.mem_cons.1 hb with rfl | hb
        · omega
        · exact dig_lt _ _ b (List.mem_of_mem_take hb)
  have h5 : ∀ b ∈ markN r, b < 256 := by
    unfold markN
    intro b hb
    split at hb
    · exact numN_lt hW.mark b hb
    · cases hb
  intro b hb
  unfold putR at hb
  rcases List.mem_append.1 hb with hb | hb
  · exact h1 b hb
  · split at hb
    · cases hb
    · simp only [List.mem_append] at hb
      rcases hb with ((hb | hb) | hb) | hb
      · exact h2 b hb
      · exact h3 b hb
      · exact h4 b hb
      · exact h5 b hb
/-- what bytes are read as -/
theorem got (s : ByteArray) : (∃ y : Rc, getV s = y ∧ getE s = 0 ∧ y.Wf ∧ y.items.length ≤ 1000000 ∧ txt (putV y) = s ∧ putE y = 0 ∧ isR y = true) ∨ (getV s = zeroR ∧ (getE s = 3 ∨ getE s = 4)) := by
  unfold getV getE
  cases h : getR (bytesN s) with
  | ok y =>
    obtain ⟨h1, h2, h3⟩ := getR_only (bytesN_lt s) h
    have hr := isR_iff.2 h2
    refine .inl ⟨y, rfl, rfl, h3, by have := h2.len; omega, ?_, by unfold putE; rw [if_pos hr], hr⟩
    unfold putV
    rw [if_pos hr, h1, txt_bytes]
  | error e => exact .inr ⟨rfl, getR_err h⟩

/-- nothing is asked -/
theorem let_go {r : Rc} {u : Value} {w : World} (s : ByteArray) (hT : Told w u r.items) (h : bigB r = true ∨ (bigB r = false ∧ 5000 < s.size)) :
    Calls Try.prog 6 #[.agg (recC r u), .string s] w fun e w' => e = .returned (.bool true) ∧ Below w.heap.size w w' := by
  obtain ⟨A0, B0⟩ := rec_box w r u
  have HB := big_any (hT.bel B0)
  rcases h with h | ⟨h, h'⟩
  · rw [h] at HB
    clear h
    go_enter Try.func6, Try.ntmps6
    go_upto_region 1 with (fail)
    generalize w.alloc _ = W at *
    go_wp2_with (first
      | (refine p_loadR rfl _ rfl w.heap.size rfl r u A0 ?_)
      | (go_at_call 9; (with_reducible refine HB.mono ?_); rintro e w1 ⟨rfl, hb1⟩))
    go_ret
    exact ⟨rfl, rstep B0 hb1⟩
  · rw [h] at HB
    have hc : (5000 : Int) < (s.size : Int) := by omega
    clear h h'
    go_enter Try.func6, Try.ntmps6
    go_upto_region 1 with (fail)
    generalize w.alloc _ = W at *
    go_wp2_with (first
      | (refine p_loadR rfl _ rfl w.heap.size rfl r u A0 ?_)
      | (go_at_call 9; (with_reducible refine HB.mono ?_); rintro e w1 ⟨rfl, hb1⟩))
    go_ret
    exact ⟨rfl, rstep B0 hb1⟩

set_option maxHeartbeats 1000000 in
theorem core1k {r : Rc} {u : Value} {w : World} (s : ByteArray) (hT : Told w u r.items) (hW : r.Wf) (hb : bigB r = false) (h5 : s.size ≤ 5000) (hr : isR r = false) {y : Rc} (hv : getV s = y) (he : getE s = 0) (yW : y.Wf) (yl : y.items.length ≤ 1000000) (yp : txt (putV y) = s) (ye : putE y = 0) (yr : isR y = true) :
    Calls Try.prog 6 #[.agg (recC r u), .string s] w fun e w' => e = .returned (.bool true) ∧ Below w.heap.size w w' := by
  obtain ⟨A0, B0⟩ := rec_box w r u
  have T0 := hT.bel B0
  have hl : r.items.length ≤ 1000000 := by have := big_no hb; omega
  have hc : ¬ (5000 : Int) < (s.size : Int) := by omega
  have hlen := put_len hW
  have HB := big_any T0
  rw [hb] at HB
  have HP : ∀ W, Told W u r.items → Calls Try.prog 10 #[.agg (recC r u)] W fun e w' => e = .returned (.tuple #[.string (txt (putV r)), .int .i64 1]) ∧ Below W.heap.size W w' := fun W hT => by
    have h := recput_any hT hW hl
    have e : putE r = 1 := by unfold putE; rw [hr]; rfl
    rw [e] at h
    exact h
  have HI : ∀ W, Told W u r.items → Calls Try.prog 15 #[.agg (recC r u)] W fun e w' => e = .returned (.bool false) ∧ Below W.heap.size W w' := fun W hT => by
    have h := is_any hT hW hl
    rw [hr] at h
    exact h
  obtain ⟨Q, hQ⟩ : ∃ Q, Q = txt (putV r) := ⟨_, rfl⟩
  rw [← hQ] at hlen HP
  have HG1 : ∀ W, Calls Try.prog 12 #[.string Q] W (TellsR W (getV Q) (getE Q)) := fun W => get_any Q W hlen
  obtain ⟨x, hx⟩ : ∃ x, x = getV Q := ⟨_, rfl⟩
  obtain ⟨gc, hgc⟩ : ∃ g, g = getE Q := ⟨_, rfl⟩
  rw [← hx, ← hgc] at HG1
  clear hx hgc
  have HG2 : ∀ W, Calls Try.prog 12 #[.string s] W (TellsR W y 0) := fun W => by
    have h := get_any s W (by omega)
    rw [hv, he] at h
    exact h
  have HP2 : ∀ W v, Told W v y.items → Calls Try.prog 10 #[.agg (recC y v)] W fun e w' => e = .returned (.tuple #[.string s, .int .i64 0]) ∧ Below W.heap.size W w' := fun W v hT => by
    have h := recput_any hT yW yl
    rw [yp, ye] at h
    exact h
  have HI2 : ∀ W v, Told W v y.items → Calls Try.prog 15 #[.agg (recC y v)] W fun e w' => e = .returned (.bool true) ∧ Below W.heap.size W w' := fun W v hT => by
    have h := is_any hT yW yl
    rw [yr] at h
    exact h
  clear hv he yW yl yp ye yr
  have HR := Lib.hid recorded_any
  clear hT hb h5 hr hW hl hlen hQ
  go_enter Try.func6, Try.ntmps6
  go_upto_region 1 with (fail)
  generalize w.alloc _ = W at *
  go_upto_region 3 with (first
    | (refine p_loadR rfl _ rfl w.heap.size rfl r u A0 ?_)
    | (go_at_call 9; (with_reducible refine HB.mono ?_); rintro e w1 ⟨rfl, hb1⟩))
  replace A0 := A0.below hb1 A0.lt
  replace T0 := T0.bel hb1
  replace B0 := rstep B0 hb1
  clear hb1 HB
  go_upto_region 4 with (first
    | (refine p_loadR rfl _ rfl w.heap.size rfl r u A0 ?_)
    | (go_at_call 10; (with_reducible refine (HP _ T0).mono ?_); rintro e w3 ⟨rfl, hb1⟩))
  replace A0 := A0.below hb1 A0.lt
  replace T0 := T0.bel hb1
  replace B0 := rstep B0 hb1
  clear hb1 HP
  go_upto_region 5 with (first
    | (go_at_call 12; (with_reducible refine (HG1 _).mono ?_); rintro e w4 ⟨u4, rfl, t4, hb1⟩)
    | (refine p_storeR rfl _ _ rfl w4.heap.size rfl x u4 rfl (told_one t4) zeroR (.slice none 0 0) (Blk.new _ _ _) ?_))
  obtain ⟨A4, T4, b4⟩ := rec_new t4
  replace b4 := rstep hb1 b4
  replace A0 := A0.below b4 A0.lt
  replace T0 := T0.bel b4
  replace B0 := rstep B0 b4
  clear hb1 t4 b4 HG1
  generalize w4.heap.size = g4 at *
  generalize (w4.alloc _).setRow _ _ = W4 at *
  go_upto_region 6 with (first
    | (go_at_call 12; (with_reducible refine (HG2 _).mono ?_); rintro e w5 ⟨u5, rfl, t5, hb1⟩)
    | (refine p_storeR rfl _ _ rfl w5.heap.size rfl y u5 rfl (told_one t5) zeroR (.slice none 0 0) (Blk.new _ _ _) ?_))
  obtain ⟨A5, T5, b5⟩ := rec_new t5
  replace b5 := rstep hb1 b5
  replace A0 := A0.below b5 A0.lt
  replace A4 := A4.below b5 A4.lt
  replace T0 := T0.bel b5
  replace T4 := T4.bel b5
  replace B0 := rstep B0 b5
  clear hb1 t5 b5 HG2
  generalize w5.heap.size = g5 at *
  generalize (w5.alloc _).setRow _ _ = W5 at *
  go_upto_region 7 with (first
    | (refine p_loadR rfl _ rfl g5 rfl y u5 A5 ?_)
    | (go_at_call 10; (with_reducible refine (HP2 _ _ T5).mono ?_); rintro e w6 ⟨rfl, hb1⟩))
  replace A0 := A0.below hb1 A0.lt
  replace A4 := A4.below hb1 A4.lt
  replace A5 := A5.below hb1 A5.lt
  replace T0 := T0.bel hb1
  replace T4 := T4.bel hb1
  replace T5 := T5.bel hb1
  replace B0 := rstep B0 hb1
  clear hb1 HP2
  go_upto_region 9 with (first
    | (go_guarded; with_reducible (show wpList _ _ _ _ _ _))
    | (refine p_loadR rfl _ rfl w.heap.size rfl r u A0 ?_)
    | (go_at_call 15; (with_reducible refine (HI _ T0).mono ?_); rintro e w7 ⟨rfl, hb1⟩; have A0x := A0.below hb1 A0.lt; have A4x := A4.below hb1 A4.lt; have T0x := T0.bel hb1; have T4x := T4.bel hb1)
    )
  replace A0 := A0.below hb1 A0.lt
  replace A4 := A4.below hb1 A4.lt
  replace A5 := A5.below hb1 A5.lt
  replace T0 := T0.bel hb1
  replace T4 := T4.bel hb1
  replace T5 := T5.bel hb1
  replace B0 := rstep B0 hb1
  clear hb1 A0x A4x T0x T4x
  have B9 := Lib.hid B0
  go_wp2_with (first
    | (go_guarded; with_reducible (show wpList _ _ _ _ _ _))
    | (go_at_call 14; (with_reducible refine (HR.out.calls _).mono ?_); rintro e w9 ⟨rfl, hb1⟩; have A5x := A5.below hb1 A5.lt; have T5x := T5.bel hb1)
    | (go_guarded; refine o_loadR _ rfl g5 rfl y u5 A5x ?_)
    | (go_at_call 15; (with_reducible refine (HI2 _ _ T5x).mono ?_); rintro e w10 ⟨rfl, hb2⟩))
  go_ret
  exact ⟨rfl, rstep (rstep B9.out hb1) hb2⟩

set_option maxHeartbeats 1000000 in
theorem core13 {r : Rc} {u : Value} {w : World} (s : ByteArray) (hT : Told w u r.items) (hW : r.Wf) (hb : bigB r = false) (h5 : s.size ≤ 5000) (hr : isR r = false) (hv : getV s = zeroR) (he : getE s = 3) :
    Calls Try.prog 6 #[.agg (recC r u), .string s] w fun e w' => e = .returned (.bool true) ∧ Below w.heap.size w w' := by
  obtain ⟨A0, B0⟩ := rec_box w r u
  have T0 := hT.bel B0
  have hl : r.items.length ≤ 1000000 := by have := big_no hb; omega
  have hc : ¬ (5000 : Int) < (s.size : Int) := by omega
  have hlen := put_len hW
  have HB := big_any T0
  rw [hb] at HB
  have HP : ∀ W, Told W u r.items → Calls Try.prog 10 #[.agg (recC r u)] W fun e w' => e = .returned (.tuple #[.string (txt (putV r)), .int .i64 1]) ∧ Below W.heap.size W w' := fun W hT => by
    have h := recput_any hT hW hl
    have e : putE r = 1 := by unfold putE; rw [hr]; rfl
    rw [e] at h
    exact h
  have HI : ∀ W, Told W u r.items → Calls Try.prog 15 #[.agg (recC r u)] W fun e w' => e = .returned (.bool false) ∧ Below W.heap.size W w' := fun W hT => by
    have h := is_any hT hW hl
    rw [hr] at h
    exact h
  obtain ⟨Q, hQ⟩ : ∃ Q, Q = txt (putV r) := ⟨_, rfl⟩
  rw [← hQ] at hlen HP
  have HG1 : ∀ W, Calls Try.prog 12 #[.string Q] W (TellsR W (getV Q) (getE Q)) := fun W => get_any Q W hlen
  obtain ⟨x, hx⟩ : ∃ x, x = getV Q := ⟨_, rfl⟩
  obtain ⟨gc, hgc⟩ : ∃ g, g = getE Q := ⟨_, rfl⟩
  rw [← hx, ← hgc] at HG1
  clear hx hgc
  have HG2 : ∀ W, Calls Try.prog 12 #[.string s] W (TellsR W zeroR 3) := fun W => by
    have h := get_any s W (by omega)
    rw [hv, he] at h
    exact h
  have HP2 : ∀ W v, Told W v zeroR.items → Calls Try.prog 10 #[.agg (recC zeroR v)] W fun e w' => e = .returned (.tuple #[.string (txt (putV zeroR)), .int .i64 1]) ∧ Below W.heap.size W w' := fun W v hT => recput_any hT zero_wf (by decide)
  generalize txt (putV zeroR) = Q2 at *
  clear hv he
  have HR := Lib.hid recorded_any
  clear hT hb h5 hr hW hl hlen hQ
  go_enter Try.func6, Try.ntmps6
  go_upto_region 1 with (fail)
  generalize w.alloc _ = W at *
  go_upto_region 3 with (first
    | (refine p_loadR rfl _ rfl w.heap.size rfl r u A0 ?_)
    | (go_at_call 9; (with_reducible refine HB.mono ?_); rintro e w1 ⟨rfl, hb1⟩))
  replace A0 := A0.below hb1 A0.lt
  replace T0 := T0.bel hb1
  replace B0 := rstep B0 hb1
  clear hb1 HB
  go_upto_region 4 with (first
    | (refine p_loadR rfl _ rfl w.heap.size rfl r u A0 ?_)
    | (go_at_call 10; (with_reducible refine (HP _ T0).mono ?_); rintro e w3 ⟨rfl, hb1⟩))
  replace A0 := A0.below hb1 A0.lt
  replace T0 := T0.bel hb1
  replace B0 := rstep B0 hb1
  clear hb1 HP
  go_upto_region 5 with (first
    | (go_at_call 12; (with_reducible refine (HG1 _).mono ?_); rintro e w4 ⟨u4, rfl, t4, hb1⟩)
    | (refine p_storeR rfl _ _ rfl w4.heap.size rfl x u4 rfl (told_one t4) zeroR (.slice none 0 0) (Blk.new _ _ _) ?_))
  obtain ⟨A4, T4, b4⟩ := rec_new t4
  replace b4 := rstep hb1 b4
  replace A0 := A0.below b4 A0.lt
  replace T0 := T0.bel b4
  replace B0 := rstep B0 b4
  clear hb1 t4 b4 HG1
  generalize w4.heap.size = g4 at *
  generalize (w4.alloc _).setRow _ _ = W4 at *
  go_upto_region 6 with (first
    | (go_at_call 12; (with_reducible refine (HG2 _).mono ?_); rintro e w5 ⟨u5, rfl, t5, hb1⟩)
    | (refine p_storeR rfl _ _ rfl w5.heap.size rfl zeroR u5 rfl (told_one t5) zeroR (.slice none 0 0) (Blk.new _ _ _) ?_))
  obtain ⟨A5, T5, b5⟩ := rec_new t5
  replace b5 := rstep hb1 b5
  replace A0 := A0.below b5 A0.lt
  replace A4 := A4.below b5 A4.lt
  replace T0 := T0.bel b5
  replace T4 := T4.bel b5
  replace B0 := rstep B0 b5
  clear hb1 t5 b5 HG2
  generalize w5.heap.size = g5 at *
  generalize (w5.alloc _).setRow _ _ = W5 at *
  go_upto_region 7 with (first
    | (refine p_loadR rfl _ rfl g5 rfl zeroR u5 A5 ?_)
    | (go_at_call 10; (with_reducible refine (HP2 _ _ T5).mono ?_); rintro e w6 ⟨rfl, hb1⟩))
  replace A0 := A0.below hb1 A0.lt
  replace A4 := A4.below hb1 A4.lt
  replace A5 := A5.below hb1 A5.lt
  replace T0 := T0.bel hb1
  replace T4 := T4.bel hb1
  replace T5 := T5.bel hb1
  replace B0 := rstep B0 hb1
  clear hb1 HP2
  go_upto_region 9 with (first
    | (go_guarded; with_reducible (show wpList _ _ _ _ _ _))
    | (refine p_loadR rfl _ rfl w.heap.size rfl r u A0 ?_)
    | (go_at_call 15; (with_reducible refine (HI _ T0).mono ?_); rintro e w7 ⟨rfl, hb1⟩; have A0x := A0.below hb1 A0.lt; have A4x := A4.below hb1 A4.lt; have T0x := T0.bel hb1; have T4x := T4.bel hb1)
    )
  replace A0 := A0.below hb1 A0.lt
  replace A4 := A4.below hb1 A4.lt
  replace A5 := A5.below hb1 A5.lt
  replace T0 := T0.bel hb1
  replace T4 := T4.bel hb1
  replace T5 := T5.bel hb1
  replace B0 := rstep B0 hb1
  clear hb1 A0x A4x T0x T4x
  have B9 := Lib.hid B0
  obtain ⟨a5, c5, rfl⟩ : ∃ a c, u5 = .slice a 0 c := told_shape T5
  go_wp2_with (first
    | (go_guarded; with_reducible (show wpList _ _ _ _ _ _))
    | (go_at_call 14; (with_reducible refine (HR.out.calls _).mono ?_); rintro e w9 ⟨rfl, hb1⟩; have A5x := A5.below hb1 A5.lt; have c0 : w9.cell? ⟨g5, 0, none⟩ = some (.int .i64 0) := A5x.cell 0; have c1 : w9.cell? ⟨g5, 1, none⟩ = some (.slice a5 0 c5) := A5x.cell 1))
  go_ret
  exact ⟨rfl, rstep B9.out hb1⟩

set_option maxHeartbeats 1000000 in
theorem core14 {r : Rc} {u : Value} {w : World} (s : ByteArray) (hT : Told w u r.items) (hW : r.Wf) (hb : bigB r = false) (h5 : s.size ≤ 5000) (hr : isR r = false) (hv : getV s = zeroR) (he : getE s = 4) :
    Calls Try.prog 6 #[.agg (recC r u), .string s] w fun e w' => e = .returned (.bool true) ∧ Below w.heap.size w w' := by
  obtain ⟨A0, B0⟩ := rec_box w r u
  have T0 := hT.bel B0
  have hl : r.items.length ≤ 1000000 := by have := big_no hb; omega
  have hc : ¬ (5000 : Int) < (s.size : Int) := by omega
  have hlen := put_len hW
  have HB := big_any T0
  rw [hb] at HB
  have HP : ∀ W, Told W u r.items → Calls Try.prog 10 #[.agg (recC r u)] W fun e w' => e = .returned (.tuple #[.string (txt (putV r)), .int .i64 1]) ∧ Below W.heap.size W w' := fun W hT => by
    have h := recput_any hT hW hl
    have e : putE r = 1 := by unfold putE; rw [hr]; rfl
    rw [e] at h
    exact h
  have HI : ∀ W, Told W u r.items → Calls Try.prog 15 #[.agg (recC r u)] W fun e w' => e = .returned (.bool false) ∧ Below W.heap.size W w' := fun W hT => by
    have h := is_any hT hW hl
    rw [hr] at h
    exact h
  obtain ⟨Q, hQ⟩ : ∃ Q, Q = txt (putV r) := ⟨_, rfl⟩
  rw [← hQ] at hlen HP
  have HG1 : ∀ W, Calls Try.prog 12 #[.string Q] W (TellsR W (getV Q) (getE Q)) := fun W => get_any Q W hlen
  obtain ⟨x, hx⟩ : ∃ x, x = getV Q := ⟨_, rfl⟩
  obtain ⟨gc, hgc⟩ : ∃ g, g = getE Q := ⟨_, rfl⟩
  rw [← hx, ← hgc] at HG1
  clear hx hgc
  have HG2 : ∀ W, Calls Try.prog 12 #[.string s] W (TellsR W zeroR 4) := fun W => by
    have h := get_any s W (by omega)
    rw [hv, he] at h
    exact h
  have HP2 : ∀ W v, Told W v zeroR.items → Calls Try.prog 10 #[.agg (recC zeroR v)] W fun e w' => e = .returned (.tuple #[.string (txt (putV zeroR)), .int .i64 1]) ∧ Below W.heap.size W w' := fun W v hT => recput_any hT zero_wf (by decide)
  generalize txt (putV zeroR) = Q2 at *
  clear hv he
  have HR := Lib.hid recorded_any
  clear hT hb h5 hr hW hl hlen hQ
  go_enter Try.func6, Try.ntmps6
  go_upto_region 1 with (fail)
  generalize w.alloc _ = W at *
  go_upto_region 3 with (first
    | (refine p_loadR rfl _ rfl w.heap.size rfl r u A0 ?_)
    | (go_at_call 9; (with_reducible refine HB.mono ?_); rintro e w1 ⟨rfl, hb1⟩))
  replace A0 := A0.below hb1 A0.lt
  replace T0 := T0.bel hb1
  replace B0 := rstep B0 hb1
  clear hb1 HB
  go_upto_region 4 with (first
    | (refine p_loadR rfl _ rfl w.heap.size rfl r u A0 ?_)
    | (go_at_call 10; (with_reducible refine (HP _ T0).mono ?_); rintro e w3 ⟨rfl, hb1⟩))
  replace A0 := A0.below hb1 A0.lt
  replace T0 := T0.bel hb1
  replace B0 := rstep B0 hb1
  clear hb1 HP
  go_upto_region 5 with (first
    | (go_at_call 12; (with_reducible refine (HG1 _).mono ?_); rintro e w4 ⟨u4, rfl, t4, hb1⟩)
    | (refine p_storeR rfl _ _ rfl w4.heap.size rfl x u4 rfl (told_one t4) zeroR (.slice none 0 0) (Blk.new _ _ _) ?_))
  obtain ⟨A4, T4, b4⟩ := rec_new t4
  replace b4 := rstep hb1 b4
  replace A0 := A0.below b4 A0.lt
  replace T0 := T0.bel b4
  replace B0 := rstep B0 b4
  clear hb1 t4 b4 HG1
  generalize w4.heap.size = g4 at *
  generalize (w4.alloc _).setRow _ _ = W4 at *
  go_upto_region 6 with (first
    | (go_at_call 12; (with_reducible refine (HG2 _).mono ?_); rintro e w5 ⟨u5, rfl, t5, hb1⟩)
    | (refine p_storeR rfl _ _ rfl w5.heap.size rfl zeroR u5 rfl (told_one t5) zeroR (.slice none 0 0) (Blk.new _ _ _) ?_))
  obtain ⟨A5, T5, b5⟩ := rec_new t5
  replace b5 := rstep hb1 b5
  replace A0 := A0.below b5 A0.lt
  replace A4 := A4.below b5 A4.lt
  replace T0 := T0.bel b5
  replace T4 := T4.bel b5
  replace B0 := rstep B0 b5
  clear hb1 t5 b5 HG2
  generalize w5.heap.size = g5 at *
  generalize (w5.alloc _).setRow _ _ = W5 at *
  go_upto_region 7 with (first
    | (refine p_loadR rfl _ rfl g5 rfl zeroR u5 A5 ?_)
    | (go_at_call 10; (with_reducible refine (HP2 _ _ T5).mono ?_); rintro e w6 ⟨rfl, hb1⟩))
  replace A0 := A0.below hb1 A0.lt
  replace A4 := A4.below hb1 A4.lt
  replace A5 := A5.below hb1 A5.lt
  replace T0 := T0.bel hb1
  replace T4 := T4.bel hb1
  replace T5 := T5.bel hb1
  replace B0 := rstep B0 hb1
  clear hb1 HP2
  go_upto_region 9 with (first
    | (go_guarded; with_reducible (show wpList _ _ _ _ _ _))
    | (refine p_loadR rfl _ rfl w.heap.size rfl r u A0 ?_)
    | (go_at_call 15; (with_reducible refine (HI _ T0).mono ?_); rintro e w7 ⟨rfl, hb1⟩; have A0x := A0.below hb1 A0.lt; have A4x := A4.below hb1 A4.lt; have T0x := T0.bel hb1; have T4x := T4.bel hb1)
    )
  replace A0 := A0.below hb1 A0.lt
  replace A4 := A4.below hb1 A4.lt
  replace A5 := A5.below hb1 A5.lt
  replace T0 := T0.bel hb1
  replace T4 := T4.bel hb1
  replace T5 := T5.bel hb1
  replace B0 := rstep B0 hb1
  clear hb1 A0x A4x T0x T4x
  have B9 := Lib.hid B0
  obtain ⟨a5, c5, rfl⟩ : ∃ a c, u5 = .slice a 0 c := told_shape T5
  go_wp2_with (first
    | (go_guarded; with_reducible (show wpList _ _ _ _ _ _))
    | (go_at_call 14; (with_reducible refine (HR.out.calls _).mono ?_); rintro e w9 ⟨rfl, hb1⟩; have A5x := A5.below hb1 A5.lt; have c0 : w9.cell? ⟨g5, 0, none⟩ = some (.int .i64 0) := A5x.cell 0; have c1 : w9.cell? ⟨g5, 1, none⟩ = some (.slice a5 0 c5) := A5x.cell 1))
  go_ret
  exact ⟨rfl, rstep B9.out hb1⟩

set_option maxHeartbeats 1000000 in
theorem core0k {r : Rc} {u : Value} {w : World} (s : ByteArray) (hT : Told w u r.items) (hW : r.Wf) (hb : bigB r = false) (h5 : s.size ≤ 5000) (hr : isR r = true) {y : Rc} (hv : getV s = y) (he : getE s = 0) (yW : y.Wf) (yl : y.items.length ≤ 1000000) (yp : txt (putV y) = s) (ye : putE y = 0) (yr : isR y = true) :
    Calls Try.prog 6 #[.agg (recC r u), .string s] w fun e w' => e = .returned (.bool true) ∧ Below w.heap.size w w' := by
  obtain ⟨A0, B0⟩ := rec_box w r u
  have T0 := hT.bel B0
  have hl : r.items.length ≤ 1000000 := by have := big_no hb; omega
  have hc : ¬ (5000 : Int) < (s.size : Int) := by omega
  have hlen := put_len hW
  have HB := big_any T0
  rw [hb] at HB
  have HP : ∀ W, Told W u r.items → Calls Try.prog 10 #[.agg (recC r u)] W fun e w' => e = .returned (.tuple #[.string (txt (putV r)), .int .i64 0]) ∧ Below W.heap.size W w' := fun W hT => by
    have h := recput_any hT hW hl
    have e : putE r = 0 := by unfold putE; rw [hr]; rfl
    rw [e] at h
    exact h
  have HI : ∀ W, Told W u r.items → Calls Try.prog 15 #[.agg (recC r u)] W fun e w' => e = .returned (.bool true) ∧ Below W.heap.size W w' := fun W hT => by
    have h := is_any hT hW hl
    rw [hr] at h
    exact h
  obtain ⟨Q, hQ⟩ : ∃ Q, Q = txt (putV r) := ⟨_, rfl⟩
  rw [← hQ] at hlen HP
  have HG1 : ∀ W, Calls Try.prog 12 #[.string Q] W (TellsR W r 0) := fun W => by
    have h := get_any Q W hlen
    have e : getR (bytesN Q) = .ok r := by
      have h1 := getR_put (isR_iff.1 hr) hW
      have h2 : putV r = putR r := by unfold putV; rw [hr]; rfl
      rw [hQ, h2, bytesN_txt _ ?_, h1]
      exact put_lt (isR_iff.1 hr) hW
    unfold getV getE at h
    rw [e] at h
    exact h
  have HS : ∀ W u1, Told W u1 r.items → Told W u r.items → Calls Try.prog 17 #[.agg (recC r u1), .agg (recC r u)] W fun e w' => e = .returned (.bool true) ∧ Below W.heap.size W w' := fun W u1 h1 h2 => by
    have h := same_rec h1 h2 hl
    rw [sameR_self] at h
    exact h
  have HG2 : ∀ W, Calls Try.prog 12 #[.string s] W (TellsR W y 0) := fun W => by
    have h := get_any s W (by omega)
    rw [hv, he] at h
    exact h
  have HP2 : ∀ W v, Told W v y.items → Calls Try.prog 10 #[.agg (recC y v)] W fun e w' => e = .returned (.tuple #[.string s, .int .i64 0]) ∧ Below W.heap.size W w' := fun W v hT => by
    have h := recput_any hT yW yl
    rw [yp, ye] at h
    exact h
  have HI2 : ∀ W v, Told W v y.items → Calls Try.prog 15 #[.agg (recC y v)] W fun e w' => e = .returned (.bool true) ∧ Below W.heap.size W w' := fun W v hT => by
    have h := is_any hT yW yl
    rw [yr] at h
    exact h
  clear hv he yW yl yp ye yr
  have HR := Lib.hid recorded_any
  clear hT hb h5 hr hW hl hlen hQ
  go_enter Try.func6, Try.ntmps6
  go_upto_region 1 with (fail)
  generalize w.alloc _ = W at *
  go_upto_region 3 with (first
    | (refine p_loadR rfl _ rfl w.heap.size rfl r u A0 ?_)
    | (go_at_call 9; (with_reducible refine HB.mono ?_); rintro e w1 ⟨rfl, hb1⟩))
  replace A0 := A0.below hb1 A0.lt
  replace T0 := T0.bel hb1
  replace B0 := rstep B0 hb1
  clear hb1 HB
  go_upto_region 4 with (first
    | (refine p_loadR rfl _ rfl w.heap.size rfl r u A0 ?_)
    | (go_at_call 10; (with_reducible refine (HP _ T0).mono ?_); rintro e w3 ⟨rfl, hb1⟩))
  replace A0 := A0.below hb1 A0.lt
  replace T0 := T0.bel hb1
  replace B0 := rstep B0 hb1
  clear hb1 HP
  go_upto_region 5 with (first
    | (go_at_call 12; (with_reducible refine (HG1 _).mono ?_); rintro e w4 ⟨u4, rfl, t4, hb1⟩)
    | (refine p_storeR rfl _ _ rfl w4.heap.size rfl r u4 rfl (told_one t4) zeroR (.slice none 0 0) (Blk.new _ _ _) ?_))
  obtain ⟨A4, T4, b4⟩ := rec_new t4
  replace b4 := rstep hb1 b4
  replace A0 := A0.below b4 A0.lt
  replace T0 := T0.bel b4
  replace B0 := rstep B0 b4
  clear hb1 t4 b4 HG1
  generalize w4.heap.size = g4 at *
  generalize (w4.alloc _).setRow _ _ = W4 at *
  go_upto_region 6 with (first
    | (go_at_call 12; (with_reducible refine (HG2 _).mono ?_); rintro e w5 ⟨u5, rfl, t5, hb1⟩)
    | (refine p_storeR rfl _ _ rfl w5.heap.size rfl y u5 rfl (told_one t5) zeroR (.slice none 0 0) (Blk.new _ _ _) ?_))
  obtain ⟨A5, T5, b5⟩ := rec_new t5
  replace b5 := rstep hb1 b5
  replace A0 := A0.below b5 A0.lt
  replace A4 := A4.below b5 A4.lt
  replace T0 := T0.bel b5
  replace T4 := T4.bel b5
  replace B0 := rstep B0 b5
  clear hb1 t5 b5 HG2
  generalize w5.heap.size = g5 at *
  generalize (w5.alloc _).setRow _ _ = W5 at *
  go_upto_region 7 with (first
    | (refine p_loadR rfl _ rfl g5 rfl y u5 A5 ?_)
    | (go_at_call 10; (with_reducible refine (HP2 _ _ T5).mono ?_); rintro e w6 ⟨rfl, hb1⟩))
  replace A0 := A0.below hb1 A0.lt
  replace A4 := A4.below hb1 A4.lt
  replace A5 := A5.below hb1 A5.lt
  replace T0 := T0.bel hb1
  replace T4 := T4.bel hb1
  replace T5 := T5.bel hb1
  replace B0 := rstep B0 hb1
  clear hb1 HP2
  go_upto_region 9 with (first
    | (go_guarded; with_reducible (show wpList _ _ _ _ _ _))
    | (refine p_loadR rfl _ rfl w.heap.size rfl r u A0 ?_)
    | (go_at_call 15; (with_reducible refine (HI _ T0).mono ?_); rintro e w7 ⟨rfl, hb1⟩; have A0x := A0.below hb1 A0.lt; have A4x := A4.below hb1 A4.lt; have T0x := T0.bel hb1; have T4x := T4.bel hb1)
    | (go_guarded; rename_i K0 hK0; refine o_loadR _ rfl g4 rfl r u4 A4x ?_; refine hK0 _ _ ?_; simp only [Act.put, List.setIfInBounds_toArray, List.set_cons_succ, List.set_cons_zero])
    | (go_guarded; refine o_loadR _ rfl w.heap.size rfl r u A0x ?_)
    | (go_at_call 17; (with_reducible refine (HS _ _ T4x T0x).mono ?_); rintro e w8 ⟨rfl, hb2⟩))
  replace hb1 := rstep hb1 hb2
  clear hb2
  replace A0 := A0.below hb1 A0.lt
  replace A4 := A4.below hb1 A4.lt
  replace A5 := A5.below hb1 A5.lt
  replace T0 := T0.bel hb1
  replace T4 := T4.bel hb1
  replace T5 := T5.bel hb1
  replace B0 := rstep B0 hb1
  clear hb1 A0x A4x T0x T4x
  have B9 := Lib.hid B0
  go_wp2_with (first
    | (go_guarded; with_reducible (show wpList _ _ _ _ _ _))
    | (go_at_call 14; (with_reducible refine (HR.out.calls _).mono ?_); rintro e w9 ⟨rfl, hb1⟩; have A5x := A5.below hb1 A5.lt; have T5x := T5.bel hb1)
    | (go_guarded; refine o_loadR _ rfl g5 rfl y u5 A5x ?_)
    | (go_at_call 15; (with_reducible refine (HI2 _ _ T5x).mono ?_); rintro e w10 ⟨rfl, hb2⟩))
  go_ret
  exact ⟨rfl, rstep (rstep B9.out hb1) hb2⟩

set_option maxHeartbeats 1000000 in
theorem core03 {r : Rc} {u : Value} {w : World} (s : ByteArray) (hT : Told w u r.items) (hW : r.Wf) (hb : bigB r = false) (h5 : s.size ≤ 5000) (hr : isR r = true) (hv : getV s = zeroR) (he : getE s = 3) :
    Calls Try.prog 6 #[.agg (recC r u), .string s] w fun e w' => e = .returned (.bool true) ∧ Below w.heap.size w w' := by
  obtain ⟨A0, B0⟩ := rec_box w r u
  have T0 := hT.bel B0
  have hl : r.items.length ≤ 1000000 := by have := big_no hb; omega
  have hc : ¬ (5000 : Int) < (s.size : Int) := by omega
  have hlen := put_len hW
  have HB := big_any T0
  rw [hb] at HB
  have HP : ∀ W, Told W u r.items → Calls Try.prog 10 #[.agg (recC r u)] W fun e w' => e = .returned (.tuple #[.string (txt (putV r)), .int .i64 0]) ∧ Below W.heap.size W w' := fun W hT => by
    have h := recput_any hT hW hl
    have e : putE r = 0 := by unfold putE; rw [hr]; rfl
    rw [e] at h
    exact h
  have HI : ∀ W, Told W u r.items → Calls Try.prog 15 #[.agg (recC r u)] W fun e w' => e = .returned (.bool true) ∧ Below W.heap.size W w' := fun W hT => by
    have h := is_any hT hW hl
    rw [hr] at h
    exact h
  obtain ⟨Q, hQ⟩ : ∃ Q, Q = txt (putV r) := ⟨_, rfl⟩
  rw [← hQ] at hlen HP
  have HG1 : ∀ W, Calls Try.prog 12 #[.string Q] W (TellsR W r 0) := fun W => by
    have h := get_any Q W hlen
    have e : getR (bytesN Q) = .ok r := by
      have h1 := getR_put (isR_iff.1 hr) hW
      have h2 : putV r = putR r := by unfold putV; rw [hr]; rfl
      rw [hQ, h2, bytesN_txt _ ?_, h1]
      exact put_lt (isR_iff.1 hr) hW
    unfold getV getE at h
    rw [e] at h
    exact h
  have HS : ∀ W u1, Told W u1 r.items → Told W u r.items → Calls Try.prog 17 #[.agg (recC r u1), .agg (recC r u)] W fun e w' => e = .returned (.bool true) ∧ Below W.heap.size W w' := fun W u1 h1 h2 => by
    have h := same_rec h1 h2 hl
    rw [sameR_self] at h
    exact h
  have HG2 : ∀ W, Calls Try.prog 12 #[.string s] W (TellsR W zeroR 3) := fun W => by
    have h := get_any s W (by omega)
    rw [hv, he] at h
    exact h
  have HP2 : ∀ W v, Told W v zeroR.items → Calls Try.prog 10 #[.agg (recC zeroR v)] W fun e w' => e = .returned (.tuple #[.string (txt (putV zeroR)), .int .i64 1]) ∧ Below W.heap.size W w' := fun W v hT => recput_any hT zero_wf (by decide)
  generalize txt (putV zeroR) = Q2 at *
  clear hv he
  have HR := Lib.hid recorded_any
  clear hT hb h5 hr hW hl hlen hQ
  go_enter Try.func6, Try.ntmps6
  go_upto_region 1 with (fail)
  generalize w.alloc _ = W at *
  go_upto_region 3 with (first
    | (refine p_loadR rfl _ rfl w.heap.size rfl r u A0 ?_)
    | (go_at_call 9; (with_reducible refine HB.mono ?_); rintro e w1 ⟨rfl, hb1⟩))
  replace A0 := A0.below hb1 A0.lt
  replace T0 := T0.bel hb1
  replace B0 := rstep B0 hb1
  clear hb1 HB
  go_upto_region 4 with (first
    | (refine p_loadR rfl _ rfl w.heap.size rfl r u A0 ?_)
    | (go_at_call 10; (with_reducible refine (HP _ T0).mono ?_); rintro e w3 ⟨rfl, hb1⟩))
  replace A0 := A0.below hb1 A0.lt
  replace T0 := T0.bel hb1
  replace B0 := rstep B0 hb1
  clear hb1 HP
  go_upto_region 5 with (first
    | (go_at_call 12; (with_reducible refine (HG1 _).mono ?_); rintro e w4 ⟨u4, rfl, t4, hb1⟩)
    | (refine p_storeR rfl _ _ rfl w4.heap.size rfl r u4 rfl (told_one t4) zeroR (.slice none 0 0) (Blk.new _ _ _) ?_))
  obtain ⟨A4, T4, b4⟩ := rec_new t4
  replace b4 := rstep hb1 b4
  replace A0 := A0.below b4 A0.lt
  replace T0 := T0.bel b4
  replace B0 := rstep B0 b4
  clear hb1 t4 b4 HG1
  generalize w4.heap.size = g4 at *
  generalize (w4.alloc _).setRow _ _ = W4 at *
  go_upto_region 6 with (first
    | (go_at_call 12; (with_reducible refine (HG2 _).mono ?_); rintro e w5 ⟨u5, rfl, t5, hb1⟩)
    | (refine p_storeR rfl _ _ rfl w5.heap.size rfl zeroR u5 rfl (told_one t5) zeroR (.slice none 0 0) (Blk.new _ _ _) ?_))
  obtain ⟨A5, T5, b5⟩ := rec_new t5
  replace b5 := rstep hb1 b5
  replace A0 := A0.below b5 A0.lt
  replace A4 := A4.below b5 A4.lt
  replace T0 := T0.bel b5
  replace T4 := T4.bel b5
  replace B0 := rstep B0 b5
  clear hb1 t5 b5 HG2
  generalize w5.heap.size = g5 at *
  generalize (w5.alloc _).setRow _ _ = W5 at *
  go_upto_region 7 with (first
    | (refine p_loadR rfl _ rfl g5 rfl zeroR u5 A5 ?_)
    | (go_at_call 10; (with_reducible refine (HP2 _ _ T5).mono ?_); rintro e w6 ⟨rfl, hb1⟩))
  replace A0 := A0.below hb1 A0.lt
  replace A4 := A4.below hb1 A4.lt
  replace A5 := A5.below hb1 A5.lt
  replace T0 := T0.bel hb1
  replace T4 := T4.bel hb1
  replace T5 := T5.bel hb1
  replace B0 := rstep B0 hb1
  clear hb1 HP2
  go_upto_region 9 with (first
    | (go_guarded; with_reducible (show wpList _ _ _ _ _ _))
    | (refine p_loadR rfl _ rfl w.heap.size rfl r u A0 ?_)
    | (go_at_call 15; (with_reducible refine (HI _ T0).mono ?_); rintro e w7 ⟨rfl, hb1⟩; have A0x := A0.below hb1 A0.lt; have A4x := A4.below hb1 A4.lt; have T0x := T0.bel hb1; have T4x := T4.bel hb1)
    | (go_guarded; rename_i K0 hK0; refine o_loadR _ rfl g4 rfl r u4 A4x ?_; refine hK0 _ _ ?_; simp only [Act.put, List.setIfInBounds_toArray, List.set_cons_succ, List.set_cons_zero])
    | (go_guarded; refine o_loadR _ rfl w.heap.size rfl r u A0x ?_)
    | (go_at_call 17; (with_reducible refine (HS _ _ T4x T0x).mono ?_); rintro e w8 ⟨rfl, hb2⟩))
  replace hb1 := rstep hb1 hb2
  clear hb2
  replace A0 := A0.below hb1 A0.lt
  replace A4 := A4.below hb1 A4.lt
  replace A5 := A5.below hb1 A5.lt
  replace T0 := T0.bel hb1
  replace T4 := T4.bel hb1
  replace T5 := T5.bel hb1
  replace B0 := rstep B0 hb1
  clear hb1 A0x A4x T0x T4x
  have B9 := Lib.hid B0
  obtain ⟨a5, c5, rfl⟩ : ∃ a c, u5 = .slice a 0 c := told_shape T5
  go_wp2_with (first
    | (go_guarded; with_reducible (show wpList _ _ _ _ _ _))
    | (go_at_call 14; (with_reducible refine (HR.out.calls _).mono ?_); rintro e w9 ⟨rfl, hb1⟩; have A5x := A5.below hb1 A5.lt; have c0 : w9.cell? ⟨g5, 0, none⟩ = some (.int .i64 0) := A5x.cell 0; have c1 : w9.cell? ⟨g5, 1, none⟩ = some (.slice a5 0 c5) := A5x.cell 1))
  go_ret
  exact ⟨rfl, rstep B9.out hb1⟩

set_option maxHeartbeats 1000000 in
theorem core04 {r : Rc} {u : Value} {w : World} (s : ByteArray) (hT : Told w u r.items) (hW : r.Wf) (hb : bigB r = false) (h5 : s.size ≤ 5000) (hr : isR r = true) (hv : getV s = zeroR) (he : getE s = 4) :
    Calls Try.prog 6 #[.agg (recC r u), .string s] w fun e w' => e = .returned (.bool true) ∧ Below w.heap.size w w' := by
  obtain ⟨A0, B0⟩ := rec_box w r u
  have T0 := hT.bel B0
  have hl : r.items.length ≤ 1000000 := by have := big_no hb; omega
  have hc : ¬ (5000 : Int) < (s.size : Int) := by omega
  have hlen := put_len hW
  have HB := big_any T0
  rw [hb] at HB
  have HP : ∀ W, Told W u r.items → Calls Try.prog 10 #[.agg (recC r u)] W fun e w' => e = .returned (.tuple #[.string (txt (putV r)), .int .i64 0]) ∧ Below W.heap.size W w' := fun W hT => by
    have h := recput_any hT hW hl
    have e : putE r = 0 := by unfold putE; rw [hr]; rfl
    rw [e] at h
    exact h
  have HI : ∀ W, Told W u r.items → Calls Try.prog 15 #[.agg (recC r u)] W fun e w' => e = .returned (.bool true) ∧ Below W.heap.size W w' := fun W hT => by
    have h := is_any hT hW hl
    rw [hr] at h
    exact h
  obtain ⟨Q, hQ⟩ : ∃ Q, Q = txt (putV r) := ⟨_, rfl⟩
  rw [← hQ] at hlen HP
  have HG1 : ∀ W, Calls Try.prog 12 #[.string Q] W (TellsR W r 0) := fun W => by
    have h := get_any Q W hlen
    have e : getR (bytesN Q) = .ok r := by
      have h1 := getR_put (isR_iff.1 hr) hW
      have h2 : putV r = putR r := by unfold putV; rw [hr]; rfl
      rw [hQ, h2, bytesN_txt _ ?_, h1]
      exact put_lt (isR_iff.1 hr) hW
    unfold getV getE at h
    rw [e] at h
    exact h
  have HS : ∀ W u1, Told W u1 r.items → Told W u r.items → Calls Try.prog 17 #[.agg (recC r u1), .agg (recC r u)] W fun e w' => e = .returned (.bool true) ∧ Below W.heap.size W w' := fun W u1 h1 h2 => by
    have h := same_rec h1 h2 hl
    rw [sameR_self] at h
    exact h
  have HG2 : ∀ W, Calls Try.prog 12 #[.string s] W (TellsR W zeroR 4) := fun W => by
    have h := get_any s W (by omega)
    rw [hv, he] at h
    exact h
  have HP2 : ∀ W v, Told W v zeroR.items → Calls Try.prog 10 #[.agg (recC zeroR v)] W fun e w' => e = .returned (.tuple #[.string (txt (putV zeroR)), .int .i64 1]) ∧ Below W.heap.size W w' := fun W v hT => recput_any hT zero_wf (by decide)
  generalize txt (putV zeroR) = Q2 at *
  clear hv he
  have HR := Lib.hid recorded_any
  clear hT hb h5 hr hW hl hlen hQ
  go_enter Try.func6, Try.ntmps6
  go_upto_region 1 with (fail)
  generalize w.alloc _ = W at *
  go_upto_region 3 with (first
    | (refine p_loadR rfl _ rfl w.heap.size rfl r u A0 ?_)
    | (go_at_call 9; (with_reducible refine HB.mono ?_); rintro e w1 ⟨rfl, hb1⟩))
  replace A0 := A0.below hb1 A0.lt
  replace T0 := T0.bel hb1
  replace B0 := rstep B0 hb1
  clear hb1 HB
  go_upto_region 4 with (first
    | (refine p_loadR rfl _ rfl w.heap.size rfl r u A0 ?_)
    | (go_at_call 10; (with_reducible refine (HP _ T0).mono ?_); rintro e w3 ⟨rfl, hb1⟩))
  replace A0 := A0.below hb1 A0.lt
  replace T0 := T0.bel hb1
  replace B0 := rstep B0 hb1
  clear hb1 HP
  go_upto_region 5 with (first
    | (go_at_call 12; (with_reducible refine (HG1 _).mono ?_); rintro e w4 ⟨u4, rfl, t4, hb1⟩)
    | (refine p_storeR rfl _ _ rfl w4.heap.size rfl r u4 rfl (told_one t4) zeroR (.slice none 0 0) (Blk.new _ _ _) ?_))
  obtain ⟨A4, T4, b4⟩ := rec_new t4
  replace b4 := rstep hb1 b4
  replace A0 := A0.below b4 A0.lt
  replace T0 := T0.bel b4
  replace B0 := rstep B0 b4
  clear hb1 t4 b4 HG1
  generalize w4.heap.size = g4 at *
  generalize (w4.alloc _).setRow _ _ = W4 at *
  go_upto_region 6 with (first
    | (go_at_call 12; (with_reducible refine (HG2 _).mono ?_); rintro e w5 ⟨u5, rfl, t5, hb1⟩)
    | (refine p_storeR rfl _ _ rfl w5.heap.size rfl zeroR u5 rfl (told_one t5) zeroR (.slice none 0 0) (Blk.new _ _ _) ?_))
  obtain ⟨A5, T5, b5⟩ := rec_new t5
  replace b5 := rstep hb1 b5
  replace A0 := A0.below b5 A0.lt
  replace A4 := A4.below b5 A4.lt
  replace T0 := T0.bel b5
  replace T4 := T4.bel b5
  replace B0 := rstep B0 b5
  clear hb1 t5 b5 HG2
  generalize w5.heap.size = g5 at *
  generalize (w5.alloc _).setRow _ _ = W5 at *
  go_upto_region 7 with (first
    | (refine p_loadR rfl _ rfl g5 rfl zeroR u5 A5 ?_)
    | (go_at_call 10; (with_reducible refine (HP2 _ _ T5).mono ?_); rintro e w6 ⟨rfl, hb1⟩))
  replace A0 := A0.below hb1 A0.lt
  replace A4 := A4.below hb1 A4.lt
  replace A5 := A5.below hb1 A5.lt
  replace T0 := T0.bel hb1
  replace T4 := T4.bel hb1
  replace T5 := T5.bel hb1
  replace B0 := rstep B0 hb1
  clear hb1 HP2
  go_upto_region 9 with (first
    | (go_guarded; with_reducible (show wpList _ _ _ _ _ _))
    | (refine p_loadR rfl _ rfl w.heap.size rfl r u A0 ?_)
    | (go_at_call 15; (with_reducible refine (HI _ T0).mono ?_); rintro e w7 ⟨rfl, hb1⟩; have A0x := A0.below hb1 A0.lt; have A4x := A4.below hb1 A4.lt; have T0x := T0.bel hb1; have T4x := T4.bel hb1)
    | (go_guarded; rename_i K0 hK0; refine o_loadR _ rfl g4 rfl r u4 A4x ?_; refine hK0 _ _ ?_; simp only [Act.put, List.setIfInBounds_toArray, List.set_cons_succ, List.set_cons_zero])
    | (go_guarded; refine o_loadR _ rfl w.heap.size rfl r u A0x ?_)
    | (go_at_call 17; (with_reducible refine (HS _ _ T4x T0x).mono ?_); rintro e w8 ⟨rfl, hb2⟩))
  replace hb1 := rstep hb1 hb2
  clear hb2
  replace A0 := A0.below hb1 A0.lt
  replace A4 := A4.below hb1 A4.lt
  replace A5 := A5.below hb1 A5.lt
  replace T0 := T0.bel hb1
  replace T4 := T4.bel hb1
  replace T5 := T5.bel hb1
  replace B0 := rstep B0 hb1
  clear hb1 A0x A4x T0x T4x
  have B9 := Lib.hid B0
  obtain ⟨a5, c5, rfl⟩ : ∃ a c, u5 = .slice a 0 c := told_shape T5
  go_wp2_with (first
    | (go_guarded; with_reducible (show wpList _ _ _ _ _ _))
    | (go_at_call 14; (with_reducible refine (HR.out.calls _).mono ?_); rintro e w9 ⟨rfl, hb1⟩; have A5x := A5.below hb1 A5.lt; have c0 : w9.cell? ⟨g5, 0, none⟩ = some (.int .i64 0) := A5x.cell 0; have c1 : w9.cell? ⟨g5, 1, none⟩ = some (.slice a5 0 c5) := A5x.cell 1))
  go_ret
  exact ⟨rfl, rstep B9.out hb1⟩

theorem walk {r : Rc} {u : Value} {w : World} (hT : Told w u r.items) (hW : r.Wf) (s : ByteArray) (_ : s.size ≤ maxLen) :
    Calls Try.prog 6 #[.agg (recC r u), .string s] w fun e w' => e = .returned (.bool true) ∧ Below w.heap.size w w' := by
  cases hb : bigB r
  · by_cases h5 : s.size ≤ 5000
    · cases hr : isR r
      · rcases got s with ⟨y, hv, he, yW, yl, yp, ye, yr⟩ | ⟨hv, he | he⟩
        · exact core1k s hT hW hb h5 hr hv he yW yl yp ye yr
        · exact core13 s hT hW hb h5 hr hv he
        · exact core14 s hT hW hb h5 hr hv he
      · rcases got s with ⟨y, hv, he, yW, yl, yp, ye, yr⟩ | ⟨hv, he | he⟩
        · exact core0k s hT hW hb h5 hr hv he yW yl yp ye yr
        · exact core03 s hT hW hb h5 hr hv he
        · exact core04 s hT hW hb h5 hr hv he
    · exact let_go s hT (.inr ⟨hb, by omega⟩)
  · exact let_go s hT (.inl hb)
set_option maxRecDepth 100000 in
theorem lifted (os : Os) (started : os.Started) (H : Type) (enc : TypeId × Value → H) :
    ReturnsInHanded {} Try.checked os 6 .any (Rows.recordBackSpec.pre6 enc Try.prog Try.f6 Rows.recordBackRow.domain false) (Rows.recordBackSpec.post enc Try.prog Try.f6 false true false false) := by
  refine returnsInHanded_of_change (C := Try.checked) own started (by kernel_rfl) Try.func6
    (ChangeSpec.witness6 (enc := enc) (C := Try.checked) false ⟨#[], #[.agg #[.int .i64 0, .slice none 0 0, .int .i64 0, .int .u64 0, .int .u64 0], .string ⟨#[]⟩], []⟩ 8 (by kernel_rfl) (by kernel_rfl) (by kernel_rfl) (by kernel_rfl)) ?_
  intro W base args ds gs before hval0 hW hcnd _
  have hval : ∀ (j : Nat) t v, Try.f6.params[j]? = some t → args[j]? = some v → Value.okWide Try.prog W .any base t v := hval0
  have hW' := hW
  obtain ⟨p, q, hA0, hV, rfl, hfz, hnd⟩ := hW
  have hA : DataW.TrodAll enc Try.prog W 0 (fun _ => true) true Try.f6.params.toList args.toList ds p := hA0
  rw [Try.params6] at hA hval
  obtain ⟨v0, vs0, d0, ds0, p0, q0, hargs, rfl, rfl, h0, r0⟩ := trodAll_cons hA
  obtain ⟨v1, vs1, d1, ds1, p1, q1, rfl, rfl, rfl, h1, r1⟩ := trodAll_cons r0
  obtain ⟨rfl, rfl, rfl⟩ := trodAll_nil r1
  obtain rfl : args = #[v0, v1] := by cases args; simp_all
  obtain ⟨rfl, rfl⟩ := trodVars_none hV
  have k0 := h0
  have lt0 : ∀ x ∈ p0, x.block < W.heap.size := by obtain ⟨m, hm⟩ := k0; exact DataW.trod_lt m _ _ _ hm
  obtain ⟨R0, u0, wf0, rfl, tl0⟩ := open_rec (hval 0 27 v0 rfl rfl) h0
  have k1 := h1
  have lt1 : ∀ x ∈ p1, x.block < W.heap.size := by obtain ⟨m, hm⟩ := k1; exact DataW.trod_lt m _ _ _ hm
  obtain ⟨n1, rfl, _, _, ws1⟩ := open_string Try.underlying9 (hval 1 9 v1 rfl rfl) h1
  clear hA0 hval0
  refine (walk tl0 wf0 n1 ws1).mono fun e W' ⟨he, bel⟩ => ?_
  subst he
  exact ⟨_, rfl, _, _, _, [], _, [], hW', trodAll_mk1 (shut_bool Try.underlying4 _), (trodAll_cons_mk (Below.trod laidOut (by kernel_rfl) (of_decide_eq_true (by kernel_rfl)) k0 bel lt0) (trodAll_cons_mk (Below.trod laidOut (by kernel_rfl) (of_decide_eq_true (by kernel_rfl)) k1 bel lt1) trodAll_mk0)), rfl, bel.frame _, fun h => by cases h⟩

theorem proved : Rows.RecordBackSaid :=
  OpenClaim.holds_of_wide 6 Try.f6 rfl rfl rfl rfl rfl rfl rfl ⟨rfl, rfl, rfl, rfl, rfl⟩ rfl rfl rfl rfl rfl (by kernel_rfl) Try.func6 (by kernel_rfl)
    (of_decide_eq_true (by kernel_rfl)) (by unfold Func.isWrapper; first | (rw [if_pos (by decide +kernel)]; kernel_rfl) | (rw [if_neg (by decide +kernel)]; exact ⟨rfl, rfl⟩))
    (fun os started H enc _ => lifted os started H enc)
end Go.Proofs.Ytkicndengkcojaa.RecBackLaw
