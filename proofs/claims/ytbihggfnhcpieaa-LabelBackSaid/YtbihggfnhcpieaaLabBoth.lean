/- Labels: what the program and the document tell alike. -/
import Derived.Test.YtbihggfnhcpieaaLabRefRest
import Derived.Test.YtbihggfnhcpieaaLabRefSib
import Derived.Test.YtbihggfnhcpieaaLabPlace
import Derived.Test.YtbihggfnhcpieaaIdOps
namespace Go.Proofs.Ytbihggfnhcpieaa
open Go.RowKit Go.Sort

/-- a label that is no label, or a right one -/
theorem lab_cases (n : Int) (b : Nat) : isB n b = false ∨ ∃ m : Nat, n = m ∧ m ≤ 64 ∧ lowB m b = true := by
  cases hi : isB n b
  · exact .inl rfl
  · right
    have hn := isB_len hi
    obtain ⟨m, rfl⟩ := Int.eq_ofNat_of_zero_le hn.1
    exact ⟨m, rfl, by omega, isB_low hi⟩
section
variable (n : Int) (b : Nat) (h1 : -9223372036854775808 ≤ n) (h2 : n ≤ 9223372036854775807) (hb : b < 18446744073709551616)
include h1 h2 hb
theorem both_child (bit : Int) : ∃ m c e, Gives Try.prog 9 #[.agg (labc n b), .int .i64 bit] (.tuple #[.agg (labc m c), .int .i64 e]) ∧ Gives Try.prog 10 #[.agg (labc n b), .int .i64 bit] (.tuple #[.agg (labc m c), .int .i64 e]) := by
  rcases lab_cases n b with hi | ⟨m, rfl, hm, hi⟩
  · exact ⟨0, 0, 1, fun w => child_no n b bit w h1 h2 hb hi, fun w => refChild_no n b bit w hb hi⟩
  · by_cases hbit : 0 ≤ bit ∧ bit < 2
    · obtain ⟨k, rfl⟩ := Int.eq_ofNat_of_zero_le hbit.1
      by_cases h64 : m = 64
      · subst h64
        exact ⟨0, 0, 5, fun w => child_full b k w hb hi (by omega), fun w => refChild_full b k w hb hi (by omega)⟩
      · exact ⟨_, _, 0, child_bits m b k (by omega) hb hi (by omega), refChild_bits m b k (by omega) hb hi (by omega)⟩
    · exact ⟨0, 0, 1, fun w => child_bit m b bit w hm hb hi (by rw [bne_iff_ne]; omega) (by rw [bne_iff_ne]; omega), fun w => refChild_bit m b bit w hm hb hi (by omega)⟩
theorem both_parent : ∃ m c e, Gives Try.prog 11 #[.agg (labc n b)] (.tuple #[.agg (labc m c), .int .i64 e]) ∧ Gives Try.prog 12 #[.agg (labc n b)] (.tuple #[.agg (labc m c), .int .i64 e]) := by
  rcases lab_cases n b with hi | ⟨m, rfl, hm, hi⟩
  · exact ⟨0, 0, 1, fun w => parent_no n b w h1 h2 hb hi, fun w => refParent_no n b w hb hi⟩
  · rcases Nat.eq_zero_or_pos m with rfl | hp
    · exact ⟨0, 0, 7, fun w => parent_root b w hb hi, fun w => refParent_root b w hb hi⟩
    · obtain ⟨k, rfl⟩ : ∃ k, m = k + 1 := ⟨m - 1, by omega⟩
      exact ⟨k, cutN k b, 0, fun w => parent_yes k b w (by omega) hb hi, fun w => refParent_yes k b w (by omega) hb hi⟩
theorem both_sibling : ∃ m c e, Gives Try.prog 13 #[.agg (labc n b)] (.tuple #[.agg (labc m c), .int .i64 e]) ∧ Gives Try.prog 14 #[.agg (labc n b)] (.tuple #[.agg (labc m c), .int .i64 e]) := by
  rcases lab_cases n b with hi | ⟨m, rfl, hm, hi⟩
  · exact ⟨0, 0, 1, fun w => sibling_err n b 1 w (fun w => parent_no n b w h1 h2 hb hi) (by decide), fun w => refSibling_err n b 1 w (fun w => refParent_no n b w hb hi) (by decide)⟩
  · rcases Nat.eq_zero_or_pos m with rfl | hp
    · exact ⟨0, 0, 7, fun w => sibling_err _ b 7 w (fun w => parent_root b w hb hi) (by decide), fun w => refSibling_err _ b 7 w (fun w => refParent_root b w hb hi) (by decide)⟩
    · obtain ⟨k, rfl⟩ : ∃ k, m = k + 1 := ⟨m - 1, by omega⟩
      exact ⟨_, _, 0, fun w => sibling_yes k b w (by omega) hb hi, fun w => refSibling_yes k b w (by omega) hb hi⟩
theorem both_span : ∃ (x y : Nat) (e : Int), Gives Try.prog 15 #[.agg (labc n b)] (.tuple #[.int .u64 (x : Int), .int .u64 (y : Int), .int .i64 e]) ∧ Gives Try.prog 16 #[.agg (labc n b)] (.tuple #[.int .u64 (x : Int), .int .u64 (y : Int), .int .i64 e]) := by
  rcases lab_cases n b with hi | ⟨m, rfl, hm, hi⟩
  · exact ⟨0, 0, 1, fun w => span_no n b w h1 h2 hb hi, fun w => refSpan_no n b w hb hi⟩
  · exact ⟨_, _, 0, fun w => span_yes m b w hm hb hi, fun w => refSpan_yes m b w hm hb hi⟩
theorem both_next : ∃ (x : Int) (r : Bool), Gives Try.prog 17 #[.agg (labc n b)] (.tuple #[.int .u64 x, .bool r]) ∧ Gives Try.prog 18 #[.agg (labc n b)] (.tuple #[.int .u64 x, .bool r]) := by
  rcases lab_cases n b with hi | ⟨m, rfl, hm, hi⟩
  · exact ⟨0, false, fun w => next_no n b w h1 h2 hb hi, fun w => refNext_no n b w hb hi⟩
  · have hr := lab_room hb hi
    have hg := gap_pos m
    by_cases hl : b + (gap m - 1) = 18446744073709551615
    · exact ⟨0, false, fun w => next_last m b _ w hm hb hi rfl (by rw [hl]; rfl), fun w => refNext_last m b _ w hm hb hi rfl (by rw [hl]; rfl)⟩
    · have hl' : (((b + (gap m - 1) : Nat) : Int) == 18446744073709551615) = false := by rw [beq_eq_false_iff_ne]; omega
      exact ⟨_, true, fun w => next_yes m b _ w hm hb hi rfl hl' (by omega), fun w => refNext_yes m b _ w hm hb hi rfl hl' (by omega)⟩
theorem both_text : ∃ (X : ByteArray) (e : Int), X.size ≤ 65 ∧ (e = 0 ∨ e = 1) ∧ Gives Try.prog 19 #[.agg (labc n b)] (.tuple #[.string X, .int .i64 e]) ∧ Gives Try.prog 20 #[.agg (labc n b)] (.tuple #[.string X, .int .i64 e]) := by
  rcases lab_cases n b with hi | ⟨m, rfl, hm, hi⟩
  · exact ⟨⟨#[]⟩, 1, by decide, .inr rfl, fun w => text_no n b w h1 h2 hb hi, fun w => refText_no n b w hb hi⟩
  · exact ⟨txt (textN m b), 0, by rw [txt_size, textN_length]; omega, .inl rfl, fun w => text_yes m b w hm hb hi, fun w => refText_yes m b w hm hb hi⟩
theorem both_place : ∃ (N : Nat) (e : Int), Gives Try.prog 21 #[.agg (labc n b)] (.tuple #[.agg (row (dig 20 N)), .int .i64 e]) ∧ Gives Try.prog 22 #[.agg (labc n b)] (.tuple #[.agg (row (dig 20 N)), .int .i64 e]) := by
  obtain ⟨X, e, hx, he, t1, t2⟩ := both_text n b h1 h2 hb
  rcases he with rfl | rfl
  · exact ⟨_, 0, fun w => place_ok n b X w t1 hx, fun w => refPlace_ok n b X w t2 hx⟩
  · exact ⟨0, 1, fun w => place_err n b X 1 w t1 (by decide), fun w => refPlace_err n b X 1 w t2 (by decide)⟩
end
theorem both_of (key : Nat) (n : Int) (hk : key < 18446744073709551616) (h1 : -9223372036854775808 ≤ n) (h2 : n ≤ 9223372036854775807) : ∃ m c e, Gives Try.prog 26 #[.int .u64 (key : Int), .int .i64 n] (.tuple #[.agg (labc m c), .int .i64 e]) ∧ Gives Try.prog 27 #[.int .u64 (key : Int), .int .i64 n] (.tuple #[.agg (labc m c), .int .i64 e]) := by
  by_cases hl : 0 ≤ n ∧ n ≤ 64
  · obtain ⟨k, rfl⟩ := Int.eq_ofNat_of_zero_le hl.1
    exact ⟨_, _, 0, fun w => ofL_yes key k w (by omega) hk, fun w => refOf_yes key k w (by omega) hk⟩
  · exact ⟨0, 0, 1, fun w => ofL_no key n w h1 h2 (lenB_no hl), fun w => refOf_no key n w hl⟩
theorem both_parse (s : ByteArray) (hs : s.size ≤ 9223372036854775807) : ∃ m c e, Gives Try.prog 28 #[.string s] (.tuple #[.agg (labc m c), .int .i64 e]) ∧ Gives Try.prog 29 #[.string s] (.tuple #[.agg (labc m c), .int .i64 e]) := by
  have p1 := parse_any s hs
  have p2 := refParse_any s hs
  unfold parsedT at p1 p2
  cases hg : goodT s
  · rw [hg] at p1 p2; exact ⟨0, 0, 3, p1, p2⟩
  · rw [hg] at p1 p2; exact ⟨_, _, 0, p1, p2⟩
theorem q_loadI {W : World} {o : Oper} {a : Act} {K : Act → Prop} (x : Operand) (ho : o.op = .load 36 x) (g : Nat) (hx : a.eval x = .pointer (some ⟨g, 0, none⟩)) (n : Nat)
    (hg : Blk W g (row (dig 20 n)) 36) (hk : K (a.put o.dst (idv n))) : o.quiet Try.prog a (fun w' => ∃ p : Regrown, w' = grow (redrawn W p.d) p.os) K := q_load x ho g n hx hg hk
theorem p_loadI {ops : Array Oper} {rest : List Oper} {o : Oper} {a : Act} {w : World} {Q : Exit → Act → World → Prop} (hgd : o.guard = none) (x : Operand) (ho : o.op = .load 36 x)
    (g : Nat) (hx : a.eval x = .pointer (some ⟨g, 0, none⟩)) (n : Nat) (hg : Blk w g (row (dig 20 n)) 36)
    (h : wpList Try.prog ops Q rest (a.put o.dst (idv n)) w) : wpList Try.prog ops Q (o :: rest) a w := p_load hgd x ho g hx n hg h
theorem o_loadI {o : Oper} {a : Act} {w : World} {K : Act → World → Prop} {Q : Exit → Act → World → Prop} (x : Operand) (ho : o.op = .load 36 x)
    (g : Nat) (hx : a.eval x = .pointer (some ⟨g, 0, none⟩)) (n : Nat) (hg : Blk w g (row (dig 20 n)) 36) (h : K (a.put o.dst (idv n)) w) : o.wp Try.prog a w K Q := o_load x ho g hx n hg h
end Go.Proofs.Ytbihggfnhcpieaa
