/- The program's calls tell, Text and Error. -/
import Derived.Test.YtgpmfiphebmldaaDoorBlaBld
import Derived.Deep.Cut
import Derived.Lib.Hide
namespace Go.Proofs.YtgpmfiphebmldaaDoor
open Go.RowKit Go.Sort

/-- what telling v writes behind -/
def Tells (v : Value) (t : ET) : Prop := ∀ (B b : Nat) (l : List UInt8) (w : World), Er w (fun k => k < B) v t → Bd B b l w → B ≤ w.heap.size → 4 ≤ B → Glob w → l.length + t.wt ≤ 1000000000 →
  Calls Tryd.prog 34 #[.pointer (some ⟨b, 0, none⟩), v] w fun e w' => e = .returned (.tuple #[]) ∧ Bd B b (l ++ t.text) w' ∧ Below B w w'

set_option maxRecDepth 100000 in
theorem tell_code (c : Int) (v0 : Value) : Tells v0 (.code c) := by
  intro B b l w hE hb hB h4 hG hl
  cases hE with
  | code _ hc =>
  have tc := t_cc
  have hlen := Lib.itoa_length_le c hc.2.1 hc.2.2
  rw [ET.wt] at hl
  have hI := itoa_any c hc.2.1 hc.2.2 w hG
  have hcat : (⟨#[101, 114, 114, 111, 114, 32]⟩ : ByteArray) ++ ⟨(Lib.itoa c).toArray⟩ = bs (errB ++ Lib.itoa c) := bs_append errB _
  have HI := Lib.hid hI
  have HB := Lib.hid hb
  have hW : ∀ w', Below w.heap.size w w' → Hid (Calls Tryd.prog 46 #[.pointer (some ⟨b, 0, none⟩), .string (bs (errB ++ Lib.itoa c))] w' fun e w'' => e = .returned (.tuple #[.int .i64 (bs (errB ++ Lib.itoa c)).size, .nilIface]) ∧ Bd B b (l ++ (bs (errB ++ Lib.itoa c)).data.toList) w'' ∧ Below B w' w'') := fun w' hw => by
    refine write_any B b l _ w' (HB.out.below hw) ?_ (Nat.le_trans hB hw.size)
    rw [bs_size, List.length_append]
    have : errB.length = 6 := rfl
    omega
  clear hI hb
  have HX := Lib.hid (bs_list (errB ++ Lib.itoa c))
  rw [← hcat] at *
  clear hcat
  go_enter Tryd.func34, Tryd.ntmps34
  go_wp2_with (first
    | (go_at_call 47; (with_reducible refine HI.out.mono ?_); rintro e w1 ⟨rfl, hb1⟩)
    | (go_at_call 46; (with_reducible refine (hW _ hb1).out.mono ?_); rintro e w2 ⟨rfl, hb2, hb3⟩))
  go_end0
  refine ⟨rfl, ?_, (hb1.mono hB).trans hb3⟩
  rw [HX.out] at hb2
  exact hb2

set_option maxRecDepth 100000 in
theorem tell_wrap (op : ByteArray) (t : ET) (H : ∀ v, Tells v t) (v0 : Value) : Tells v0 (.wrap op t) := by
  intro B b l w hE hb hB h4 hG hl
  rw [ET.wt] at hl
  cases hE with
  | wrap bk _ v _ hp hbk hv =>
  have tc := t_wc
  have tw := t_ww
  have hcat : op ++ ⟨#[58, 32]⟩ = bs (op.data.toList ++ [58, 32]) := by rw [← bs_append, bs_of]; rfl
  have k0 := hbk.cell 0
  have k1 := hbk.cell 1
  have hW := write_any B b l (bs (op.data.toList ++ [58, 32])) w hb (by rw [bs_size]; simp; omega) hB
  have HW := Lib.hid hW
  have HT : ∀ w', Below B w w' → Bd B b (l ++ (bs (op.data.toList ++ [58, 32])).data.toList) w' → Hid (Calls Tryd.prog 34 #[.pointer (some ⟨b, 0, none⟩), v] w' fun e w'' => e = .returned (.tuple #[]) ∧ Bd B b ((l ++ (bs (op.data.toList ++ [58, 32])).data.toList) ++ t.text) w'' ∧ Below B w' w'') := fun w' hw hb' =>
    H v B b _ w' (hv.bel hw) hb' (Nat.le_trans hB hw.size) h4 (hG.below hw h4) (by rw [bs_list]; simp; omega)
  have HK : ∀ w', Below B w w' → w'.cell? ⟨bk, 1, none⟩ = some v := fun w' hw => (hw.cell hp).trans k1
  clear hW hb hv
  have HX := Lib.hid (bs_list (op.data.toList ++ [58, 32]))
  rw [← hcat] at *
  clear hcat
  go_enter Tryd.func34, Tryd.ntmps34
  go_wp2_with (first
    | (go_at_call 46; (with_reducible refine HW.out.mono ?_); rintro e w1 ⟨rfl, hb1, hb2⟩; have hk1 := HK _ hb2)
    | (go_at_call 34; (with_reducible refine (HT _ hb2 hb1).out.mono ?_); rintro e w2 ⟨rfl, hb3, hb4⟩))
  go_end0
  refine ⟨rfl, ?_, hb2.trans hb4⟩
  rw [HX.out] at hb3
  rw [ET.text, ← List.append_assoc]
  exact hb3

set_option maxHeartbeats 1000000 in
set_option maxRecDepth 100000 in
theorem tell_join (ts : List ET) (hn1 : ts.length ≤ 1000000) (H : ∀ t, t ∈ ts → ∀ v, Tells v t) (v0 : Value) : Tells v0 (.join ts) := by
  intro B b l w hE hb hB h4 hG hl
  rw [ET.wt] at hl
  have hok := hE.ok.2
  cases hE with
  | join bk g cap vs _ hp hpg hne hbk hc hlv hv hE =>
  have tc := t_jc
  have tw := t_jw
  have tj := t_jj
  have k0 := hbk.cell 0
  have HV := Lib.hid hv
  have HE := Lib.hid hE
  have HH := Lib.hid H
  have HK := Lib.hid hok
  obtain ⟨n, hnn⟩ : ∃ n, n = ts.length := ⟨_, rfl⟩
  have HN := Lib.hid hnn
  have hlv' : vs.length = n := by rw [hlv, hnn]
  have hn2 : n ≤ 1000000 := by omega
  rw [← hnn] at k0 hc
  clear hv hE H hok hnn hlv hn1
  go_enter Tryd.func34, Tryd.ntmps34
  go_wp2
  go_loopw [8, 9, 51] (fun _ _ i wr => ∃ k : Nat, k ≤ n ∧ i = .int .i64 k ∧ Below B w wr ∧ Bd B b (l ++ ET.textL true (ts.take k)) wr) (fun _ _ i _ => n - (intOf i).toNat)
  case atStart => exact ⟨0, by omega, rfl, Below.refl _ _, by simpa [ET.textL] using hb⟩
  case round =>
    obtain ⟨k, hk, rfl, hB1, hb1⟩ := hrel
    have HB := Lib.hid hB1
    have HD := Lib.hid hb1
    clear hB1 hb1
    by_cases hlt : k < n
    · obtain ⟨v, hvk⟩ : ∃ v, vs[k]? = some v := ⟨_, List.getElem?_eq_getElem (by omega)⟩
      obtain ⟨t, htk⟩ : ∃ t, ts[k]? = some t := ⟨_, List.getElem?_eq_getElem (by rw [← HN.out]; omega)⟩
      have hc0 := HV.out k v hvk
      rw [Nat.zero_add] at hc0
      have hcv : wr.cell? ⟨g, k, none⟩ = some v := (HB.out.cell hpg).trans hc0
      have hsn := textL_snoc (ts.take k) t
      rw [← take_snoc ts k t htk, List.length_take, ← HN.out] at hsn
      have hmin : min k n = k := by omega
      rw [hmin] at hsn
      have hw1 := wtL_take ts k
      have hw2 := wtL_take ts (k + 1)
      rw [take_snoc ts k t htk, wtL_snoc] at hw2
      have hl1 := textL_le (ts.take k) true (ET.okL_iff.2 fun t ht => ET.okL_iff.1 HK.out t (List.mem_of_mem_take ht))
      have hW : Hid (Calls Tryd.prog 46 #[.pointer (some ⟨b, 0, none⟩), .string ⟨#[59, 32]⟩] wr fun e w'' => e = .returned (.tuple #[.int .i64 (2 : Nat), .nilIface]) ∧ Bd B b (l ++ ET.textL true (ts.take k) ++ [59, 32]) w'' ∧ Below B wr w'') :=
        write_any B b _ (bs [59, 32]) wr HD.out (by rw [bs_size, List.length_append]; simp; omega) (Nat.le_trans hB HB.out.size)
      have hT : ∀ (q : List UInt8) w', Below B w w' → q.length ≤ 2 → Bd B b (l ++ ET.textL true (ts.take k) ++ q) w' → Hid (Calls Tryd.prog 34 #[.pointer (some ⟨b, 0, none⟩), v] w' fun e w'' => e = .returned (.tuple #[]) ∧ Bd B b ((l ++ ET.textL true (ts.take k) ++ q) ++ t.text) w'' ∧ Below B w' w'') := fun q w' hw hq hb' =>
        HH.out t (List.mem_of_getElem? htk) v B b _ w' ((HE.out k v t hvk htk).bel hw) hb' (Nat.le_trans hB hw.size) h4 (hG.below hw h4) (by simp only [List.length_append]; omega)
      clear hw1 hw2 hl1 hc0
      by_cases h0 : k = 0
      · subst h0
        have hgt : decide ((0 : Int) < ((0 : Nat) : Int)) = false := by decide
        have hd1 := HD.out
        rw [show l ++ ET.textL true (ts.take 0) = l ++ ET.textL true (ts.take 0) ++ [] by simp] at hd1
        have HT := Lib.hid (hT [] wr HB.out (by simp) hd1).out
        clear hT hW hd1
        have HS := Lib.hid hsn
        clear hsn
        go_wp2_with (go_at_call 34; (with_reducible refine HT.out.mono ?_); rintro e w2 ⟨rfl, hb3, hb4⟩)
        refine ⟨⟨1, by omega, by go_num, HB.out.trans hb4, ?_⟩, by simp [intOf]; omega⟩
        rw [HS.out]
        simpa using hb3
      · have hgt : decide ((0 : Int) < (k : Int)) = true := by simp; omega
        have HS := Lib.hid hsn
        clear hsn
        go_wp2_with (first
          | (go_at_call 46; (with_reducible refine hW.out.mono ?_); rintro e w1 ⟨rfl, hb1, hb2⟩)
          | (go_at_call 34; (with_reducible refine (hT [59, 32] _ (HB.out.trans hb2) (by simp) hb1).out.mono ?_); rintro e w2 ⟨rfl, hb3, hb4⟩))
        refine ⟨⟨k + 1, by omega, by go_num, (HB.out.trans hb2).trans hb4, ?_⟩, by simp [intOf]; omega⟩
        rw [HS.out, if_neg h0]
        simpa using hb3
    · obtain rfl : n = k := by omega
      have hd := HD.out
      rw [HN.out, List.take_length] at hd
      have HD2 := Lib.hid hd
      clear hd
      go_wp2
      go_end0
      refine ⟨rfl, ?_, HB.out⟩
      rw [ET.text]
      exact HD2.out

theorem tell_any (t : ET) (ht : t.wt ≤ 1000000) : ∀ v, Tells v t := by
  induction t using ET.ind with
  | hc c => exact tell_code c
  | hw op t ih => rw [ET.wt] at ht; exact tell_wrap op t (ih (by omega))
  | hj l ih =>
    rw [ET.wt] at ht
    have := wtL_length l
    exact tell_join l (by omega) fun t h => ih t h (by have := wtL_mem h; omega)
end Go.Proofs.YtgpmfiphebmldaaDoor
