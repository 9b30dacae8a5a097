/- The program's bytes of numbers, bools, peers and rows of them. -/
import Derived.Test.YtplcdjmidelboaaLetIs
import Derived.Test.YtplcdjmidelboaaWirPut
namespace Go.Proofs.Ytplcdjmidelboaa
set_option maxRecDepth 100000
open Go Go.RowKit Go.Sort

theorem is_any {w : World} {l : Lt} {u v : Value} (hM : LtM w l u v) (hk : -9223372036854775808 ≤ l.kind ∧ l.kind ≤ 9223372036854775807) (hla : l.avoid.length ≤ 1000000) (hlp : l.peers.length ≤ 1000000) :
    Calls Try.prog 12 #[.agg (ltA l u v)] w fun e w' => e = .returned (.bool (rightB l)) ∧ Below w.heap.size w w' :=
  is_core hM hk hla hlp (isK l.kind) (missL l) (eqP l.peer noP) (l.kind == 2) (adB l.fr.1) (adB l.peer.1) (l.avoid.all adB) (l.peers.all fun x => adB x.1) rfl (fun h => miss_any l.kind h _ _ _ _ _ _) rfl rfl rfl rfl rfl rfl
theorem putInt_any (b : ByteArray) (n : Int) (w : World) (hb : b.size ≤ 1000000) (h0 : 0 ≤ n) (h1 : n ≤ 9223372036854775807) :
    Calls Try.prog 19 #[.string b, .int .i64 n] w fun e w' => e = .returned (.string (b ++ txt (numN n.toNat))) ∧ Below w.heap.size w w' := by
  obtain ⟨v, rfl⟩ : ∃ v : Nat, n = v := ⟨n.toNat, by omega⟩
  rw [Int.toNat_natCast]
  have HP := Lib.hid (fun w => putNumber_any b v w hb (by omega))
  have hcv : IntKind.u64.wrap (v : Int) = (v : Int) := IntWalk.u64_in _ (by omega)
  go_enter Try.func19, Try.ntmps19
  go_wp2_with (go_at_call 21; (with_reducible refine (HP.out _).mono ?_); rintro e w1 ⟨rfl, k1⟩)
  go_ret
  exact ⟨rfl, k1⟩
theorem putBool_any (b : ByteArray) (c : Bool) (w : World) (hb : b.size ≤ 1000000) :
    Calls Try.prog 24 #[.string b, .bool c] w fun e w' => e = .returned (.string (b ++ txt (bitN c))) ∧ Below w.heap.size w w' := by
  have H0 : Hid (∀ w, Calls Try.prog 21 #[.string b, .int .u64 0] w fun e w' => e = .returned (.string (b ++ txt (numN 0))) ∧ Below w.heap.size w w') := fun w => putNumber_any b 0 w hb (by omega)
  have H1 : Hid (∀ w, Calls Try.prog 21 #[.string b, .int .u64 1] w fun e w' => e = .returned (.string (b ++ txt (numN 1))) ∧ Below w.heap.size w w') := fun w => putNumber_any b 1 w hb (by omega)
  cases c
  · rw [show bitN false = numN 0 from rfl]
    generalize b ++ txt (numN 0) = r at *
    go_enter Try.func24, Try.ntmps24
    go_wp2_with (go_at_call 21; (with_reducible refine (H0.out _).mono ?_); rintro e w1 ⟨rfl, k1⟩)
    go_ret
    exact ⟨rfl, k1⟩
  · rw [show bitN true = numN 1 from rfl]
    generalize b ++ txt (numN 1) = r at *
    go_enter Try.func24, Try.ntmps24
    go_wp2_with (go_at_call 21; (with_reducible refine (H1.out _).mono ?_); rintro e w1 ⟨rfl, k1⟩)
    go_ret
    exact ⟨rfl, k1⟩
theorem size_app (b : ByteArray) (L : List Nat) : (b ++ txt L).size = b.size + L.length := by rw [ByteArray.size_append, txt_size]
theorem app_app (b : ByteArray) (L K : List Nat) : b ++ txt L ++ txt K = b ++ txt (L ++ K) := by rw [txt_append, ByteArray.append_assoc]
theorem putPeer_any (b : ByteArray) (x : Pe) (w : World) (hb : b.size ≤ 900000) (hx : adB x.1 = true) :
    Calls Try.prog 18 #[.string b, .agg (peA x)] w fun e w' => e = .returned (.string (b ++ txt (peN x))) ∧ Below w.heap.size w w' := by
  have ha := adB_iff.1 hx
  have hl := numN_len (v := x.1.toNat) (by omega)
  have HP := Lib.hid (fun w => putInt_any b x.1 w (by omega) (by omega) (by omega))
  have HQ := Lib.hid (fun w => putPlace_any (b ++ txt (numN x.1.toNat)) x.2 w (by rw [size_app]; omega))
  have B0 := (Below.refl w.heap.size w).alloc (Nat.le_refl _) (.cells (peA x) 25)
  have X0 := PB.new w x
  rw [app_app, show numN x.1.toNat ++ dig 20 x.2 = peN x from rfl] at HQ
  have HB := Lib.hid B0
  clear B0 ha hl hx
  generalize hg : w.heap.size = g at *
  generalize b ++ txt (numN x.1.toNat) = b1 at *
  generalize b ++ txt (peN x) = b2 at *
  go_enter Try.func18, Try.ntmps18
  go_upto_region 1 with (fail)
  (try rw [hg])
  generalize w.alloc _ = W at *
  refine wp_region_quiet_below (by kernel_rfl) (by kernel_rfl) ?_
  repeat (first
    | go_big_quiet_skip
    | (go_big_quiet_want
       first
       | (first | (refine q_cell 3 _ rfl _ 0 rfl _ (fun w h => ldN w _ _ _ h) X0.A X0.lt ?_) | (refine q_midI _ rfl _ _ rfl x.2 (by with_reducible exact X0.I) ?_)
          simp only [Act.put, List.setIfInBounds_toArray, List.set_cons_succ, List.set_cons_zero]
          go_big_quiet_on)
       | (go_big_quiet_op
          first | go_big_quiet_on | go_big_quiet_call (first | with_reducible exact Calls.regrown_of (HP.out _) | with_reducible exact Calls.regrown_of (HQ.out _)))))
  refine wpQuiet_nil ?_
  intro w9 hw'
  have k9 := quiet_end hw'
  clear hw'
  go_wp2
  go_ret
  subst hg
  exact ⟨rfl, step HB.out k9⟩
theorem avsN_take {A : List Int} {k : Nat} {a : Int} (h : A[k]? = some a) : avsN (A.take (k + 1)) = avsN (A.take k) ++ numN a.toNat := by
  obtain ⟨hk, rfl⟩ := List.getElem?_eq_some_iff.1 h
  rw [List.take_succ_eq_append_getElem hk, avsN_append, avsN, avsN, List.append_nil]
theorem pesN_take {A : List Pe} {k : Nat} {a : Pe} (h : A[k]? = some a) : pesN (A.take (k + 1)) = pesN (A.take k) ++ peN a := by
  obtain ⟨hk, rfl⟩ := List.getElem?_eq_some_iff.1 h
  rw [List.take_succ_eq_append_getElem hk, pesN_append, pesN, pesN, List.append_nil]
set_option maxHeartbeats 1000000 in
theorem putInts_any (b : ByteArray) {u : Value} {A : List Int} (w : World) (hA : Nums w u A) (hn : A.length ≤ 16) (hok : ∀ x ∈ A, adB x = true) (hb : b.size ≤ 800000) :
    Calls Try.prog 23 #[.string b, u, .func (.func 19) #[] #[]] w fun e w' => e = .returned (.string (b ++ txt (numN A.length ++ avsN A))) ∧ Below w.heap.size w w' := by
  have hl0 := numN_len (v := A.length) (by omega)
  have HP : Hid (∀ w, Calls Try.prog 19 #[.string b, .int .i64 (A.length : Int)] w fun e w' => e = .returned (.string (b ++ txt (numN A.length))) ∧ Below w.heap.size w w') := fun w => by
    have := putInt_any b (A.length : Int) w (by omega) (by omega) (by omega)
    rwa [Int.toNat_natCast] at this
  rcases hA with ⟨rfl, rfl⟩ | ⟨p, o, c, rfl, hr⟩
  · have HE : Hid (b ++ txt (numN 0) = b ++ txt (numN ([] : List Int).length ++ avsN [])) := by unfold Hid; rw [show avsN [] = [] from rfl, List.append_nil]; rfl
    have HP : Hid (∀ w, Calls Try.prog 19 #[.string b, .int .i64 0] w fun e w' => e = .returned (.string (b ++ txt (numN 0))) ∧ Below w.heap.size w w') := HP
    go_enter Try.func23, Try.ntmps23
    go_upto_region 3 with (go_at_call 19; (with_reducible refine (HP.out _).mono ?_); rintro e w1 ⟨rfl, k1⟩)
    refine wp_loop_rounds 1 ?_
    rw [rounds_succ]
    go_wp2
    go_ret
    exact ⟨congrArg (fun x => Ending.returned (.string x)) HE.out, k1⟩
  have HR : Hid (∀ w', Below w.heap.size w w' → ∀ i x, A[i]? = some x → w'.cell? ⟨p, o + i, none⟩ = some (.int .i64 x)) := fun w' hb i x hi => cell_bel0 (hr i _ (by unfold ints; rw [List.getElem?_map, hi]; rfl)) hb
  clear hr
  have HS : Hid (∀ i x, A[i]? = some x → b ++ txt (numN A.length ++ avsN (A.take i)) ++ txt (numN x.toNat) = b ++ txt (numN A.length ++ avsN (A.take (i + 1)))) := fun i x hi => by rw [app_app, List.append_assoc, avsN_take hi]
  have HF : Hid (∀ i x, A[i]? = some x → ∀ w, Calls Try.prog 19 #[.string (b ++ txt (numN A.length ++ avsN (A.take i))), .int .i64 x] w fun e w' => e = .returned (.string (b ++ txt (numN A.length ++ avsN (A.take (i + 1))))) ∧ Below w.heap.size w w') := fun i x hi w => by
    have hx := hok x (List.mem_of_getElem? hi)
    have h1 := avsN_len (L := A.take i) fun y hy => hok y (List.mem_of_mem_take hy)
    have h2 : (A.take i).length ≤ 16 := by rw [List.length_take]; omega
    have ha := adB_iff.1 hx
    rw [← HS.out i x hi]
    exact putInt_any _ x w (by rw [size_app, List.length_append]; omega) (by omega) (by omega)
  have HE : Hid (b ++ txt (numN A.length ++ avsN (A.take A.length)) = b ++ txt (numN A.length ++ avsN A)) := by unfold Hid; rw [List.take_length]
  have H0 : Hid (b ++ txt (numN A.length) = b ++ txt (numN A.length ++ avsN (A.take 0))) := by unfold Hid; rw [List.take_zero, show avsN [] = [] from rfl, List.append_nil]
  rw [H0.out] at HP
  rw [← HE.out]
  clear HS hok hl0 H0 HE
  generalize hfn : (fun i => b ++ txt (numN A.length ++ avsN (A.take i))) = F at *
  have hF : ∀ i, b ++ txt (numN A.length ++ avsN (A.take i)) = F i := fun i => by rw [← hfn]
  simp only [hF] at HF HP ⊢
  clear hF hfn
  have HG : Hid (∀ i, i < A.length → ∃ x, A[i]? = some x) := fun i hi => ⟨_, List.getElem?_eq_getElem hi⟩
  generalize A.length = n at *
  go_enter Try.func23, Try.ntmps23
  go_upto_region 3 with (go_at_call 19; (with_reducible refine (HP.out _).mono ?_); rintro e w1 ⟨rfl, k1⟩)
  have K1 := Lib.hid k1
  clear k1 HP
  go_loopw [0, 15] (fun s i wr => ∃ k : Nat, i = .int .i64 (k : Int) ∧ k ≤ n ∧ s = .string (F k) ∧ Below w.heap.size w wr) (fun _ i _ => n - (intOf i).toNat)
  case atStart => exact ⟨0, rfl, Nat.zero_le _, rfl, K1.out⟩
  case round =>
    obtain ⟨k, rfl, hk, rfl, hB⟩ := hrel
    have HB := Lib.hid hB
    clear hB
    by_cases hlt : k < n
    · obtain ⟨x, hx⟩ := HG.out k hlt
      have r1 := HR.out _ HB.out k x hx
      have HC := Lib.hid (HF.out k x hx)
      have b1 : (k : Int) < (n : Int) := by omega
      have s2 : IntKind.i64.wrap ((k : Int) + 1) = (k : Int) + 1 := IntWalk.i64_in _ (by omega)
      clear hx
      go_wp2_with (first
        | (go_at_call 19; (with_reducible refine (HC.out _).mono ?_); rintro e w1 ⟨rfl, k1⟩; have HB2 := Lib.hid (step HB.out k1); clear k1))
      exact ⟨⟨k + 1, by go_num, by omega, rfl, HB2.out⟩, by simp [intOf]; omega⟩
    · obtain rfl : k = n := by omega
      go_wp2
      go_ret
      exact ⟨rfl, HB.out⟩
set_option maxHeartbeats 1000000 in
theorem putPeers_any (b : ByteArray) {u : Value} {A : List Pe} (w : World) (hA : Lies w u A) (hn : A.length ≤ 8) (hok : ∀ x ∈ A, adB x.1 = true) (hb : b.size ≤ 800000) :
    Calls Try.prog 26 #[.string b, u, .func (.func 18) #[] #[]] w fun e w' => e = .returned (.string (b ++ txt (numN A.length ++ pesN A))) ∧ Below w.heap.size w w' := by
  have hl0 := numN_len (v := A.length) (by omega)
  have HP : Hid (∀ w, Calls Try.prog 19 #[.string b, .int .i64 (A.length : Int)] w fun e w' => e = .returned (.string (b ++ txt (numN A.length))) ∧ Below w.heap.size w w') := fun w => by
    have := putInt_any b (A.length : Int) w (by omega) (by omega) (by omega)
    rwa [Int.toNat_natCast] at this
  rcases hA with ⟨⟨a, rfl⟩, rfl⟩ | ⟨p, o, c, rfl, hc, hr⟩
  · have HE : Hid (b ++ txt (numN 0) = b ++ txt (numN ([] : List Pe).length ++ pesN [])) := by unfold Hid; rw [show pesN [] = [] from rfl, List.append_nil]; rfl
    have HP : Hid (∀ w, Calls Try.prog 19 #[.string b, .int .i64 0] w fun e w' => e = .returned (.string (b ++ txt (numN 0))) ∧ Below w.heap.size w w') := HP
    go_enter Try.func26, Try.ntmps26
    go_upto_region 3 with (go_at_call 19; (with_reducible refine (HP.out _).mono ?_); rintro e w1 ⟨rfl, k1⟩)
    refine wp_loop_rounds 1 ?_
    rw [rounds_succ]
    go_wp2
    go_ret
    exact ⟨congrArg (fun x => Ending.returned (.string x)) HE.out, k1⟩
  have HR : Hid (∀ w', Below w.heap.size w w' → ∀ i x, A[i]? = some x → w'.rangeAt p (o + i * 21) (peC x)) := fun w' hb i x hi => range_bel (row_peer hr hi) hb (range_lt (row_peer hr hi) (pe_ne _))
  clear hr hc
  have HS : Hid (∀ i x, A[i]? = some x → b ++ txt (numN A.length ++ pesN (A.take i)) ++ txt (peN x) = b ++ txt (numN A.length ++ pesN (A.take (i + 1)))) := fun i x hi => by rw [app_app, List.append_assoc, pesN_take hi]
  have HF : Hid (∀ i x, A[i]? = some x → ∀ w, Calls Try.prog 18 #[.string (b ++ txt (numN A.length ++ pesN (A.take i))), .agg (peA x)] w fun e w' => e = .returned (.string (b ++ txt (numN A.length ++ pesN (A.take (i + 1))))) ∧ Below w.heap.size w w') := fun i x hi w => by
    have hx := hok x (List.mem_of_getElem? hi)
    have h1 := pesN_len (L := A.take i) fun y hy => hok y (List.mem_of_mem_take hy)
    have h2 : (A.take i).length ≤ 8 := by rw [List.length_take]; omega
    have ha := adB_iff.1 hx
    rw [← HS.out i x hi]
    exact putPeer_any _ x w (by rw [size_app, List.length_append]; omega) hx
  have HE : Hid (b ++ txt (numN A.length ++ pesN (A.take A.length)) = b ++ txt (numN A.length ++ pesN A)) := by unfold Hid; rw [List.take_length]
  have H0 : Hid (b ++ txt (numN A.length) = b ++ txt (numN A.length ++ pesN (A.take 0))) := by unfold Hid; rw [List.take_zero, show pesN [] = [] from rfl, List.append_nil]
  rw [H0.out] at HP
  rw [← HE.out]
  clear HS hok hl0 H0 HE
  generalize hfn : (fun i => b ++ txt (numN A.length ++ pesN (A.take i))) = F at *
  have hF : ∀ i, b ++ txt (numN A.length ++ pesN (A.take i)) = F i := fun i => by rw [← hfn]
  simp only [hF] at HF HP ⊢
  clear hF hfn
  have HG : Hid (∀ i, i < A.length → ∃ x, A[i]? = some x) := fun i hi => ⟨_, List.getElem?_eq_getElem hi⟩
  generalize A.length = n at *
  go_enter Try.func26, Try.ntmps26
  go_upto_region 3 with (go_at_call 19; (with_reducible refine (HP.out _).mono ?_); rintro e w1 ⟨rfl, k1⟩)
  have K1 := Lib.hid k1
  clear k1 HP
  go_loopw [0, 15] (fun s i wr => ∃ k : Nat, i = .int .i64 (k : Int) ∧ k ≤ n ∧ s = .string (F k) ∧ Below w.heap.size w wr) (fun _ i _ => n - (intOf i).toNat)
  case atStart => exact ⟨0, rfl, Nat.zero_le _, rfl, K1.out⟩
  case round =>
    obtain ⟨k, rfl, hk, rfl, hB⟩ := hrel
    have HB := Lib.hid hB
    clear hB
    by_cases hlt : k < n
    · obtain ⟨x, hx⟩ := HG.out k hlt
      have r1 := HR.out _ HB.out k x hx
      have HC := Lib.hid (HF.out k x hx)
      have b1 : (k : Int) < (n : Int) := by omega
      have s2 : IntKind.i64.wrap ((k : Int) + 1) = (k : Int) + 1 := IntWalk.i64_in _ (by omega)
      clear hx
      go_wp2_with (first
        | (refine p_midP rfl _ rfl p (o + k * 21) rfl x r1 ?_)
        | ((with_reducible show wpList _ _ _ (Oper.mk _ (Op.store _ _ _) _ _ _ _ :: _) _ _); refine p_storeP rfl rfl _ _ rfl x rfl rfl ?_; have X2 := (PB.new wr x).range; have HB2 := Lib.hid (step HB.out (Below.alloc (Below.refl wr.heap.size wr) (Nat.le_refl _) (.cells (peA x) 25))); generalize hgr : wr.heap.size = gr at *; generalize wr.alloc _ = wq at *)
        | (refine p_midP rfl _ rfl gr 0 rfl x X2 ?_)
        | (go_at_call 18; (with_reducible refine (HC.out _).mono ?_); rintro e w1 ⟨rfl, k1⟩; have HB3 := Lib.hid (step HB2.out k1); clear k1))
      exact ⟨⟨k + 1, by go_num, by omega, rfl, HB3.out⟩, by simp [intOf]; omega⟩
    · obtain rfl : k = n := by omega
      go_wp2
      go_ret
      exact ⟨rfl, HB.out⟩
end Go.Proofs.Ytplcdjmidelboaa
