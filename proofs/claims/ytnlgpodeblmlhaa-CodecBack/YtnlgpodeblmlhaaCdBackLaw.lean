/- The law CodecBack, walked. (Written by gen_cdback.py.) -/
import Derived.Test.YtnlgpodeblmlhaaCdCutLaw
import Derived.BigRegion
namespace Go.Proofs.Ytnlgpodeblmlhaa
open Go.RowKit Go.PlainAid
set_option linter.unusedVariables false

/-- What is written in each round: a text, a number. -/
def qt (n : Nat) (T : Nat → ByteArray) (i : Nat) : ByteArray := if i < n then textB (cutT 300 (T i)) else noB
def qn (m : Nat) (N : Nat → Int) (i : Nat) : ByteArray := if i < m then numB (N i) else noB
def qq (n m : Nat) (T : Nat → ByteArray) (N : Nat → Int) (i : Nat) : ByteArray := qt n T i ++ qn m N i
theorem qt_size (n : Nat) (T : Nat → ByteArray) (i : Nat) : (qt n T i).size ≤ 308 := by
  unfold qt; split
  · rw [textB_size]; have := cutT_size 300 (T i); omega
  · rw [noB_size]; omega
theorem qn_size (n : Nat) (T : Nat → Int) (i : Nat) : (qn n T i).size ≤ 8 := by
  unfold qn; split
  · rw [numB_size]; omega
  · rw [noB_size]; omega
theorem qq_size (n m : Nat) (T : Nat → ByteArray) (N : Nat → Int) (i : Nat) : (qq n m T N i).size ≤ 316 := by
  unfold qq; rw [ByteArray.size_append]; have := qt_size n T i; have := qn_size m N i; omega
theorem cqq_size (n m : Nat) (T : Nat → ByteArray) (N : Nat → Int) (i k : Nat) : (cat (qq n m T N) i k).size ≤ k * 316 := cat_size _ 316 k i (fun j _ => qq_size n m T N _)
theorem cqq_next (n m : Nat) (T : Nat → ByteArray) (N : Nat → Int) (k : Nat) : cat (qq n m T N) 0 (k + 1) = cat (qq n m T N) 0 k ++ (qt n T k ++ qn m N k) := by rw [cat_snoc, Nat.zero_add]; rfl
/-- What the reader has ahead of a round, and in between. -/
def Bst (W w : World) (g n m : Nat) (T : Nat → ByteArray) (N : Nat → Int) (M k : Nat) : Prop := Hold W.heap.size W w (star (rdr g (cat (qq n m T N) k (M - k)) 0) nought)
def Bmd (W w : World) (g n m : Nat) (T : Nat → ByteArray) (N : Nat → Int) (M k : Nat) : Prop := Hold W.heap.size W w (star (rdr g (qn m N k ++ cat (qq n m T N) (k + 1) (M - (k + 1))) 0) nought)
section
variable {W w : World} {g n m : Nat} {T : Nat → ByteArray} {N : Nat → Int} {M k : Nat}
theorem Bst.low (h : Bst W w g n m T N M k) : Below W.heap.size W w := Hold.low h
theorem Bmd.low (h : Bmd W w g n m T N M k) : Below W.heap.size W w := Hold.low h
theorem Bst.drew (h : Bst W w g n m T N M k) : Bst W w.drew g n m T N M k := Hold.drew ((firm_rdr _ _ _).star firm_nought) h
theorem Bmd.drew (h : Bmd W w g n m T N M k) : Bmd W w.drew g n m T N M k := Hold.drew ((firm_rdr _ _ _).star firm_nought) h
theorem Bst.toMid (h : Bst W w g n m T N M k) (hk : k < M) (hn : ¬ k < n) : Bmd W w g n m T N M k := by
  unfold Bst at h; unfold Bmd
  rw [cat_next _ k M hk, show qq n m T N k = qn m N k by unfold qq qt; rw [if_neg hn, noB_app]] at h
  exact h
theorem Bmd.toNext (h : Bmd W w g n m T N M k) (hn : ¬ k < m) : Bst W w g n m T N M (k + 1) := by
  unfold Bmd at h; unfold Bst
  rw [show qn m N k = noB by unfold qn; rw [if_neg hn], noB_app] at h
  exact h
theorem bst_text (h : Bst W w g n m T N M k) (hM : M ≤ 20) (hk : k < M) (hn : k < n) : Calls Try.prog 19 #[.pointer (some ⟨g, 0, none⟩)] w fun x w' => x = .returned (.string (cutT 300 (T k))) ∧ Bmd W w' g n m T N M k := by
  unfold Bst at h
  have hz := cqq_size n m T N k (M - k)
  have h1 := ctext_any firm_nought h (by omega)
  rw [cat_next _ k M hk, show qq n m T N k = textB (cutT 300 (T k)) ++ qn m N k by unfold qq qt; rw [if_pos hn], join_assoc] at h1
  obtain ⟨e1, e2, e3⟩ := tx_text (cutT 300 (T k)) (qn m N k ++ cat (qq n m T N) (k + 1) (M - (k + 1))) (by have := cutT_size 300 (T k); omega)
  rw [e1, e2, e3] at h1
  exact h1
theorem bst_num (h : Bmd W w g n m T N M k) (hM : M ≤ 20) (hk : k < M) (hn : k < m) (h0 : 0 ≤ N k ∧ N k ≤ 18446744073709551615) : Calls Try.prog 15 #[.pointer (some ⟨g, 0, none⟩)] w fun x w' => x = .returned (.int .u64 (N k)) ∧ Bst W w' g n m T N M (k + 1) := by
  unfold Bmd at h
  have hz := cqq_size n m T N (k + 1) (M - (k + 1))
  have hz2 := qn_size m N k
  have h1 := cnum_any firm_nought h (by rw [ByteArray.size_append]; omega)
  rw [show qn m N k = numB (N k) by unfold qn; rw [if_pos hn]] at h1
  obtain ⟨e1, e2, e3⟩ := nm_num (N k) h0.1 h0.2 (cat (qq n m T N) (k + 1) (M - (k + 1)))
  rw [e1, e2, e3] at h1
  exact h1
end
set_option maxRecDepth 20000 in
set_option maxHeartbeats 4000000 in
theorem codecBack_law (s : Option Addr) (len cap : Nat) (s2 : Option Addr) (len2 cap2 : Nat) (W : World) (hs : Came strOk (fun s => [.string s]) 1 W s len cap) (hs2 : Came u64Ok (fun n => [.int .u64 n]) 1 W s2 len2 cap2) : Calls Try.prog 5 #[.slice s len cap, .slice s2 len2 cap2] W fun e w' => e = .returned (.bool true) ∧ Below W.heap.size W w' := by
  have hl1 := hs.1
  have hl2 := hs.2.1
  have hm1 := hs2.1
  have hm2 := hs2.2.1
  obtain ⟨T, hT⟩ := Tx.came hs
  obtain ⟨N, hN⟩ := Nx.came hs2
  clear hs hs2
  obtain ⟨C, hC1, hC2, hC3⟩ : ∃ C : Nat, (if (20 : Int) < (len : Int) then (20 : Int) else (len : Int)) = (C : Int) ∧ C ≤ 20 ∧ C ≤ len := ⟨min len 20, by split <;> omega, by omega, by omega⟩
  have hC4 : C ≤ cap := by omega
  obtain ⟨E, hE1, hE2, hE3⟩ : ∃ E : Nat, (if (20 : Int) < (len2 : Int) then (20 : Int) else (len2 : Int)) = (E : Int) ∧ E ≤ 20 ∧ E ≤ len2 := ⟨min len2 20, by split <;> omega, by omega, by omega⟩
  have hE4 : E ≤ cap2 := by omega
  have HT : Hid (Tx W s C T) := hT.cut hC3
  have HN : Hid (Nx W s2 E N) := hN.cut hE3
  obtain ⟨M, hme, hmf, hma⟩ : ∃ M : Nat, (if (C : Int) < (E : Int) then (E : Int) else (C : Int)) = (M : Int) ∧ (if C < E then (E : Int) else (C : Int)) = (M : Int) ∧ M = max C E := ⟨max C E, by split <;> omega, by split <;> omega, rfl⟩
  have hM20 : M ≤ 20 := by omega
  have hMC : C ≤ M := by omega
  have hME : E ≤ M := by omega
  have HM : Hid (M = max C E) := hma
  clear hma hT hN
  have hB0 : Hid (Below W.heap.size W W.drew) := (Below.refl _ _).drew
  go_enter Try.func5, Try.ntmps5
  go_wp2
  go_region
  go_wp2
  clear hC1 hE1
  go_loopw [5, 24] (fun v i wr => ∃ k : Nat, k ≤ M ∧ i = .int .i64 (k : Int) ∧ v = .string (cat (qq C E T N) 0 k) ∧ Hid (Below W.heap.size W wr)) (fun _ i _ => M - (intOf i).toNat)
  case atStart => exact ⟨0, Nat.zero_le _, rfl, rfl, hB0.out⟩
  case round =>
    clear hB0
    obtain ⟨k, hk, rfl, rfl, hb⟩ := hrel
    by_cases hlt : k < M
    · have hlt' : (k : Int) < (M : Int) := by omega
      have hsn := cqq_next C E T N k
      have hzk := cqq_size C E T N 0 k
      have hzz : (cat (qq C E T N) 0 k).size ≤ 6320 := by omega
      clear hzk
      by_cases h1 : k < C
      · have h1' : (k : Int) < (C : Int) := by omega
        obtain ⟨tb, to, hsa, hz, hcell⟩ := HT.out _ hb.out k h1
        subst hsa
        obtain ⟨c, hc0, hc1, hc2, hc3⟩ : ∃ c : Nat, c = min (T k).size 300 ∧ (if (300 : Int) < ((T k).size : Int) then (300 : Int) else ((T k).size : Int)) = (c : Int) ∧ c ≤ 300 ∧ c ≤ (T k).size := ⟨min (T k).size 300, rfl, by split <;> omega, by omega, by omega⟩
        have hqt : qt C T k = textB ((T k).extract 0 c) := by unfold qt cutT; rw [if_pos h1, hc0]
        have hqz := qt_size C T k
        have hcall : Hid (∀ w, Calls Try.prog 12 _ w _) := ctextF_any ((T k).extract 0 c) (by rw [ByteArray.size_extract]; omega)
        rw [hqt] at hsn hqz
        generalize textB ((T k).extract 0 c) = pk at *
        unfold maxLen at hz
        clear hc0 hqt
        have HTk : Hid (∀ w, Below W.heap.size W w → w.cell? ⟨tb, to + k, none⟩ = some (.string (T k))) := fun w hw => by obtain ⟨b', o', e', _, h'⟩ := HT.out w hw k h1; cases e'; exact h'
        by_cases h2 : k < E
        · have h2' : (k : Int) < (E : Int) := by omega
          obtain ⟨nb, no, hsb, hn0, hnc⟩ := HN.out _ hb.out k h2
          subst hsb
          have hqn : qn E N k = numB (N k) := by unfold qn; rw [if_pos h2]
          have hqy := qn_size E N k
          have hcall2 : Hid (∀ w, Calls Try.prog 10 _ w _) := cnumF_any (N k) hn0.1 hn0.2
          have HNk : Hid (∀ w, Below W.heap.size W w → w.cell? ⟨nb, no + k, none⟩ = some (.int .u64 (N k))) := fun w hw => by obtain ⟨b', o', e', _, h'⟩ := HN.out w hw k h2; cases e'; exact h'
          rw [hqn] at hsn hqy
          generalize numB (N k) = nk at *
          generalize cat (qq C E T N) 0 k = sk at *
          have HS : Hid (sk ++ pk ++ nk = cat (qq C E T N) 0 (k + 1)) := by rw [hsn, join_assoc]; exact rfl
          generalize T k = t at *
          generalize N k = nv at *
          clear hqn hsn hnc
          go_wp2
          have hzs : ((sk.size + pk.size : Nat) : Int) ≤ 6628 := by omega
          have hza : (9223372036854775807 < sk.size + pk.size) = False := by simp; omega
          have HC : Hid (∀ w, Below W.heap.size W w → w.cell? ⟨tb, to + k, none⟩ = some (.string t)) := HTk.out
          have hbd : Hid (Below _ _ _) := hb.out.drew
          clear hb
          refine wp_region_noPanic ?_
          refine wp_region_held_drew (S := fun z : World => z.cell? ⟨tb, to + k, none⟩ = some (.string t)) (by kernel_rfl) (HC.out _ hbd.out) (fun hHeld => ?_)
          refine wpAnyH_take (i := 0) (v := ?_) rfl (by kernel_rfl) (by kernel_rfl) (by kernel_rfl) (fun _ _ _ h => h) (Or.inl ⟨by rfl, ?_⟩) (by assumption) ?_
          rotate_left
          · intro w hSw; go_simp; try with_reducible rfl
          go_simp
          refine wpAnyH_take (i := 1) (v := ?_) rfl (by kernel_rfl) (by kernel_rfl) (by kernel_rfl) (fun _ _ _ h => h) (Or.inl ⟨by rfl, ?_⟩) (by assumption) ?_
          rotate_left
          · intro w hSw; go_simp; try with_reducible rfl
          go_simp
          refine wpAnyH_take (i := 2) (v := ?_) rfl (by kernel_rfl) (by kernel_rfl) (by kernel_rfl) (fun _ _ _ h => h) (Or.inl ⟨by rfl, ?_⟩) (by assumption) ?_
          rotate_left
          · intro w hSw; go_simp; try with_reducible rfl
          go_simp
          refine wpAnyH_take (i := 3) (v := ?_) rfl (by kernel_rfl) (by kernel_rfl) (by kernel_rfl) (fun _ _ _ h => h) (Or.inl ⟨by rfl, ?_⟩) (by assumption) ?_
          rotate_left
          · intro w hSw; go_simp; try with_reducible rfl
          go_simp
          refine wpAnyH_take (i := 4) (v := ?_) rfl (by kernel_rfl) (by kernel_rfl) (by kernel_rfl) (fun _ _ _ h => h) (Or.inl ⟨by rfl, ?_⟩) (by assumption) ?_
          rotate_left
          · intro w hSw; go_simp; try with_reducible rfl
          go_simp
          refine wpAnyH_take (i := 5) (v := ?_) rfl (by kernel_rfl) (by kernel_rfl) (by kernel_rfl) (fun _ _ _ h => h) (Or.inl ⟨by rfl, ?_⟩) (by assumption) ?_
          rotate_left
          · intro w hSw; go_simp; try with_reducible rfl
          go_simp
          refine wpAnyH_take (i := 6) (v := ?_) rfl (by kernel_rfl) (by kernel_rfl) (by kernel_rfl) (fun _ _ _ h => h) (Or.inl ⟨by rfl, ?_⟩) (by assumption) ?_
          rotate_left
          · intro w hSw; go_simp; try with_reducible rfl
          go_simp
          refine wpAnyH_take (i := 7) (v := ?_) rfl (by kernel_rfl) (by kernel_rfl) (by kernel_rfl) (fun _ _ _ h => h) (Or.inl ⟨by rfl, ?_⟩) (by assumption) ?_
          rotate_left
          · intro w hSw; go_simp; try with_reducible rfl
          go_simp
          refine wpAnyH_take (i := 8) (v := ?_) rfl (by kernel_rfl) (by kernel_rfl) (by kernel_rfl) (fun _ _ _ h => h) (Or.inl ⟨by rfl, ?_⟩) (by assumption) ?_
          rotate_left
          · intro w hSw; go_simp; try with_reducible rfl
          go_simp
          refine wpAnyH_take (i := 9) (v := ?_) rfl (by kernel_rfl) (by kernel_rfl) (by kernel_rfl) (fun _ _ _ h => h) (Or.inl ⟨by rfl, ?_⟩) (by assumption) ?_
          rotate_left
          · intro w hSw; go_simp; try with_reducible rfl
          go_simp
          refine wpAnyH_take (i := 10) (v := ?_) rfl (by kernel_rfl) (by kernel_rfl) (by kernel_rfl) (fun _ _ _ h => h) (Or.inl ⟨by rfl, ?_⟩) (by assumption) ?_
          rotate_left
          · intro w hSw; go_simp; try with_reducible rfl
          go_simp
          refine wpAnyH_take (i := 11) (v := ?_) rfl (by kernel_rfl) (by kernel_rfl) (by kernel_rfl) (fun _ _ _ h => h) (Or.inl ⟨by rfl, ?_⟩) (by assumption) ?_
          rotate_left
          · intro w hSw; go_simp; try with_reducible rfl
          go_simp
          refine wpAnyH_ready (rs := [12]) (by kernel_rfl) (by simp) (AllReadyH.cons rfl (fun K hK => ?_) AllReadyH.nil)
          go_simp
          go_at_call 12
          refine (hcall.out _).mono ?_
          rintro x wa ⟨rfl, hb1⟩
          have hb2 : Hid (Below _ _ _) := hbd.out.trans (hb1.mono hbd.out.size)
          clear hb1 hbd hcall
          refine hK.out _ _ (HC.out _ hb2.out) (fun hHeld => ?_)
          clear hK K
          refine wpAnyH_take (i := 13) (v := ?_) rfl (by kernel_rfl) (by kernel_rfl) (by kernel_rfl) (fun _ _ _ h => h) (Or.inl ⟨by rfl, ?_⟩) (by assumption) ?_
          rotate_left
          · intro w hSw; go_simp; try with_reducible rfl
          go_simp
          refine wpAnyH_take (i := 14) (v := ?_) rfl (by kernel_rfl) (by kernel_rfl) (by kernel_rfl) (fun _ _ _ h => h) (Or.inl ⟨by rfl, ?_⟩) (by assumption) ?_
          rotate_left
          · intro w hSw; go_simp; try with_reducible rfl
          go_simp
          refine wpAnyH_done (by kernel_rfl) ?_ _
          refine NoPanic.normal ?_
          clear hHeld HC hcell
          have hzb : (9223372036854775807 < (sk ++ pk).size + nk.size) = False := by rw [ByteArray.size_append]; simp; omega
          have hzc : (((sk ++ pk).size : Nat) : Int) ≤ 6628 := by rw [ByteArray.size_append]; omega
          have hnc := HNk.out _ hb2.out
          generalize sk ++ pk = sp at *
          go_wp2_with (go_at_call 10; refine (hcall2.out _).mono ?_; rintro x wc ⟨rfl, hb3⟩; have hb4 : Hid (Below _ _ _) := hb2.out.trans (hb3.mono hb2.out.size); clear hb3 hb2 hcall2)
          go_roundw
          case rel => exact ⟨k + 1, by omega, by go_num, by rw [HS.out], hb4.out⟩
          case measure => simp [intOf]; omega
        · have h2' : ¬ (k : Int) < (E : Int) := by omega
          rw [show qn E N k = noB by unfold qn; rw [if_neg h2], app_noB] at hsn
          generalize cat (qq C E T N) 0 k = sk at *
          have HS : Hid (sk ++ pk = cat (qq C E T N) 0 (k + 1)) := hsn.symm
          generalize T k = t at *
          clear hsn
          go_wp2
          have hzs : ((sk.size + pk.size : Nat) : Int) ≤ 6628 := by omega
          have hza : (9223372036854775807 < sk.size + pk.size) = False := by simp; omega
          have HC : Hid (∀ w, Below W.heap.size W w → w.cell? ⟨tb, to + k, none⟩ = some (.string t)) := HTk.out
          have hbd : Hid (Below _ _ _) := hb.out.drew
          clear hb
          refine wp_region_noPanic ?_
          refine wp_region_held_drew (S := fun z : World => z.cell? ⟨tb, to + k, none⟩ = some (.string t)) (by kernel_rfl) (HC.out _ hbd.out) (fun hHeld => ?_)
          refine wpAnyH_take (i := 0) (v := ?_) rfl (by kernel_rfl) (by kernel_rfl) (by kernel_rfl) (fun _ _ _ h => h) (Or.inl ⟨by rfl, ?_⟩) (by assumption) ?_
          rotate_left
          · intro w hSw; go_simp; try with_reducible rfl
          go_simp
          refine wpAnyH_take (i := 1) (v := ?_) rfl (by kernel_rfl) (by kernel_rfl) (by kernel_rfl) (fun _ _ _ h => h) (Or.inl ⟨by rfl, ?_⟩) (by assumption) ?_
          rotate_left
          · intro w hSw; go_simp; try with_reducible rfl
          go_simp
          refine wpAnyH_take (i := 2) (v := ?_) rfl (by kernel_rfl) (by kernel_rfl) (by kernel_rfl) (fun _ _ _ h => h) (Or.inl ⟨by rfl, ?_⟩) (by assumption) ?_
          rotate_left
          · intro w hSw; go_simp; try with_reducible rfl
          go_simp
          refine wpAnyH_take (i := 3) (v := ?_) rfl (by kernel_rfl) (by kernel_rfl) (by kernel_rfl) (fun _ _ _ h => h) (Or.inl ⟨by rfl, ?_⟩) (by assumption) ?_
          rotate_left
          · intro w hSw; go_simp; try with_reducible rfl
          go_simp
          refine wpAnyH_take (i := 4) (v := ?_) rfl (by kernel_rfl) (by kernel_rfl) (by kernel_rfl) (fun _ _ _ h => h) (Or.inl ⟨by rfl, ?_⟩) (by assumption) ?_
          rotate_left
          · intro w hSw; go_simp; try with_reducible rfl
          go_simp
          refine wpAnyH_take (i := 5) (v := ?_) rfl (by kernel_rfl) (by kernel_rfl) (by kernel_rfl) (fun _ _ _ h => h) (Or.inl ⟨by rfl, ?_⟩) (by assumption) ?_
          rotate_left
          · intro w hSw; go_simp; try with_reducible rfl
          go_simp
          refine wpAnyH_take (i := 6) (v := ?_) rfl (by kernel_rfl) (by kernel_rfl) (by kernel_rfl) (fun _ _ _ h => h) (Or.inl ⟨by rfl, ?_⟩) (by assumption) ?_
          rotate_left
          · intro w hSw; go_simp; try with_reducible rfl
          go_simp
          refine wpAnyH_take (i := 7) (v := ?_) rfl (by kernel_rfl) (by kernel_rfl) (by kernel_rfl) (fun _ _ _ h => h) (Or.inl ⟨by rfl, ?_⟩) (by assumption) ?_
          rotate_left
          · intro w hSw; go_simp; try with_reducible rfl
          go_simp
          refine wpAnyH_take (i := 8) (v := ?_) rfl (by kernel_rfl) (by kernel_rfl) (by kernel_rfl) (fun _ _ _ h => h) (Or.inl ⟨by rfl, ?_⟩) (by assumption) ?_
          rotate_left
          · intro w hSw; go_simp; try with_reducible rfl
          go_simp
          refine wpAnyH_take (i := 9) (v := ?_) rfl (by kernel_rfl) (by kernel_rfl) (by kernel_rfl) (fun _ _ _ h => h) (Or.inl ⟨by rfl, ?_⟩) (by assumption) ?_
          rotate_left
          · intro w hSw; go_simp; try with_reducible rfl
          go_simp
          refine wpAnyH_take (i := 10) (v := ?_) rfl (by kernel_rfl) (by kernel_rfl) (by kernel_rfl) (fun _ _ _ h => h) (Or.inl ⟨by rfl, ?_⟩) (by assumption) ?_
          rotate_left
          · intro w hSw; go_simp; try with_reducible rfl
          go_simp
          refine wpAnyH_take (i := 11) (v := ?_) rfl (by kernel_rfl) (by kernel_rfl) (by kernel_rfl) (fun _ _ _ h => h) (Or.inl ⟨by rfl, ?_⟩) (by assumption) ?_
          rotate_left
          · intro w hSw; go_simp; try with_reducible rfl
          go_simp
          refine wpAnyH_ready (rs := [12]) (by kernel_rfl) (by simp) (AllReadyH.cons rfl (fun K hK => ?_) AllReadyH.nil)
          go_simp
          go_at_call 12
          refine (hcall.out _).mono ?_
          rintro x wa ⟨rfl, hb1⟩
          have hb2 : Hid (Below _ _ _) := hbd.out.trans (hb1.mono hbd.out.size)
          clear hb1 hbd hcall
          refine hK.out _ _ (HC.out _ hb2.out) (fun hHeld => ?_)
          clear hK K
          refine wpAnyH_take (i := 13) (v := ?_) rfl (by kernel_rfl) (by kernel_rfl) (by kernel_rfl) (fun _ _ _ h => h) (Or.inl ⟨by rfl, ?_⟩) (by assumption) ?_
          rotate_left
          · intro w hSw; go_simp; try with_reducible rfl
          go_simp
          refine wpAnyH_take (i := 14) (v := ?_) rfl (by kernel_rfl) (by kernel_rfl) (by kernel_rfl) (fun _ _ _ h => h) (Or.inl ⟨by rfl, ?_⟩) (by assumption) ?_
          rotate_left
          · intro w hSw; go_simp; try with_reducible rfl
          go_simp
          refine wpAnyH_done (by kernel_rfl) ?_ _
          refine NoPanic.normal ?_
          clear hHeld HC hcell
          go_wp2
          go_roundw
          case rel => exact ⟨k + 1, by omega, by go_num, by rw [HS.out], hb2.out⟩
          case measure => simp [intOf]; omega
      · have h1' : ¬ (k : Int) < (C : Int) := by omega
        have h2 : k < E := by have := HM.out; omega
        rw [show qt C T k = noB by unfold qt; rw [if_neg h1], noB_app] at hsn
        have h2' : (k : Int) < (E : Int) := by omega
        obtain ⟨nb, no, hsb, hn0, hnc⟩ := HN.out _ hb.out k h2
        subst hsb
        have hqn : qn E N k = numB (N k) := by unfold qn; rw [if_pos h2]
        have hqy := qn_size E N k
        have hcall2 : Hid (∀ w, Calls Try.prog 10 _ w _) := cnumF_any (N k) hn0.1 hn0.2
        have HNk : Hid (∀ w, Below W.heap.size W w → w.cell? ⟨nb, no + k, none⟩ = some (.int .u64 (N k))) := fun w hw => by obtain ⟨b', o', e', _, h'⟩ := HN.out w hw k h2; cases e'; exact h'
        rw [hqn] at hsn hqy
        generalize numB (N k) = nk at *
        generalize cat (qq C E T N) 0 k = sk at *
        have HS : Hid (sk ++ nk = cat (qq C E T N) 0 (k + 1)) := hsn.symm
        have hzb : (9223372036854775807 < sk.size + nk.size) = False := by simp; omega
        generalize N k = nv at *
        clear hqn hsn
        go_wp2_with (go_at_call 10; refine (hcall2.out _).mono ?_; rintro x wc ⟨rfl, hb3⟩; have hb4 : Hid (Below _ _ _) := hb.out.trans (hb3.mono hb.out.size); clear hb3 hb hcall2)
        go_roundw
        case rel => exact ⟨k + 1, by omega, by go_num, by rw [HS.out], hb4.out⟩
        case measure => simp [intOf]; omega
    · obtain rfl : k = M := by omega
      have hlt' : ¬ (k : Int) < (k : Int) := by omega
      have hnew := cnew_any firm_nought (hold_nought W.heap.size W _ hb.out.size hb.out) (cat (qq C E T N) 0 k)
      have hst : Hid (∀ w g, Hold W.heap.size W w (star (rdr g (cat (qq C E T N) 0 k) 0) nought) → Bst W w g C E T N k 0) := fun w g h => h
      generalize cat (qq C E T N) 0 k = sk at *
      clear hb
      go_wp2_with (go_at_call 14; refine hnew.mono ?_; rintro x w2 ⟨g, rfl, h2⟩; have h3 : Hid (Bst W w2 g C E T N k 0) := hst.out _ _ h2; clear h2 hnew hst)
      generalize Value.string sk = vs
      clear hme hmf hk hlt hlt'
      obtain ⟨M, hMe⟩ : ∃ M, M = k := ⟨_, rfl⟩
      subst hMe
      go_loopw [64] (fun i wr => ∃ j : Nat, j ≤ M ∧ i = .int .i64 (j : Int) ∧ Hid (Bst W wr g C E T N M j)) (fun i _ => M - (intOf i).toNat)
      case atStart => exact ⟨0, Nat.zero_le _, rfl, h3.out⟩
      case round =>
        clear h3
        obtain ⟨j, hj, rfl, hr⟩ := hrel
        by_cases hlt2 : j < M
        · have hj' : (j : Int) < (M : Int) := by omega
          by_cases h1 : j < C
          · have h1' : (j : Int) < (C : Int) := by omega
            by_cases h2 : j < E
            · have h2' : (j : Int) < (E : Int) := by omega
              obtain ⟨tb, to, hsa, hz, -⟩ := HT.out _ hr.out.low j h1
              subst hsa
              obtain ⟨c, hc0, hc1, hc2, hc3⟩ : ∃ c : Nat, c = min (T j).size 300 ∧ (if (300 : Int) < ((T j).size : Int) then (300 : Int) else ((T j).size : Int)) = (c : Int) ∧ c ≤ 300 ∧ c ≤ (T j).size := ⟨min (T j).size 300, rfl, by split <;> omega, by omega, by omega⟩
              have hcut : cutT 300 (T j) = (T j).extract 0 c := by unfold cutT; rw [hc0]
              have HTk : Hid (∀ w, Below W.heap.size W w → w.cell? ⟨tb, to + j, none⟩ = some (.string (T j))) := fun w hw => by obtain ⟨b', o', e', _, h'⟩ := HT.out w hw j h1; cases e'; exact h'
              have hct : Hid (∀ w, Bst W w g C E T N M j → Calls Try.prog 19 #[.pointer (some ⟨g, 0, none⟩)] w fun x w' => x = .returned (.string ((T j).extract 0 c)) ∧ Bmd W w' g C E T N M j) := fun w h => by rw [← hcut]; exact bst_text h hM20 hlt2 h1
              unfold maxLen at hz
              clear hc0 hcut
              obtain ⟨nb, no, hsb, hn0, -⟩ := HN.out _ hr.out.low j h2
              subst hsb
              have HNk : Hid (∀ w, Below W.heap.size W w → w.cell? ⟨nb, no + j, none⟩ = some (.int .u64 (N j))) := fun w hw => by obtain ⟨b', o', e', _, h'⟩ := HN.out w hw j h2; cases e'; exact h'
              have hcn : Hid (∀ w, Bmd W w g C E T N M j → Calls Try.prog 15 #[.pointer (some ⟨g, 0, none⟩)] w fun x w' => x = .returned (.int .u64 (N j)) ∧ Bst W w' g C E T N M (j + 1)) := fun w h => bst_num h hM20 hlt2 h2 hn0
              clear hn0
              have HSS : Hid (∀ z, Below W.heap.size W z → (fun z : World => z.cell? ⟨tb, to + j, none⟩ = some (.string (T j)) ∧ z.cell? ⟨nb, no + j, none⟩ = some (.int .u64 (N j))) z) := fun z hz => ⟨HTk.out z hz, HNk.out z hz⟩
              have h4 : Hid (Bst _ _ _ _ _ _ _ _ _) := hr.out.drew
              clear hr
              go_wp2
              refine wp_region_noPanic ?_
              refine wp_region_held_drew (S := fun z : World => z.cell? ⟨tb, to + j, none⟩ = some (.string (T j)) ∧ z.cell? ⟨nb, no + j, none⟩ = some (.int .u64 (N j))) (by kernel_rfl) (HSS.out _ h4.out.low) (fun hHeld => ?_)
              refine wpAnyH_take (i := 0) (v := ?_) rfl (by kernel_rfl) (by kernel_rfl) (by kernel_rfl) (fun _ _ _ h => h) (Or.inl ⟨by rfl, ?_⟩) (by assumption) ?_
              rotate_left
              · intro w hSw; go_simp; try with_reducible rfl
              go_simp
              refine wpAnyH_take (i := 1) (v := ?_) rfl (by kernel_rfl) (by kernel_rfl) (by kernel_rfl) (fun _ _ _ h => h) (Or.inl ⟨by rfl, ?_⟩) (by assumption) ?_
              rotate_left
              · intro w hSw; go_simp; try with_reducible rfl
              go_simp
              refine wpAnyH_take (i := 2) (v := ?_) rfl (by kernel_rfl) (by kernel_rfl) (by kernel_rfl) (fun _ _ _ h => h) (Or.inl ⟨by rfl, ?_⟩) (by assumption) ?_
              rotate_left
              · intro w hSw; go_simp; try with_reducible rfl
              go_simp
              refine wpAnyH_take (i := 3) (v := ?_) rfl (by kernel_rfl) (by kernel_rfl) (by kernel_rfl) (fun _ _ _ h => h) (Or.inl ⟨by rfl, ?_⟩) (by assumption) ?_
              rotate_left
              · intro w hSw; go_simp; try with_reducible rfl
              go_simp
              refine wpAnyH_take (i := 4) (v := ?_) rfl (by kernel_rfl) (by kernel_rfl) (by kernel_rfl) (fun _ _ _ h => h) (Or.inl ⟨by rfl, ?_⟩) (by assumption) ?_
              rotate_left
              · intro w hSw; go_simp; try with_reducible rfl
              go_simp
              refine wpAnyH_take (i := 5) (v := ?_) rfl (by kernel_rfl) (by kernel_rfl) (by kernel_rfl) (fun _ _ _ h => h) (Or.inl ⟨by rfl, ?_⟩) (by assumption) ?_
              rotate_left
              · intro w hSw; go_simp; try with_reducible rfl
              go_simp
              refine wpAnyH_take (i := 7) (v := ?_) rfl (by kernel_rfl) (by kernel_rfl) (by kernel_rfl) (fun _ _ _ h => h) (Or.inl ⟨by rfl, ?_⟩) (by assumption) ?_
              rotate_left
              · intro w hSw; go_simp; try with_reducible rfl
              go_simp
              refine wpAnyH_take (i := 8) (v := ?_) rfl (by kernel_rfl) (by kernel_rfl) (by kernel_rfl) (fun _ _ _ h => h) (Or.inl ⟨by rfl, ?_⟩) (by assumption) ?_
              rotate_left
              · intro w hSw; go_simp; try with_reducible rfl
              go_simp
              refine wpAnyH_take (i := 9) (v := ?_) rfl (by kernel_rfl) (by kernel_rfl) (by kernel_rfl) (fun _ _ _ h => h) (Or.inl ⟨by rfl, ?_⟩) (by assumption) ?_
              rotate_left
              · intro w hSw; go_simp; try with_reducible rfl
              go_simp
              refine wpAnyH_take (i := 10) (v := ?_) rfl (by kernel_rfl) (by kernel_rfl) (by kernel_rfl) (fun _ _ _ h => h) (Or.inl ⟨by rfl, ?_⟩) (by assumption) ?_
              rotate_left
              · intro w hSw; go_simp; try with_reducible rfl
              go_simp
              refine wpAnyH_take (i := 11) (v := ?_) rfl (by kernel_rfl) (by kernel_rfl) (by kernel_rfl) (fun _ _ _ h => h) (Or.inl ⟨by rfl, ?_⟩) (by assumption) ?_
              rotate_left
              · intro w hSw; go_simp; try with_reducible rfl
              go_simp
              refine wpAnyH_take (i := 12) (v := ?_) rfl (by kernel_rfl) (by kernel_rfl) (by kernel_rfl) (fun _ _ _ h => h) (Or.inl ⟨by rfl, ?_⟩) (by assumption) ?_
              rotate_left
              · intro w hSw; go_simp; try with_reducible rfl
              go_simp
              refine wpAnyH_take (i := 13) (v := ?_) rfl (by kernel_rfl) (by kernel_rfl) (by kernel_rfl) (fun _ _ _ h => h) (Or.inl ⟨by rfl, ?_⟩) (by assumption) ?_
              rotate_left
              · intro w hSw; go_simp; try with_reducible rfl
              go_simp
              refine wpAnyH_take (i := 14) (v := ?_) rfl (by kernel_rfl) (by kernel_rfl) (by kernel_rfl) (fun _ _ _ h => h) (Or.inl ⟨by rfl, ?_⟩) (by assumption) ?_
              rotate_left
              · intro w hSw; go_simp; try with_reducible rfl
              go_simp
              refine wpAnyH_take (i := 15) (v := ?_) rfl (by kernel_rfl) (by kernel_rfl) (by kernel_rfl) (fun _ _ _ h => h) (Or.inl ⟨by rfl, ?_⟩) (by assumption) ?_
              rotate_left
              · intro w hSw; go_simp; try with_reducible rfl
              go_simp
              refine wpAnyH_take (i := 16) (v := ?_) rfl (by kernel_rfl) (by kernel_rfl) (by kernel_rfl) (fun _ _ _ h => h) (Or.inl ⟨by rfl, ?_⟩) (by assumption) ?_
              rotate_left
              · intro w hSw; go_simp; try with_reducible rfl
              go_simp
              refine wpAnyH_take (i := 17) (v := ?_) rfl (by kernel_rfl) (by kernel_rfl) (by kernel_rfl) (fun _ _ _ h => h) (Or.inl ⟨by rfl, ?_⟩) (by assumption) ?_
              rotate_left
              · intro w hSw; go_simp; try with_reducible rfl
              go_simp
              refine wpAnyH_ready (rs := [6]) (by kernel_rfl) (by simp) (AllReadyH.cons rfl (fun K hK => ?_) AllReadyH.nil)
              go_simp
              go_at_call 19
              refine (hct.out _ h4.out).mono ?_
              rintro x wa ⟨rfl, h5'⟩
              have h5 : Hid (Bmd _ _ _ _ _ _ _ _ _) := h5'
              clear h4 h5' hct
              refine hK.out _ _ (HSS.out _ h5.out.low) (fun hHeld => ?_)
              clear hK K
              refine wpAnyH_take (i := 18) (v := ?_) rfl (by kernel_rfl) (by kernel_rfl) (by kernel_rfl) (fun _ _ _ h => h) (Or.inl ⟨by rfl, ?_⟩) (by assumption) ?_
              rotate_left
              · intro w hSw; go_simp; try with_reducible rfl
              go_simp
              refine wpAnyH_take (i := 19) (v := ?_) rfl (by kernel_rfl) (by kernel_rfl) (by kernel_rfl) (fun _ _ _ h => h) (Or.inl ⟨by rfl, ?_⟩) (by assumption) ?_
              rotate_left
              · intro w hSw; go_simp; try with_reducible rfl
              go_simp
              refine wpAnyH_take (i := 20) (v := ?_) rfl (by kernel_rfl) (by kernel_rfl) (by kernel_rfl) (fun _ _ _ h => h) (Or.inl ⟨by rfl, ?_⟩) (by assumption) ?_
              rotate_left
              · intro w hSw; go_simp; try with_reducible rfl
              go_simp
              refine wpAnyH_take (i := 21) (v := ?_) rfl (by kernel_rfl) (by kernel_rfl) (by kernel_rfl) (fun _ _ _ h => h) (Or.inl ⟨by rfl, ?_⟩) (by assumption) ?_
              rotate_left
              · intro w hSw; go_simp; try with_reducible rfl
              go_simp
              refine wpAnyH_take (i := 22) (v := ?_) rfl (by kernel_rfl) (by kernel_rfl) (by kernel_rfl) (fun _ _ _ h => h) (Or.inl ⟨by rfl, ?_⟩) (by assumption) ?_
              rotate_left
              · intro w hSw; go_simp; try with_reducible rfl
              go_simp
              refine wpAnyH_take (i := 23) (v := ?_) rfl (by kernel_rfl) (by kernel_rfl) (by kernel_rfl) (fun _ _ _ h => h) (Or.inl ⟨by rfl, ?_⟩) (by assumption) ?_
              rotate_left
              · intro w hSw; go_simp; try with_reducible rfl
              go_simp
              refine wpAnyH_take (i := 24) (v := ?_) rfl (by kernel_rfl) (by kernel_rfl) (by kernel_rfl) (fun _ _ _ h => h) (Or.inl ⟨by rfl, ?_⟩) (by assumption) ?_
              rotate_left
              · intro w hSw; go_simp; try with_reducible rfl
              go_simp
              refine wpAnyH_take (i := 25) (v := ?_) rfl (by kernel_rfl) (by kernel_rfl) (by kernel_rfl) (fun _ _ _ h => h) (Or.inl ⟨by rfl, ?_⟩) (by assumption) ?_
              rotate_left
              · intro w hSw; go_simp; try with_reducible rfl
              go_simp
              refine wpAnyH_take (i := 26) (v := ?_) rfl (by kernel_rfl) (by kernel_rfl) (by kernel_rfl) (fun _ _ _ h => h) (Or.inl ⟨by rfl, ?_⟩) (by assumption) ?_
              rotate_left
              · intro w hSw; go_simp; try with_reducible rfl
              go_simp
              refine wpAnyH_take (i := 28) (v := ?_) rfl (by kernel_rfl) (by kernel_rfl) (by kernel_rfl) (fun _ _ _ h => h) (Or.inl ⟨by rfl, ?_⟩) (by assumption) ?_
              rotate_left
              · intro w hSw; go_simp; try with_reducible rfl
              go_simp
              refine wpAnyH_take (i := 29) (v := ?_) rfl (by kernel_rfl) (by kernel_rfl) (by kernel_rfl) (fun _ _ _ h => h) (Or.inl ⟨by rfl, ?_⟩) (by assumption) ?_
              rotate_left
              · intro w hSw; go_simp; try with_reducible rfl
              go_simp
              refine wpAnyH_take (i := 30) (v := ?_) rfl (by kernel_rfl) (by kernel_rfl) (by kernel_rfl) (fun _ _ _ h => h) (Or.inl ⟨by rfl, ?_⟩) (by assumption) ?_
              rotate_left
              · intro w hSw; go_simp; try with_reducible rfl
              go_simp
              refine wpAnyH_take (i := 31) (v := ?_) rfl (by kernel_rfl) (by kernel_rfl) (by kernel_rfl) (fun _ _ _ h => h) (Or.inl ⟨by rfl, ?_⟩) (by assumption) ?_
              rotate_left
              · intro w hSw; go_simp; try with_reducible rfl
              go_simp
              refine wpAnyH_ready (rs := [27]) (by kernel_rfl) (by simp) (AllReadyH.cons rfl (fun K hK => ?_) AllReadyH.nil)
              go_simp
              go_at_call 15
              refine (hcn.out _ h5.out).mono ?_
              rintro x wb ⟨rfl, h6'⟩
              have h6 : Hid (Bst _ _ _ _ _ _ _ _ _) := h6'
              clear h5 h6' hcn
              refine hK.out _ _ (HSS.out _ h6.out.low) (fun hHeld => ?_)
              clear hK K
              refine wpAnyH_take (i := 32) (v := ?_) rfl (by kernel_rfl) (by kernel_rfl) (by kernel_rfl) (fun _ _ _ h => h) (Or.inl ⟨by rfl, ?_⟩) (by assumption) ?_
              rotate_left
              · intro w hSw; go_simp; try with_reducible rfl
              go_simp
              refine wpAnyH_take (i := 33) (v := ?_) rfl (by kernel_rfl) (by kernel_rfl) (by kernel_rfl) (fun _ _ _ h => h) (Or.inl ⟨by rfl, ?_⟩) (by assumption) ?_
              rotate_left
              · intro w hSw; go_simp; try with_reducible rfl
              go_simp
              refine wpAnyH_take (i := 34) (v := ?_) rfl (by kernel_rfl) (by kernel_rfl) (by kernel_rfl) (fun _ _ _ h => h) (Or.inl ⟨by rfl, ?_⟩) (by assumption) ?_
              rotate_left
              · intro w hSw; go_simp; try with_reducible rfl
              go_simp
              refine wpAnyH_done (by kernel_rfl) ?_ _
              refine NoPanic.normal ?_
              clear hHeld HSS
              go_wp2_with fail
              go_roundw
              case rel => exact ⟨j + 1, by omega, by go_num, h6.out⟩
              case measure => simp [intOf]; omega
            · have h2' : ¬ (j : Int) < (E : Int) := by omega
              obtain ⟨tb, to, hsa, hz, -⟩ := HT.out _ hr.out.low j h1
              subst hsa
              obtain ⟨c, hc0, hc1, hc2, hc3⟩ : ∃ c : Nat, c = min (T j).size 300 ∧ (if (300 : Int) < ((T j).size : Int) then (300 : Int) else ((T j).size : Int)) = (c : Int) ∧ c ≤ 300 ∧ c ≤ (T j).size := ⟨min (T j).size 300, rfl, by split <;> omega, by omega, by omega⟩
              have hcut : cutT 300 (T j) = (T j).extract 0 c := by unfold cutT; rw [hc0]
              have HTk : Hid (∀ w, Below W.heap.size W w → w.cell? ⟨tb, to + j, none⟩ = some (.string (T j))) := fun w hw => by obtain ⟨b', o', e', _, h'⟩ := HT.out w hw j h1; cases e'; exact h'
              have hct : Hid (∀ w, Bst W w g C E T N M j → Calls Try.prog 19 #[.pointer (some ⟨g, 0, none⟩)] w fun x w' => x = .returned (.string ((T j).extract 0 c)) ∧ Bmd W w' g C E T N M j) := fun w h => by rw [← hcut]; exact bst_text h hM20 hlt2 h1
              unfold maxLen at hz
              clear hc0 hcut
              have HSS : Hid (∀ z, Below W.heap.size W z → (fun z : World => z.cell? ⟨tb, to + j, none⟩ = some (.string (T j))) z) := fun z hz => HTk.out z hz
              have h4 : Hid (Bst _ _ _ _ _ _ _ _ _) := hr.out.drew
              clear hr
              go_wp2
              refine wp_region_noPanic ?_
              refine wp_region_held_drew (S := fun z : World => z.cell? ⟨tb, to + j, none⟩ = some (.string (T j))) (by kernel_rfl) (HSS.out _ h4.out.low) (fun hHeld => ?_)
              refine wpAnyH_take (i := 0) (v := ?_) rfl (by kernel_rfl) (by kernel_rfl) (by kernel_rfl) (fun _ _ _ h => h) (Or.inl ⟨by rfl, ?_⟩) (by assumption) ?_
              rotate_left
              · intro w hSw; go_simp; try with_reducible rfl
              go_simp
              refine wpAnyH_take (i := 1) (v := ?_) rfl (by kernel_rfl) (by kernel_rfl) (by kernel_rfl) (fun _ _ _ h => h) (Or.inl ⟨by rfl, ?_⟩) (by assumption) ?_
              rotate_left
              · intro w hSw; go_simp; try with_reducible rfl
              go_simp
              refine wpAnyH_take (i := 2) (v := ?_) rfl (by kernel_rfl) (by kernel_rfl) (by kernel_rfl) (fun _ _ _ h => h) (Or.inl ⟨by rfl, ?_⟩) (by assumption) ?_
              rotate_left
              · intro w hSw; go_simp; try with_reducible rfl
              go_simp
              refine wpAnyH_take (i := 3) (v := ?_) rfl (by kernel_rfl) (by kernel_rfl) (by kernel_rfl) (fun _ _ _ h => h) (Or.inl ⟨by rfl, ?_⟩) (by assumption) ?_
              rotate_left
              · intro w hSw; go_simp; try with_reducible rfl
              go_simp
              refine wpAnyH_take (i := 4) (v := ?_) rfl (by kernel_rfl) (by kernel_rfl) (by kernel_rfl) (fun _ _ _ h => h) (Or.inl ⟨by rfl, ?_⟩) (by assumption) ?_
              rotate_left
              · intro w hSw; go_simp; try with_reducible rfl
              go_simp
              refine wpAnyH_take (i := 5) (v := ?_) rfl (by kernel_rfl) (by kernel_rfl) (by kernel_rfl) (fun _ _ _ h => h) (Or.inl ⟨by rfl, ?_⟩) (by assumption) ?_
              rotate_left
              · intro w hSw; go_simp; try with_reducible rfl
              go_simp
              refine wpAnyH_take (i := 7) (v := ?_) rfl (by kernel_rfl) (by kernel_rfl) (by kernel_rfl) (fun _ _ _ h => h) (Or.inl ⟨by rfl, ?_⟩) (by assumption) ?_
              rotate_left
              · intro w hSw; go_simp; try with_reducible rfl
              go_simp
              refine wpAnyH_take (i := 8) (v := ?_) rfl (by kernel_rfl) (by kernel_rfl) (by kernel_rfl) (fun _ _ _ h => h) (Or.inl ⟨by rfl, ?_⟩) (by assumption) ?_
              rotate_left
              · intro w hSw; go_simp; try with_reducible rfl
              go_simp
              refine wpAnyH_take (i := 9) (v := ?_) rfl (by kernel_rfl) (by kernel_rfl) (by kernel_rfl) (fun _ _ _ h => h) (Or.inl ⟨by rfl, ?_⟩) (by assumption) ?_
              rotate_left
              · intro w hSw; go_simp; try with_reducible rfl
              go_simp
              refine wpAnyH_take (i := 10) (v := ?_) rfl (by kernel_rfl) (by kernel_rfl) (by kernel_rfl) (fun _ _ _ h => h) (Or.inl ⟨by rfl, ?_⟩) (by assumption) ?_
              rotate_left
              · intro w hSw; go_simp; try with_reducible rfl
              go_simp
              refine wpAnyH_take (i := 11) (v := ?_) rfl (by kernel_rfl) (by kernel_rfl) (by kernel_rfl) (fun _ _ _ h => h) (Or.inl ⟨by rfl, ?_⟩) (by assumption) ?_
              rotate_left
              · intro w hSw; go_simp; try with_reducible rfl
              go_simp
              refine wpAnyH_take (i := 12) (v := ?_) rfl (by kernel_rfl) (by kernel_rfl) (by kernel_rfl) (fun _ _ _ h => h) (Or.inl ⟨by rfl, ?_⟩) (by assumption) ?_
              rotate_left
              · intro w hSw; go_simp; try with_reducible rfl
              go_simp
              refine wpAnyH_take (i := 13) (v := ?_) rfl (by kernel_rfl) (by kernel_rfl) (by kernel_rfl) (fun _ _ _ h => h) (Or.inl ⟨by rfl, ?_⟩) (by assumption) ?_
              rotate_left
              · intro w hSw; go_simp; try with_reducible rfl
              go_simp
              refine wpAnyH_take (i := 14) (v := ?_) rfl (by kernel_rfl) (by kernel_rfl) (by kernel_rfl) (fun _ _ _ h => h) (Or.inl ⟨by rfl, ?_⟩) (by assumption) ?_
              rotate_left
              · intro w hSw; go_simp; try with_reducible rfl
              go_simp
              refine wpAnyH_take (i := 15) (v := ?_) rfl (by kernel_rfl) (by kernel_rfl) (by kernel_rfl) (fun _ _ _ h => h) (Or.inl ⟨by rfl, ?_⟩) (by assumption) ?_
              rotate_left
              · intro w hSw; go_simp; try with_reducible rfl
              go_simp
              refine wpAnyH_take (i := 16) (v := ?_) rfl (by kernel_rfl) (by kernel_rfl) (by kernel_rfl) (fun _ _ _ h => h) (Or.inl ⟨by rfl, ?_⟩) (by assumption) ?_
              rotate_left
              · intro w hSw; go_simp; try with_reducible rfl
              go_simp
              refine wpAnyH_take (i := 17) (v := ?_) rfl (by kernel_rfl) (by kernel_rfl) (by kernel_rfl) (fun _ _ _ h => h) (Or.inl ⟨by rfl, ?_⟩) (by assumption) ?_
              rotate_left
              · intro w hSw; go_simp; try with_reducible rfl
              go_simp
              refine wpAnyH_ready (rs := [6]) (by kernel_rfl) (by simp) (AllReadyH.cons rfl (fun K hK => ?_) AllReadyH.nil)
              go_simp
              go_at_call 19
              refine (hct.out _ h4.out).mono ?_
              rintro x wa ⟨rfl, h5'⟩
              have h5 : Hid (Bmd _ _ _ _ _ _ _ _ _) := h5'
              clear h4 h5' hct
              refine hK.out _ _ (HSS.out _ h5.out.low) (fun hHeld => ?_)
              clear hK K
              refine wpAnyH_take (i := 18) (v := ?_) rfl (by kernel_rfl) (by kernel_rfl) (by kernel_rfl) (fun _ _ _ h => h) (Or.inl ⟨by rfl, ?_⟩) (by assumption) ?_
              rotate_left
              · intro w hSw; go_simp; try with_reducible rfl
              go_simp
              refine wpAnyH_take (i := 19) (v := ?_) rfl (by kernel_rfl) (by kernel_rfl) (by kernel_rfl) (fun _ _ _ h => h) (Or.inl ⟨by rfl, ?_⟩) (by assumption) ?_
              rotate_left
              · intro w hSw; go_simp; try with_reducible rfl
              go_simp
              refine wpAnyH_take (i := 20) (v := ?_) rfl (by kernel_rfl) (by kernel_rfl) (by kernel_rfl) (fun _ _ _ h => h) (Or.inl ⟨by rfl, ?_⟩) (by assumption) ?_
              rotate_left
              · intro w hSw; go_simp; try with_reducible rfl
              go_simp
              refine wpAnyH_take (i := 21) (v := ?_) rfl (by kernel_rfl) (by kernel_rfl) (by kernel_rfl) (fun _ _ _ h => h) (Or.inl ⟨by rfl, ?_⟩) (by assumption) ?_
              rotate_left
              · intro w hSw; go_simp; try with_reducible rfl
              go_simp
              refine wpAnyH_take (i := 22) (v := ?_) rfl (by kernel_rfl) (by kernel_rfl) (by kernel_rfl) (fun _ _ _ h => h) (Or.inl ⟨by rfl, ?_⟩) (by assumption) ?_
              rotate_left
              · intro w hSw; go_simp; try with_reducible rfl
              go_simp
              refine wpAnyH_take (i := 23) (v := ?_) rfl (by kernel_rfl) (by kernel_rfl) (by kernel_rfl) (fun _ _ _ h => h) (Or.inl ⟨by rfl, ?_⟩) (by assumption) ?_
              rotate_left
              · intro w hSw; go_simp; try with_reducible rfl
              go_simp
              refine wpAnyH_take (i := 24) (v := ?_) rfl (by kernel_rfl) (by kernel_rfl) (by kernel_rfl) (fun _ _ _ h => h) (Or.inl ⟨by rfl, ?_⟩) (by assumption) ?_
              rotate_left
              · intro w hSw; go_simp; try with_reducible rfl
              go_simp
              refine wpAnyH_take (i := 25) (v := ?_) rfl (by kernel_rfl) (by kernel_rfl) (by kernel_rfl) (fun _ _ _ h => h) (Or.inl ⟨by rfl, ?_⟩) (by assumption) ?_
              rotate_left
              · intro w hSw; go_simp; try with_reducible rfl
              go_simp
              refine wpAnyH_take (i := 26) (v := undef) rfl (by kernel_rfl) (by kernel_rfl) (by kernel_rfl) (fun _ _ _ h => h) (Or.inr ⟨by rfl, rfl⟩) (by assumption) ?_
              go_simp
              refine wpAnyH_take (i := 27) (v := undef) rfl (by kernel_rfl) (by kernel_rfl) (by kernel_rfl) (fun _ _ _ h => h) (Or.inr ⟨by rfl, rfl⟩) (by assumption) ?_
              go_simp
              refine wpAnyH_take (i := 28) (v := undef) rfl (by kernel_rfl) (by kernel_rfl) (by kernel_rfl) (fun _ _ _ h => h) (Or.inr ⟨by rfl, rfl⟩) (by assumption) ?_
              go_simp
              refine wpAnyH_take (i := 29) (v := undef) rfl (by kernel_rfl) (by kernel_rfl) (by kernel_rfl) (fun _ _ _ h => h) (Or.inr ⟨by rfl, rfl⟩) (by assumption) ?_
              go_simp
              refine wpAnyH_take (i := 30) (v := undef) rfl (by kernel_rfl) (by kernel_rfl) (by kernel_rfl) (fun _ _ _ h => h) (Or.inr ⟨by rfl, rfl⟩) (by assumption) ?_
              go_simp
              refine wpAnyH_take (i := 31) (v := undef) rfl (by kernel_rfl) (by kernel_rfl) (by kernel_rfl) (fun _ _ _ h => h) (Or.inr ⟨by rfl, rfl⟩) (by assumption) ?_
              go_simp
              refine wpAnyH_take (i := 32) (v := undef) rfl (by kernel_rfl) (by kernel_rfl) (by kernel_rfl) (fun _ _ _ h => h) (Or.inr ⟨by rfl, rfl⟩) (by assumption) ?_
              go_simp
              refine wpAnyH_take (i := 33) (v := ?_) rfl (by kernel_rfl) (by kernel_rfl) (by kernel_rfl) (fun _ _ _ h => h) (Or.inl ⟨by rfl, ?_⟩) (by assumption) ?_
              rotate_left
              · intro w hSw; go_simp; try with_reducible rfl
              go_simp
              refine wpAnyH_take (i := 34) (v := ?_) rfl (by kernel_rfl) (by kernel_rfl) (by kernel_rfl) (fun _ _ _ h => h) (Or.inl ⟨by rfl, ?_⟩) (by assumption) ?_
              rotate_left
              · intro w hSw; go_simp; try with_reducible rfl
              go_simp
              refine wpAnyH_done (by kernel_rfl) ?_ _
              refine NoPanic.normal ?_
              clear hHeld HSS
              have h6 : Hid (Bst _ _ _ _ _ _ _ _ _) := h5.out.toNext h2
              go_wp2_with fail
              go_roundw
              case rel => exact ⟨j + 1, by omega, by go_num, h6.out⟩
              case measure => simp [intOf]; omega
          · have h1' : ¬ (j : Int) < (C : Int) := by omega
            have h2 : j < E := by have := HM.out; omega
            have h2' : (j : Int) < (E : Int) := by omega
            obtain ⟨nb, no, hsb, hn0, -⟩ := HN.out _ hr.out.low j h2
            subst hsb
            have HNk : Hid (∀ w, Below W.heap.size W w → w.cell? ⟨nb, no + j, none⟩ = some (.int .u64 (N j))) := fun w hw => by obtain ⟨b', o', e', _, h'⟩ := HN.out w hw j h2; cases e'; exact h'
            have hcn : Hid (∀ w, Bmd W w g C E T N M j → Calls Try.prog 15 #[.pointer (some ⟨g, 0, none⟩)] w fun x w' => x = .returned (.int .u64 (N j)) ∧ Bst W w' g C E T N M (j + 1)) := fun w h => bst_num h hM20 hlt2 h2 hn0
            clear hn0
            have HSS : Hid (∀ z, Below W.heap.size W z → (fun z : World => z.cell? ⟨nb, no + j, none⟩ = some (.int .u64 (N j))) z) := fun z hz => HNk.out z hz
            have h4 : Hid (Bst _ _ _ _ _ _ _ _ _) := hr.out.drew
            clear hr
            have h5 : Hid (Bmd _ _ _ _ _ _ _ _ _) := h4.out.toMid hlt2 h1
            go_wp2
            refine wp_region_noPanic ?_
            refine wp_region_held_drew (S := fun z : World => z.cell? ⟨nb, no + j, none⟩ = some (.int .u64 (N j))) (by kernel_rfl) (HSS.out _ h5.out.low) (fun hHeld => ?_)
            refine wpAnyH_take (i := 0) (v := ?_) rfl (by kernel_rfl) (by kernel_rfl) (by kernel_rfl) (fun _ _ _ h => h) (Or.inl ⟨by rfl, ?_⟩) (by assumption) ?_
            rotate_left
            · intro w hSw; go_simp; try with_reducible rfl
            go_simp
            refine wpAnyH_take (i := 1) (v := ?_) rfl (by kernel_rfl) (by kernel_rfl) (by kernel_rfl) (fun _ _ _ h => h) (Or.inl ⟨by rfl, ?_⟩) (by assumption) ?_
            rotate_left
            · intro w hSw; go_simp; try with_reducible rfl
            go_simp
            refine wpAnyH_take (i := 2) (v := ?_) rfl (by kernel_rfl) (by kernel_rfl) (by kernel_rfl) (fun _ _ _ h => h) (Or.inl ⟨by rfl, ?_⟩) (by assumption) ?_
            rotate_left
            · intro w hSw; go_simp; try with_reducible rfl
            go_simp
            refine wpAnyH_take (i := 3) (v := ?_) rfl (by kernel_rfl) (by kernel_rfl) (by kernel_rfl) (fun _ _ _ h => h) (Or.inl ⟨by rfl, ?_⟩) (by assumption) ?_
            rotate_left
            · intro w hSw; go_simp; try with_reducible rfl
            go_simp
            refine wpAnyH_take (i := 4) (v := ?_) rfl (by kernel_rfl) (by kernel_rfl) (by kernel_rfl) (fun _ _ _ h => h) (Or.inl ⟨by rfl, ?_⟩) (by assumption) ?_
            rotate_left
            · intro w hSw; go_simp; try with_reducible rfl
            go_simp
            refine wpAnyH_take (i := 5) (v := undef) rfl (by kernel_rfl) (by kernel_rfl) (by kernel_rfl) (fun _ _ _ h => h) (Or.inr ⟨by rfl, rfl⟩) (by assumption) ?_
            go_simp
            refine wpAnyH_take (i := 6) (v := undef) rfl (by kernel_rfl) (by kernel_rfl) (by kernel_rfl) (fun _ _ _ h => h) (Or.inr ⟨by rfl, rfl⟩) (by assumption) ?_
            go_simp
            refine wpAnyH_take (i := 7) (v := undef) rfl (by kernel_rfl) (by kernel_rfl) (by kernel_rfl) (fun _ _ _ h => h) (Or.inr ⟨by rfl, rfl⟩) (by assumption) ?_
            go_simp
            refine wpAnyH_take (i := 8) (v := undef) rfl (by kernel_rfl) (by kernel_rfl) (by kernel_rfl) (fun _ _ _ h => h) (Or.inr ⟨by rfl, rfl⟩) (by assumption) ?_
            go_simp
            refine wpAnyH_take (i := 9) (v := undef) rfl (by kernel_rfl) (by kernel_rfl) (by kernel_rfl) (fun _ _ _ h => h) (Or.inr ⟨by rfl, rfl⟩) (by assumption) ?_
            go_simp
            refine wpAnyH_take (i := 10) (v := undef) rfl (by kernel_rfl) (by kernel_rfl) (by kernel_rfl) (fun _ _ _ h => h) (Or.inr ⟨by rfl, rfl⟩) (by assumption) ?_
            go_simp
            refine wpAnyH_take (i := 11) (v := undef) rfl (by kernel_rfl) (by kernel_rfl) (by kernel_rfl) (fun _ _ _ h => h) (Or.inr ⟨by rfl, rfl⟩) (by assumption) ?_
            go_simp
            refine wpAnyH_take (i := 12) (v := undef) rfl (by kernel_rfl) (by kernel_rfl) (by kernel_rfl) (fun _ _ _ h => h) (Or.inr ⟨by rfl, rfl⟩) (by assumption) ?_
            go_simp
            refine wpAnyH_take (i := 13) (v := undef) rfl (by kernel_rfl) (by kernel_rfl) (by kernel_rfl) (fun _ _ _ h => h) (Or.inr ⟨by rfl, rfl⟩) (by assumption) ?_
            go_simp
            refine wpAnyH_take (i := 14) (v := undef) rfl (by kernel_rfl) (by kernel_rfl) (by kernel_rfl) (fun _ _ _ h => h) (Or.inr ⟨by rfl, rfl⟩) (by assumption) ?_
            go_simp
            refine wpAnyH_take (i := 15) (v := undef) rfl (by kernel_rfl) (by kernel_rfl) (by kernel_rfl) (fun _ _ _ h => h) (Or.inr ⟨by rfl, rfl⟩) (by assumption) ?_
            go_simp
            refine wpAnyH_take (i := 16) (v := undef) rfl (by kernel_rfl) (by kernel_rfl) (by kernel_rfl) (fun _ _ _ h => h) (Or.inr ⟨by rfl, rfl⟩) (by assumption) ?_
            go_simp
            refine wpAnyH_take (i := 17) (v := undef) rfl (by kernel_rfl) (by kernel_rfl) (by kernel_rfl) (fun _ _ _ h => h) (Or.inr ⟨by rfl, rfl⟩) (by assumption) ?_
            go_simp
            refine wpAnyH_take (i := 18) (v := undef) rfl (by kernel_rfl) (by kernel_rfl) (by kernel_rfl) (fun _ _ _ h => h) (Or.inr ⟨by rfl, rfl⟩) (by assumption) ?_
            go_simp
            refine wpAnyH_take (i := 19) (v := ?_) rfl (by kernel_rfl) (by kernel_rfl) (by kernel_rfl) (fun _ _ _ h => h) (Or.inl ⟨by rfl, ?_⟩) (by assumption) ?_
            rotate_left
            · intro w hSw; go_simp; try with_reducible rfl
            go_simp
            refine wpAnyH_take (i := 20) (v := ?_) rfl (by kernel_rfl) (by kernel_rfl) (by kernel_rfl) (fun _ _ _ h => h) (Or.inl ⟨by rfl, ?_⟩) (by assumption) ?_
            rotate_left
            · intro w hSw; go_simp; try with_reducible rfl
            go_simp
            refine wpAnyH_take (i := 21) (v := ?_) rfl (by kernel_rfl) (by kernel_rfl) (by kernel_rfl) (fun _ _ _ h => h) (Or.inl ⟨by rfl, ?_⟩) (by assumption) ?_
            rotate_left
            · intro w hSw; go_simp; try with_reducible rfl
            go_simp
            refine wpAnyH_take (i := 22) (v := ?_) rfl (by kernel_rfl) (by kernel_rfl) (by kernel_rfl) (fun _ _ _ h => h) (Or.inl ⟨by rfl, ?_⟩) (by assumption) ?_
            rotate_left
            · intro w hSw; go_simp; try with_reducible rfl
            go_simp
            refine wpAnyH_take (i := 23) (v := ?_) rfl (by kernel_rfl) (by kernel_rfl) (by kernel_rfl) (fun _ _ _ h => h) (Or.inl ⟨by rfl, ?_⟩) (by assumption) ?_
            rotate_left
            · intro w hSw; go_simp; try with_reducible rfl
            go_simp
            refine wpAnyH_take (i := 24) (v := ?_) rfl (by kernel_rfl) (by kernel_rfl) (by kernel_rfl) (fun _ _ _ h => h) (Or.inl ⟨by rfl, ?_⟩) (by assumption) ?_
            rotate_left
            · intro w hSw; go_simp; try with_reducible rfl
            go_simp
            refine wpAnyH_take (i := 25) (v := ?_) rfl (by kernel_rfl) (by kernel_rfl) (by kernel_rfl) (fun _ _ _ h => h) (Or.inl ⟨by rfl, ?_⟩) (by assumption) ?_
            rotate_left
            · intro w hSw; go_simp; try with_reducible rfl
            go_simp
            refine wpAnyH_take (i := 26) (v := ?_) rfl (by kernel_rfl) (by kernel_rfl) (by kernel_rfl) (fun _ _ _ h => h) (Or.inl ⟨by rfl, ?_⟩) (by assumption) ?_
            rotate_left
            · intro w hSw; go_simp; try with_reducible rfl
            go_simp
            refine wpAnyH_take (i := 28) (v := ?_) rfl (by kernel_rfl) (by kernel_rfl) (by kernel_rfl) (fun _ _ _ h => h) (Or.inl ⟨by rfl, ?_⟩) (by assumption) ?_
            rotate_left
            · intro w hSw; go_simp; try with_reducible rfl
            go_simp
            refine wpAnyH_take (i := 29) (v := ?_) rfl (by kernel_rfl) (by kernel_rfl) (by kernel_rfl) (fun _ _ _ h => h) (Or.inl ⟨by rfl, ?_⟩) (by assumption) ?_
            rotate_left
            · intro w hSw; go_simp; try with_reducible rfl
            go_simp
            refine wpAnyH_take (i := 30) (v := ?_) rfl (by kernel_rfl) (by kernel_rfl) (by kernel_rfl) (fun _ _ _ h => h) (Or.inl ⟨by rfl, ?_⟩) (by assumption) ?_
            rotate_left
            · intro w hSw; go_simp; try with_reducible rfl
            go_simp
            refine wpAnyH_take (i := 31) (v := ?_) rfl (by kernel_rfl) (by kernel_rfl) (by kernel_rfl) (fun _ _ _ h => h) (Or.inl ⟨by rfl, ?_⟩) (by assumption) ?_
            rotate_left
            · intro w hSw; go_simp; try with_reducible rfl
            go_simp
            refine wpAnyH_ready (rs := [27]) (by kernel_rfl) (by simp) (AllReadyH.cons rfl (fun K hK => ?_) AllReadyH.nil)
            go_simp
            go_at_call 15
            refine (hcn.out _ h5.out).mono ?_
            rintro x wb ⟨rfl, h6'⟩
            have h6 : Hid (Bst _ _ _ _ _ _ _ _ _) := h6'
            clear h5 h6' hcn
            refine hK.out _ _ (HSS.out _ h6.out.low) (fun hHeld => ?_)
            clear hK K
            refine wpAnyH_take (i := 32) (v := ?_) rfl (by kernel_rfl) (by kernel_rfl) (by kernel_rfl) (fun _ _ _ h => h) (Or.inl ⟨by rfl, ?_⟩) (by assumption) ?_
            rotate_left
            · intro w hSw; go_simp; try with_reducible rfl
            go_simp
            refine wpAnyH_take (i := 33) (v := ?_) rfl (by kernel_rfl) (by kernel_rfl) (by kernel_rfl) (fun _ _ _ h => h) (Or.inl ⟨by rfl, ?_⟩) (by assumption) ?_
            rotate_left
            · intro w hSw; go_simp; try with_reducible rfl
            go_simp
            refine wpAnyH_take (i := 34) (v := ?_) rfl (by kernel_rfl) (by kernel_rfl) (by kernel_rfl) (fun _ _ _ h => h) (Or.inl ⟨by rfl, ?_⟩) (by assumption) ?_
            rotate_left
            · intro w hSw; go_simp; try with_reducible rfl
            go_simp
            refine wpAnyH_done (by kernel_rfl) ?_ _
            refine NoPanic.normal ?_
            clear hHeld HSS
            go_wp2_with fail
            go_roundw
            case rel => exact ⟨j + 1, by omega, by go_num, h6.out⟩
            case measure => simp [intOf]; omega
        · obtain rfl : j = M := by omega
          have hj' : ¬ (j : Int) < (j : Int) := by omega
          have hfin : Hold W.heap.size W wr (star (rdr g noB 0) nought) := by
            have := hr.out
            unfold Bst at this
            rw [Nat.sub_self] at this
            exact this
          have HF : Hid (Hold _ _ _ _) := hfin
          clear hfin hr
          go_wp2_with (first
            | (go_at_call 9; refine (cwakes_any _).mono ?_; rintro x w5 ⟨rfl, hb5⟩; have HG : Hid (Hold _ _ _ _) := HF.out.below ((firm_rdr _ _ _).star firm_nought) hb5; clear hb5 HF)
            | (go_at_call 21; refine (cdone_any HG.out).mono ?_; rw [ab_done]; rintro x w6 ⟨rfl, hw⟩; rw [hw]; clear hw w6))
          go_ret
          exact ⟨rfl, HG.out.low⟩
end Go.Proofs.Ytnlgpodeblmlhaa
