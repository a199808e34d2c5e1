/- What the Go function IntentGets answers: true, for all cells of at most 1048576 bytes each, any digest, its own or not. -/
import Derived.Test.YtegebaomhbogmaaDoorRows
import Derived.Test.YtegebaomhbogmaaDoorInArg
namespace Go.Proofs.YtegebaomhbogmaaDoor
open Go.ChangeShapes Go.WideShapes Go.ChangeAt Go.RowKit Go.PlainAid
set_option linter.unusedVariables false
set_option maxRecDepth 20000

/- What the bound of the second form gives: texts that came in, none of more than 1048576 bytes. -/
section
variable {H : Type} {enc : TypeId × Value → H} {W : World}
theorem bulk_part {d : DataW H} {l : List (DataW H)} (h : d ∈ l) : Rows.uptoBulk d ≤ Rows.uptoBulkAll l := by
  induction l with
  | nil => cases h
  | cons x r ih =>
    simp only [Rows.uptoBulkAll]
    cases List.mem_cons.1 h with
    | inl e => subst e; omega
    | inr e => have := ih e; omega
theorem bulk_text (ss : List ByteArray) (s : ByteArray) (h : s ∈ ss) : s.size ≤ Rows.uptoBulkAll (ChangeShapes.strs (H := H) ss) := by
  have hm : (DataW.lit (.string s.data.toList) : DataW H) ∈ ChangeShapes.strs (H := H) ss := List.mem_map.2 ⟨s, h, rfl⟩
  have h1 := bulk_part hm
  have h2 : Rows.uptoBulk (DataW.lit (.string s.data.toList) : DataW H) = s.data.toList.length + 1 := by simp [Rows.uptoBulk]
  have h3 : s.data.toList.length = s.size := by simp
  omega
theorem itexts_small {a : Option Addr} {len cap : Nat} {d : DataW H} {p : List MemPlace} {ts : List TypeId} {ds : List (DataW H)} (hsz : (DataW.weightsEach Tryd.prog ts ds).all (· ≤ reachBytes) = true) {j : Nat} (ht : ts[j]? = some 27) (hd : ds[j]? = some d) (hk : Rows.uptoSmall H ds = true)
    (h : DataW.Trod enc Tryd.prog W 0 (fun _ => true) true 27 (.slice a len cap) d p) : TxArg 1048576 W a len cap := by
  obtain ⟨h1, h2, hno, h3⟩ := itexts_open hsz ht hd h
  refine ⟨h1, h2, hno, ?_⟩
  rcases h3 with rfl | ⟨ss, rfl, hl, hc⟩
  · exact ⟨fun _ => noB, .inl rfl, fun i hi => by omega⟩
  · refine ⟨_, hc, fun i hi => ?_⟩
    have k1 : Rows.uptoBulkAll ds ≤ 1048576 := of_decide_eq_true hk
    have k2 := bulk_part (List.mem_of_getElem? hd)
    have k3 := bulk_text (H := H) (ss.take len) _ (getD_take hl hi)
    have k4 : Rows.uptoBulk (DataW.slice (ChangeShapes.strs (H := H) (ss.take len)) (ChangeShapes.strs (ss.drop len))) = Rows.uptoBulkAll (ChangeShapes.strs (H := H) (ss.take len)) + Rows.uptoBulkAll (ChangeShapes.strs (H := H) (ss.drop len)) + 1 := by simp only [Rows.uptoBulk]
    omega
end
theorem gets_cat {T : Nat → ByteArray} {m : Nat} (hT : ∀ i, i < m → (T i).size ≤ 1048576) {n : Nat} (hn : n ≤ m) (h100 : n ≤ 100) : (cat (fun i => ctxB (T i)) 0 n).size ≤ 900000000 := by
  have := cat_size (fun i => ctxB (T i)) 1048584 n 0 (fun j hj => by
    rw [Nat.zero_add]; show (ctxB _).size ≤ _; rw [ctxB_size]; have := hT j (by omega); omega)
  exact Nat.le_trans this (Nat.le_trans (Nat.mul_le_mul h100 (Nat.le_refl _)) (by decide))
theorem gets_fit {T : Nat → ByteArray} {m : Nat} (hm : m ≤ 100) (hT : ∀ i, i < m → (T i).size ≤ 1048576) : LogFit m T :=
  ⟨by omega, fun i hi => Nat.le_trans (hT i hi) (by decide), fun _ _ h => gets_cat hT h (by have := szV_le (T 0); omega)⟩
set_option maxHeartbeats 8000000 in
theorem intentGets_law (s : Option Addr) (len cap : Nat) (dg : ByteArray) (own : Bool) (W : World) (hs : TxArg 1048576 W s len cap) (ht : Tabs W) (hr : RTabs W) : Calls Tryd.prog 4 #[.slice s len cap, .string dg, .bool own] W fun e w' => e = .returned (.bool true) ∧ Below W.heap.size W w' := by
  obtain ⟨hc1, hc2, hno, T, hT0, hTz0⟩ := hs
  obtain ⟨C, hC1, hC2, hC3, hC4⟩ : ∃ C : Nat, (if (100 : Int) < (len : Int) then (100 : Int) else (len : Int)) = (C : Int) ∧ min (len : Int) 100 = (C : Int) ∧ C ≤ 100 ∧ C ≤ len := ⟨min len 100, by split <;> omega, by omega, by omega, by omega⟩
  have hC5 : C ≤ cap := by omega
  have hT : Cs W s C T := hT0.cut hC4
  have hTz : ∀ i, i < C → (T i).size ≤ 1048576 := fun i hi => hTz0 i (by omega)
  have hfit := gets_fit hC3 hTz
  have H0 : Hid (Tb W W) := ⟨Below.refl _ _, ht, hr⟩
  have DG : Hid (∀ n z, n ≤ C → Tb W z → Calls Tryd.prog 13 #[.slice s n cap] z fun e w' => e = .returned (.string (dgT T n)) ∧ Below z.heap.size z w') := fun n z hn hz => rdigest15_any ((hT.below hz.low).cut hn) (by omega) (gets_cat hTz hn (by omega)) hz.r
  have SP : Hid (∀ (t : ByteArray) z, t.size ≤ 1048576 → Calls Tryd.prog 17 #[.string t] z fun e w' => e = .returned (.tuple #[.int .i64 (szV t : Int), .int .i64 (szE t)]) ∧ Below z.heap.size z w') := fun t z h => isize_any t (by omega) z
  have SR : Hid (∀ (t : ByteArray) z, Calls Tryd.prog 14 #[.string t] z fun e w' => e = .returned (.tuple #[.int .i64 (szV t : Int), .int .i64 (szE t)]) ∧ Below z.heap.size z w') := fun t z => rsize15_any t z
  have GP : Hid (∀ d z, Tb W z → Calls Tryd.prog 15 #[.slice s C cap, .string d] z fun e w' => ∃ a' c', e = .returned (.tuple #[.slice a' (gtN C T d) c', .int .i64 (gtE C T d)]) ∧ Wx w' a' (gtN C T d) (gtA T) (gtC T) ∧ Below z.heap.size z w') := fun d z hz => iget_any (hT.below hz.low) hfit d hz.t
  have GR : Hid (∀ d z, Tb W z → Calls Tryd.prog 16 #[.slice s C cap, .string d] z fun e w' => ∃ a' c', e = .returned (.tuple #[.slice a' (gtN C T d) c', .int .i64 (gtE C T d)]) ∧ Wx w' a' (gtN C T d) (gtA T) (gtC T) ∧ Below z.heap.size z w') := fun d z hz => rget15_any (hT.below hz.low) hC5 hfit d hz.r
  have NP : Hid (∀ d, gtN C T d ≤ 1000) := fun d => by
    show gtN C T d ≤ 1000
    unfold gtN
    have := szV_le (T 0)
    split <;> omega
  have i1 := int_self
  have HW : Hid (∀ z, Tb W z → Calls Tryd.prog 10 #[] z fun e w' => e = .returned (.bool true) ∧ Below z.heap.size z w') := fun z hz => wakes15_any hz.t
  by_cases h0 : C = 0
  · subst h0
    have SP0 : Hid (∀ z, Calls Tryd.prog 17 #[.string ⟨#[]⟩] z fun e w' => e = .returned (.tuple #[.int .i64 (szV ⟨#[]⟩ : Int), .int .i64 (szE ⟨#[]⟩)]) ∧ Below z.heap.size z w') := fun z => SP.out _ z (by decide)
    have SR0 : Hid (∀ z, Calls Tryd.prog 14 #[.string ⟨#[]⟩] z fun e w' => e = .returned (.tuple #[.int .i64 (szV ⟨#[]⟩ : Int), .int .i64 (szE ⟨#[]⟩)]) ∧ Below z.heap.size z w') := fun z => SR.out _ z
    have i2 := i1 (szV ⟨#[]⟩ : Int)
    have i3 := i1 (szE ⟨#[]⟩)
    generalize (szV ⟨#[]⟩ : Int) = VV at *
    generalize szE ⟨#[]⟩ = EE at *
    clear SP SR hT0 hTz0 hT hTz hfit ht hr
    cases own
    · clear DG
      have GPd : Hid (∀ z, Tb W z → Calls Tryd.prog 15 #[.slice s 0 cap, .string dg] z fun e w' => ∃ a' c', e = .returned (.tuple #[.slice a' (gtN 0 T dg) c', .int .i64 (gtE 0 T dg)]) ∧ Wx w' a' (gtN 0 T dg) (gtA T) (gtC T) ∧ Below z.heap.size z w') := fun z hz => GP.out dg z hz
      have GRd : Hid (∀ z, Tb W z → Calls Tryd.prog 16 #[.slice s 0 cap, .string dg] z fun e w' => ∃ a' c', e = .returned (.tuple #[.slice a' (gtN 0 T dg) c', .int .i64 (gtE 0 T dg)]) ∧ Wx w' a' (gtN 0 T dg) (gtA T) (gtC T) ∧ Below z.heap.size z w') := fun z hz => GR.out dg z hz
      have NPd : Hid (gtN 0 T dg ≤ 1000) := NP.out dg
      have i4 := i1 (gtE 0 T dg)
      generalize gtN 0 T dg = NN at *
      generalize gtE 0 T dg = GE at *
      clear GP GR NP i1
      go_enter Tryd.func4, Tryd.ntmps4
      go_wp2_with (first
        | (go_at_call 15; refine (GPd.out _ H0.out).mono ?_; rintro e w1 ⟨pa, pc, rfl, hx1, hb1⟩; have H1 : Hid (Tb W w1) := H0.out.below hb1; have A1 : Hid (Wx w1 pa NN (gtA T) (gtC T)) := hx1; clear hb1 hx1 H0)
        | (go_at_call 16; refine (GRd.out _ H1.out).mono ?_; rintro e w2 ⟨qa, qc, rfl, hx2, hb2⟩; have H2 : Hid (Tb W w2) := H1.out.below hb2; have A2 : Hid (Wx w2 pa NN (gtA T) (gtC T)) := A1.out.below hb2; have B2 : Hid (Wx w2 qa NN (gtA T) (gtC T)) := hx2; clear hb2 hx2 H1 A1)
        | (go_at_call 17; refine (SP0.out _).mono ?_; rintro e w3 ⟨rfl, hb3⟩; have H3 : Hid (Tb W w3) := H2.out.below hb3; have A3 : Hid (Wx w3 pa NN (gtA T) (gtC T)) := A2.out.below hb3; have B3 : Hid (Wx w3 qa NN (gtA T) (gtC T)) := B2.out.below hb3; clear hb3 H2 A2 B2 SP0)
        | (go_at_call 14; refine (SR0.out _).mono ?_; rintro e w4 ⟨rfl, hb4⟩; have H4 : Hid (Tb W w4) := H3.out.below hb4; have A4 : Hid (Wx w4 pa NN (gtA T) (gtC T)) := A3.out.below hb4; have B4 : Hid (Wx w4 qa NN (gtA T) (gtC T)) := B3.out.below hb4; clear hb4 H3 A3 B3 SR0)
        | (go_at_call 10; refine (HW.out _ H4.out).mono ?_; rintro e w5 ⟨rfl, hb5⟩; have H5 : Hid (Tb W w5) := H4.out.below hb5; have A5 : Hid (Wx w5 pa NN (gtA T) (gtC T)) := A4.out.below hb5; have B5 : Hid (Wx w5 qa NN (gtA T) (gtC T)) := B4.out.below hb5; clear hb5 H4 A4 B4)
        | (go_at_call 18; refine (same15_any A5.out B5.out NPd.out).mono ?_; rintro e w6 ⟨rfl, hb6⟩; have H6 : Hid (Tb W w6) := H5.out.below hb6; clear hb6 H5 A5 B5))
      go_ret
      exact ⟨rfl, H6.out.low⟩
    · skip
      have D1 : Hid (∀ z, Tb W z → Calls Tryd.prog 13 #[.slice s 0 cap] z fun e w' => e = .returned (.string (dgT T 0)) ∧ Below z.heap.size z w') := fun z hz => DG.out 0 z (Nat.le_refl _) hz
      have GPd : Hid (∀ z, Tb W z → Calls Tryd.prog 15 #[.slice s 0 cap, .string (dgT T 0)] z fun e w' => ∃ a' c', e = .returned (.tuple #[.slice a' (gtN 0 T (dgT T 0)) c', .int .i64 (gtE 0 T (dgT T 0))]) ∧ Wx w' a' (gtN 0 T (dgT T 0)) (gtA T) (gtC T) ∧ Below z.heap.size z w') := fun z hz => GP.out (dgT T 0) z hz
      have GRd : Hid (∀ z, Tb W z → Calls Tryd.prog 16 #[.slice s 0 cap, .string (dgT T 0)] z fun e w' => ∃ a' c', e = .returned (.tuple #[.slice a' (gtN 0 T (dgT T 0)) c', .int .i64 (gtE 0 T (dgT T 0))]) ∧ Wx w' a' (gtN 0 T (dgT T 0)) (gtA T) (gtC T) ∧ Below z.heap.size z w') := fun z hz => GR.out (dgT T 0) z hz
      have NPd : Hid (gtN 0 T (dgT T 0) ≤ 1000) := NP.out (dgT T 0)
      have i4 := i1 (gtE 0 T (dgT T 0))
      generalize gtN 0 T (dgT T 0) = NN at *
      generalize gtE 0 T (dgT T 0) = GE at *
      generalize dgT T 0 = DD at *
      clear DG
      clear GP GR NP i1
      go_enter Tryd.func4, Tryd.ntmps4
      go_wp2_with (first
        | (go_at_call 13; refine (D1.out _ H0.out).mono ?_; rintro e w1 ⟨rfl, hd1⟩; have H1 : Hid (Tb W w1) := H0.out.below hd1; clear hd1 H0 D1)
        | (go_at_call 15; refine (GPd.out _ H1.out).mono ?_; rintro e w2 ⟨pa, pc, rfl, hx1, hb1⟩; have H2 : Hid (Tb W w2) := H1.out.below hb1; have A2 : Hid (Wx w2 pa NN (gtA T) (gtC T)) := hx1; clear hb1 hx1 H1)
        | (go_at_call 16; refine (GRd.out _ H2.out).mono ?_; rintro e w3 ⟨qa, qc, rfl, hx2, hb2⟩; have H3 : Hid (Tb W w3) := H2.out.below hb2; have A3 : Hid (Wx w3 pa NN (gtA T) (gtC T)) := A2.out.below hb2; have B3 : Hid (Wx w3 qa NN (gtA T) (gtC T)) := hx2; clear hb2 hx2 H2 A2)
        | (go_at_call 17; refine (SP0.out _).mono ?_; rintro e w4 ⟨rfl, hb3⟩; have H4 : Hid (Tb W w4) := H3.out.below hb3; have A4 : Hid (Wx w4 pa NN (gtA T) (gtC T)) := A3.out.below hb3; have B4 : Hid (Wx w4 qa NN (gtA T) (gtC T)) := B3.out.below hb3; clear hb3 H3 A3 B3 SP0)
        | (go_at_call 14; refine (SR0.out _).mono ?_; rintro e w5 ⟨rfl, hb4⟩; have H5 : Hid (Tb W w5) := H4.out.below hb4; have A5 : Hid (Wx w5 pa NN (gtA T) (gtC T)) := A4.out.below hb4; have B5 : Hid (Wx w5 qa NN (gtA T) (gtC T)) := B4.out.below hb4; clear hb4 H4 A4 B4 SR0)
        | (go_at_call 10; refine (HW.out _ H5.out).mono ?_; rintro e w6 ⟨rfl, hb5⟩; have H6 : Hid (Tb W w6) := H5.out.below hb5; have A6 : Hid (Wx w6 pa NN (gtA T) (gtC T)) := A5.out.below hb5; have B6 : Hid (Wx w6 qa NN (gtA T) (gtC T)) := B5.out.below hb5; clear hb5 H5 A5 B5)
        | (go_at_call 18; refine (same15_any A6.out B6.out NPd.out).mono ?_; rintro e w7 ⟨rfl, hb6⟩; have H7 : Hid (Tb W w7) := H6.out.below hb6; clear hb6 H6 A6 B6))
      go_ret
      exact ⟨rfl, H7.out.low⟩
  · have hC0 : (0 : Int) < (C : Int) := by omega
    obtain ⟨b, o, rfl, hcell0⟩ := hT.at (Below.refl _ _) 0 (by omega)
    rw [Nat.add_zero] at hcell0
    have HC0 : Hid (∀ z, Tb W z → z.cell? ⟨b, o, none⟩ = some (.string (T 0))) := fun z hz => by
      obtain ⟨b', o', e', h'⟩ := hT.at hz.low 0 (by omega)
      cases e'
      rw [Nat.add_zero] at h'; exact h'
    have hz0 := hTz 0 (by omega)
    have SP0 : Hid (∀ z, Calls Tryd.prog 17 #[.string (T 0)] z fun e w' => e = .returned (.tuple #[.int .i64 (szV (T 0) : Int), .int .i64 (szE (T 0))]) ∧ Below z.heap.size z w') := fun z => SP.out _ z hz0
    have SR0 : Hid (∀ z, Calls Tryd.prog 14 #[.string (T 0)] z fun e w' => e = .returned (.tuple #[.int .i64 (szV (T 0) : Int), .int .i64 (szE (T 0))]) ∧ Below z.heap.size z w') := fun z => SR.out _ z
    have i2 := i1 (szV (T 0) : Int)
    have i3 := i1 (szE (T 0))
    have hsv := szV_le (T 0)
    have hse : szE (T 0) = 0 ∨ szE (T 0) = 4 := by unfold szE; split <;> simp
    generalize hVN : szV (T 0) = V at *
    generalize szE (T 0) = EE at *
    generalize hT0' : T 0 = t0 at *
    clear SP SR hT0 hTz0 hT hTz hfit ht hr hz0 hT0' hVN
    cases own
    · clear DG
      have GPd : Hid (∀ z, Tb W z → Calls Tryd.prog 15 #[.slice (some ⟨b, o, none⟩) C cap, .string dg] z fun e w' => ∃ a' c', e = .returned (.tuple #[.slice a' (gtN C T dg) c', .int .i64 (gtE C T dg)]) ∧ Wx w' a' (gtN C T dg) (gtA T) (gtC T) ∧ Below z.heap.size z w') := fun z hz => GP.out dg z hz
      have GRd : Hid (∀ z, Tb W z → Calls Tryd.prog 16 #[.slice (some ⟨b, o, none⟩) C cap, .string dg] z fun e w' => ∃ a' c', e = .returned (.tuple #[.slice a' (gtN C T dg) c', .int .i64 (gtE C T dg)]) ∧ Wx w' a' (gtN C T dg) (gtA T) (gtC T) ∧ Below z.heap.size z w') := fun z hz => GR.out dg z hz
      have NPd : Hid (gtN C T dg ≤ 1000) := NP.out dg
      have i4 := i1 (gtE C T dg)
      generalize gtN C T dg = NN at *
      generalize gtE C T dg = GE at *
      clear GP GR NP i1
      go_enter Tryd.func4, Tryd.ntmps4
      go_wp2_with (first
        | (go_at_call 15; refine (GPd.out _ H0.out).mono ?_; rintro e w1 ⟨pa, pc, rfl, hx1, hb1⟩; have H1 : Hid (Tb W w1) := H0.out.below hb1; have A1 : Hid (Wx w1 pa NN (gtA T) (gtC T)) := hx1; clear hb1 hx1 H0)
        | (go_at_call 16; refine (GRd.out _ H1.out).mono ?_; rintro e w2 ⟨qa, qc, rfl, hx2, hb2⟩; have H2 : Hid (Tb W w2) := H1.out.below hb2; have A2 : Hid (Wx w2 pa NN (gtA T) (gtC T)) := A1.out.below hb2; have B2 : Hid (Wx w2 qa NN (gtA T) (gtC T)) := hx2; have hcl2 := HC0.out _ H2.out; clear hb2 hx2 H1 A1)
        | (go_at_call 17; refine (SP0.out _).mono ?_; rintro e w3 ⟨rfl, hb3⟩; have H3 : Hid (Tb W w3) := H2.out.below hb3; have A3 : Hid (Wx w3 pa NN (gtA T) (gtC T)) := A2.out.below hb3; have B3 : Hid (Wx w3 qa NN (gtA T) (gtC T)) := B2.out.below hb3; clear hb3 H2 A2 B2 SP0)
        | (go_at_call 14; refine (SR0.out _).mono ?_; rintro e w4 ⟨rfl, hb4⟩; have H4 : Hid (Tb W w4) := H3.out.below hb4; have A4 : Hid (Wx w4 pa NN (gtA T) (gtC T)) := A3.out.below hb4; have B4 : Hid (Wx w4 qa NN (gtA T) (gtC T)) := B3.out.below hb4; clear hb4 H3 A3 B3 SR0)
        | (go_at_call 10; refine (HW.out _ H4.out).mono ?_; rintro e w5 ⟨rfl, hb5⟩; have H5 : Hid (Tb W w5) := H4.out.below hb5; have A5 : Hid (Wx w5 pa NN (gtA T) (gtC T)) := A4.out.below hb5; have B5 : Hid (Wx w5 qa NN (gtA T) (gtC T)) := B4.out.below hb5; clear hb5 H4 A4 B4)
        | (go_at_call 18; refine (same15_any A5.out B5.out NPd.out).mono ?_; rintro e w6 ⟨rfl, hb6⟩; have H6 : Hid (Tb W w6) := H5.out.below hb6; clear hb6 H5 A5 B5))
      go_ret
      exact ⟨rfl, H6.out.low⟩
    · rcases hse with rfl | rfl
      · by_cases hle : V ≤ C
        · skip
          have SR1 := SR0
          have D1 : Hid (∀ z, Tb W z → Calls Tryd.prog 13 #[.slice (some ⟨b, o, none⟩) C cap] z fun e w' => e = .returned (.string (dgT T C)) ∧ Below z.heap.size z w') := fun z hz => DG.out C z (Nat.le_refl _) hz
          have hle1 : (V : Int) ≤ (C : Int) := by omega
          have hle2 : V ≤ cap := by omega
          have D2 : Hid (∀ z, Tb W z → Calls Tryd.prog 13 #[.slice (some ⟨b, o, none⟩) V cap] z fun e w' => e = .returned (.string (dgT T V)) ∧ Below z.heap.size z w') := fun z hz => DG.out V z hle hz
          have GPd : Hid (∀ z, Tb W z → Calls Tryd.prog 15 #[.slice (some ⟨b, o, none⟩) C cap, .string (dgT T V)] z fun e w' => ∃ a' c', e = .returned (.tuple #[.slice a' (gtN C T (dgT T V)) c', .int .i64 (gtE C T (dgT T V))]) ∧ Wx w' a' (gtN C T (dgT T V)) (gtA T) (gtC T) ∧ Below z.heap.size z w') := fun z hz => GP.out (dgT T V) z hz
          have GRd : Hid (∀ z, Tb W z → Calls Tryd.prog 16 #[.slice (some ⟨b, o, none⟩) C cap, .string (dgT T V)] z fun e w' => ∃ a' c', e = .returned (.tuple #[.slice a' (gtN C T (dgT T V)) c', .int .i64 (gtE C T (dgT T V))]) ∧ Wx w' a' (gtN C T (dgT T V)) (gtA T) (gtC T) ∧ Below z.heap.size z w') := fun z hz => GR.out (dgT T V) z hz
          have NPd : Hid (gtN C T (dgT T V) ≤ 1000) := NP.out (dgT T V)
          have i4 := i1 (gtE C T (dgT T V))
          generalize gtN C T (dgT T V) = NN at *
          generalize gtE C T (dgT T V) = GE at *
          generalize dgT T V = DV at *
          generalize dgT T C = DC at *
          clear DG
          clear GP GR NP i1
          go_enter Tryd.func4, Tryd.ntmps4
          go_wp2_with (first
            | (go_at_call 13; refine (D1.out _ H0.out).mono ?_; rintro e w1 ⟨rfl, hd1⟩; have H1 : Hid (Tb W w1) := H0.out.below hd1; have hcl1 := HC0.out _ H1.out; clear hd1 H0 D1)
            | (go_at_call 14; refine (SR1.out _).mono ?_; rintro e w2 ⟨rfl, hd2⟩; have H2 : Hid (Tb W w2) := H1.out.below hd2; clear hd2 H1 SR1)
            | (go_at_call 13; refine (D2.out _ H2.out).mono ?_; rintro e w3 ⟨rfl, hd1⟩; have H3 : Hid (Tb W w3) := H2.out.below hd1; clear hd1 H2 D2)
            | (go_at_call 15; refine (GPd.out _ H3.out).mono ?_; rintro e w4 ⟨pa, pc, rfl, hx1, hb1⟩; have H4 : Hid (Tb W w4) := H3.out.below hb1; have A4 : Hid (Wx w4 pa NN (gtA T) (gtC T)) := hx1; clear hb1 hx1 H3)
            | (go_at_call 16; refine (GRd.out _ H4.out).mono ?_; rintro e w5 ⟨qa, qc, rfl, hx2, hb2⟩; have H5 : Hid (Tb W w5) := H4.out.below hb2; have A5 : Hid (Wx w5 pa NN (gtA T) (gtC T)) := A4.out.below hb2; have B5 : Hid (Wx w5 qa NN (gtA T) (gtC T)) := hx2; have hcl5 := HC0.out _ H5.out; clear hb2 hx2 H4 A4)
            | (go_at_call 17; refine (SP0.out _).mono ?_; rintro e w6 ⟨rfl, hb3⟩; have H6 : Hid (Tb W w6) := H5.out.below hb3; have A6 : Hid (Wx w6 pa NN (gtA T) (gtC T)) := A5.out.below hb3; have B6 : Hid (Wx w6 qa NN (gtA T) (gtC T)) := B5.out.below hb3; clear hb3 H5 A5 B5 SP0)
            | (go_at_call 14; refine (SR0.out _).mono ?_; rintro e w7 ⟨rfl, hb4⟩; have H7 : Hid (Tb W w7) := H6.out.below hb4; have A7 : Hid (Wx w7 pa NN (gtA T) (gtC T)) := A6.out.below hb4; have B7 : Hid (Wx w7 qa NN (gtA T) (gtC T)) := B6.out.below hb4; clear hb4 H6 A6 B6 SR0)
            | (go_at_call 10; refine (HW.out _ H7.out).mono ?_; rintro e w8 ⟨rfl, hb5⟩; have H8 : Hid (Tb W w8) := H7.out.below hb5; have A8 : Hid (Wx w8 pa NN (gtA T) (gtC T)) := A7.out.below hb5; have B8 : Hid (Wx w8 qa NN (gtA T) (gtC T)) := B7.out.below hb5; clear hb5 H7 A7 B7)
            | (go_at_call 18; refine (same15_any A8.out B8.out NPd.out).mono ?_; rintro e w9 ⟨rfl, hb6⟩; have H9 : Hid (Tb W w9) := H8.out.below hb6; clear hb6 H8 A8 B8))
          go_ret
          exact ⟨rfl, H9.out.low⟩
        · skip
          have SR1 := SR0
          have D1 : Hid (∀ z, Tb W z → Calls Tryd.prog 13 #[.slice (some ⟨b, o, none⟩) C cap] z fun e w' => e = .returned (.string (dgT T C)) ∧ Below z.heap.size z w') := fun z hz => DG.out C z (Nat.le_refl _) hz
          have hle1 : ¬ (V : Int) ≤ (C : Int) := by omega
          have hle3 : decide ((V : Int) ≤ (C : Int)) = false := decide_eq_false hle1
          have GPd : Hid (∀ z, Tb W z → Calls Tryd.prog 15 #[.slice (some ⟨b, o, none⟩) C cap, .string (dgT T C)] z fun e w' => ∃ a' c', e = .returned (.tuple #[.slice a' (gtN C T (dgT T C)) c', .int .i64 (gtE C T (dgT T C))]) ∧ Wx w' a' (gtN C T (dgT T C)) (gtA T) (gtC T) ∧ Below z.heap.size z w') := fun z hz => GP.out (dgT T C) z hz
          have GRd : Hid (∀ z, Tb W z → Calls Tryd.prog 16 #[.slice (some ⟨b, o, none⟩) C cap, .string (dgT T C)] z fun e w' => ∃ a' c', e = .returned (.tuple #[.slice a' (gtN C T (dgT T C)) c', .int .i64 (gtE C T (dgT T C))]) ∧ Wx w' a' (gtN C T (dgT T C)) (gtA T) (gtC T) ∧ Below z.heap.size z w') := fun z hz => GR.out (dgT T C) z hz
          have NPd : Hid (gtN C T (dgT T C) ≤ 1000) := NP.out (dgT T C)
          have i4 := i1 (gtE C T (dgT T C))
          generalize gtN C T (dgT T C) = NN at *
          generalize gtE C T (dgT T C) = GE at *
          generalize dgT T C = DC at *
          clear DG
          clear GP GR NP i1
          go_enter Tryd.func4, Tryd.ntmps4
          go_wp2_with (first
            | (go_at_call 13; refine (D1.out _ H0.out).mono ?_; rintro e w1 ⟨rfl, hd1⟩; have H1 : Hid (Tb W w1) := H0.out.below hd1; have hcl1 := HC0.out _ H1.out; clear hd1 H0 D1)
            | (go_at_call 14; refine (SR1.out _).mono ?_; rintro e w2 ⟨rfl, hd2⟩; have H2 : Hid (Tb W w2) := H1.out.below hd2; clear hd2 H1 SR1)
            | (go_at_call 15; refine (GPd.out _ H2.out).mono ?_; rintro e w3 ⟨pa, pc, rfl, hx1, hb1⟩; have H3 : Hid (Tb W w3) := H2.out.below hb1; have A3 : Hid (Wx w3 pa NN (gtA T) (gtC T)) := hx1; clear hb1 hx1 H2)
            | (go_at_call 16; refine (GRd.out _ H3.out).mono ?_; rintro e w4 ⟨qa, qc, rfl, hx2, hb2⟩; have H4 : Hid (Tb W w4) := H3.out.below hb2; have A4 : Hid (Wx w4 pa NN (gtA T) (gtC T)) := A3.out.below hb2; have B4 : Hid (Wx w4 qa NN (gtA T) (gtC T)) := hx2; have hcl4 := HC0.out _ H4.out; clear hb2 hx2 H3 A3)
            | (go_at_call 17; refine (SP0.out _).mono ?_; rintro e w5 ⟨rfl, hb3⟩; have H5 : Hid (Tb W w5) := H4.out.below hb3; have A5 : Hid (Wx w5 pa NN (gtA T) (gtC T)) := A4.out.below hb3; have B5 : Hid (Wx w5 qa NN (gtA T) (gtC T)) := B4.out.below hb3; clear hb3 H4 A4 B4 SP0)
            | (go_at_call 14; refine (SR0.out _).mono ?_; rintro e w6 ⟨rfl, hb4⟩; have H6 : Hid (Tb W w6) := H5.out.below hb4; have A6 : Hid (Wx w6 pa NN (gtA T) (gtC T)) := A5.out.below hb4; have B6 : Hid (Wx w6 qa NN (gtA T) (gtC T)) := B5.out.below hb4; clear hb4 H5 A5 B5 SR0)
            | (go_at_call 10; refine (HW.out _ H6.out).mono ?_; rintro e w7 ⟨rfl, hb5⟩; have H7 : Hid (Tb W w7) := H6.out.below hb5; have A7 : Hid (Wx w7 pa NN (gtA T) (gtC T)) := A6.out.below hb5; have B7 : Hid (Wx w7 qa NN (gtA T) (gtC T)) := B6.out.below hb5; clear hb5 H6 A6 B6)
            | (go_at_call 18; refine (same15_any A7.out B7.out NPd.out).mono ?_; rintro e w8 ⟨rfl, hb6⟩; have H8 : Hid (Tb W w8) := H7.out.below hb6; clear hb6 H7 A7 B7))
          go_ret
          exact ⟨rfl, H8.out.low⟩
      · skip
        have SR1 := SR0
        have D1 : Hid (∀ z, Tb W z → Calls Tryd.prog 13 #[.slice (some ⟨b, o, none⟩) C cap] z fun e w' => e = .returned (.string (dgT T C)) ∧ Below z.heap.size z w') := fun z hz => DG.out C z (Nat.le_refl _) hz
        have GPd : Hid (∀ z, Tb W z → Calls Tryd.prog 15 #[.slice (some ⟨b, o, none⟩) C cap, .string (dgT T C)] z fun e w' => ∃ a' c', e = .returned (.tuple #[.slice a' (gtN C T (dgT T C)) c', .int .i64 (gtE C T (dgT T C))]) ∧ Wx w' a' (gtN C T (dgT T C)) (gtA T) (gtC T) ∧ Below z.heap.size z w') := fun z hz => GP.out (dgT T C) z hz
        have GRd : Hid (∀ z, Tb W z → Calls Tryd.prog 16 #[.slice (some ⟨b, o, none⟩) C cap, .string (dgT T C)] z fun e w' => ∃ a' c', e = .returned (.tuple #[.slice a' (gtN C T (dgT T C)) c', .int .i64 (gtE C T (dgT T C))]) ∧ Wx w' a' (gtN C T (dgT T C)) (gtA T) (gtC T) ∧ Below z.heap.size z w') := fun z hz => GR.out (dgT T C) z hz
        have NPd : Hid (gtN C T (dgT T C) ≤ 1000) := NP.out (dgT T C)
        have i4 := i1 (gtE C T (dgT T C))
        generalize gtN C T (dgT T C) = NN at *
        generalize gtE C T (dgT T C) = GE at *
        generalize dgT T C = DC at *
        clear DG
        clear GP GR NP i1
        go_enter Tryd.func4, Tryd.ntmps4
        go_wp2_with (first
          | (go_at_call 13; refine (D1.out _ H0.out).mono ?_; rintro e w1 ⟨rfl, hd1⟩; have H1 : Hid (Tb W w1) := H0.out.below hd1; have hcl1 := HC0.out _ H1.out; clear hd1 H0 D1)
          | (go_at_call 14; refine (SR1.out _).mono ?_; rintro e w2 ⟨rfl, hd2⟩; have H2 : Hid (Tb W w2) := H1.out.below hd2; clear hd2 H1 SR1)
          | (go_at_call 15; refine (GPd.out _ H2.out).mono ?_; rintro e w3 ⟨pa, pc, rfl, hx1, hb1⟩; have H3 : Hid (Tb W w3) := H2.out.below hb1; have A3 : Hid (Wx w3 pa NN (gtA T) (gtC T)) := hx1; clear hb1 hx1 H2)
          | (go_at_call 16; refine (GRd.out _ H3.out).mono ?_; rintro e w4 ⟨qa, qc, rfl, hx2, hb2⟩; have H4 : Hid (Tb W w4) := H3.out.below hb2; have A4 : Hid (Wx w4 pa NN (gtA T) (gtC T)) := A3.out.below hb2; have B4 : Hid (Wx w4 qa NN (gtA T) (gtC T)) := hx2; have hcl4 := HC0.out _ H4.out; clear hb2 hx2 H3 A3)
          | (go_at_call 17; refine (SP0.out _).mono ?_; rintro e w5 ⟨rfl, hb3⟩; have H5 : Hid (Tb W w5) := H4.out.below hb3; have A5 : Hid (Wx w5 pa NN (gtA T) (gtC T)) := A4.out.below hb3; have B5 : Hid (Wx w5 qa NN (gtA T) (gtC T)) := B4.out.below hb3; clear hb3 H4 A4 B4 SP0)
          | (go_at_call 14; refine (SR0.out _).mono ?_; rintro e w6 ⟨rfl, hb4⟩; have H6 : Hid (Tb W w6) := H5.out.below hb4; have A6 : Hid (Wx w6 pa NN (gtA T) (gtC T)) := A5.out.below hb4; have B6 : Hid (Wx w6 qa NN (gtA T) (gtC T)) := B5.out.below hb4; clear hb4 H5 A5 B5 SR0)
          | (go_at_call 10; refine (HW.out _ H6.out).mono ?_; rintro e w7 ⟨rfl, hb5⟩; have H7 : Hid (Tb W w7) := H6.out.below hb5; have A7 : Hid (Wx w7 pa NN (gtA T) (gtC T)) := A6.out.below hb5; have B7 : Hid (Wx w7 qa NN (gtA T) (gtC T)) := B6.out.below hb5; clear hb5 H6 A6 B6)
          | (go_at_call 18; refine (same15_any A7.out B7.out NPd.out).mono ?_; rintro e w8 ⟨rfl, hb6⟩; have H8 : Hid (Tb W w8) := H7.out.below hb6; clear hb6 H7 A7 B7))
        go_ret
        exact ⟨rfl, H8.out.low⟩
end Go.Proofs.YtegebaomhbogmaaDoor
