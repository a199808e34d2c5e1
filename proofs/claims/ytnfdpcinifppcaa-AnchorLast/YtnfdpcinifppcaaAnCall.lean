/- A call as plain data; its text; what the document fixes. -/
import Derived.Test.YtnfdpcinifppcaaAnLow
namespace Go.Proofs.Ytnfdpcinifppcaa
open Go.RowKit Go.PlainAid
set_option linter.unusedVariables false

/-- A call: a count, 32 bytes, a text, whether it is the text. -/
structure Cl where
  n : Int
  f : Nat → Nat
  s : ByteArray
  x : Bool
def Cl.row (A : Cl) : List Value := .int .u64 A.n :: (nr .u8 32 A.f ++ [.string A.s, .bool A.x])
/-- Its text. -/
def Cl.t (A : Cl) : ByteArray := if A.x = true then A.s else tx 32 A.f
theorem Cl.len (A : Cl) : A.row.length = 35 := by simp [Cl.row, nr_length]
theorem Cl.at0 (A : Cl) : A.row[0]? = some (.int .u64 A.n) := rfl
theorem Cl.atF (A : Cl) (i : Nat) (h : i < 32) : A.row[1 + i]? = some (.int .u8 ((A.f i : Nat) : Int)) := by
  unfold Cl.row
  rw [Nat.add_comm 1 i, List.getElem?_cons_succ, List.getElem?_append_left (by rw [nr_length]; exact h), nr_at _ _ _ i h]
theorem Cl.at33 (A : Cl) : A.row[33]? = some (.string A.s) := by
  unfold Cl.row
  rw [List.getElem?_cons_succ, List.getElem?_append_right (by rw [nr_length]; exact Nat.le_refl _), nr_length]; rfl
theorem Cl.at34 (A : Cl) : A.row[34]? = some (.bool A.x) := by
  unfold Cl.row
  rw [List.getElem?_cons_succ, List.getElem?_append_right (by rw [nr_length]; decide), nr_length]; rfl
/-- The text of bytes that lie in a block from o on. -/
theorem conv_at {w : World} {g T : Nat} {L : List Value} {f : Nat → Nat} (h : Blk w g T L) (o m c : Nat) (hf : ∀ i, i < m → L[o + i]? = some (.int .u8 ((f i : Nat) : Int))) : (convert 42 9 (.slice (some ⟨g, o, none⟩) m c)).run Try.prog w = .ok (.string (tx m f)) w :=
  run_convert_bytes_arg (P := Try.prog) w 42 5 Try.underlying42 Try.underlying5 g o m c _ (by simp) (fun i hi => by
    rw [h.cell (hf i hi)]
    simp [hi]) 9 Try.underlying9
set_option maxRecDepth 20000 in
theorem text_any (A : Cl) (w : World) : Calls Try.prog 9 #[.agg A.row.toArray] w fun e w' => e = .returned (.string A.t) ∧ Below w.heap.size w w' := by
  have hb := Blk.box w 32 A.row
  have c33 := hb.cell A.at33
  have c34 := hb.cell A.at34
  have hc := conv_at hb 1 32 32 A.atF
  have hl : Hid (Below w.heap.size w (w.alloc (.cells A.row.toArray 32))) := (Below.refl _ _).alloc (Nat.le_refl _) _
  obtain ⟨L, hL⟩ : ∃ L, A.row = L := ⟨_, rfl⟩
  rw [hL] at hb c33 c34 hc hl ⊢
  obtain ⟨n, f, s, x⟩ := A
  clear hL hb
  cases x
  · rw [show Cl.t ⟨n, f, s, false⟩ = tx 32 f from rfl]
    go_enter Try.func9, Try.ntmps9
    go_wp2
    go_ret
    exact ⟨rfl, hl.out⟩
  · rw [show Cl.t ⟨n, f, s, true⟩ = s from rfl]
    go_enter Try.func9, Try.ntmps9
    go_wp2
    go_ret
    exact ⟨rfl, hl.out⟩
theorem zB32 : (zB 32).size = 32 := zB_size 32
set_option maxRecDepth 20000 in
set_option maxHeartbeats 1000000 in
theorem anWakes_any (w : World) : Calls Try.prog 7 #[] w fun e w' => e = .returned (.bool true) ∧ Below w.heap.size w w' := by
  obtain ⟨Z, hm, hp⟩ := pz_made 32 (by decide)
  rw [show ((32 : Nat) : Int) = 32 from rfl] at hm
  have hc : Hid (∀ (x : World) (G : Nat), PZ G 32 x → (convert 42 9 (.slice (some ⟨G, 0, none⟩) 32 32)).run Try.prog x = .ok (.string (zB 32)) x) := fun x G h => pz_conv x G 32 h
  have HP : Hid (∀ x : World, PZ x.heap.size 32 (x.alloc (.cells Z 5 (0, 0)))) := hp
  have hz := zB32
  generalize zB 32 = z at *
  clear hp
  have h0 : Hid (Hold w.heap.size w w.drew nought) := hold_nought _ _ _ (Nat.le_refl _) (Below.refl _ _).drew
  go_enter Try.func7, Try.ntmps7
  go_wp2
  refine wp_region_noPanic ?_
  refine wp_region_held_drew (S := fun _ => True) (by kernel_rfl) trivial (fun hHeld => ?_)
  refine wpAnyH_ready (rs := [0, 1]) (by kernel_rfl) (by simp) (AllReadyH.cons rfl (fun K hK => ?_) (AllReadyH.cons rfl (fun K hK => ?_) AllReadyH.nil))
  · go_simp
    go_at_call 6
    refine (anew_any firm_nought h0.out).mono ?_
    rintro e wa ⟨g, rfl, ha⟩
    have ha : Hid (Hold _ _ _ _) := ha
    clear h0
    refine hK.out _ _ trivial (fun hHeld => ?_)
    clear hK K
    refine wpAnyH_take (i := 3) (v := ?_) rfl (by kernel_rfl) (by kernel_rfl) (by kernel_rfl) (fun _ _ _ h => h) (Or.inl ⟨by rfl, ?_⟩) (by assumption) ?_
    rotate_left
    · intro w hSw; go_simp; try with_reducible rfl
    go_simp
    refine wpAnyH_ready (rs := [1]) (by kernel_rfl) (by simp) (AllReadyH.cons rfl (fun K hK => ?_) AllReadyH.nil)
    go_simp
    have h1 : Hid (Hold _ _ _ _) := ha.out.below ((firm_anc _ _ _).star firm_nought) ((Below.refl _ _).alloc (Nat.le_refl _) (.cells Z 5 (0, 0)))
    have hpz := HP.out wa
    refine hK.out _ _ trivial (fun hHeld => ?_)
    clear hK K
    refine wpAnyH_weaken (S' := fun z' : World => PZ wa.heap.size 32 z') (fun _ _ => trivial) _ _ _ _ ?_
    have hHeld := hpz
    clear ha
    refine wpAnyH_take (i := 2) (v := ?_) rfl (by kernel_rfl) (by kernel_rfl) (by kernel_rfl) (fun _ _ _ h => h) (Or.inl ⟨by rfl, ?_⟩) (by assumption) ?_
    rotate_left
    · intro w hSw; have hq := hc.out _ _ hSw; go_simp; try with_reducible rfl
    go_simp
    refine wpAnyH_take (i := 4) (v := ?_) rfl (by kernel_rfl) (by kernel_rfl) (by kernel_rfl) (fun _ _ _ h => h) (Or.inl ⟨by rfl, ?_⟩) (by assumption) ?_
    rotate_left
    · intro w hSw; go_simp; try with_reducible rfl
    go_simp
    refine wpAnyH_done (by kernel_rfl) ?_ _
    refine NoPanic.normal ?_
    clear hHeld hpz hm
    go_wp2_with (first
      | (go_at_call 8; refine (aset_ok firm_nought h1.out 1 z hz (by decide)).mono ?_; rintro e w2 ⟨rfl, h2⟩; clear h1; have h2 : Hid (Hold _ _ _ _) := h2)
      | (go_at_call 8; refine (aset_used firm_nought h2.out 1 z hz (by decide)).mono ?_; rintro e w3 ⟨rfl, h3⟩; clear h2; have h3 : Hid (Hold _ _ _ _) := h3)
      | (go_at_call 11; refine (aget_any firm_nought h3.out).mono ?_; rintro e w4 ⟨rfl, h4⟩; clear h3; have h4 : Hid (Hold _ _ _ _) := h4))
    go_ret
    exact ⟨rfl, h4.out.low⟩
  · go_simp
    have h1 : Hid (Hold w.heap.size w (w.alloc (.cells Z 5 (0, 0))).drew nought) := h0.out.below firm_nought ((Below.refl _ _).alloc (Nat.le_refl _) (.cells Z 5 (0, 0)))
    have hpz : PZ w.heap.size 32 (w.alloc (.cells Z 5 (0, 0))).drew := HP.out w.drew
    refine hK.out _ _ trivial (fun hHeld => ?_)
    clear hK K h0
    refine wpAnyH_weaken (S' := fun z' : World => PZ w.heap.size 32 z') (fun _ _ => trivial) _ _ _ _ ?_
    have hHeld := hpz
    refine wpAnyH_take (i := 2) (v := ?_) rfl (by kernel_rfl) (by kernel_rfl) (by kernel_rfl) (fun _ _ _ h => h) (Or.inl ⟨by rfl, ?_⟩) (by assumption) ?_
    rotate_left
    · intro w hSw; have hq := hc.out _ _ hSw; go_simp; try with_reducible rfl
    go_simp
    refine wpAnyH_ready (rs := [0]) (by kernel_rfl) (by simp) (AllReadyH.cons rfl (fun K hK => ?_) AllReadyH.nil)
    go_simp
    go_at_call 6
    refine (anew_two firm_nought h1.out).mono ?_
    rintro e wa ⟨g, rfl, h2, hb2⟩
    have hp2 : PZ w.heap.size 32 wa := hpz.below hb2 (by simp)
    clear h1 hpz hHeld hb2
    have h1 : Hid (Hold _ _ _ _) := h2
    clear h2
    refine hK.out _ _ hp2 (fun hHeld => ?_)
    clear hK K
    refine wpAnyH_take (i := 3) (v := ?_) rfl (by kernel_rfl) (by kernel_rfl) (by kernel_rfl) (fun _ _ _ h => h) (Or.inl ⟨by rfl, ?_⟩) (by assumption) ?_
    rotate_left
    · intro w hSw; go_simp; try with_reducible rfl
    go_simp
    refine wpAnyH_take (i := 4) (v := ?_) rfl (by kernel_rfl) (by kernel_rfl) (by kernel_rfl) (fun _ _ _ h => h) (Or.inl ⟨by rfl, ?_⟩) (by assumption) ?_
    rotate_left
    · intro w hSw; go_simp; try with_reducible rfl
    go_simp
    refine wpAnyH_done (by kernel_rfl) ?_ _
    refine NoPanic.normal ?_
    clear hHeld hp2 hm
    go_wp2_with (first
      | (go_at_call 8; refine (aset_ok firm_nought h1.out 1 z hz (by decide)).mono ?_; rintro e w2 ⟨rfl, h2⟩; clear h1; have h2 : Hid (Hold _ _ _ _) := h2)
      | (go_at_call 8; refine (aset_used firm_nought h2.out 1 z hz (by decide)).mono ?_; rintro e w3 ⟨rfl, h3⟩; clear h2; have h3 : Hid (Hold _ _ _ _) := h3)
      | (go_at_call 11; refine (aget_any firm_nought h3.out).mono ?_; rintro e w4 ⟨rfl, h4⟩; clear h3; have h4 : Hid (Hold _ _ _ _) := h4))
    go_ret
    exact ⟨rfl, h4.out.low⟩
end Go.Proofs.Ytnfdpcinifppcaa
