/- What was sealed is opened, and not with another text; the document's own first example (wakes). -/
import Derived.Test.YtnpebabffnjmmaaAeOpen
import Derived.Test.YtnpebabffnjmmaaAeOne
import Derived.Test.YtnpebabffnjmmaaPoWakes
namespace Go.Proofs.Ytnpebabffnjmmaa
open Go.RowKit Go.PlainAid
set_option linter.unusedVariables false

set_option maxRecDepth 20000 in
theorem open_back (key nonce a p : ByteArray) (hk : key.size = 32) (hn : nonce.size = 12) (ha : a.size ≤ 16384) (hp : p.size ≤ 16384) (w : World) :
    Calls Try.prog 13 #[.string key, .string nonce, .string a, .string (slB key nonce a p)] w fun e w' => e = .returned (.tuple #[.string p, .int .i64 0]) ∧ Below w.heap.size w w' := by
  have h := open_any key nonce a (slB key nonce a p) p.size hk hn (slB_size _ _ _ _) ha hp w
  rw [slB_size, slB_bare, slB_last, if_pos rfl, crB_twice] at h
  exact h
set_option maxRecDepth 20000 in
theorem open_other (key nonce a b p : ByteArray) (hk : key.size = 32) (hn : nonce.size = 12) (hb : b.size ≤ 16384) (hp : p.size ≤ 16384) (hne : ¬ atg key nonce a (crB key nonce p) = atg key nonce b (crB key nonce p)) (w : World) :
    Calls Try.prog 13 #[.string key, .string nonce, .string b, .string (slB key nonce a p)] w fun e w' => e = .returned (.tuple #[.string ⟨#[]⟩, .int .i64 23]) ∧ Below w.heap.size w w' := by
  have h := open_any key nonce b (slB key nonce a p) p.size hk hn (slB_size _ _ _ _) hb hp w
  rw [slB_size, slB_bare, slB_last, if_neg hne] at h
  exact h

set_option maxHeartbeats 2000000 in
set_option maxRecDepth 20000 in
theorem wakes_any (w : World) : Calls Try.prog 12 #[] w fun e w' => e = .returned (.bool true) ∧ Below w.heap.size w w' := by
  obtain ⟨Za, hma, hza⟩ := pz_made 32 (by decide)
  obtain ⟨Zb, hmb, hzb⟩ := pz_made 12 (by decide)
  rw [show ((32 : Nat) : Int) = 32 from rfl] at hma
  rw [show ((12 : Nat) : Int) = 12 from rfl] at hmb
  have hps : pl5.size = 5 := rfl
  have c1 := fun w => seal_ok z32 z12 ⟨#[119]⟩ pl5 z32_size z12_size (by decide) (by decide) w
  have c2 := fun w => open_back z32 z12 ⟨#[119]⟩ pl5 z32_size z12_size (by decide) (by decide) w
  have c3 := fun w => open_other z32 z12 ⟨#[119]⟩ ⟨#[118]⟩ pl5 z32_size z12_size (by decide) (by decide) wake_bad w
  have hSs := slB_size z32 z12 ⟨#[119]⟩ pl5
  rw [hps] at hSs
  rw [show pl5 = ⟨#[112, 108, 97, 105, 110]⟩ from rfl] at c1 c2 c3 hSs
  generalize slB z32 z12 ⟨#[119]⟩ ⟨#[112, 108, 97, 105, 110]⟩ = S at c1 c2 c3 hSs
  have hSI : (((S.size : Nat) : Int) == 21) = true := by simp; omega
  have HZa : Hid (∀ x : World, PZ x.heap.size 32 (x.alloc (.cells Za 5 (0, 0)))) := hza
  have HZb : Hid (∀ x : World, PZ x.heap.size 12 (x.alloc (.cells Zb 5 (0, 0)))) := hzb
  have HCa : Hid (∀ (z : World) (G : Nat), PZ G 32 z → (convert 36 9 (.slice (some ⟨G, 0, none⟩) 32 32)).run Try.prog z = .ok (.string z32) z) := fun z G h => pz_conv z G 32 h
  have HCb : Hid (∀ (z : World) (G : Nat), PZ G 12 z → (convert 36 9 (.slice (some ⟨G, 0, none⟩) 12 12)).run Try.prog z = .ok (.string z12) z) := fun z G h => pz_conv z G 12 h
  clear hza hzb hSs hps
  generalize z32 = k0 at *
  generalize z12 = n0 at *
  go_enter Try.func12, Try.ntmps12
  go_wp2_with fail
  refine wp_region_noPanic ?_
  refine wp_region_held_drew (S := fun _ => True) (by kernel_rfl) trivial (fun hHeld => ?_)
  have hbd : Below w.heap.size w w.drew := (Below.refl _ _).drew
  refine wpAnyH_ready (rs := [0, 2]) (by kernel_rfl) (by simp) (AllReadyH.cons rfl (fun K hK => ?_) (AllReadyH.cons rfl (fun K hK => ?_) AllReadyH.nil))
  · go_simp
    have hz1 : PZ w.heap.size 32 (w.alloc (.cells Za 5 (0, 0))).drew := HZa.out w
    have hb1 : Below w.heap.size w (w.alloc (.cells Za 5 (0, 0))).drew := ((Below.refl _ _).alloc (Nat.le_refl _) _).drew
    have HS1 : Hid ((w.alloc (.cells Za 5 (0, 0))).drew.heap.size = w.heap.size + 1) := by unfold Hid; simp
    refine hK.out _ _ trivial (fun hHeld => ?_)
    clear hK K
    generalize (w.alloc (.cells Za 5 (0, 0))).drew = u1 at hz1 hb1 HS1 ⊢
    refine wpAnyH_weaken (S' := PZ w.heap.size 32) (fun _ _ => trivial) _ _ _ _ ?_
    refine wpAnyH_take (i := 1) (v := ?_) rfl (by kernel_rfl) (by kernel_rfl) (by kernel_rfl) (fun _ _ _ h => h) (Or.inl ⟨by rfl, ?_⟩) (by assumption) ?_
    rotate_left
    · intro z hSw; have hcz := HCa.out z w.heap.size hSw; go_simp; try with_reducible rfl
    go_simp
    refine wpAnyH_take (i := 4) (v := ?_) rfl (by kernel_rfl) (by kernel_rfl) (by kernel_rfl) (fun _ _ _ h => h) (Or.inl ⟨by rfl, ?_⟩) (by assumption) ?_
    rotate_left
    · intro w hSw; go_simp; try with_reducible rfl
    go_simp
    have hz2 : PZ u1.heap.size 12 (u1.alloc (.cells Zb 5 (0, 0))) := HZb.out u1
    have hz3 : PZ w.heap.size 32 (u1.alloc (.cells Zb 5 (0, 0))) := hz1.below ((Below.refl _ _).alloc (Nat.le_refl _) _) (by have := HS1.out; omega)
    have hb2 : Below w.heap.size w (u1.alloc (.cells Zb 5 (0, 0))) := hb1.alloc (by have := HS1.out; omega) _
    refine wpAnyH_ready (rs := [2]) (by kernel_rfl) (by simp) (AllReadyH.cons rfl (fun K hK => ?_) AllReadyH.nil)
    go_simp
    refine hK.out _ _ hz3 (fun hHeld => ?_)
    clear hK K
    generalize u1.alloc (.cells Zb 5 (0, 0)) = u2 at hz2 hz3 hb2 hHeld ⊢
    have hcz := HCb.out u2 u1.heap.size hz2
    refine wpAnyH_ready (rs := [3]) (by kernel_rfl) (by simp) (AllReadyH.cons rfl (fun K hK => ?_) AllReadyH.nil)
    go_simp
    refine hK.out _ _ hz3 (fun hHeld => ?_)
    clear hK K
    clear hcz hz2 hz1 hb1
    refine wpAnyH_take (i := 5) (v := ?_) rfl (by kernel_rfl) (by kernel_rfl) (by kernel_rfl) (fun _ _ _ h => h) (Or.inl ⟨by rfl, ?_⟩) (by assumption) ?_
    rotate_left
    · intro w hSw; go_simp; try with_reducible rfl
    go_simp
    refine wpAnyH_done (by kernel_rfl) ?_ _
    refine NoPanic.normal ?_
    clear hz3 hHeld HZa HZb HCa HCb HS1
    go_wp2_with fail
    refine (c1 _).mono ?_
    rintro e w1 ⟨rfl, hc1⟩
    have hl1 := hb2.trans (hc1.mono hb2.size)
    clear c1 hc1 hb2
    go_wp2_with fail
    refine (c2 _).mono ?_
    rintro e w2 ⟨rfl, hc2⟩
    have hl2 := hl1.trans (hc2.mono hl1.size)
    clear c2 hc2 hl1
    go_wp2_with fail
    refine (c3 _).mono ?_
    rintro e w3 ⟨rfl, hc3⟩
    have hl3 := hl2.trans (hc3.mono hl2.size)
    clear c3 hc3 hl2
    go_wp2_with fail
    go_ret
    exact ⟨rfl, hl3⟩
  · go_simp
    have hz1 : PZ w.heap.size 12 (w.alloc (.cells Zb 5 (0, 0))).drew := HZb.out w
    have hb1 : Below w.heap.size w (w.alloc (.cells Zb 5 (0, 0))).drew := ((Below.refl _ _).alloc (Nat.le_refl _) _).drew
    have HS1 : Hid ((w.alloc (.cells Zb 5 (0, 0))).drew.heap.size = w.heap.size + 1) := by unfold Hid; simp
    refine hK.out _ _ trivial (fun hHeld => ?_)
    clear hK K
    generalize (w.alloc (.cells Zb 5 (0, 0))).drew = u1 at hz1 hb1 HS1 ⊢
    refine wpAnyH_weaken (S' := PZ w.heap.size 12) (fun _ _ => trivial) _ _ _ _ ?_
    refine wpAnyH_take (i := 3) (v := ?_) rfl (by kernel_rfl) (by kernel_rfl) (by kernel_rfl) (fun _ _ _ h => h) (Or.inl ⟨by rfl, ?_⟩) (by assumption) ?_
    rotate_left
    · intro z hSw; have hcz := HCb.out z w.heap.size hSw; go_simp; try with_reducible rfl
    go_simp
    have hz2 : PZ u1.heap.size 32 (u1.alloc (.cells Za 5 (0, 0))) := HZa.out u1
    have hz3 : PZ w.heap.size 12 (u1.alloc (.cells Za 5 (0, 0))) := hz1.below ((Below.refl _ _).alloc (Nat.le_refl _) _) (by have := HS1.out; omega)
    have hb2 : Below w.heap.size w (u1.alloc (.cells Za 5 (0, 0))) := hb1.alloc (by have := HS1.out; omega) _
    refine wpAnyH_ready (rs := [0]) (by kernel_rfl) (by simp) (AllReadyH.cons rfl (fun K hK => ?_) AllReadyH.nil)
    go_simp
    refine hK.out _ _ hz3 (fun hHeld => ?_)
    clear hK K
    generalize u1.alloc (.cells Za 5 (0, 0)) = u2 at hz2 hz3 hb2 hHeld ⊢
    have hcz := HCa.out u2 u1.heap.size hz2
    refine wpAnyH_ready (rs := [1]) (by kernel_rfl) (by simp) (AllReadyH.cons rfl (fun K hK => ?_) AllReadyH.nil)
    go_simp
    refine hK.out _ _ hz3 (fun hHeld => ?_)
    clear hK K
    clear hcz hz2 hz1 hb1
    refine wpAnyH_take (i := 4) (v := ?_) rfl (by kernel_rfl) (by kernel_rfl) (by kernel_rfl) (fun _ _ _ h => h) (Or.inl ⟨by rfl, ?_⟩) (by assumption) ?_
    rotate_left
    · intro w hSw; go_simp; try with_reducible rfl
    go_simp
    refine wpAnyH_take (i := 5) (v := ?_) rfl (by kernel_rfl) (by kernel_rfl) (by kernel_rfl) (fun _ _ _ h => h) (Or.inl ⟨by rfl, ?_⟩) (by assumption) ?_
    rotate_left
    · intro w hSw; go_simp; try with_reducible rfl
    go_simp
    refine wpAnyH_done (by kernel_rfl) ?_ _
    refine NoPanic.normal ?_
    clear hz3 hHeld HZa HZb HCa HCb HS1
    go_wp2_with fail
    refine (c1 _).mono ?_
    rintro e w1 ⟨rfl, hc1⟩
    have hl1 := hb2.trans (hc1.mono hb2.size)
    clear c1 hc1 hb2
    go_wp2_with fail
    refine (c2 _).mono ?_
    rintro e w2 ⟨rfl, hc2⟩
    have hl2 := hl1.trans (hc2.mono hl1.size)
    clear c2 hc2 hl1
    go_wp2_with fail
    refine (c3 _).mono ?_
    rintro e w3 ⟨rfl, hc3⟩
    have hl3 := hl2.trans (hc3.mono hl2.size)
    clear c3 hc3 hl2
    go_wp2_with fail
    go_ret
    exact ⟨rfl, hl3⟩
end Go.Proofs.Ytnpebabffnjmmaa
