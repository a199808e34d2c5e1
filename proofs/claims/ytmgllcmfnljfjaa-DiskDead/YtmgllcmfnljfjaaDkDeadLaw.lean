/- The law DiskDead, walked. -/
import Derived.Test.YtmgllcmfnljfjaaDkArg
namespace Go.Proofs.Ytmgllcmfnljfjaa
open Go.RowKit Go.PlainAid
set_option linter.unusedVariables false

section
variable {B : Nat} {w0 w : World} {g n : Nat} {l : Nat → ByteArray} {q : List Wr}
theorem crash_dead {F : Nat → Prop} (h : DiskAt w F g n l q true) (v : Value) : Calls Try.prog 19 #[.pointer (some ⟨g, 0, none⟩), v] w fun e w' => e = .returned (.tuple #[]) ∧ w' = w := by
  have hu := usable_any h
  rw [show errD true = 20 from rfl] at hu
  clear h
  go_enter Try.func19, Try.ntmps19
  go_wp2_with (go_at_call 33; refine hu.mono ?_; rintro e w' ⟨rfl, rfl⟩)
  refine bodyPost_ret (results_none rfl _ _ _) rfl ⟨rfl, rfl⟩
theorem restore_dead {F : Nat → Prop} (h : DiskAt w F g n l q true) (v : Value) : Calls Try.prog 18 #[.pointer (some ⟨g, 0, none⟩), v] w fun e w' => e = .returned (.tuple #[]) ∧ w' = w := by
  have hu := usable_any h
  rw [show errD true = 20 from rfl] at hu
  clear h
  go_enter Try.func18, Try.ntmps18
  go_wp2_with (go_at_call 33; refine hu.mono ?_; rintro e w' ⟨rfl, rfl⟩)
  refine bodyPost_ret (results_none rfl _ _ _) rfl ⟨rfl, rfl⟩
theorem ownD_crash (h : Own B w0 w g n l q true) (v : Value) : Calls Try.prog 19 #[.pointer (some ⟨g, 0, none⟩), v] w fun e w' => e = .returned (.tuple #[]) ∧ Own B w0 w' g n l q true := by
  have h' := h
  obtain ⟨h1, h2, F, h3, h4⟩ := h
  refine (crash_dead h3 v).mono ?_
  rintro e w' ⟨rfl, rfl⟩
  exact ⟨rfl, h'⟩
theorem ownD_restore (h : Own B w0 w g n l q true) (v : Value) : Calls Try.prog 18 #[.pointer (some ⟨g, 0, none⟩), v] w fun e w' => e = .returned (.tuple #[]) ∧ Own B w0 w' g n l q true := by
  have h' := h
  obtain ⟨h1, h2, F, h3, h4⟩ := h
  refine (restore_dead h3 v).mono ?_
  rintro e w' ⟨rfl, rfl⟩
  exact ⟨rfl, h'⟩
theorem ownD_read (h : Own B w0 w g n l q true) (a : Int) : Calls Try.prog 20 #[.pointer (some ⟨g, 0, none⟩), .int .i64 a] w fun e w' => e = .returned (.tuple #[.string noB, .int .i64 20]) ∧ Own B w0 w' g n l q true := own_read h a
theorem ownD_write (h : Own B w0 w g n l q true) (a : Int) (s : ByteArray) (hq : q.length ≤ 1000000) : Calls Try.prog 21 #[.pointer (some ⟨g, 0, none⟩), .int .i64 a, .string s] w fun e w' => e = .returned (.int .i64 20) ∧ Own B w0 w' g n l q true := own_write h a s hq
theorem ownD_flush (h : Own B w0 w g n l q true) : Calls Try.prog 22 #[.pointer (some ⟨g, 0, none⟩)] w fun e w' => e = .returned (.int .i64 20) ∧ Own B w0 w' g n l q true := own_flush h
theorem ownD_tamper (h : Own B w0 w g n l q true) (a : Int) (s : ByteArray) (hq : q.length ≤ 1000000) : Calls Try.prog 25 #[.pointer (some ⟨g, 0, none⟩), .int .i64 a, .string s] w fun e w' => e = .returned (.bool false) ∧ Own B w0 w' g n l q true := own_tamper h a s hq
theorem ownD_image (h : Own B w0 w g n l q true) : Calls Try.prog 16 #[.pointer (some ⟨g, 0, none⟩)] w fun e w' => e = .returned (.slice none 0 0) ∧ Own B w0 w' g n l q true := by
  have h' := h
  obtain ⟨h1, h2, F, h3, h4⟩ := h
  refine (image_dead h3).mono ?_
  rintro e w' ⟨rfl, rfl⟩
  exact ⟨rfl, h'⟩
end
set_option maxRecDepth 20000 in
set_option maxHeartbeats 4000000 in
theorem diskDead_law (A : ActD) (w : World) : Calls Try.prog 6 #[actV A.d A.a A.s A.n A.row A.x] w fun e w' => e = .returned (.bool true) ∧ Below w.heap.size w w' := by
  obtain ⟨d, a, s, n, x, kb, km, kc, kk⟩ := A
  simp only [ActD.row]
  have hb1 : Below w.heap.size w (w.alloc (.cells #[.int .i64 d, .int .i64 a, .string s, .int .i64 n, .slice kb km kc, .bool x] 35)) := (Below.refl _ _).alloc (Nat.le_refl _) _
  have hbx := Blk.new w 35 #[.int .i64 d, .int .i64 a, .string s, .int .i64 n, .slice kb km kc, .bool x]
  have hS : Hid (∀ z, Below (w.heap.size + 1) (w.alloc (.cells #[.int .i64 d, .int .i64 a, .string s, .int .i64 n, .slice kb km kc, .bool x] 35)) z → (fun z => z.cell? ⟨w.heap.size, 0, none⟩ = some (.int .i64 d) ∧ z.cell? ⟨w.heap.size, 1, none⟩ = some (.int .i64 a) ∧ z.cell? ⟨w.heap.size, 2, none⟩ = some (.string s) ∧ z.cell? ⟨w.heap.size, 3, none⟩ = some (.int .i64 n) ∧ z.cell? ⟨w.heap.size, 4, none⟩ = some (.slice kb km kc) ∧ z.cell? ⟨w.heap.size, 5, none⟩ = some (.bool x)) z) := fun z hz => by
    have hz' := hbx.below hz (by omega)
    exact ⟨hz'.cell rfl, hz'.cell rfl, hz'.cell rfl, hz'.cell rfl, hz'.cell rfl, hz'.cell rfl⟩
  have HB1 : Hid _ := hb1
  have hnew := own_new (w.heap.size + 1) (w.alloc (.cells #[.int .i64 d, .int .i64 a, .string s, .int .i64 n, .slice kb km kc, .bool x] 35)) (w.alloc (.cells #[.int .i64 d, .int .i64 a, .string s, .int .i64 n, .slice kb km kc, .bool x] 35)) 5 (by simp) (Below.refl _ _)
  rw [show newN 5 = 5 from rfl] at hnew
  clear hb1 hbx
  go_enter Try.func6, Try.ntmps6
  go_wp2_with (first
    | (go_at_call 8; refine hnew.mono ?_; rintro e w1 ⟨g, rfl, h1⟩; clear hnew; have ho : Hid _ := h1; clear h1)
    | (go_at_call 21; refine (own_writeOk ho.out _ 1 _ rfl (by decide) (by decide) (by decide)).mono ?_; rintro e w2 ⟨rfl, h2⟩; clear ho; have ho : Hid _ := h2; clear h2)
    | (go_at_call 24; refine (own_fail ho.out).mono ?_; rintro e w2 ⟨rfl, h2⟩; clear ho; have ho : Hid _ := h2; clear h2))
  have hr : Hid (Own (w.heap.size + 1) (w.alloc (.cells #[.int .i64 d, .int .i64 a, .string s, .int .i64 n, .slice kb km kc, .bool x] 35)) (w2.alloc (.cells #[.pointer none, .pointer (some ⟨g, 0, none⟩)] 23)) g 5 (fun _ => noB) [] true ∧ Blk (w2.alloc (.cells #[.pointer none, .pointer (some ⟨g, 0, none⟩)] 23)) w2.heap.size 23 [.pointer none, .pointer (some ⟨g, 0, none⟩)]) :=
    ⟨Own.below ho.out ((Below.refl _ _).alloc (Nat.le_refl _) _), Blk.new w2 23 #[.pointer none, .pointer (some ⟨g, 0, none⟩)]⟩
  clear ho
  obtain ⟨gs, hgs⟩ : ∃ gs, w2.heap.size = gs := ⟨_, rfl⟩
  rw [hgs] at hr ⊢
  clear hgs
  generalize w2.alloc (.cells #[.pointer none, .pointer (some ⟨g, 0, none⟩)] 23) = w3 at hr ⊢
  go_loopw [19] (fun i wr => ∃ j : Nat, j ≤ 2 ∧ i = .int .i64 (j : Int) ∧ Hid (Own (w.heap.size + 1) (w.alloc (.cells #[.int .i64 d, .int .i64 a, .string s, .int .i64 n, .slice kb km kc, .bool x] 35)) wr g 5 (fun _ => noB) [] true ∧ (j ≤ 1 → Blk wr gs 23 [.pointer none, .pointer (some ⟨g, 0, none⟩)]))) (fun i _ => 2 - (intOf i).toNat)
  case atStart => exact ⟨0, by omega, rfl, hr.out.1, fun _ => hr.out.2⟩
  case round =>
    clear hr
    obtain ⟨j, hj, rfl, hrr⟩ := hrel
    have h3 : j = 0 ∨ j = 1 ∨ j = 2 := by omega
    rcases h3 with rfl | rfl | rfl
    · rw [show ((0 : Nat) : Int) = 0 from rfl]
      have hr : Hid (Own (w.heap.size + 1) (w.alloc (.cells #[.int .i64 d, .int .i64 a, .string s, .int .i64 n, .slice kb km kc, .bool x] 35)) ((wr.alloc (.cells #[.int .i64 1, .int .i64 20] 44)).alloc (.cells #[.string { data := #[121] }] 9)) g 5 (fun _ => noB) [] true ∧ Blk ((wr.alloc (.cells #[.int .i64 1, .int .i64 20] 44)).alloc (.cells #[.string { data := #[121] }] 9)) gs 23 [.pointer none, .pointer (some ⟨g, 0, none⟩)]) :=
        ⟨Own.below (Own.below hrr.out.1 ((Below.refl _ _).alloc (Nat.le_refl _) _)) ((Below.refl _ _).alloc (Nat.le_refl _) _), ((hrr.out.2 (by omega)).alloc _).alloc _⟩
      have cg := (hrr.out.2 (by omega)).cell (i := 0) rfl
      obtain ⟨b0, b1, b2, b3, b4, b5⟩ := hS.out (wr.alloc (.cells #[.int .i64 1, .int .i64 20] 44)) (hrr.out.1.2.1.alloc hrr.out.1.1 _)
      clear hrr b0 b2 b3 b5
      go_wp2_with (first
        | (go_at_call 20; refine (read_nil _ _).mono ?_; rintro e w' ⟨rfl, hw'⟩; rw [hw']; clear hw' w')
        | (go_at_call 19; refine (crash_nil _ _).mono ?_; rintro e w' ⟨rfl, hw'⟩; rw [hw']; clear hw' w')
        | (go_at_call 18; refine (restore_nil _ _).mono ?_; rintro e w' ⟨rfl, hw'⟩; rw [hw']; clear hw' w'))
      clear b1 b4 cg
      generalize ((wr.alloc (.cells #[.int .i64 1, .int .i64 20] 44)).alloc (.cells #[.string { data := #[121] }] 9)) = w4 at hr ⊢
      have hr2 : Hid (Own (w.heap.size + 1) (w.alloc (.cells #[.int .i64 d, .int .i64 a, .string s, .int .i64 n, .slice kb km kc, .bool x] 35)) w4.drew g 5 (fun _ => noB) [] true ∧ Blk w4.drew gs 23 [.pointer none, .pointer (some ⟨g, 0, none⟩)]) := ⟨Own.below hr.out.1 (Below.refl _ _).drew, hr.out.2.drew⟩
      clear hr
      have hr := hr2
      clear hr2
      refine wp_region_noPanic ?_
      refine wp_region_held_drew (S := fun z => z.cell? ⟨w.heap.size, 0, none⟩ = some (.int .i64 d) ∧ z.cell? ⟨w.heap.size, 1, none⟩ = some (.int .i64 a) ∧ z.cell? ⟨w.heap.size, 2, none⟩ = some (.string s) ∧ z.cell? ⟨w.heap.size, 3, none⟩ = some (.int .i64 n) ∧ z.cell? ⟨w.heap.size, 4, none⟩ = some (.slice kb km kc) ∧ z.cell? ⟨w.heap.size, 5, none⟩ = some (.bool x)) (by kernel_rfl) (hS.out _ hr.out.1.2.1) (fun hHeld => ?_)
      refine wpAnyH_take (i := 0) (v := ?_) rfl (by kernel_rfl) (by kernel_rfl) (by kernel_rfl) (fun _ _ _ h => h) (Or.inl ⟨by rfl, ?_⟩) (by assumption) ?_
      rotate_left
      · intro w hSw; go_simp; try with_reducible rfl
      go_simp
      refine wpAnyH_take (i := 1) (v := ?_) rfl (by kernel_rfl) (by kernel_rfl) (by kernel_rfl) (fun _ _ _ h => h) (Or.inl ⟨by rfl, ?_⟩) (by assumption) ?_
      rotate_left
      · intro w hSw; go_simp; try with_reducible rfl
      go_simp
      refine wpAnyH_take (i := 2) (v := ?_) rfl (by kernel_rfl) (by kernel_rfl) (by kernel_rfl) (fun _ _ _ h => h) (Or.inl ⟨by rfl, ?_⟩) (by assumption) ?_
      rotate_left
      · intro w hSw; go_simp; try with_reducible rfl
      go_simp
      refine wpAnyH_take (i := 3) (v := ?_) rfl (by kernel_rfl) (by kernel_rfl) (by kernel_rfl) (fun _ _ _ h => h) (Or.inl ⟨by rfl, ?_⟩) (by assumption) ?_
      rotate_left
      · intro w hSw; go_simp; try with_reducible rfl
      go_simp
      refine wpAnyH_take (i := 6) (v := ?_) rfl (by kernel_rfl) (by kernel_rfl) (by kernel_rfl) (fun _ _ _ h => h) (Or.inl ⟨by rfl, ?_⟩) (by assumption) ?_
      rotate_left
      · intro w hSw; go_simp; try with_reducible rfl
      go_simp
      refine wpAnyH_ready (rs := [4]) (by kernel_rfl) (by simp) (AllReadyH.cons rfl (fun K hK => ?_) AllReadyH.nil)
      go_simp
      go_at_call 23
      refine (bytes_any d a s n kb km kc x _).mono ?_
      rintro e wz ⟨rfl, hbz⟩
      have hr' : Hid (Own (w.heap.size + 1) (w.alloc (.cells #[.int .i64 d, .int .i64 a, .string s, .int .i64 n, .slice kb km kc, .bool x] 35)) wz g 5 (fun _ => noB) [] true ∧ Blk wz gs 23 [.pointer none, .pointer (some ⟨g, 0, none⟩)]) := ⟨Own.below hr.out.1 hbz, Blk.below hr.out.2 hbz hr.out.2.lt⟩
      clear hr hbz
      have hr := hr'
      clear hr'
      refine hK.out _ _ (hS.out _ hr.out.1.2.1) (fun hHeld => ?_)
      clear hK K
      refine wpAnyH_ready (rs := [5]) (by kernel_rfl) (by simp) (AllReadyH.cons rfl (fun K hK => ?_) AllReadyH.nil)
      go_simp
      go_at_call 21
      refine (write_nil _ _ _).mono ?_
      rintro e wz ⟨rfl, hw'⟩
      rw [hw']
      clear hw' wz
      refine hK.out _ _ (hS.out _ hr.out.1.2.1) (fun hHeld => ?_)
      clear hK K
      refine wpAnyH_take (i := 7) (v := ?_) rfl (by kernel_rfl) (by kernel_rfl) (by kernel_rfl) (fun _ _ _ h => h) (Or.inl ⟨by rfl, ?_⟩) (by assumption) ?_
      rotate_left
      · intro w hSw; go_simp; try with_reducible rfl
      go_simp
      refine wpAnyH_take (i := 8) (v := ?_) rfl (by kernel_rfl) (by kernel_rfl) (by kernel_rfl) (fun _ _ _ h => h) (Or.inl ⟨by rfl, ?_⟩) (by assumption) ?_
      rotate_left
      · intro w hSw; go_simp; try with_reducible rfl
      go_simp
      refine wpAnyH_take (i := 9) (v := ?_) rfl (by kernel_rfl) (by kernel_rfl) (by kernel_rfl) (fun _ _ _ h => h) (Or.inl ⟨by rfl, ?_⟩) (by assumption) ?_
      rotate_left
      · intro w hSw; go_simp; try with_reducible rfl
      go_simp
      refine wpAnyH_take (i := 10) (v := ?_) rfl (by kernel_rfl) (by kernel_rfl) (by kernel_rfl) (fun _ _ _ h => h) (Or.inl ⟨by rfl, ?_⟩) (by assumption) ?_
      rotate_left
      · intro w hSw; go_simp; try with_reducible rfl
      go_simp
      refine wpAnyH_take (i := 11) (v := ?_) rfl (by kernel_rfl) (by kernel_rfl) (by kernel_rfl) (fun _ _ _ h => h) (Or.inl ⟨by rfl, ?_⟩) (by assumption) ?_
      rotate_left
      · intro w hSw; go_simp; try with_reducible rfl
      go_simp
      refine wpAnyH_take (i := 12) (v := ?_) rfl (by kernel_rfl) (by kernel_rfl) (by kernel_rfl) (fun _ _ _ h => h) (Or.inl ⟨by rfl, ?_⟩) (by assumption) ?_
      rotate_left
      · intro w hSw; go_simp; try with_reducible rfl
      go_simp
      refine wpAnyH_take (i := 13) (v := ?_) rfl (by kernel_rfl) (by kernel_rfl) (by kernel_rfl) (fun _ _ _ h => h) (Or.inl ⟨by rfl, ?_⟩) (by assumption) ?_
      rotate_left
      · intro w hSw; go_simp; try with_reducible rfl
      go_simp
      refine wpAnyH_take (i := 14) (v := ?_) rfl (by kernel_rfl) (by kernel_rfl) (by kernel_rfl) (fun _ _ _ h => h) (Or.inl ⟨by rfl, ?_⟩) (by assumption) ?_
      rotate_left
      · intro w hSw; go_simp; try with_reducible rfl
      go_simp
      refine wpAnyH_take (i := 16) (v := ?_) rfl (by kernel_rfl) (by kernel_rfl) (by kernel_rfl) (fun _ _ _ h => h) (Or.inl ⟨by rfl, ?_⟩) (by assumption) ?_
      rotate_left
      · intro w hSw; go_simp; try with_reducible rfl
      go_simp
      refine wpAnyH_ready (rs := [15]) (by kernel_rfl) (by simp) (AllReadyH.cons rfl (fun K hK => ?_) AllReadyH.nil)
      go_simp
      go_at_call 22
      refine (flush_nil _).mono ?_
      rintro e wz ⟨rfl, hw'⟩
      rw [hw']
      clear hw' wz
      refine hK.out _ _ (hS.out _ hr.out.1.2.1) (fun hHeld => ?_)
      clear hK K
      refine wpAnyH_take (i := 17) (v := ?_) rfl (by kernel_rfl) (by kernel_rfl) (by kernel_rfl) (fun _ _ _ h => h) (Or.inl ⟨by rfl, ?_⟩) (by assumption) ?_
      rotate_left
      · intro w hSw; go_simp; try with_reducible rfl
      go_simp
      refine wpAnyH_take (i := 18) (v := ?_) rfl (by kernel_rfl) (by kernel_rfl) (by kernel_rfl) (fun _ _ _ h => h) (Or.inl ⟨by rfl, ?_⟩) (by assumption) ?_
      rotate_left
      · intro w hSw; go_simp; try with_reducible rfl
      go_simp
      refine wpAnyH_take (i := 19) (v := ?_) rfl (by kernel_rfl) (by kernel_rfl) (by kernel_rfl) (fun _ _ _ h => h) (Or.inl ⟨by rfl, ?_⟩) (by assumption) ?_
      rotate_left
      · intro w hSw; go_simp; try with_reducible rfl
      go_simp
      refine wpAnyH_take (i := 20) (v := ?_) rfl (by kernel_rfl) (by kernel_rfl) (by kernel_rfl) (fun _ _ _ h => h) (Or.inl ⟨by rfl, ?_⟩) (by assumption) ?_
      rotate_left
      · intro w hSw; go_simp; try with_reducible rfl
      go_simp
      refine wpAnyH_take (i := 21) (v := ?_) rfl (by kernel_rfl) (by kernel_rfl) (by kernel_rfl) (fun _ _ _ h => h) (Or.inl ⟨by rfl, ?_⟩) (by assumption) ?_
      rotate_left
      · intro w hSw; go_simp; try with_reducible rfl
      go_simp
      refine wpAnyH_take (i := 22) (v := ?_) rfl (by kernel_rfl) (by kernel_rfl) (by kernel_rfl) (fun _ _ _ h => h) (Or.inl ⟨by rfl, ?_⟩) (by assumption) ?_
      rotate_left
      · intro w hSw; go_simp; try with_reducible rfl
      go_simp
      refine wpAnyH_ready (rs := [23]) (by kernel_rfl) (by simp) (AllReadyH.cons rfl (fun K hK => ?_) AllReadyH.nil)
      go_simp
      go_at_call 25
      refine (tamper_nil _ _ _).mono ?_
      rintro e wz ⟨rfl, hbz⟩
      have hr' : Hid (Own (w.heap.size + 1) (w.alloc (.cells #[.int .i64 d, .int .i64 a, .string s, .int .i64 n, .slice kb km kc, .bool x] 35)) wz g 5 (fun _ => noB) [] true ∧ Blk wz gs 23 [.pointer none, .pointer (some ⟨g, 0, none⟩)]) := ⟨Own.below hr.out.1 hbz, Blk.below hr.out.2 hbz hr.out.2.lt⟩
      clear hr hbz
      have hr := hr'
      clear hr'
      refine hK.out _ _ (hS.out _ hr.out.1.2.1) (fun hHeld => ?_)
      clear hK K
      refine wpAnyH_take (i := 24) (v := ?_) rfl (by kernel_rfl) (by kernel_rfl) (by kernel_rfl) (fun _ _ _ h => h) (Or.inl ⟨by rfl, ?_⟩) (by assumption) ?_
      rotate_left
      · intro w hSw; go_simp; try with_reducible rfl
      go_simp
      refine wpAnyH_take (i := 25) (v := ?_) rfl (by kernel_rfl) (by kernel_rfl) (by kernel_rfl) (fun _ _ _ h => h) (Or.inl ⟨by rfl, ?_⟩) (by assumption) ?_
      rotate_left
      · intro w hSw; go_simp; try with_reducible rfl
      go_simp
      refine wpAnyH_take (i := 26) (v := ?_) rfl (by kernel_rfl) (by kernel_rfl) (by kernel_rfl) (fun _ _ _ h => h) (Or.inl ⟨by rfl, ?_⟩) (by assumption) ?_
      rotate_left
      · intro w hSw; go_simp; try with_reducible rfl
      go_simp
      refine wpAnyH_ready (rs := [27]) (by kernel_rfl) (by simp) (AllReadyH.cons rfl (fun K hK => ?_) AllReadyH.nil)
      go_simp
      go_at_call 16
      refine (image_nil _).mono ?_
      rintro e wz ⟨rfl, hw'⟩
      rw [hw']
      clear hw' wz
      refine hK.out _ _ (hS.out _ hr.out.1.2.1) (fun hHeld => ?_)
      clear hK K
      refine wpAnyH_take (i := 28) (v := ?_) rfl (by kernel_rfl) (by kernel_rfl) (by kernel_rfl) (fun _ _ _ h => h) (Or.inl ⟨by rfl, ?_⟩) (by assumption) ?_
      rotate_left
      · intro w hSw; go_simp; try with_reducible rfl
      go_simp
      refine wpAnyH_take (i := 29) (v := ?_) rfl (by kernel_rfl) (by kernel_rfl) (by kernel_rfl) (fun _ _ _ h => h) (Or.inl ⟨by rfl, ?_⟩) (by assumption) ?_
      rotate_left
      · intro w hSw; go_simp; try with_reducible rfl
      go_simp
      refine wpAnyH_take (i := 30) (v := ?_) rfl (by kernel_rfl) (by kernel_rfl) (by kernel_rfl) (fun _ _ _ h => h) (Or.inl ⟨by rfl, ?_⟩) (by assumption) ?_
      rotate_left
      · intro w hSw; go_simp; try with_reducible rfl
      go_simp
      refine wpAnyH_take (i := 31) (v := ?_) rfl (by kernel_rfl) (by kernel_rfl) (by kernel_rfl) (fun _ _ _ h => h) (Or.inl ⟨by rfl, ?_⟩) (by assumption) ?_
      rotate_left
      · intro w hSw; go_simp; try with_reducible rfl
      go_simp
      refine wpAnyH_take (i := 32) (v := ?_) rfl (by kernel_rfl) (by kernel_rfl) (by kernel_rfl) (fun _ _ _ h => h) (Or.inl ⟨by rfl, ?_⟩) (by assumption) ?_
      rotate_left
      · intro w hSw; go_simp; try with_reducible rfl
      go_simp
      refine wpAnyH_ready (rs := [33]) (by kernel_rfl) (by simp) (AllReadyH.cons rfl (fun K hK => ?_) AllReadyH.nil)
      go_simp
      go_at_call 13
      refine (waiting_nil _).mono ?_
      rintro e wz ⟨rfl, hw'⟩
      rw [hw']
      clear hw' wz
      refine hK.out _ _ (hS.out _ hr.out.1.2.1) (fun hHeld => ?_)
      clear hK K
      refine wpAnyH_take (i := 34) (v := ?_) rfl (by kernel_rfl) (by kernel_rfl) (by kernel_rfl) (fun _ _ _ h => h) (Or.inl ⟨by rfl, ?_⟩) (by assumption) ?_
      rotate_left
      · intro w hSw; go_simp; try with_reducible rfl
      go_simp
      refine wpAnyH_take (i := 35) (v := ?_) rfl (by kernel_rfl) (by kernel_rfl) (by kernel_rfl) (fun _ _ _ h => h) (Or.inl ⟨by rfl, ?_⟩) (by assumption) ?_
      rotate_left
      · intro w hSw; go_simp; try with_reducible rfl
      go_simp
      refine wpAnyH_take (i := 36) (v := ?_) rfl (by kernel_rfl) (by kernel_rfl) (by kernel_rfl) (fun _ _ _ h => h) (Or.inl ⟨by rfl, ?_⟩) (by assumption) ?_
      rotate_left
      · intro w hSw; go_simp; try with_reducible rfl
      go_simp
      refine wpAnyH_take (i := 37) (v := ?_) rfl (by kernel_rfl) (by kernel_rfl) (by kernel_rfl) (fun _ _ _ h => h) (Or.inl ⟨by rfl, ?_⟩) (by assumption) ?_
      rotate_left
      · intro w hSw; go_simp; try with_reducible rfl
      go_simp
      refine wpAnyH_take (i := 39) (v := ?_) rfl (by kernel_rfl) (by kernel_rfl) (by kernel_rfl) (fun _ _ _ h => h) (Or.inl ⟨by rfl, ?_⟩) (by assumption) ?_
      rotate_left
      · intro w hSw; go_simp; try with_reducible rfl
      go_simp
      refine wpAnyH_take (i := 40) (v := ?_) rfl (by kernel_rfl) (by kernel_rfl) (by kernel_rfl) (fun _ _ _ h => h) (Or.inl ⟨by rfl, ?_⟩) (by assumption) ?_
      rotate_left
      · intro w hSw; go_simp; try with_reducible rfl
      go_simp
      refine wpAnyH_ready (rs := [38]) (by kernel_rfl) (by simp) (AllReadyH.cons rfl (fun K hK => ?_) AllReadyH.nil)
      go_simp
      go_at_call 14
      refine (dead_nil _).mono ?_
      rintro e wz ⟨rfl, hw'⟩
      rw [hw']
      clear hw' wz
      refine hK.out _ _ (hS.out _ hr.out.1.2.1) (fun hHeld => ?_)
      clear hK K
      refine wpAnyH_take (i := 41) (v := ?_) rfl (by kernel_rfl) (by kernel_rfl) (by kernel_rfl) (fun _ _ _ h => h) (Or.inl ⟨by rfl, ?_⟩) (by assumption) ?_
      rotate_left
      · intro w hSw; go_simp; try with_reducible rfl
      go_simp
      refine wpAnyH_take (i := 42) (v := ?_) rfl (by kernel_rfl) (by kernel_rfl) (by kernel_rfl) (fun _ _ _ h => h) (Or.inl ⟨by rfl, ?_⟩) (by assumption) ?_
      rotate_left
      · intro w hSw; go_simp; try with_reducible rfl
      go_simp
      refine wpAnyH_done (by kernel_rfl) ?_ _
      refine NoPanic.normal ?_
      go_wp2_with fail
      go_roundw
      case rel => exact ⟨1, by omega, by go_num, hr.out.1.below ((Below.refl _ _)), fun _ => hr.out.2⟩
      case measure => simp [intOf]
    · rw [show ((1 : Nat) : Int) = 1 from rfl]
      have ho : Hid (Own (w.heap.size + 1) (w.alloc (.cells #[.int .i64 d, .int .i64 a, .string s, .int .i64 n, .slice kb km kc, .bool x] 35)) (wr.alloc (.cells #[.int .i64 1, .int .i64 20] 44)) g 5 (fun _ => noB) [] true) := Own.below hrr.out.1 ((Below.refl _ _).alloc (Nat.le_refl _) _)
      have cg := (hrr.out.2 (by omega)).cell (i := 1) rfl
      obtain ⟨b0, b1, b2, b3, b4, b5⟩ := hS.out (wr.alloc (.cells #[.int .i64 1, .int .i64 20] 44)) (hrr.out.1.2.1.alloc hrr.out.1.1 _)
      clear hrr b0 b2 b3 b4 b5
      go_wp2_with (first
        | (go_at_call 20; refine (ownD_read ho.out _).mono ?_; rintro e w' ⟨rfl, ho'⟩; clear ho; have ho : Hid _ := ho'; clear ho'; obtain ⟨b0, b1, b2, b3, b4, b5⟩ := hS.out _ ho.out.2.1; clear b0 b1 b2 b3 b5)
        | (go_at_call 19; refine (ownD_crash ho.out _).mono ?_; rintro e w' ⟨rfl, ho'⟩; clear ho; have ho : Hid _ := Own.below ho' ((Below.refl _ _).alloc (Nat.le_refl _) (.cells #[.string { data := #[121] }] 9)); clear ho')
        | (go_at_call 18; refine (ownD_restore ho.out _).mono ?_; rintro e w' ⟨rfl, ho'⟩; clear ho; have ho : Hid _ := Own.below ho' (Below.refl _ _).drew; clear ho'))
      refine wp_region_noPanic ?_
      refine wp_region_held_drew (S := fun z => z.cell? ⟨w.heap.size, 0, none⟩ = some (.int .i64 d) ∧ z.cell? ⟨w.heap.size, 1, none⟩ = some (.int .i64 a) ∧ z.cell? ⟨w.heap.size, 2, none⟩ = some (.string s) ∧ z.cell? ⟨w.heap.size, 3, none⟩ = some (.int .i64 n) ∧ z.cell? ⟨w.heap.size, 4, none⟩ = some (.slice kb km kc) ∧ z.cell? ⟨w.heap.size, 5, none⟩ = some (.bool x)) (by kernel_rfl) (hS.out _ ho.out.2.1) (fun hHeld => ?_)
      refine wpAnyH_take (i := 0) (v := ?_) rfl (by kernel_rfl) (by kernel_rfl) (by kernel_rfl) (fun _ _ _ h => h) (Or.inl ⟨by rfl, ?_⟩) (by assumption) ?_
      rotate_left
      · intro w hSw; go_simp; try with_reducible rfl
      go_simp
      refine wpAnyH_take (i := 1) (v := ?_) rfl (by kernel_rfl) (by kernel_rfl) (by kernel_rfl) (fun _ _ _ h => h) (Or.inl ⟨by rfl, ?_⟩) (by assumption) ?_
      rotate_left
      · intro w hSw; go_simp; try with_reducible rfl
      go_simp
      refine wpAnyH_take (i := 2) (v := ?_) rfl (by kernel_rfl) (by kernel_rfl) (by kernel_rfl) (fun _ _ _ h => h) (Or.inl ⟨by rfl, ?_⟩) (by assumption) ?_
      rotate_left
      · intro w hSw; go_simp; try with_reducible rfl
      go_simp
      refine wpAnyH_take (i := 3) (v := ?_) rfl (by kernel_rfl) (by kernel_rfl) (by kernel_rfl) (fun _ _ _ h => h) (Or.inl ⟨by rfl, ?_⟩) (by assumption) ?_
      rotate_left
      · intro w hSw; go_simp; try with_reducible rfl
      go_simp
      refine wpAnyH_take (i := 6) (v := ?_) rfl (by kernel_rfl) (by kernel_rfl) (by kernel_rfl) (fun _ _ _ h => h) (Or.inl ⟨by rfl, ?_⟩) (by assumption) ?_
      rotate_left
      · intro w hSw; go_simp; try with_reducible rfl
      go_simp
      refine wpAnyH_ready (rs := [4]) (by kernel_rfl) (by simp) (AllReadyH.cons rfl (fun K hK => ?_) AllReadyH.nil)
      go_simp
      go_at_call 23
      refine (bytes_any d a s n kb km kc x _).mono ?_
      rintro e wz ⟨rfl, hbz⟩
      have ho' : Hid _ := Own.below ho.out hbz
      clear ho
      have ho := ho'
      clear ho'
      refine hK.out _ _ (hS.out _ ho.out.2.1) (fun hHeld => ?_)
      clear hK K
      refine wpAnyH_ready (rs := [5]) (by kernel_rfl) (by simp) (AllReadyH.cons rfl (fun K hK => ?_) AllReadyH.nil)
      go_simp
      go_at_call 21
      refine (ownD_write ho.out _ _ (by decide)).mono ?_
      rintro e wz ⟨rfl, ho'⟩
      clear ho
      have ho : Hid _ := ho'
      clear ho'
      refine hK.out _ _ (hS.out _ ho.out.2.1) (fun hHeld => ?_)
      clear hK K
      refine wpAnyH_take (i := 7) (v := ?_) rfl (by kernel_rfl) (by kernel_rfl) (by kernel_rfl) (fun _ _ _ h => h) (Or.inl ⟨by rfl, ?_⟩) (by assumption) ?_
      rotate_left
      · intro w hSw; go_simp; try with_reducible rfl
      go_simp
      refine wpAnyH_take (i := 8) (v := ?_) rfl (by kernel_rfl) (by kernel_rfl) (by kernel_rfl) (fun _ _ _ h => h) (Or.inl ⟨by rfl, ?_⟩) (by assumption) ?_
      rotate_left
      · intro w hSw; go_simp; try with_reducible rfl
      go_simp
      refine wpAnyH_take (i := 9) (v := ?_) rfl (by kernel_rfl) (by kernel_rfl) (by kernel_rfl) (fun _ _ _ h => h) (Or.inl ⟨by rfl, ?_⟩) (by assumption) ?_
      rotate_left
      · intro w hSw; go_simp; try with_reducible rfl
      go_simp
      refine wpAnyH_take (i := 10) (v := ?_) rfl (by kernel_rfl) (by kernel_rfl) (by kernel_rfl) (fun _ _ _ h => h) (Or.inl ⟨by rfl, ?_⟩) (by assumption) ?_
      rotate_left
      · intro w hSw; go_simp; try with_reducible rfl
      go_simp
      refine wpAnyH_take (i := 11) (v := ?_) rfl (by kernel_rfl) (by kernel_rfl) (by kernel_rfl) (fun _ _ _ h => h) (Or.inl ⟨by rfl, ?_⟩) (by assumption) ?_
      rotate_left
      · intro w hSw; go_simp; try with_reducible rfl
      go_simp
      refine wpAnyH_take (i := 12) (v := ?_) rfl (by kernel_rfl) (by kernel_rfl) (by kernel_rfl) (fun _ _ _ h => h) (Or.inl ⟨by rfl, ?_⟩) (by assumption) ?_
      rotate_left
      · intro w hSw; go_simp; try with_reducible rfl
      go_simp
      refine wpAnyH_take (i := 13) (v := ?_) rfl (by kernel_rfl) (by kernel_rfl) (by kernel_rfl) (fun _ _ _ h => h) (Or.inl ⟨by rfl, ?_⟩) (by assumption) ?_
      rotate_left
      · intro w hSw; go_simp; try with_reducible rfl
      go_simp
      refine wpAnyH_take (i := 14) (v := ?_) rfl (by kernel_rfl) (by kernel_rfl) (by kernel_rfl) (fun _ _ _ h => h) (Or.inl ⟨by rfl, ?_⟩) (by assumption) ?_
      rotate_left
      · intro w hSw; go_simp; try with_reducible rfl
      go_simp
      refine wpAnyH_take (i := 16) (v := ?_) rfl (by kernel_rfl) (by kernel_rfl) (by kernel_rfl) (fun _ _ _ h => h) (Or.inl ⟨by rfl, ?_⟩) (by assumption) ?_
      rotate_left
      · intro w hSw; go_simp; try with_reducible rfl
      go_simp
      refine wpAnyH_ready (rs := [15]) (by kernel_rfl) (by simp) (AllReadyH.cons rfl (fun K hK => ?_) AllReadyH.nil)
      go_simp
      go_at_call 22
      refine (ownD_flush ho.out).mono ?_
      rintro e wz ⟨rfl, ho'⟩
      clear ho
      have ho : Hid _ := ho'
      clear ho'
      refine hK.out _ _ (hS.out _ ho.out.2.1) (fun hHeld => ?_)
      clear hK K
      refine wpAnyH_take (i := 17) (v := ?_) rfl (by kernel_rfl) (by kernel_rfl) (by kernel_rfl) (fun _ _ _ h => h) (Or.inl ⟨by rfl, ?_⟩) (by assumption) ?_
      rotate_left
      · intro w hSw; go_simp; try with_reducible rfl
      go_simp
      refine wpAnyH_take (i := 18) (v := ?_) rfl (by kernel_rfl) (by kernel_rfl) (by kernel_rfl) (fun _ _ _ h => h) (Or.inl ⟨by rfl, ?_⟩) (by assumption) ?_
      rotate_left
      · intro w hSw; go_simp; try with_reducible rfl
      go_simp
      refine wpAnyH_take (i := 19) (v := ?_) rfl (by kernel_rfl) (by kernel_rfl) (by kernel_rfl) (fun _ _ _ h => h) (Or.inl ⟨by rfl, ?_⟩) (by assumption) ?_
      rotate_left
      · intro w hSw; go_simp; try with_reducible rfl
      go_simp
      refine wpAnyH_take (i := 20) (v := ?_) rfl (by kernel_rfl) (by kernel_rfl) (by kernel_rfl) (fun _ _ _ h => h) (Or.inl ⟨by rfl, ?_⟩) (by assumption) ?_
      rotate_left
      · intro w hSw; go_simp; try with_reducible rfl
      go_simp
      refine wpAnyH_take (i := 21) (v := ?_) rfl (by kernel_rfl) (by kernel_rfl) (by kernel_rfl) (fun _ _ _ h => h) (Or.inl ⟨by rfl, ?_⟩) (by assumption) ?_
      rotate_left
      · intro w hSw; go_simp; try with_reducible rfl
      go_simp
      refine wpAnyH_take (i := 22) (v := ?_) rfl (by kernel_rfl) (by kernel_rfl) (by kernel_rfl) (fun _ _ _ h => h) (Or.inl ⟨by rfl, ?_⟩) (by assumption) ?_
      rotate_left
      · intro w hSw; go_simp; try with_reducible rfl
      go_simp
      refine wpAnyH_ready (rs := [23]) (by kernel_rfl) (by simp) (AllReadyH.cons rfl (fun K hK => ?_) AllReadyH.nil)
      go_simp
      go_at_call 25
      refine (ownD_tamper ho.out _ _ (by decide)).mono ?_
      rintro e wz ⟨rfl, ho'⟩
      clear ho
      have ho : Hid _ := ho'
      clear ho'
      refine hK.out _ _ (hS.out _ ho.out.2.1) (fun hHeld => ?_)
      clear hK K
      refine wpAnyH_take (i := 24) (v := ?_) rfl (by kernel_rfl) (by kernel_rfl) (by kernel_rfl) (fun _ _ _ h => h) (Or.inl ⟨by rfl, ?_⟩) (by assumption) ?_
      rotate_left
      · intro w hSw; go_simp; try with_reducible rfl
      go_simp
      refine wpAnyH_take (i := 25) (v := ?_) rfl (by kernel_rfl) (by kernel_rfl) (by kernel_rfl) (fun _ _ _ h => h) (Or.inl ⟨by rfl, ?_⟩) (by assumption) ?_
      rotate_left
      · intro w hSw; go_simp; try with_reducible rfl
      go_simp
      refine wpAnyH_take (i := 26) (v := ?_) rfl (by kernel_rfl) (by kernel_rfl) (by kernel_rfl) (fun _ _ _ h => h) (Or.inl ⟨by rfl, ?_⟩) (by assumption) ?_
      rotate_left
      · intro w hSw; go_simp; try with_reducible rfl
      go_simp
      refine wpAnyH_ready (rs := [27]) (by kernel_rfl) (by simp) (AllReadyH.cons rfl (fun K hK => ?_) AllReadyH.nil)
      go_simp
      go_at_call 16
      refine (ownD_image ho.out).mono ?_
      rintro e wz ⟨rfl, ho'⟩
      clear ho
      have ho : Hid _ := ho'
      clear ho'
      refine hK.out _ _ (hS.out _ ho.out.2.1) (fun hHeld => ?_)
      clear hK K
      refine wpAnyH_take (i := 28) (v := ?_) rfl (by kernel_rfl) (by kernel_rfl) (by kernel_rfl) (fun _ _ _ h => h) (Or.inl ⟨by rfl, ?_⟩) (by assumption) ?_
      rotate_left
      · intro w hSw; go_simp; try with_reducible rfl
      go_simp
      refine wpAnyH_take (i := 29) (v := ?_) rfl (by kernel_rfl) (by kernel_rfl) (by kernel_rfl) (fun _ _ _ h => h) (Or.inl ⟨by rfl, ?_⟩) (by assumption) ?_
      rotate_left
      · intro w hSw; go_simp; try with_reducible rfl
      go_simp
      refine wpAnyH_take (i := 30) (v := ?_) rfl (by kernel_rfl) (by kernel_rfl) (by kernel_rfl) (fun _ _ _ h => h) (Or.inl ⟨by rfl, ?_⟩) (by assumption) ?_
      rotate_left
      · intro w hSw; go_simp; try with_reducible rfl
      go_simp
      refine wpAnyH_take (i := 31) (v := ?_) rfl (by kernel_rfl) (by kernel_rfl) (by kernel_rfl) (fun _ _ _ h => h) (Or.inl ⟨by rfl, ?_⟩) (by assumption) ?_
      rotate_left
      · intro w hSw; go_simp; try with_reducible rfl
      go_simp
      refine wpAnyH_take (i := 32) (v := ?_) rfl (by kernel_rfl) (by kernel_rfl) (by kernel_rfl) (fun _ _ _ h => h) (Or.inl ⟨by rfl, ?_⟩) (by assumption) ?_
      rotate_left
      · intro w hSw; go_simp; try with_reducible rfl
      go_simp
      refine wpAnyH_ready (rs := [33]) (by kernel_rfl) (by simp) (AllReadyH.cons rfl (fun K hK => ?_) AllReadyH.nil)
      go_simp
      go_at_call 13
      refine (own_waiting ho.out).mono ?_
      rintro e wz ⟨rfl, ho'⟩
      clear ho
      have ho : Hid _ := ho'
      clear ho'
      refine hK.out _ _ (hS.out _ ho.out.2.1) (fun hHeld => ?_)
      clear hK K
      refine wpAnyH_take (i := 34) (v := ?_) rfl (by kernel_rfl) (by kernel_rfl) (by kernel_rfl) (fun _ _ _ h => h) (Or.inl ⟨by rfl, ?_⟩) (by assumption) ?_
      rotate_left
      · intro w hSw; go_simp; try with_reducible rfl
      go_simp
      refine wpAnyH_take (i := 35) (v := ?_) rfl (by kernel_rfl) (by kernel_rfl) (by kernel_rfl) (fun _ _ _ h => h) (Or.inl ⟨by rfl, ?_⟩) (by assumption) ?_
      rotate_left
      · intro w hSw; go_simp; try with_reducible rfl
      go_simp
      refine wpAnyH_take (i := 36) (v := ?_) rfl (by kernel_rfl) (by kernel_rfl) (by kernel_rfl) (fun _ _ _ h => h) (Or.inl ⟨by rfl, ?_⟩) (by assumption) ?_
      rotate_left
      · intro w hSw; go_simp; try with_reducible rfl
      go_simp
      refine wpAnyH_take (i := 37) (v := ?_) rfl (by kernel_rfl) (by kernel_rfl) (by kernel_rfl) (fun _ _ _ h => h) (Or.inl ⟨by rfl, ?_⟩) (by assumption) ?_
      rotate_left
      · intro w hSw; go_simp; try with_reducible rfl
      go_simp
      refine wpAnyH_take (i := 39) (v := ?_) rfl (by kernel_rfl) (by kernel_rfl) (by kernel_rfl) (fun _ _ _ h => h) (Or.inl ⟨by rfl, ?_⟩) (by assumption) ?_
      rotate_left
      · intro w hSw; go_simp; try with_reducible rfl
      go_simp
      refine wpAnyH_take (i := 40) (v := ?_) rfl (by kernel_rfl) (by kernel_rfl) (by kernel_rfl) (fun _ _ _ h => h) (Or.inl ⟨by rfl, ?_⟩) (by assumption) ?_
      rotate_left
      · intro w hSw; go_simp; try with_reducible rfl
      go_simp
      refine wpAnyH_ready (rs := [38]) (by kernel_rfl) (by simp) (AllReadyH.cons rfl (fun K hK => ?_) AllReadyH.nil)
      go_simp
      go_at_call 14
      refine (own_dead ho.out).mono ?_
      rintro e wz ⟨rfl, ho'⟩
      clear ho
      have ho : Hid _ := ho'
      clear ho'
      refine hK.out _ _ (hS.out _ ho.out.2.1) (fun hHeld => ?_)
      clear hK K
      refine wpAnyH_take (i := 41) (v := ?_) rfl (by kernel_rfl) (by kernel_rfl) (by kernel_rfl) (fun _ _ _ h => h) (Or.inl ⟨by rfl, ?_⟩) (by assumption) ?_
      rotate_left
      · intro w hSw; go_simp; try with_reducible rfl
      go_simp
      refine wpAnyH_take (i := 42) (v := ?_) rfl (by kernel_rfl) (by kernel_rfl) (by kernel_rfl) (fun _ _ _ h => h) (Or.inl ⟨by rfl, ?_⟩) (by assumption) ?_
      rotate_left
      · intro w hSw; go_simp; try with_reducible rfl
      go_simp
      refine wpAnyH_done (by kernel_rfl) ?_ _
      refine NoPanic.normal ?_
      go_wp2_with fail
      go_roundw
      case rel => exact ⟨2, by omega, by go_num, Own.below ho.out (Below.refl _ _), fun h => by omega⟩
      case measure => simp [intOf]
    · rw [show ((2 : Nat) : Int) = 2 from rfl]
      have ho : Hid _ := hrr.out.1
      clear hrr
      go_wp2_with (first
        | (go_at_call 10; refine (wakes_any _).mono ?_; rintro e w' ⟨rfl, hbz⟩; have ho' : Hid _ := Own.below ho.out hbz; clear ho hbz; have ho := ho'; clear ho')
        | (go_at_call 11; refine (size_nil _).mono ?_; rintro e w' ⟨rfl, hw'⟩; rw [hw']; clear hw' w')
        | (go_at_call 11; refine (own_size ho.out).mono ?_; rintro e w' ⟨rfl, ho'⟩; clear ho; have ho : Hid _ := ho'; clear ho'; rw [show ((5 : Nat) : Int) = 5 from rfl]))
      go_ret
      exact ⟨rfl, HB1.out.trans (ho.out.2.1.mono (by omega))⟩
end Go.Proofs.Ytmgllcmfnljfjaa
