/- One act: Image, Restore. -/
import Derived.Test.YtmgllcmfnljfjaaDkAct1
namespace Go.Proofs.Ytmgllcmfnljfjaa
open Go.RowKit Go.PlainAid
set_option linter.unusedVariables false

set_option maxRecDepth 20000 in
set_option maxHeartbeats 2000000 in
theorem act_imgL6 {B : Nat} {w0 w : World} {gd gr gi n : Nat} {l : Nat → ByteArray} {q : List Wr} {l' : Nat → ByteArray} {v : Value} {m : Nat} {f : Nat → ByteArray}
    (h : Sys B w0 w gd gr gi n l q false l' q false v m f) (hq : q.length ≤ 100000) (d a : Int) (s : ByteArray) (nn : Int) (kb : Option Addr) (km kc : Nat) (x : Bool) (hk : km ≤ kc) (hkc : kc ≤ maxLen) (hm : m ≤ 512) (hll : ∀ i, i < n → l i = l' i) (hd : d.tmod 8 = 6) :
    Calls Try.prog 12 #[.pointer (some ⟨gd, 0, none⟩), .pointer (some ⟨gr, 0, none⟩), .pointer (some ⟨gi, 0, none⟩), actV d a s nn (.slice kb km kc) x] w fun e w' => e = .returned (.bool true) ∧ ImgPost B w0 w' gd gr gi n l q false l' v m f := by
  have hm' : m ≤ 1000000000 := by omega
  have hq' : q.length ≤ 1000000 := by omega
  by_cases hkm : 100 < km
  · have hkI : (100 : Int) ≤ (km : Int) := by omega
    have hx : Hid (SysX B w0 (w.alloc (.cells #[.int .i64 d, .int .i64 a, .string s, .int .i64 nn, .slice kb 100 kc, .bool x] 35)) gd gr gi n l q false l' q false v m f w.heap.size [.int .i64 d, .int .i64 a, .string s, .int .i64 nn, .slice kb 100 kc, .bool x]) := Sys.box h #[.int .i64 d, .int .i64 a, .string s, .int .i64 nn, .slice kb 100 kc, .bool x]
    have hS : Hid (∀ z, Blk z w.heap.size 35 [.int .i64 d, .int .i64 a, .string s, .int .i64 nn, .slice kb 100 kc, .bool x] → (fun z => z.cell? ⟨w.heap.size, 0, none⟩ = some (.int .i64 d) ∧ z.cell? ⟨w.heap.size, 1, none⟩ = some (.int .i64 a) ∧ z.cell? ⟨w.heap.size, 2, none⟩ = some (.string s) ∧ z.cell? ⟨w.heap.size, 3, none⟩ = some (.int .i64 nn) ∧ z.cell? ⟨w.heap.size, 4, none⟩ = some (.slice kb 100 kc) ∧ z.cell? ⟨w.heap.size, 5, none⟩ = some (.bool x)) z) := fun z hz => ⟨hz.cell rfl, hz.cell rfl, hz.cell rfl, hz.cell rfl, hz.cell rfl, hz.cell rfl⟩
    clear h
    go_enter Try.func12, Try.ntmps12
    obtain ⟨b0, b1, b2, b3, b4, b5⟩ := hS.out _ (SysX.blk hx.out)
    clear b2 b3 b4 b5
    have bi := (SysX.imgBlk hx.out).cell (i := 0) rfl
    obtain ⟨FD, hD⟩ := SysX.disk hx.out
    have him := image_any hD
    have hn := hD.size.2
    clear hD
    go_wp2_with (first
      | (go_at_call 16; refine him.mono ?_; rintro e w1 ⟨rfl, hbk, hb1⟩; have hx2 : Hid (SysX B w0 (w1.setCell ⟨gi, 0, none⟩ (.slice (some ⟨(w.alloc (.cells #[.int .i64 d, .int .i64 a, .string s, .int .i64 nn, .slice kb 100 kc, .bool x] 35)).heap.size, 0, none⟩) n n)) gd gr gi n l q false l' q false (.slice (some ⟨(w.alloc (.cells #[.int .i64 d, .int .i64 a, .string s, .int .i64 nn, .slice kb 100 kc, .bool x] 35)).heap.size, 0, none⟩) n n) n (app l q) w.heap.size [.int .i64 d, .int .i64 a, .string s, .int .i64 nn, .slice kb 100 kc, .bool x]) := SysX.newImg hx.out hb1 (texts_blk hbk) (fun a n c e e0 => by cases e; exact ⟨Nat.le_refl _, hbk.lt⟩); have ci := ((SysX.imgBlk hx.out).below hb1 (SysX.imgBlk hx.out).lt).cell (i := 0) rfl; have fi := ((SysX.imgBlk hx.out).below hb1 (SysX.imgBlk hx.out).lt).frozen 0; rw [World.size_alloc] at hx2; clear hx hbk hb1; have hx := hx2; clear hx2; try rw [World.size_alloc])
      | (go_at_call 18; refine (x_restore hx.out).mono ?_; rintro e w1 ⟨rfl, h'⟩; clear hx bi; have hx : Hid _ := h'; clear h'; have bi := (SysX.imgBlk hx.out).cell (i := 0) rfl)
      | (go_at_call 30; refine (x_rrestore hx.out hm').mono ?_; rintro e w1 ⟨rfl, h'⟩; clear hx bi; have hx : Hid _ := h'; clear h'))
    · clear ci fi b0 b1 bi
      generalize w1.setCell ⟨gi, 0, none⟩ (.slice (some ⟨w.heap.size + 1, 0, none⟩) n n) = w2 at hx ⊢
      have h' := SysX.below hx.out (Below.refl _ _).drew
      clear hx
      have hx : Hid _ := h'
      clear h'
      have c27 := (SysX.imgBlk hx.out).cell (i := 0) rfl
      refine wp_region_noPanic ?_
      refine wp_region_held_drew (S := fun z => z.cell? ⟨gi, 0, none⟩ = some (.slice (some ⟨w.heap.size + 1, 0, none⟩) n n)) (by kernel_rfl) c27 (fun hHeld => ?_)
      refine wpAnyH_take (i := 0) (v := ?_) rfl (by kernel_rfl) (by kernel_rfl) (by kernel_rfl) (fun _ _ _ h => h) (Or.inl ⟨by rfl, ?_⟩) (by assumption) ?_
      rotate_left
      · intro w hSw; go_simp; try with_reducible rfl
      go_simp
      refine wpAnyH_take (i := 1) (v := ?_) rfl (by kernel_rfl) (by kernel_rfl) (by kernel_rfl) (fun _ _ _ h => h) (Or.inl ⟨by rfl, ?_⟩) (by assumption) ?_
      rotate_left
      · intro w hSw; go_simp; try with_reducible rfl
      go_simp
      refine wpAnyH_take (i := 2) (v := ?_) rfl (by kernel_rfl) (by kernel_rfl) (by kernel_rfl) (fun _ _ _ h => h) (Or.inl ⟨by rfl, ?_⟩) (by assumption) ?_
      rotate_left
      · intro w hSw; go_simp; try with_reducible rfl
      go_simp
      refine wpAnyH_take (i := 3) (v := ?_) rfl (by kernel_rfl) (by kernel_rfl) (by kernel_rfl) (fun _ _ _ h => h) (Or.inl ⟨by rfl, ?_⟩) (by assumption) ?_
      rotate_left
      · intro w hSw; go_simp; try with_reducible rfl
      go_simp
      obtain ⟨FR, hR⟩ := SysX.ref hx.out
      have hri := refImage_any hR hq'
      clear hR
      refine wpAnyH_ready (rs := [4]) (by kernel_rfl) (by simp) (AllReadyH.cons rfl (fun K hK => ?_) AllReadyH.nil)
      go_simp
      go_at_call 17
      refine hri.mono ?_
      rintro e wz ⟨b, c, rfl, htx, hbz⟩
      have h' := SysX.below hx.out hbz
      clear hx hri
      have hx : Hid _ := h'
      clear h'
      have htx2 : Hid _ := htx.congr (fun i hi => (app_congr q n l' l (fun i hi => (hll i hi).symm) i hi))
      clear htx
      refine hK.out _ _ ((SysX.imgBlk hx.out).cell (i := 0) rfl) (fun hHeld => ?_)
      clear hK K
      have heq := equal_true (.slice (some ⟨w.heap.size + 1, 0, none⟩) n n) (.slice b n c) n (app l q) wz (SysX.txt hx.out) htx2.out (by omega)
      refine wpAnyH_ready (rs := [5]) (by kernel_rfl) (by simp) (AllReadyH.cons rfl (fun K hK => ?_) AllReadyH.nil)
      go_simp
      go_at_call 15
      refine heq.mono ?_
      rintro e wy ⟨rfl, hby⟩
      have h' := SysX.below hx.out hby
      clear hx heq
      have hx : Hid _ := h'
      clear h'
      refine hK.out _ _ ((SysX.imgBlk hx.out).cell (i := 0) rfl) (fun hHeld => ?_)
      clear hK K
      refine wpAnyH_take (i := 6) (v := ?_) rfl (by kernel_rfl) (by kernel_rfl) (by kernel_rfl) (fun _ _ _ h => h) (Or.inl ⟨by rfl, ?_⟩) (by assumption) ?_
      rotate_left
      · intro w hSw; go_simp; try with_reducible rfl
      go_simp
      refine wpAnyH_done (by kernel_rfl) ?_ _
      refine NoPanic.normal ?_
      go_wp2_with fail
      go_ret
      exact ⟨rfl, .inl ⟨_, _, _, hn, SysX.unbox hx.out⟩⟩
    · go_ret
      exact ⟨rfl, .inr (SysX.unbox hx.out)⟩
  · have hkI : (km : Int) ≤ 100 := by omega
    have hx : Hid (SysX B w0 (w.alloc (.cells #[.int .i64 d, .int .i64 a, .string s, .int .i64 nn, .slice kb km kc, .bool x] 35)) gd gr gi n l q false l' q false v m f w.heap.size [.int .i64 d, .int .i64 a, .string s, .int .i64 nn, .slice kb km kc, .bool x]) := Sys.box h #[.int .i64 d, .int .i64 a, .string s, .int .i64 nn, .slice kb km kc, .bool x]
    have hS : Hid (∀ z, Blk z w.heap.size 35 [.int .i64 d, .int .i64 a, .string s, .int .i64 nn, .slice kb km kc, .bool x] → (fun z => z.cell? ⟨w.heap.size, 0, none⟩ = some (.int .i64 d) ∧ z.cell? ⟨w.heap.size, 1, none⟩ = some (.int .i64 a) ∧ z.cell? ⟨w.heap.size, 2, none⟩ = some (.string s) ∧ z.cell? ⟨w.heap.size, 3, none⟩ = some (.int .i64 nn) ∧ z.cell? ⟨w.heap.size, 4, none⟩ = some (.slice kb km kc) ∧ z.cell? ⟨w.heap.size, 5, none⟩ = some (.bool x)) z) := fun z hz => ⟨hz.cell rfl, hz.cell rfl, hz.cell rfl, hz.cell rfl, hz.cell rfl, hz.cell rfl⟩
    clear h
    go_enter Try.func12, Try.ntmps12
    obtain ⟨b0, b1, b2, b3, b4, b5⟩ := hS.out _ (SysX.blk hx.out)
    clear b2 b3 b4 b5
    have bi := (SysX.imgBlk hx.out).cell (i := 0) rfl
    obtain ⟨FD, hD⟩ := SysX.disk hx.out
    have him := image_any hD
    have hn := hD.size.2
    clear hD
    go_wp2_with (first
      | (go_at_call 16; refine him.mono ?_; rintro e w1 ⟨rfl, hbk, hb1⟩; have hx2 : Hid (SysX B w0 (w1.setCell ⟨gi, 0, none⟩ (.slice (some ⟨(w.alloc (.cells #[.int .i64 d, .int .i64 a, .string s, .int .i64 nn, .slice kb km kc, .bool x] 35)).heap.size, 0, none⟩) n n)) gd gr gi n l q false l' q false (.slice (some ⟨(w.alloc (.cells #[.int .i64 d, .int .i64 a, .string s, .int .i64 nn, .slice kb km kc, .bool x] 35)).heap.size, 0, none⟩) n n) n (app l q) w.heap.size [.int .i64 d, .int .i64 a, .string s, .int .i64 nn, .slice kb km kc, .bool x]) := SysX.newImg hx.out hb1 (texts_blk hbk) (fun a n c e e0 => by cases e; exact ⟨Nat.le_refl _, hbk.lt⟩); have ci := ((SysX.imgBlk hx.out).below hb1 (SysX.imgBlk hx.out).lt).cell (i := 0) rfl; have fi := ((SysX.imgBlk hx.out).below hb1 (SysX.imgBlk hx.out).lt).frozen 0; rw [World.size_alloc] at hx2; clear hx hbk hb1; have hx := hx2; clear hx2; try rw [World.size_alloc])
      | (go_at_call 18; refine (x_restore hx.out).mono ?_; rintro e w1 ⟨rfl, h'⟩; clear hx bi; have hx : Hid _ := h'; clear h'; have bi := (SysX.imgBlk hx.out).cell (i := 0) rfl)
      | (go_at_call 30; refine (x_rrestore hx.out hm').mono ?_; rintro e w1 ⟨rfl, h'⟩; clear hx bi; have hx : Hid _ := h'; clear h'))
    · clear ci fi b0 b1 bi
      generalize w1.setCell ⟨gi, 0, none⟩ (.slice (some ⟨w.heap.size + 1, 0, none⟩) n n) = w2 at hx ⊢
      have h' := SysX.below hx.out (Below.refl _ _).drew
      clear hx
      have hx : Hid _ := h'
      clear h'
      have c27 := (SysX.imgBlk hx.out).cell (i := 0) rfl
      refine wp_region_noPanic ?_
      refine wp_region_held_drew (S := fun z => z.cell? ⟨gi, 0, none⟩ = some (.slice (some ⟨w.heap.size + 1, 0, none⟩) n n)) (by kernel_rfl) c27 (fun hHeld => ?_)
      refine wpAnyH_take (i := 0) (v := ?_) rfl (by kernel_rfl) (by kernel_rfl) (by kernel_rfl) (fun _ _ _ h => h) (Or.inl ⟨by rfl, ?_⟩) (by assumption) ?_
      rotate_left
      · intro w hSw; go_simp; try with_reducible rfl
      go_simp
      refine wpAnyH_take (i := 1) (v := ?_) rfl (by kernel_rfl) (by kernel_rfl) (by kernel_rfl) (fun _ _ _ h => h) (Or.inl ⟨by rfl, ?_⟩) (by assumption) ?_
      rotate_left
      · intro w hSw; go_simp; try with_reducible rfl
      go_simp
      refine wpAnyH_take (i := 2) (v := ?_) rfl (by kernel_rfl) (by kernel_rfl) (by kernel_rfl) (fun _ _ _ h => h) (Or.inl ⟨by rfl, ?_⟩) (by assumption) ?_
      rotate_left
      · intro w hSw; go_simp; try with_reducible rfl
      go_simp
      refine wpAnyH_take (i := 3) (v := ?_) rfl (by kernel_rfl) (by kernel_rfl) (by kernel_rfl) (fun _ _ _ h => h) (Or.inl ⟨by rfl, ?_⟩) (by assumption) ?_
      rotate_left
      · intro w hSw; go_simp; try with_reducible rfl
      go_simp
      obtain ⟨FR, hR⟩ := SysX.ref hx.out
      have hri := refImage_any hR hq'
      clear hR
      refine wpAnyH_ready (rs := [4]) (by kernel_rfl) (by simp) (AllReadyH.cons rfl (fun K hK => ?_) AllReadyH.nil)
      go_simp
      go_at_call 17
      refine hri.mono ?_
      rintro e wz ⟨b, c, rfl, htx, hbz⟩
      have h' := SysX.below hx.out hbz
      clear hx hri
      have hx : Hid _ := h'
      clear h'
      have htx2 : Hid _ := htx.congr (fun i hi => (app_congr q n l' l (fun i hi => (hll i hi).symm) i hi))
      clear htx
      refine hK.out _ _ ((SysX.imgBlk hx.out).cell (i := 0) rfl) (fun hHeld => ?_)
      clear hK K
      have heq := equal_true (.slice (some ⟨w.heap.size + 1, 0, none⟩) n n) (.slice b n c) n (app l q) wz (SysX.txt hx.out) htx2.out (by omega)
      refine wpAnyH_ready (rs := [5]) (by kernel_rfl) (by simp) (AllReadyH.cons rfl (fun K hK => ?_) AllReadyH.nil)
      go_simp
      go_at_call 15
      refine heq.mono ?_
      rintro e wy ⟨rfl, hby⟩
      have h' := SysX.below hx.out hby
      clear hx heq
      have hx : Hid _ := h'
      clear h'
      refine hK.out _ _ ((SysX.imgBlk hx.out).cell (i := 0) rfl) (fun hHeld => ?_)
      clear hK K
      refine wpAnyH_take (i := 6) (v := ?_) rfl (by kernel_rfl) (by kernel_rfl) (by kernel_rfl) (fun _ _ _ h => h) (Or.inl ⟨by rfl, ?_⟩) (by assumption) ?_
      rotate_left
      · intro w hSw; go_simp; try with_reducible rfl
      go_simp
      refine wpAnyH_done (by kernel_rfl) ?_ _
      refine NoPanic.normal ?_
      go_wp2_with fail
      go_ret
      exact ⟨rfl, .inl ⟨_, _, _, hn, SysX.unbox hx.out⟩⟩
    · go_ret
      exact ⟨rfl, .inr (SysX.unbox hx.out)⟩
set_option maxRecDepth 20000 in
set_option maxHeartbeats 2000000 in
theorem act_imgLm6 {B : Nat} {w0 w : World} {gd gr gi n : Nat} {l : Nat → ByteArray} {q : List Wr} {l' : Nat → ByteArray} {v : Value} {m : Nat} {f : Nat → ByteArray}
    (h : Sys B w0 w gd gr gi n l q false l' q false v m f) (hq : q.length ≤ 100000) (d a : Int) (s : ByteArray) (nn : Int) (kb : Option Addr) (km kc : Nat) (x : Bool) (hk : km ≤ kc) (hkc : kc ≤ maxLen) (hm : m ≤ 512) (hll : ∀ i, i < n → l i = l' i) (hd : d.tmod 8 = -6) :
    Calls Try.prog 12 #[.pointer (some ⟨gd, 0, none⟩), .pointer (some ⟨gr, 0, none⟩), .pointer (some ⟨gi, 0, none⟩), actV d a s nn (.slice kb km kc) x] w fun e w' => e = .returned (.bool true) ∧ ImgPost B w0 w' gd gr gi n l q false l' v m f := by
  have hm' : m ≤ 1000000000 := by omega
  have hq' : q.length ≤ 1000000 := by omega
  by_cases hkm : 100 < km
  · have hkI : (100 : Int) ≤ (km : Int) := by omega
    have hx : Hid (SysX B w0 (w.alloc (.cells #[.int .i64 d, .int .i64 a, .string s, .int .i64 nn, .slice kb 100 kc, .bool x] 35)) gd gr gi n l q false l' q false v m f w.heap.size [.int .i64 d, .int .i64 a, .string s, .int .i64 nn, .slice kb 100 kc, .bool x]) := Sys.box h #[.int .i64 d, .int .i64 a, .string s, .int .i64 nn, .slice kb 100 kc, .bool x]
    have hS : Hid (∀ z, Blk z w.heap.size 35 [.int .i64 d, .int .i64 a, .string s, .int .i64 nn, .slice kb 100 kc, .bool x] → (fun z => z.cell? ⟨w.heap.size, 0, none⟩ = some (.int .i64 d) ∧ z.cell? ⟨w.heap.size, 1, none⟩ = some (.int .i64 a) ∧ z.cell? ⟨w.heap.size, 2, none⟩ = some (.string s) ∧ z.cell? ⟨w.heap.size, 3, none⟩ = some (.int .i64 nn) ∧ z.cell? ⟨w.heap.size, 4, none⟩ = some (.slice kb 100 kc) ∧ z.cell? ⟨w.heap.size, 5, none⟩ = some (.bool x)) z) := fun z hz => ⟨hz.cell rfl, hz.cell rfl, hz.cell rfl, hz.cell rfl, hz.cell rfl, hz.cell rfl⟩
    clear h
    go_enter Try.func12, Try.ntmps12
    obtain ⟨b0, b1, b2, b3, b4, b5⟩ := hS.out _ (SysX.blk hx.out)
    clear b2 b3 b4 b5
    have bi := (SysX.imgBlk hx.out).cell (i := 0) rfl
    obtain ⟨FD, hD⟩ := SysX.disk hx.out
    have him := image_any hD
    have hn := hD.size.2
    clear hD
    go_wp2_with (first
      | (go_at_call 16; refine him.mono ?_; rintro e w1 ⟨rfl, hbk, hb1⟩; have hx2 : Hid (SysX B w0 (w1.setCell ⟨gi, 0, none⟩ (.slice (some ⟨(w.alloc (.cells #[.int .i64 d, .int .i64 a, .string s, .int .i64 nn, .slice kb 100 kc, .bool x] 35)).heap.size, 0, none⟩) n n)) gd gr gi n l q false l' q false (.slice (some ⟨(w.alloc (.cells #[.int .i64 d, .int .i64 a, .string s, .int .i64 nn, .slice kb 100 kc, .bool x] 35)).heap.size, 0, none⟩) n n) n (app l q) w.heap.size [.int .i64 d, .int .i64 a, .string s, .int .i64 nn, .slice kb 100 kc, .bool x]) := SysX.newImg hx.out hb1 (texts_blk hbk) (fun a n c e e0 => by cases e; exact ⟨Nat.le_refl _, hbk.lt⟩); have ci := ((SysX.imgBlk hx.out).below hb1 (SysX.imgBlk hx.out).lt).cell (i := 0) rfl; have fi := ((SysX.imgBlk hx.out).below hb1 (SysX.imgBlk hx.out).lt).frozen 0; rw [World.size_alloc] at hx2; clear hx hbk hb1; have hx := hx2; clear hx2; try rw [World.size_alloc])
      | (go_at_call 18; refine (x_restore hx.out).mono ?_; rintro e w1 ⟨rfl, h'⟩; clear hx bi; have hx : Hid _ := h'; clear h'; have bi := (SysX.imgBlk hx.out).cell (i := 0) rfl)
      | (go_at_call 30; refine (x_rrestore hx.out hm').mono ?_; rintro e w1 ⟨rfl, h'⟩; clear hx bi; have hx : Hid _ := h'; clear h'))
    · clear ci fi b0 b1 bi
      generalize w1.setCell ⟨gi, 0, none⟩ (.slice (some ⟨w.heap.size + 1, 0, none⟩) n n) = w2 at hx ⊢
      have h' := SysX.below hx.out (Below.refl _ _).drew
      clear hx
      have hx : Hid _ := h'
      clear h'
      have c27 := (SysX.imgBlk hx.out).cell (i := 0) rfl
      refine wp_region_noPanic ?_
      refine wp_region_held_drew (S := fun z => z.cell? ⟨gi, 0, none⟩ = some (.slice (some ⟨w.heap.size + 1, 0, none⟩) n n)) (by kernel_rfl) c27 (fun hHeld => ?_)
      refine wpAnyH_take (i := 0) (v := ?_) rfl (by kernel_rfl) (by kernel_rfl) (by kernel_rfl) (fun _ _ _ h => h) (Or.inl ⟨by rfl, ?_⟩) (by assumption) ?_
      rotate_left
      · intro w hSw; go_simp; try with_reducible rfl
      go_simp
      refine wpAnyH_take (i := 1) (v := ?_) rfl (by kernel_rfl) (by kernel_rfl) (by kernel_rfl) (fun _ _ _ h => h) (Or.inl ⟨by rfl, ?_⟩) (by assumption) ?_
      rotate_left
      · intro w hSw; go_simp; try with_reducible rfl
      go_simp
      refine wpAnyH_take (i := 2) (v := ?_) rfl (by kernel_rfl) (by kernel_rfl) (by kernel_rfl) (fun _ _ _ h => h) (Or.inl ⟨by rfl, ?_⟩) (by assumption) ?_
      rotate_left
      · intro w hSw; go_simp; try with_reducible rfl
      go_simp
      refine wpAnyH_take (i := 3) (v := ?_) rfl (by kernel_rfl) (by kernel_rfl) (by kernel_rfl) (fun _ _ _ h => h) (Or.inl ⟨by rfl, ?_⟩) (by assumption) ?_
      rotate_left
      · intro w hSw; go_simp; try with_reducible rfl
      go_simp
      obtain ⟨FR, hR⟩ := SysX.ref hx.out
      have hri := refImage_any hR hq'
      clear hR
      refine wpAnyH_ready (rs := [4]) (by kernel_rfl) (by simp) (AllReadyH.cons rfl (fun K hK => ?_) AllReadyH.nil)
      go_simp
      go_at_call 17
      refine hri.mono ?_
      rintro e wz ⟨b, c, rfl, htx, hbz⟩
      have h' := SysX.below hx.out hbz
      clear hx hri
      have hx : Hid _ := h'
      clear h'
      have htx2 : Hid _ := htx.congr (fun i hi => (app_congr q n l' l (fun i hi => (hll i hi).symm) i hi))
      clear htx
      refine hK.out _ _ ((SysX.imgBlk hx.out).cell (i := 0) rfl) (fun hHeld => ?_)
      clear hK K
      have heq := equal_true (.slice (some ⟨w.heap.size + 1, 0, none⟩) n n) (.slice b n c) n (app l q) wz (SysX.txt hx.out) htx2.out (by omega)
      refine wpAnyH_ready (rs := [5]) (by kernel_rfl) (by simp) (AllReadyH.cons rfl (fun K hK => ?_) AllReadyH.nil)
      go_simp
      go_at_call 15
      refine heq.mono ?_
      rintro e wy ⟨rfl, hby⟩
      have h' := SysX.below hx.out hby
      clear hx heq
      have hx : Hid _ := h'
      clear h'
      refine hK.out _ _ ((SysX.imgBlk hx.out).cell (i := 0) rfl) (fun hHeld => ?_)
      clear hK K
      refine wpAnyH_take (i := 6) (v := ?_) rfl (by kernel_rfl) (by kernel_rfl) (by kernel_rfl) (fun _ _ _ h => h) (Or.inl ⟨by rfl, ?_⟩) (by assumption) ?_
      rotate_left
      · intro w hSw; go_simp; try with_reducible rfl
      go_simp
      refine wpAnyH_done (by kernel_rfl) ?_ _
      refine NoPanic.normal ?_
      go_wp2_with fail
      go_ret
      exact ⟨rfl, .inl ⟨_, _, _, hn, SysX.unbox hx.out⟩⟩
    · go_ret
      exact ⟨rfl, .inr (SysX.unbox hx.out)⟩
  · have hkI : (km : Int) ≤ 100 := by omega
    have hx : Hid (SysX B w0 (w.alloc (.cells #[.int .i64 d, .int .i64 a, .string s, .int .i64 nn, .slice kb km kc, .bool x] 35)) gd gr gi n l q false l' q false v m f w.heap.size [.int .i64 d, .int .i64 a, .string s, .int .i64 nn, .slice kb km kc, .bool x]) := Sys.box h #[.int .i64 d, .int .i64 a, .string s, .int .i64 nn, .slice kb km kc, .bool x]
    have hS : Hid (∀ z, Blk z w.heap.size 35 [.int .i64 d, .int .i64 a, .string s, .int .i64 nn, .slice kb km kc, .bool x] → (fun z => z.cell? ⟨w.heap.size, 0, none⟩ = some (.int .i64 d) ∧ z.cell? ⟨w.heap.size, 1, none⟩ = some (.int .i64 a) ∧ z.cell? ⟨w.heap.size, 2, none⟩ = some (.string s) ∧ z.cell? ⟨w.heap.size, 3, none⟩ = some (.int .i64 nn) ∧ z.cell? ⟨w.heap.size, 4, none⟩ = some (.slice kb km kc) ∧ z.cell? ⟨w.heap.size, 5, none⟩ = some (.bool x)) z) := fun z hz => ⟨hz.cell rfl, hz.cell rfl, hz.cell rfl, hz.cell rfl, hz.cell rfl, hz.cell rfl⟩
    clear h
    go_enter Try.func12, Try.ntmps12
    obtain ⟨b0, b1, b2, b3, b4, b5⟩ := hS.out _ (SysX.blk hx.out)
    clear b2 b3 b4 b5
    have bi := (SysX.imgBlk hx.out).cell (i := 0) rfl
    obtain ⟨FD, hD⟩ := SysX.disk hx.out
    have him := image_any hD
    have hn := hD.size.2
    clear hD
    go_wp2_with (first
      | (go_at_call 16; refine him.mono ?_; rintro e w1 ⟨rfl, hbk, hb1⟩; have hx2 : Hid (SysX B w0 (w1.setCell ⟨gi, 0, none⟩ (.slice (some ⟨(w.alloc (.cells #[.int .i64 d, .int .i64 a, .string s, .int .i64 nn, .slice kb km kc, .bool x] 35)).heap.size, 0, none⟩) n n)) gd gr gi n l q false l' q false (.slice (some ⟨(w.alloc (.cells #[.int .i64 d, .int .i64 a, .string s, .int .i64 nn, .slice kb km kc, .bool x] 35)).heap.size, 0, none⟩) n n) n (app l q) w.heap.size [.int .i64 d, .int .i64 a, .string s, .int .i64 nn, .slice kb km kc, .bool x]) := SysX.newImg hx.out hb1 (texts_blk hbk) (fun a n c e e0 => by cases e; exact ⟨Nat.le_refl _, hbk.lt⟩); have ci := ((SysX.imgBlk hx.out).below hb1 (SysX.imgBlk hx.out).lt).cell (i := 0) rfl; have fi := ((SysX.imgBlk hx.out).below hb1 (SysX.imgBlk hx.out).lt).frozen 0; rw [World.size_alloc] at hx2; clear hx hbk hb1; have hx := hx2; clear hx2; try rw [World.size_alloc])
      | (go_at_call 18; refine (x_restore hx.out).mono ?_; rintro e w1 ⟨rfl, h'⟩; clear hx bi; have hx : Hid _ := h'; clear h'; have bi := (SysX.imgBlk hx.out).cell (i := 0) rfl)
      | (go_at_call 30; refine (x_rrestore hx.out hm').mono ?_; rintro e w1 ⟨rfl, h'⟩; clear hx bi; have hx : Hid _ := h'; clear h'))
    · clear ci fi b0 b1 bi
      generalize w1.setCell ⟨gi, 0, none⟩ (.slice (some ⟨w.heap.size + 1, 0, none⟩) n n) = w2 at hx ⊢
      have h' := SysX.below hx.out (Below.refl _ _).drew
      clear hx
      have hx : Hid _ := h'
      clear h'
      have c27 := (SysX.imgBlk hx.out).cell (i := 0) rfl
      refine wp_region_noPanic ?_
      refine wp_region_held_drew (S := fun z => z.cell? ⟨gi, 0, none⟩ = some (.slice (some ⟨w.heap.size + 1, 0, none⟩) n n)) (by kernel_rfl) c27 (fun hHeld => ?_)
      refine wpAnyH_take (i := 0) (v := ?_) rfl (by kernel_rfl) (by kernel_rfl) (by kernel_rfl) (fun _ _ _ h => h) (Or.inl ⟨by rfl, ?_⟩) (by assumption) ?_
      rotate_left
      · intro w hSw; go_simp; try with_reducible rfl
      go_simp
      refine wpAnyH_take (i := 1) (v := ?_) rfl (by kernel_rfl) (by kernel_rfl) (by kernel_rfl) (fun _ _ _ h => h) (Or.inl ⟨by rfl, ?_⟩) (by assumption) ?_
      rotate_left
      · intro w hSw; go_simp; try with_reducible rfl
      go_simp
      refine wpAnyH_take (i := 2) (v := ?_) rfl (by kernel_rfl) (by kernel_rfl) (by kernel_rfl) (fun _ _ _ h => h) (Or.inl ⟨by rfl, ?_⟩) (by assumption) ?_
      rotate_left
      · intro w hSw; go_simp; try with_reducible rfl
      go_simp
      refine wpAnyH_take (i := 3) (v := ?_) rfl (by kernel_rfl) (by kernel_rfl) (by kernel_rfl) (fun _ _ _ h => h) (Or.inl ⟨by rfl, ?_⟩) (by assumption) ?_
      rotate_left
      · intro w hSw; go_simp; try with_reducible rfl
      go_simp
      obtain ⟨FR, hR⟩ := SysX.ref hx.out
      have hri := refImage_any hR hq'
      clear hR
      refine wpAnyH_ready (rs := [4]) (by kernel_rfl) (by simp) (AllReadyH.cons rfl (fun K hK => ?_) AllReadyH.nil)
      go_simp
      go_at_call 17
      refine hri.mono ?_
      rintro e wz ⟨b, c, rfl, htx, hbz⟩
      have h' := SysX.below hx.out hbz
      clear hx hri
      have hx : Hid _ := h'
      clear h'
      have htx2 : Hid _ := htx.congr (fun i hi => (app_congr q n l' l (fun i hi => (hll i hi).symm) i hi))
      clear htx
      refine hK.out _ _ ((SysX.imgBlk hx.out).cell (i := 0) rfl) (fun hHeld => ?_)
      clear hK K
      have heq := equal_true (.slice (some ⟨w.heap.size + 1, 0, none⟩) n n) (.slice b n c) n (app l q) wz (SysX.txt hx.out) htx2.out (by omega)
      refine wpAnyH_ready (rs := [5]) (by kernel_rfl) (by simp) (AllReadyH.cons rfl (fun K hK => ?_) AllReadyH.nil)
      go_simp
      go_at_call 15
      refine heq.mono ?_
      rintro e wy ⟨rfl, hby⟩
      have h' := SysX.below hx.out hby
      clear hx heq
      have hx : Hid _ := h'
      clear h'
      refine hK.out _ _ ((SysX.imgBlk hx.out).cell (i := 0) rfl) (fun hHeld => ?_)
      clear hK K
      refine wpAnyH_take (i := 6) (v := ?_) rfl (by kernel_rfl) (by kernel_rfl) (by kernel_rfl) (fun _ _ _ h => h) (Or.inl ⟨by rfl, ?_⟩) (by assumption) ?_
      rotate_left
      · intro w hSw; go_simp; try with_reducible rfl
      go_simp
      refine wpAnyH_done (by kernel_rfl) ?_ _
      refine NoPanic.normal ?_
      go_wp2_with fail
      go_ret
      exact ⟨rfl, .inl ⟨_, _, _, hn, SysX.unbox hx.out⟩⟩
    · go_ret
      exact ⟨rfl, .inr (SysX.unbox hx.out)⟩
end Go.Proofs.Ytmgllcmfnljfjaa
