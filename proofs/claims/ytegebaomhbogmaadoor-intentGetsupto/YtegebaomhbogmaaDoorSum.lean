/- A new digest under way, its length, and what it comes to. -/
import Derived.Test.YtegebaomhbogmaaDoorWrite
import Derived.Deep.WholeRow
namespace Go.Proofs.YtegebaomhbogmaaDoor
open Go.RowKit Go.PlainAid
set_option linter.unusedVariables false

set_option maxRecDepth 20000 in
theorem Tryd.zero118 : (Tryd.prog.info? 118).map (fun i => i.zero) = some (some (.agg (hcells (fun _ => 0) (fun _ => 0) 0).toArray)) := by kernel_rfl
set_option maxRecDepth 20000 in
theorem zero118_run (w : World) : (zeroValue 118).run Tryd.prog w = .ok (.agg (hcells (fun _ => 0) (fun _ => 0) 0).toArray) w := by
  obtain ⟨i, hi, hz⟩ := Option.map_eq_some_iff.1 Tryd.zero118
  simp [zeroValue, typeInfo, hi, hz]
set_option maxRecDepth 20000 in
theorem Tryd.size118 : (Tryd.prog.info? 118).map (·.size) = some 73 := by kernel_rfl
set_option maxRecDepth 20000 in
theorem build44 (Z : Array Value) (h : Z = (hcells (fun _ => 0) (fun _ => 0) 0).toArray) : ((((((((Z.setIfInBounds 0 (Value.int .u32 1779033703)).setIfInBounds 1 (Value.int .u32 3144134277)).setIfInBounds 2 (Value.int .u32 1013904242)).setIfInBounds 3 (Value.int .u32 2773480762)).setIfInBounds 4 (Value.int .u32 1359893119)).setIfInBounds 5 (Value.int .u32 2600822924)).setIfInBounds 6 (Value.int .u32 528734635)).setIfInBounds 7 (Value.int .u32 1541459225)) = (hcells ini (fun _ => 0) 0).toArray := by
  subst h
  kernel_rfl
set_option maxRecDepth 20000 in
theorem hash_new (w : World) : HashAt (w.alloc (.cells (hcells ini (fun _ => 0) 0).toArray 118)) w.heap.size ⟨#[]⟩ := by
  refine ⟨fun _ => 0, fun _ => by show (0 : Int) ≤ 0 ∧ (0 : Int) ≤ 255; omega, fun i hi => ?_, ?_⟩
  · have : (⟨#[]⟩ : ByteArray).size = 0 := rfl
    rw [this] at hi; omega
  · have := Blk.new w 118 (hcells ini (fun _ => 0) 0).toArray
    rw [List.toList_toArray] at this
    exact this

set_option maxRecDepth 20000 in
theorem new_any (w : World) : Calls Tryd.prog 54 #[] w fun e w' => e = .returned (.pointer (some ⟨w.heap.size, 0, none⟩)) ∧ HashAt w' w.heap.size ⟨#[]⟩ ∧ Below w.heap.size w w' := by
  have hn := hash_new w
  first
  | (have hz : Tryd.zeroCells118 = (hcells (fun _ => 0) (fun _ => 0) 0).toArray := by kernel_rfl
     have hb := build44 _ hz
     go_enter Tryd.func54, Tryd.ntmps54
     go_wp2_with fail
     go_ret
     rw [hb]
     exact ⟨rfl, hn, (Below.refl _ _).alloc (Nat.le_refl _) _⟩)
  | (have hzr := zero118_run
     have hb := build44 _ rfl
     have hzs : ((hcells (fun _ => 0) (fun _ => 0) 0).toArray.size < 8) = False := by simp [hcells_length]
     generalize (hcells (fun _ => 0) (fun _ => 0) 0).toArray = Z at hzr hb hzs
     go_enter Tryd.func54, Tryd.ntmps54
     go_wp2_with fail
     go_ret
     exact ⟨rfl, hn, (Below.refl _ _).alloc (Nat.le_refl _) _⟩)
set_option maxRecDepth 20000 in
theorem sum_nil (w : World) : Calls Tryd.prog 56 #[.pointer none] w fun e w' => e = .returned (.string ⟨#[]⟩) ∧ w' = w := by
  go_enter Tryd.func56, Tryd.ntmps56
  go_wp2
  go_ret
  exact ⟨rfl, rfl⟩

set_option maxRecDepth 20000 in
theorem store_over (w : World) (c c' : Array Value) (T : TypeId) : (w.alloc (.cells c T)).setRow w.heap.size c' = w.alloc (.cells c' T) := World.setRow_alloc_new w c c' T

set_option maxHeartbeats 1000000 in
set_option maxRecDepth 20000 in
theorem sum_any (g : Nat) (s : ByteArray) (hs : s.size ≤ 149000000000000) (w : World) (h : HashAt w g s) (ht : Tabs w) :
    Calls Tryd.prog 56 #[.pointer (some ⟨g, 0, none⟩)] w fun e w' => e = .returned (.string (digest s)) ∧ Below w.heap.size w w' := by
  have hlt := h.lt
  have hH := h
  obtain ⟨R, hR0, hR1, hB⟩ := h
  obtain ⟨L, hL⟩ : ∃ L, hcells (hst s (s.size / 64)) R s.size = L := ⟨_, rfl⟩
  have hLl : L.length = 73 := by rw [← hL, hcells_length]
  have hLo : ∀ v ∈ L, v.oneCell' = true := by rw [← hL]; exact hcells_one _ _ _
  have c72 : w.cell? ⟨g, 72, none⟩ = some (.int .i64 (s.size : Int)) := hB.cell (hcells_len _ R s.size)
  have hE : HashAt (w.alloc (.cells L.toArray 118)) w.heap.size s := by
    refine ⟨R, hR0, hR1, ?_⟩
    rw [hL]
    have := Blk.new w 118 L.toArray
    simpa using this
  rw [hL] at hB
  clear hL hR0 hR1
  have hzr := zero118_run
  obtain ⟨Z, hZ⟩ : ∃ Z, hcells (fun _ => 0) (fun _ => 0) 0 = Z := ⟨_, rfl⟩
  have hZl : Z.length = 73 := by rw [← hZ, hcells_length]
  rw [hZ] at hzr
  clear hZ
  have hB2 : Blk (w.alloc (.cells Z.toArray 118)) w.heap.size 118 Z := by
    have := Blk.new w 118 Z.toArray
    simpa using this
  have c72' : ((w.alloc (.cells Z.toArray 118)).setRow w.heap.size L.toArray).cell? ⟨g, 72, none⟩ = some (.int .i64 (s.size : Int)) := by
    rw [store_over, World.cell?_alloc_some _ _ _ (by rw [c72]; rfl)]; exact c72
  have hE' : HashAt ((w.alloc (.cells Z.toArray 118)).setRow w.heap.size L.toArray) w.heap.size s := by rw [store_over]; exact hE
  have hb0 : Below w.heap.size w ((w.alloc (.cells Z.toArray 118)).setRow w.heap.size L.toArray) := by rw [store_over]; exact (Below.refl _ _).alloc (Nat.le_refl _) _
  clear hE
  go_enter Tryd.func56, Tryd.ntmps56
  go_wp2_with (first | (refine wpList_load_blk rfl 118 _ rfl g rfl 118 L _ hB Tryd.underlying118 rfl (by rw [Tryd.size118, hLl]) ?_) | (refine wpList_store_blk rfl 118 _ _ rfl w.heap.size Z L rfl rfl 118 hB2 (by rw [Tryd.size118, hLl]) (by rw [hZl, hLl]) hLo ?_))
  generalize (w.alloc (.cells Z.toArray 118)).setRow w.heap.size L.toArray = w1 at c72' hE' hb0 ⊢
  have h2 := ht.lt
  have ht1 := ht.below hb0 h2
  clear c72 hB hB2 hzr hLl hLo hZl hH ht
  obtain ⟨G, hG⟩ : ∃ G, w.heap.size = G := ⟨_, rfl⟩
  rw [hG] at hE' hb0 h2 hlt ⊢
  have HG : Hid (w.heap.size = G) := hG
  clear hG
  refine (ending_any s.size (by omega) w1).mono ?_
  rintro e w2 ⟨rfl, hb2⟩
  have hE2 := hE'.below hb2 hE'.lt
  have ht2 := ht1.below hb2 ht1.lt
  have hb3 : Below G w w2 := hb0.trans (hb2.mono (Nat.le_of_lt hE'.lt))
  clear hE' ht1 hb0 hb2 c72'
  have hes : (endB s.size).size ≤ 100 := by rw [endB_size]; unfold zs; omega
  have hW := write_any G s (endB s.size) (by omega) w2 hE2 ht2 (by omega)
  rw [show s ++ endB s.size = padB s from rfl] at hW
  generalize endB s.size = E at hW ⊢
  go_wp2_with (go_at_call 55; refine hW.mono ?_; rintro e w3 ⟨rfl, hH3, ho3⟩)
  have hb4 : Below G w w3 := Below.only hb3 ho3 (Nat.le_of_lt hE2.lt) (Nat.le_refl _)
  have hlt3 := hH3.lt
  clear hW ho3 hE2 ht2 hb3
  obtain ⟨R', _, _, hB3⟩ := hH3
  have hok := hst_ok (padB s) ((padB s).size / 64)
  have HD : Hid (digest s = strOfNums (joinF fourB (hst (padB s) ((padB s).size / 64)) 8)) := rfl
  generalize hst (padB s) ((padB s).size / 64) = S at hB3 hok HD
  have hat : At w3 (some ⟨G, 0, none⟩) 8 S := .inr ⟨G, 0, rfl, fun i hi => by rw [Nat.zero_add]; exact hB3.cell (hcells_state S R' _ i hi)⟩
  go_wp2_with (go_at_call 33; refine (fromBig_any _ 8 8 S _ (by omega) hat hok).mono ?_; rintro e w4 ⟨rfl, hb5⟩)
  go_ret
  refine ⟨by rw [HD.out]; rfl, ?_⟩
  rw [HG.out]
  exact hb4.trans (hb5.mono (by omega))

set_option maxRecDepth 20000 in
theorem none_join (s : ByteArray) : (⟨#[]⟩ : ByteArray) ++ s = s := by
  apply ByteArray.ext
  rw [ByteArray.data_append]
  simp
set_option maxRecDepth 20000 in
theorem write_first (g : Nat) (t : ByteArray) (hsz : t.size ≤ 150000000000000) (w : World) (hh : HashAt w g ⟨#[]⟩) (ht : Tabs w) (hg2 : g ≠ 2) :
    Calls Tryd.prog 55 #[.pointer (some ⟨g, 0, none⟩), .string t] w fun e w' => e = .returned (.tuple #[]) ∧ HashAt w' g t ∧ Only g w w' := by
  have h := write_any g ⟨#[]⟩ t (by show 0 + t.size ≤ _; omega) w hh ht hg2
  rw [none_join] at h
  exact h

set_option maxRecDepth 20000 in
set_option maxHeartbeats 400000 in
theorem ofKind_any (kd s : ByteArray) (hsz : kd.size + s.size ≤ 149000000000000) (w : World) (ht : Tabs w) :
    Calls Tryd.prog 44 #[.string kd, .string s] w fun e w' => e = .returned (.string (digest (kd ++ s))) ∧ Below w.heap.size w w' := by
  have h2 := ht.lt
  go_enter Tryd.func44, Tryd.ntmps44
  go_wp2_with fail
  refine (new_any w).mono ?_
  rintro e w1 ⟨rfl, hH1, hb1⟩
  obtain ⟨G, hG⟩ : ∃ G, w.heap.size = G := ⟨_, rfl⟩
  rw [hG] at hH1 hb1 h2 ⊢
  have HG : Hid (w.heap.size = G) := hG
  have ht1 := ht.below hb1 h2
  clear hG ht
  go_wp2_with fail
  refine (write_first G kd (by omega) w1 hH1 ht1 (by omega)).mono ?_
  rintro e w2 ⟨rfl, hH2, ho2⟩
  have ht2 := ht1.only ho2 (by omega)
  have hb2 : Below G w w2 := Below.only hb1 ho2 (Nat.le_of_lt hH1.lt) (Nat.le_refl _)
  clear hH1 ht1 hb1 ho2
  go_wp2_with fail
  refine (write_any G kd s (by omega) w2 hH2 ht2 (by omega)).mono ?_
  rintro e w3 ⟨rfl, hH3, ho3⟩
  have ht3 := ht2.only ho3 (by omega)
  have hb3 : Below G w w3 := Below.only hb2 ho3 (Nat.le_of_lt hH2.lt) (Nat.le_refl _)
  clear hH2 ht2 hb2 ho3
  go_wp2_with fail
  refine (sum_any G (kd ++ s) (by rw [ByteArray.size_append]; omega) w3 hH3 ht3).mono ?_
  rintro e w4 ⟨rfl, hb4⟩
  have hb5 : Below G w w4 := hb3.trans (hb4.mono (Nat.le_of_lt hH3.lt))
  clear hH3 ht3 hb3 hb4
  go_wp2_with fail
  go_ret
  exact ⟨rfl, by rw [HG.out]; exact hb5⟩
set_option maxRecDepth 20000 in
theorem top_any (s : ByteArray) (hsz : s.size ≤ 148000000000000) (w : World) (ht : Tabs w) :
    Calls Tryd.prog 35 #[.string s] w fun e w' => e = .returned (.string (digest (⟨#[2]⟩ ++ s))) ∧ Below w.heap.size w w' := by
  have h := ofKind_any ⟨#[2]⟩ s (by show 1 + s.size ≤ _; omega) w ht
  go_enter Tryd.func35, Tryd.ntmps35
  go_wp2_with (go_at_call 44; refine h.mono ?_; rintro e w' ⟨rfl, hb⟩)
  go_ret
  exact ⟨rfl, hb⟩
end Go.Proofs.YtegebaomhbogmaaDoor
