/- The law DiskLasts, walked. -/
import Derived.Test.YtmgllcmfnljfjaaDkLastsL
namespace Go.Proofs.Ytmgllcmfnljfjaa
open Go.RowKit Go.PlainAid
set_option linter.unusedVariables false

set_option maxRecDepth 20000 in
set_option maxHeartbeats 8000000 in
theorem diskLasts_law (ia : Option Addr) (ilen icap : Nat) (s : Option Addr) (len cap : Nat) (ka : Option Addr) (klen kcap : Nat) (W : World) (hi : TextsArg W ia ilen icap) (hs : ActsArg W s len cap) (hk : BoolsArg W ka klen kcap) : Calls Try.prog 5 #[.slice ia ilen icap, .slice s len cap, .slice ka klen kcap] W fun e w' => e = .returned (.bool true) ∧ Below W.heap.size W w' := by
  have hl1 := hs.1
  have hl2 := hs.2.1
  have HS : Hid (ActsArg W s len cap) := hs
  obtain ⟨hm1, f, hf, hfs⟩ := hi
  obtain ⟨kk, hkb, hk1, hk2⟩ := hk
  have hic : ilen ≤ icap := by
    obtain ⟨a', cap', e, h0, h1⟩ := hf
    cases e
    exact h0
  obtain ⟨c1, hc1⟩ : ∃ c1 : Nat, (if (20 : Int) < (ilen : Int) then (20 : Int) else (ilen : Int)) = (c1 : Int) := by split; exact ⟨20, rfl⟩; exact ⟨ilen, rfl⟩
  obtain ⟨c2, hc2⟩ : ∃ c2 : Nat, (if (40 : Int) < (len : Int) then (40 : Int) else (len : Int)) = (c2 : Int) := by split; exact ⟨40, rfl⟩; exact ⟨len, rfl⟩
  obtain ⟨c3, hc3⟩ : ∃ c3 : Nat, (if (60 : Int) < (klen : Int) then (60 : Int) else (klen : Int)) = (c3 : Int) := by split; exact ⟨60, rfl⟩; exact ⟨klen, rfl⟩
  have h1 : c1 ≤ 20 ∧ c1 ≤ ilen := by constructor <;> (split at hc1 <;> omega)
  have h2 : c2 ≤ 40 ∧ c2 ≤ len := by constructor <;> (split at hc2 <;> omega)
  have h3 : c3 ≤ 60 ∧ c3 ≤ klen := by constructor <;> (split at hc3 <;> omega)
  have HF : Hid (TextsAt W (.slice ia ilen icap) ilen f) := hf
  have HFS : Hid (∀ i, i < ilen → (f i).size ≤ maxLen) := hfs
  have HK : Hid (BoolsAt W (.slice ka c3 kcap) c3 (fun i => if i < c3 then kk i else false) ∧ Old W.heap.size (.slice ka c3 kcap)) := ⟨hkb.cut c3 h3.2, Old.cut hkb c3 h3.2⟩
  have hnew := h_new firm_nought (hold_nought W.heap.size W W.drew (Nat.le_refl _) (Below.refl _ _).drew) 20
  obtain ⟨S0, hS0⟩ : ∃ S0 : Nat → ByteArray, S0 = fun i => if i < c1 then (f i).extract 0 (min (f i).size 50) else noB := ⟨_, rfl⟩
  have HS0 : Hid (∀ i, S0 i = if i < c1 then (f i).extract 0 (min (f i).size 50) else noB) := fun i => by rw [hS0]
  have HSZ : Hid (∀ i, (S0 i).size ≤ 50) := fun i => by
    rw [hS0]
    show (if i < c1 then (f i).extract 0 (min (f i).size 50) else noB).size ≤ 50
    split
    · rw [ByteArray.size_extract]; omega
    · show (0 : Nat) ≤ 50; omega
  have hmk := make_maps (fun _ => 0)
  obtain ⟨Z0, hZ0⟩ : ∃ Z0, (mapsL 0 fun _ => 0).toArray = Z0 := ⟨_, rfl⟩
  rw [hZ0] at hmk
  have HZ0 : Hid ((mapsL 0 fun _ => 0).toArray = Z0) := hZ0
  have hmm := @run_makeMap Try.prog
  clear hs hf hkb hfs hS0 hZ0
  go_enter Try.func5, Try.ntmps5
  go_wp2_with fail
  go_region
  clear hc1 hc2 hc3
  go_wp2_with (first
    | (go_at_call 8; refine hnew.mono ?_; rintro e w1 ⟨g, rfl, h'⟩; clear hnew; rw [show newN 20 = 20 from rfl] at h'; have ht : Hid _ := h'; clear h')
    | (go_at_call 10; refine (wakes_any _).mono ?_; rintro e w2 ⟨rfl, hbz⟩; have h' := Hold.below ht.out ((firm_dsk _ _ _ _ _).star firm_nought) hbz; clear ht hbz; have ht : Hid _ := h'; clear h'))
  have hgo : Hold W.heap.size W (w2.alloc (.cells Z0 50)) (star (mays w2.heap.size 0 1 (fun _ => 0) (fun i t => t = S0 i)) (star (dsk g 20 (fun _ => noB) [] false) nought)) :=
    Hold.new ((firm_dsk _ _ _ _ _).star firm_nought) ht.out ((Below.refl _ _).alloc (Nat.le_refl _) _) (G := fun k => k = w2.heap.size) ⟨by have := Blk.new w2 50 Z0; rw [← HZ0.out] at this ⊢; exact this, rfl, (fun i hi => by omega), (fun i j hi => by omega), (fun x hx => by rw [hx]; simp)⟩ (fun k hk => by rw [hk]; exact Nat.le_refl _)
  obtain ⟨gm, hgm⟩ : ∃ gm, w2.heap.size = gm := ⟨_, rfl⟩
  rw [hgm] at hgo
  have ht3 : Hid (Hold W.heap.size W (w2.alloc (.cells Z0 50)) (star (dsk g 20 (fun _ => noB) [] false) (mays gm 0 1 (fun _ => 0) (fun i t => t = S0 i)))) := (hgo.swap.monoR (fun F => star_comm)).monoR (fun F ⟨G, H, k1, k2, k3, k4⟩ => by
    have e : F = H := funext fun k => propext ((k4 k).trans ⟨fun h => h.elim (fun h => absurd h (k1 k)) id, .inr⟩)
    rw [e]; exact k2)
  rw [hgm]
  clear ht hgo hmk hgm
  generalize w2.alloc (.cells Z0 50) = w3 at ht3 ⊢
  go_loopw [38] (fun i wr => ∃ j : Nat, j ≤ 20 ∧ i = .int .i64 (j : Int) ∧ Hid (∃ mb, Hold W.heap.size W wr (star (dsk g 20 (fun _ => noB) (firstQ S0 j) false) (mays gm j 1 mb (fun i t => t = S0 i))))) (fun i _ => 20 - (intOf i).toNat)
  case atStart => exact ⟨0, Nat.zero_le _, rfl, _, ht3.out⟩
  case round =>
    clear ht3
    obtain ⟨j, hj, rfl, hrr⟩ := hrel
    by_cases hlt : j < 20
    · have hj' : (j : Int) < 20 := by omega
      obtain ⟨mb, hh⟩ := hrr.out
      have ht : Hid _ := hh
      have hbw : Below W.heap.size W wr := Hold.low hh
      have hwd := h_write (firm_mays _ _ _ _ _) (Hold.below hh ((firm_dsk _ _ _ _ _).star (firm_mays _ _ _ _ _)) (Below.refl _ _).drew) (j : Int) (S0 j) (by rw [firstQ_length]; omega)
      have hwr := h_write (firm_mays _ _ _ _ _) hh (j : Int) (S0 j) (by rw [firstQ_length]; omega)
      have hsz := HSZ.out j
      unfold putQ at hwr hwd
      rw [errW_ok 20 j (S0 j) hlt (by omega), if_pos rfl, Int.toNat_natCast, ← firstQ_succ] at hwr hwd
      have hfin : Hid (∀ wy, Hold W.heap.size W wy (star (dsk g 20 (fun _ => noB) (firstQ S0 (j + 1)) false) (mays gm j 1 mb (fun i t => t = S0 i))) → ∃ w', (Instr.mapUpdate 50 (.map (some wy.heap.size)) (.string (S0 j)) (.bool true)).run Try.prog (wy.alloc (.map #[] 0)) = .ok () w' ∧ (∃ u, w'.cell? ⟨gm, j, none⟩ = some u) ∧ w'.frozen? ⟨gm, j, none⟩ = false ∧
          Hid (∃ mb', Hold W.heap.size W (w'.setCell ⟨gm, j, none⟩ (.map (some wy.heap.size))) (star (dsk g 20 (fun _ => noB) (firstQ S0 (j + 1)) false) (mays gm (j + 1) 1 mb' (fun i t => t = S0 i))))) := fun wy hy => by
        obtain ⟨w', r1, r2, r3, r4⟩ := may_new (n := 0) (firm_dsk _ _ _ _ _) (Hold.comm hy) hlt (S0 j) (by unfold maxLen; omega)
        refine ⟨w', r1, r2, r3, _, (Hold.comm r4).monoR (fun F hm => mays_congr hm (fun i t hi hJ => ?_))⟩
        by_cases e : i = j
        · rw [e] at hJ ⊢; simp only [if_true]; exact hJ
        · simp only [if_neg e]; exact hJ
      clear hrr hh ht
      by_cases hjc : j < c1
      · have hjc' : (j : Int) < (c1 : Int) := by omega
        obtain ⟨ib, io, hia, hcj⟩ := HF.out.cellOf (texts_apart HF.out ilen (Nat.le_refl _) _) hbw j (by omega)
        subst hia
        have cj := hcj wr hbw
        have hfj := HFS.out j (by omega)
        have hSj := HS0.out j
        rw [if_pos hjc] at hSj
        obtain ⟨cs, hcs⟩ : ∃ cs : Nat, (if (50 : Int) < ((f j).size : Int) then (50 : Int) else ((f j).size : Int)) = (cs : Int) := by split; exact ⟨50, rfl⟩; exact ⟨(f j).size, rfl⟩
        have hcs1 : cs = min (f j).size 50 := by split at hcs <;> omega
        rw [← hcs1] at hSj
        obtain ⟨t, hte⟩ : ∃ t, f j = t := ⟨_, rfl⟩
        rw [hte] at cj hSj hcs hcs1 hfj
        have hcs2 : cs ≤ t.size := by omega
        obtain ⟨u, hu⟩ : ∃ u, S0 j = u := ⟨_, rfl⟩
        rw [hu] at hwd hfin hSj hsz
        clear hwr
        have hSe : t.extract 0 cs = u := hSj.symm
        clear hcj hcs1 hSj hte hu
        go_wp2_with fail
        go_region
        clear hcs hcs2 hSe cj
        go_wp2_with (go_at_call 21; refine hwd.mono ?_; rintro e wy ⟨rfl, hy⟩; clear hwd; obtain ⟨w', r1, ⟨u0, r2⟩, r3, r4⟩ := hfin.out wy hy; clear hfin hy)
        go_roundw
        case rel => exact ⟨j + 1, by omega, by go_num, r4.out⟩
        case measure => simp [intOf]; omega
      · have hjc' : ¬ (j : Int) < (c1 : Int) := by omega
        have hSj := HS0.out j
        rw [if_neg hjc] at hSj
        rw [hSj] at hwr hfin
        clear hSj hwd
        go_wp2_with (go_at_call 21; refine hwr.mono ?_; rintro e wy ⟨rfl, hy⟩; clear hwr; obtain ⟨w', r1, ⟨u0, r2⟩, r3, r4⟩ := hfin.out wy hy; clear hfin hy)
        go_roundw
        case rel => exact ⟨j + 1, by omega, by go_num, r4.out⟩
        case measure => simp [intOf]; omega
    · obtain rfl : j = 20 := by omega
      rw [show ((20 : Nat) : Int) = 20 from rfl]
      obtain ⟨mb, hh⟩ := hrr.out
      obtain ⟨l1, hl1e⟩ : ∃ l1, app (fun _ => noB) (firstQ S0 20) = l1 := ⟨_, rfl⟩
      have HL : Hid (∀ i, i < 20 → l1 i = S0 i) := fun i hi => by rw [← hl1e, app_first, if_pos hi]
      have hfl := h_flush (firm_mays _ _ _ _ _) hh
      rw [show flushL (fun _ => noB) (firstQ S0 20) false = app (fun _ => noB) (firstQ S0 20) from rfl, hl1e, show flushQ (firstQ S0 20) false = [] from rfl, show errD false = 0 from rfl] at hfl
      clear hrr hh hl1e
      go_wp2_with (go_at_call 22; refine hfl.mono ?_; rintro e w4 ⟨rfl, h'⟩; clear hfl; have ht4 : Hid _ := h'; clear h')
      go_loopw [73] (fun i wr => ∃ j : Nat, j ≤ c2 ∧ i = .int .i64 (j : Int) ∧ Hid (∃ q I, Hold W.heap.size W wr (star (dsk g 20 l1 q false) (mays gm 20 (j + 1) mb I)) ∧ q.length ≤ j ∧ (∀ p ∈ q, I p.1 p.2 ∧ p.2.size ≤ 3000) ∧ ∀ i, i < 20 → I i (l1 i))) (fun i _ => c2 - (intOf i).toNat)
      case atStart => exact ⟨0, Nat.zero_le _, rfl, [], _, ht4.out, Nat.le_refl _, (fun p hp => by cases hp), fun i hi => HL.out i hi⟩
      case round =>
        clear ht4
        obtain ⟨j, hj, rfl, hrr⟩ := hrel
        obtain ⟨q, I, hh, hq, hqI, hlI⟩ := hrr.out
        have hbw : Below W.heap.size W wr := Hold.low hh
        by_cases hlt : j < c2
        · have hj' : (j : Int) < (c2 : Int) := by omega
          obtain ⟨sb, so, A, hsa, hA, hoA, e0, e1, e2, e3, e4, e5⟩ := acts_at HS.out hbw j (by omega)
          subst hsa
          obtain ⟨d, a, t, nn, x, kb, km, kc, kk2⟩ := A
          simp only [ActD.row] at e4
          have hsz := bytesB_size t nn
          obtain ⟨bx, hbx⟩ : ∃ bx, wr.heap.size = bx := ⟨_, rfl⟩
          have ht1 : Hold W.heap.size W (wr.alloc (.cells #[.int .i64 d, .int .i64 a, .string t, .int .i64 nn, .slice kb km kc, .bool x] 35)) (star (blk bx 35 [.int .i64 d, .int .i64 a, .string t, .int .i64 nn, .slice kb km kc, .bool x]) (star (dsk g 20 l1 q false) (mays gm 20 (j + 1) mb I))) :=
            Hold.new ((firm_dsk _ _ _ _ _).star (firm_mays _ _ _ _ _)) hh ((Below.refl _ _).alloc (Nat.le_refl _) _) (G := fun k => k = wr.heap.size) ⟨by rw [← hbx]; exact Blk.new wr 35 #[.int .i64 d, .int .i64 a, .string t, .int .i64 nn, .slice kb km kc, .bool x], fun k => by rw [← hbx]⟩ (fun k hk => by rw [hk]; exact Nat.le_refl _)
          have ht : Hid _ := ht1.swap
          have hby := bytes_any d a t nn kb km kc x (wr.alloc (.cells #[.int .i64 d, .int .i64 a, .string t, .int .i64 nn, .slice kb km kc, .bool x] 35))
          have HQ : Hid _ := And.intro hq (And.intro hqI hlI)
          obtain ⟨u, hu⟩ : ∃ u, bytesB t nn = u := ⟨_, rfl⟩
          rw [hu] at hby hsz
          have hql : q.length ≤ 1000000 := by omega
          clear hrr hh ht1 hbw hq hqI hlI hu
          rcases errW_cases false 20 a u with ⟨E, hE1, hE0, hE⟩ | ⟨hE1, hE, hus⟩ | ⟨-, hE, hus, k, rfl, hk20⟩
          · have hq2 : putQ q false 20 a u = q := by unfold putQ; rw [hE, if_neg hE0]
            have hEb : (E == 0) = false := by simpa using hE0
            have hEe : (E = 0) = False := eq_false hE0
            clear hE1 hE0
            go_wp2_with (first
              | (go_at_call 23; refine hby.mono ?_; rintro e wy ⟨rfl, hbz⟩; clear hby; have h' := Hold.below ht.out ((firm_dsk _ _ _ _ _).star ((firm_blk _ _ _).star (firm_mays _ _ _ _ _))) hbz; clear ht hbz; have hbk := (Hold.swap h').blk; have cA := hbk.cell (i := 1) rfl; have hwr := h_write ((firm_blk _ _ _).star (firm_mays _ _ _ _ _)) h' a u hql; rw [hE, hq2] at hwr; clear h' hbk)
              | (go_at_call 21; refine hwr.mono ?_; rintro e wz ⟨rfl, h'⟩; clear hwr cA; have hfin : Hid _ := Hold.right (Hold.swap h'); clear h'))
            go_roundw
            case rel =>
              refine ⟨j + 1, by omega, by go_num, q, I, ?_, by have := HQ.out.1; omega, HQ.out.2.1, HQ.out.2.2⟩
              exact Hold.monoR hfin.out (fun F hm => mays_more hm)
            case measure => simp [intOf]; omega
          · have hq2 : putQ q false 20 a u = q := by unfold putQ; rw [hE, if_neg (by decide)]
            clear hE1
            go_wp2_with (first
              | (go_at_call 23; refine hby.mono ?_; rintro e wy ⟨rfl, hbz⟩; clear hby; have h' := Hold.below ht.out ((firm_dsk _ _ _ _ _).star ((firm_blk _ _ _).star (firm_mays _ _ _ _ _))) hbz; clear ht hbz; have hbk := (Hold.swap h').blk; have cA := hbk.cell (i := 1) rfl; have hwr := h_write ((firm_blk _ _ _).star (firm_mays _ _ _ _ _)) h' a u hql; rw [hE, hq2] at hwr; clear h' hbk)
              | (go_at_call 21; refine hwr.mono ?_; rintro e wz ⟨rfl, h'⟩; clear hwr cA; have hfin : Hid _ := Hold.right (Hold.swap h'); clear h'))
            go_roundw
            case rel =>
              refine ⟨j + 1, by omega, by go_num, q, I, ?_, by have := HQ.out.1; omega, HQ.out.2.1, HQ.out.2.2⟩
              exact Hold.monoR hfin.out (fun F hm => mays_more hm)
            case measure => simp [intOf]; omega
          · have hq2 : putQ q false 20 (k : Int) u = q ++ [(k, u)] := by unfold putQ; rw [hE, if_pos rfl, Int.toNat_natCast]
            have hk0 : ¬ (k : Int) < 0 := by omega
            have hk1' : ¬ (20 : Int) ≤ (k : Int) := by omega
            have hk2' : (k : Int) < 20 := by omega
            go_wp2_with (first
              | (go_at_call 23; refine hby.mono ?_; rintro e wy ⟨rfl, hbz⟩; clear hby; have h' := Hold.below ht.out ((firm_dsk _ _ _ _ _).star ((firm_blk _ _ _).star (firm_mays _ _ _ _ _))) hbz; clear ht hbz; have hbk := (Hold.swap h').blk; have cA := hbk.cell (i := 1) rfl; have hwr := h_write ((firm_blk _ _ _).star (firm_mays _ _ _ _ _)) h' (k : Int) u hql; rw [hE, hq2] at hwr; clear h' hbk)
              | (go_at_call 21; refine hwr.mono ?_; rintro e wz ⟨rfl, h'⟩; clear hwr cA; have hbk := (Hold.swap h').blk; have cA := hbk.cell (i := 1) rfl; have h2' := Hold.right (Hold.swap h'); have hm' := (Hold.mays (Hold.comm h2')).1; have cM := hm'.cell (mapsL_at 20 mb k hk20); rw [if_pos hk20] at cM; obtain ⟨w5, r1, r2⟩ := may_put (firm_dsk _ _ _ _ _) (Hold.comm h2') (by omega) k hk20 u (by unfold maxLen; omega); have hfin : Hid _ := Hold.comm r2; clear h' hbk h2' hm' r2))
            go_roundw
            case rel =>
              refine ⟨j + 1, by omega, by go_num, q ++ [(k, u)], _, hfin.out, ?_, ?_, fun i hi => .inl (HQ.out.2.2 i hi)⟩
              · have := HQ.out.1; simp; omega
              · intro p hp
                rcases List.mem_append.1 hp with hp | hp
                · exact ⟨.inl (HQ.out.2.1 p hp).1, (HQ.out.2.1 p hp).2⟩
                · rw [List.mem_singleton.1 hp]; exact ⟨.inr ⟨rfl, rfl⟩, hsz⟩
            case measure => simp [intOf]; omega
        · obtain rfl : j = c2 := by omega
          have hcr := h_crash (firm_mays _ _ _ _ _) hh (.slice ka c3 kcap) c3 (fun i => if i < c3 then kk i else false) (HK.out.1.old HK.out.2 hbw hh.1) (by omega) (by omega) HK.out.2
          obtain ⟨l2, hl2e⟩ : ∃ l2, crashL l1 q false (fun i => if i < c3 then kk i else false) = l2 := ⟨_, rfl⟩
          rw [hl2e, show flushQ q false = [] from rfl] at hcr
          have HI : Hid (∀ i, i < 20 → I i (l2 i) ∧ (l2 i).size ≤ maxLen) := fun i hi => by
            rw [← hl2e]
            refine ⟨crash_in _ (fun p hp => (hqI p hp).1) i (hlI i hi), ?_⟩
            have := crash_in (I := fun _ s => s.size ≤ maxLen) (l := l1) (q := q) (fun i => if i < c3 then kk i else false) (fun p hp => by have := (hqI p hp).2; show p.2.size ≤ maxLen; unfold maxLen; omega) i (by show (l1 i).size ≤ maxLen; rw [HL.out i hi]; have := HSZ.out i; unfold maxLen; omega)
            exact this
          clear hrr hh hqI hlI hl2e
          go_wp2_with (go_at_call 19; refine hcr.mono ?_; rintro e w5 ⟨rfl, h'⟩; clear hcr; have ht5 : Hid _ := h'; clear h')
          go_loopw [107] (fun i wr => ∃ k : Nat, k ≤ 20 ∧ i = .int .i64 (k : Int) ∧ Hid (Hold W.heap.size W wr (star (dsk g 20 l2 [] false) (mays gm 20 (j + 1) mb I)))) (fun i _ => 20 - (intOf i).toNat)
          case atStart => exact ⟨0, Nat.zero_le _, rfl, ht5.out⟩
          case round =>
            clear ht5
            obtain ⟨k, hk, rfl, ht⟩ := hrel
            by_cases hlt : k < 20
            · have hk' : (k : Int) < 20 := by omega
              obtain ⟨FD1, hD⟩ := Hold.dsk ht.out
              have hrd := read_any hD (k : Int)
              unfold readB at hrd
              rw [errA_ok 20 k hlt, if_pos rfl, Int.toNat_natCast, show app l2 [] k = l2 k from rfl] at hrd
              have hm' := Hold.mays (Hold.comm ht.out)
              have cM := hm'.1.cell (mapsL_at 20 mb k hlt)
              rw [if_pos hlt] at cM
              have hlk := (hm'.2 k hlt).look (l2 k) (HI.out k hlt).2 (HI.out k hlt).1
              obtain ⟨u, hu⟩ : ∃ u, l2 k = u := ⟨_, rfl⟩
              rw [hu] at hrd hlk
              clear hD hm' hu
              go_wp2_with (go_at_call 20; refine hrd.mono ?_; rintro e wz ⟨rfl, hw'⟩; rw [hw']; clear hw' wz hrd)
              go_roundw
              case rel => exact ⟨k + 1, by omega, by go_num, ht⟩
              case measure => simp [intOf]; omega
            · obtain rfl : k = 20 := by omega
              rw [show ((20 : Nat) : Int) = 20 from rfl]
              obtain ⟨FD1, hD⟩ := Hold.dsk ht.out
              have hwa := waiting_any hD
              rw [show ((([] : List Wr).length : Nat) : Int) = 0 from rfl] at hwa
              have HB : Hid _ := Hold.low ht.out
              clear hD
              go_wp2_with (go_at_call 13; refine hwa.mono ?_; rintro e wz ⟨rfl, hw'⟩; rw [hw']; clear hw' wz hwa)
              go_ret
              exact ⟨rfl, HB.out⟩
end Go.Proofs.Ytmgllcmfnljfjaa
