/- The document's Image; texts compared; the bytes of an act. -/
import Derived.Test.YtfepmafjkgjmmaaDkRef4
import Derived.Test.YtfepmafjkgjmmaaCut
namespace Go.Proofs.Ytfepmafjkgjmmaa
open Go.RowKit Go.PlainAid
set_option linter.unusedVariables false

/-- One more text for a row of them. -/
theorem strs_push (w : World) (v : Value) (j : Nat) (f : Nat → ByteArray) (h : w.ownsRow 0 9 1 v j (strs j f)) (hj : j ≤ 1000000) :
    ∃ g' cap' w', (Builtin.append_ #[37, 37] 37 #[v, .slice (some ⟨w.heap.size, 0, none⟩) 1 1]).run Try.prog (w.alloc (.cells #[.string (f j)] 9)) = .ok (.slice (some ⟨g', 0, none⟩) (j + 1) cap') w' ∧
      w'.ownsRow 0 9 1 (.slice (some ⟨g', 0, none⟩) (j + 1) cap') (j + 1) (strs (j + 1) f) ∧ (w.alloc (.cells #[.string (f j)] 9)).grownBy w' v.ownBlock ∧ (some g' = v.ownBlock ∨ w.heap.size ≤ g') := by
  obtain ⟨i0, hi, hz0, hz1, hz2⟩ := info_parts Try.info9
  have hnews : ∀ (i : Nat) u, [Value.string (f j)][i]? = some u → (w.alloc (.cells #[.string (f j)] 9)).cell? ((⟨w.heap.size, 0, none⟩ : Addr).add i) = some u := fun i u hi => by
    match i, hi with
    | 0, hi => simp at hi; subst hi; simp only [Addr.add]; exact (Blk.new w 9 #[.string (f j)]).cell rfl
  obtain ⟨v', w', hrun, hown, hgrow, _, hat⟩ := run_append_own_at (P := Try.prog) (w.alloc (.cells #[.string (f j)] 9)) 0 37 37 9 i0 (.string noB) 1 16 Try.underlying37 hi hz0 hz1 hz2 rfl (by decide) v j (strs j f) (World.ownsRow.alloc h _)
    ⟨w.heap.size, 0, none⟩ 1 1 [.string (f j)] rfl hnews (fun u hu => by simp at hu; subst hu; rfl) (by unfold maxLen; omega) (by omega) (Nat.zero_le _)
  rw [← strs_succ] at hown
  have hown' := hown
  rcases hown.2 with ⟨_, h0⟩ | ⟨g', cap', cur, rfl, _⟩
  · omega
  · refine ⟨g', cap', w', hrun, hown', hgrow, ?_⟩
    rcases hat with h | h
    · exact .inl h
    · have h2 : g' = (w.alloc (.cells #[.string (f j)] 9)).heap.size := Option.some.inj h
      rw [World.size_alloc] at h2
      exact .inr (by omega)
theorem texts_owned {w : World} {b : Option Addr} {m c : Nat} {f : Nat → ByteArray} (h : w.ownsRow 0 9 1 (.slice b m c) m (strs m f)) : TextsAt w (.slice b m c) m f := by
  have h' := h
  rcases h.2 with ⟨hv, h0⟩ | ⟨g, cap, cur, hv, _, hg, hnc, _⟩
  · cases hv; exact ⟨none, 0, rfl, Nat.le_refl _, .inl rfl⟩
  · cases hv
    refine ⟨_, c, rfl, hnc, .inr ⟨g, 0, rfl, (h'.lt g rfl).2, fun i hi => ?_⟩⟩
    rw [Nat.zero_add, World.ownsRow.cellAt h' i (by omega), strs_at _ _ i hi]
theorem refImage_dead {F : Nat → Prop} {g n : Nat} {l : Nat → ByteArray} {q : List Wr} {w : World} (h : RefAt w F g n l q true) :
    Calls Try.prog 16 #[.pointer (some ⟨g, 0, none⟩)] w fun e w' => e = .returned (.slice none 0 0) ∧ w' = w := by
  obtain ⟨gc, v, h⟩ := h
  have c2 := h.top.cell (i := 2) rfl
  clear h
  go_enter Try.func16, Try.ntmps16
  go_wp2_with fail
  go_ret
  exact ⟨rfl, rfl⟩
set_option maxRecDepth 20000 in
set_option maxHeartbeats 1000000 in
theorem refImage_any {F : Nat → Prop} {g n : Nat} {l : Nat → ByteArray} {q : List Wr} {w : World} (h : RefAt w F g n l q false) (hq : q.length ≤ 1000000) :
    Calls Try.prog 16 #[.pointer (some ⟨g, 0, none⟩)] w fun e w' => ∃ b c, e = .returned (.slice b n c) ∧ TextsAt w' (.slice b n c) n (app l q) ∧ Below w.heap.size w w' := by
  have HR : Hid (RefAt w F g n l q false) := h
  obtain ⟨gc, v, h⟩ := h
  have c2 := h.top.cell (i := 2) rfl
  have hn := h.high
  have HH : Hid _ := h
  clear h
  go_enter Try.func16, Try.ntmps16
  go_wp2_with fail
  go_loopw [3, 4] (fun vo i wr => ∃ j : Nat, j ≤ n ∧ i = .int .i64 (j : Int) ∧ ∃ b c, vo = .slice b j c ∧ Hid (Below w.heap.size w wr ∧ wr.ownsRow 0 9 1 (.slice b j c) j (strs j (app l q)) ∧ ∀ i, (Value.slice b j c).ownBlock = some i → w.heap.size ≤ i)) (fun _ i _ => n - (intOf i).toNat)
  case atStart => exact ⟨0, Nat.zero_le _, rfl, none, 0, rfl, Below.refl _ _, World.ownsRow_nil _ _ _ _, fun i hi => by cases hi⟩
  case round =>
    obtain ⟨j, hj, rfl, b, c, rfl, hrr⟩ := hrel
    have T1 := HH.out.top.below hrr.out.1 HH.out.top.lt
    have c0 := T1.cell (i := 0) rfl
    by_cases hlt : j < n
    · have hj' : (j : Int) < (n : Int) := by omega
      have hrd := refRead_any (RefAt.kept HR.out (Kept.ofBelow (F := fun _ => False) hrr.out.1) (fun _ _ h => h)) (j : Int) hq
      have hrb : readB l q false n (j : Int) = app l q j := by unfold readB; rw [errA_ok n j hlt, if_pos rfl, Int.toNat_natCast]
      rw [hrb, errA_ok n j hlt] at hrd
      obtain ⟨g', cap', w2, hrun, W2, hgrow, hat⟩ := strs_push wr _ j (app l q) hrr.out.2.1 (by omega)
      have HN : Hid (Below w.heap.size w w2 ∧ w2.ownsRow 0 9 1 (.slice (some ⟨g', 0, none⟩) (j + 1) cap') (j + 1) (strs (j + 1) (app l q)) ∧ ∀ i, (Value.slice (some ⟨g', 0, none⟩) (j + 1) cap').ownBlock = some i → w.heap.size ≤ i) := by
        refine ⟨(hrr.out.1.alloc hrr.out.1.size _).grown hgrow (by rw [World.size_alloc]; have := hrr.out.1.size; omega) (fun i hi => hrr.out.2.2 i hi), W2, fun i hi => ?_⟩
        cases hi
        rcases hat with e | e
        · exact hrr.out.2.2 g' e.symm
        · have := hrr.out.1.size; exact Nat.le_trans this e
      obtain ⟨s, hs⟩ : ∃ s, app l q j = s := ⟨_, rfl⟩
      rw [hs] at hrd hrun
      clear hrr T1 hrb W2 hgrow hat hs c2
      go_wp2_with (first | (go_at_call 39; refine hrd.mono ?_; rintro e w' ⟨rfl, hw'⟩; rw [hw']; clear hw' w') | (at_builtin; refine wpList_append_run rfl _ _ 37 37 rfl _ _ rfl rfl _ _ hrun ?_))
      go_roundw
      case rel => exact ⟨j + 1, by omega, by go_num, some ⟨g', 0, none⟩, cap', rfl, HN⟩
      case measure => simp [intOf]; omega
    · obtain rfl : j = n := by omega
      have HT : Hid _ := And.intro (texts_owned hrr.out.2.1) hrr.out.1
      clear hrr T1
      go_wp2_with fail
      go_ret
      exact ⟨b, c, rfl, HT.out⟩
end Go.Proofs.Ytfepmafjkgjmmaa
