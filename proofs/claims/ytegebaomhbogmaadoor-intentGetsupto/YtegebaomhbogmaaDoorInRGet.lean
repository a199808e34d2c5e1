/- The writes of a log, by the document. -/
import Derived.Test.YtegebaomhbogmaaDoorInRef
import Derived.Test.YtegebaomhbogmaaDoorCdRef
namespace Go.Proofs.YtegebaomhbogmaaDoor
open Go.RowKit Go.PlainAid
set_option linter.unusedVariables false
set_option maxRecDepth 20000

/-- A write behind the others, out of a block of its own. -/
theorem push_w {B : Nat} {w0 w : World} {R : Asn} (hR : Firm R) (sl T ty : TypeId) (hu : Tryd.prog.underlying sl = some (.slice T)) (hT : (Tryd.prog.info? T).map (fun i => (i.zero, i.size, i.bytes)) = some (some (.agg (wrow 0 noB).toArray), 2, 24))
    {v : Value} {k : Nat} {A : Nat → Int} {C : Nat → ByteArray} (h : Hold B w0 w (star (rowK T 2 v k (wrs A C k)) R)) (hk : k ≤ 1000) (g : Nat) (x : Int) (c : ByteArray) (hb : Blk w g T [.int .i64 x, .string c]) (hA : A k = x) (hC : C k = c) :
    ∃ a c' w', (Builtin.append_ #[sl, sl] ty #[v, .slice (some ⟨g, 0, none⟩) 1 1]).run Tryd.prog w = .ok (.slice a (k + 1) c') w' ∧ Hold B w0 w' (star (rowK T 2 (.slice a (k + 1) c') (k + 1) (wrs A C (k + 1))) R) := by
  obtain ⟨v', w', hrun, h3⟩ := rowK_app hR sl T ty (.agg (wrow 0 noB).toArray) 2 24 hu hT rfl (by decide) (by decide) h ⟨g, 0, none⟩ 1 1 (wrow x c) rfl (fun j u hu => by
    rw [Go.WideShapes.add_plain, Nat.zero_add]; exact hb.cell hu) (wrow_one _ _) (by omega)
  obtain ⟨a, c', rfl⟩ := own_form h3.rowK
  refine ⟨a, c', w', hrun, ?_⟩
  have e : wrs A C (k + 1) = wrs A C k ++ wrow x c := by show _ ++ wrow _ _ = _; rw [hA, hC]
  rw [e]; exact h3
/-- The document's reader of a cell, and the writes' row. -/
def Rg (w z : World) (g : Nat) (S : ByteArray) (L : ByteArray) (e : Int) (v : Value) (k : Nat) (f : Nat → ByteArray) : Prop := ∃ q, q ≤ S.size ∧ lft S q = L ∧ Hold w.heap.size w z (star (rrd g S q e) (star (rowK 55 2 v k (wrs (gtA f) (gtC f) k)) nought))
section
variable {w z : World} {g : Nat} {S L : ByteArray} {e : Int} {v : Value} {k : Nat} {f : Nat → ByteArray}
theorem rg_firm : Firm (star (rowK 55 2 v k (wrs (gtA f) (gtC f) k)) nought) := (firm_rowK _ _ _ _ _).star firm_nought
theorem Rg.start (h : Hold w.heap.size w z (star (rowK 55 2 v k (wrs (gtA f) (gtC f) k)) nought)) (S : ByteArray) : Rg w (z.alloc (.cells #[.string S, .int .i64 0, .int .i64 0] 65)) z.heap.size S S 0 v k f :=
  ⟨0, Nat.zero_le _, lft_zero S, h.newBlk rg_firm 65 #[.string S, .int .i64 0, .int .i64 0]⟩
theorem Rg.num (h : Rg w z g S L e v k f) (hS : S.size ≤ 140737488355328) : Calls Tryd.prog 27 #[.pointer (some ⟨g, 0, none⟩)] z fun x w' => x = .returned (.int .u64 (nmV L e)) ∧ Rg w w' g S (nmL L e) (nmE L e) v k f := by
  obtain ⟨q, hq, rfl, h⟩ := h
  exact (rnumber_any rg_firm h hS hq).mono fun x w' ⟨hx, q', hq', e', h'⟩ => ⟨hx, q', hq', e', h'⟩
theorem Rg.text (h : Rg w z g S L e v k f) (hS : S.size ≤ 140737488355328) : Calls Tryd.prog 28 #[.pointer (some ⟨g, 0, none⟩)] z fun x w' => x = .returned (.string (txV L e)) ∧ Rg w w' g S (txL L e) (txE L e) v k f := by
  obtain ⟨q, hq, rfl, h⟩ := h
  exact (rwords_any rg_firm h hS hq).mono fun x w' ⟨hx, q', hq', e', h'⟩ => ⟨hx, q', hq', e', h'⟩
theorem Rg.done (h : Rg w z g S L e v k f) (hS : S.size ≤ 140737488355328) : Calls Tryd.prog 29 #[.pointer (some ⟨g, 0, none⟩)] z fun x w' => x = .returned (.int .i64 (dnE L e)) ∧ Rg w w' g S L e v k f := by
  obtain ⟨q, hq, rfl, h⟩ := h
  exact (rdone_any rg_firm h hS hq).mono fun x w' ⟨hx, h'⟩ => ⟨hx, q, hq, rfl, h'⟩
theorem Rg.row (h : Rg w z g S L e v k f) : Hold w.heap.size w z (star (rowK 55 2 v k (wrs (gtA f) (gtC f) k)) nought) := by
  obtain ⟨q, hq, hl, h⟩ := h
  exact h.right
theorem Rg.push (h : Rg w z g S L e v k f) (hk : k ≤ 1000) (x : Int) (c : ByteArray) (hA : gtA f k = x) (hC : gtC f k = c) :
    ∃ a c' w', (Builtin.append_ #[24, 24] 24 #[v, .slice (some ⟨z.heap.size, 0, none⟩) 1 1]).run Tryd.prog (z.alloc (.cells #[.int .i64 x, .string c] 55)) = .ok (.slice a (k + 1) c') w' ∧ Hold w.heap.size w w' (star (rowK 55 2 (.slice a (k + 1) c') (k + 1) (wrs (gtA f) (gtC f) (k + 1))) nought) :=
  push_w firm_nought 24 55 24 Tryd.underlying24 Tryd.info55w (h.row.below rg_firm ((Below.refl z.heap.size z).alloc (Nat.le_refl _) _)) hk z.heap.size x c (Blk.new z 55 #[.int .i64 x, .string c]) hA hC
end
set_option maxHeartbeats 4000000 in
theorem rget15_any {w : World} {a : Option Addr} {m cap : Nat} {f : Nat → ByteArray} (hc : Cs w a m f) (hcap : m ≤ cap) (hf : LogFit m f) (d : ByteArray) (hr : RTabs w) : Calls Tryd.prog 16 #[.slice a m cap, .string d] w fun e w' => ∃ a' c', e = .returned (.tuple #[.slice a' (gtN m f d) c', .int .i64 (gtE m f d)]) ∧ Wx w' a' (gtN m f d) (gtA f) (gtC f) ∧ Below w.heap.size w w' := by
  obtain ⟨hm, hz, hsum⟩ := hf
  by_cases h0 : m = 0
  · subst h0
    have hA : Hid (gtE 0 f d = 4 ∧ gtN 0 f d = 0) := ⟨gtE_none, gtN_bad gtE_none (by decide)⟩
    clear hsum hz
    go_enter Tryd.func16, Tryd.ntmps16
    go_wp2
    go_ret2
    exact ⟨none, 0, by rw [hA.out.1, hA.out.2]; rfl, by rw [hA.out.2]; exact .inl rfl, Below.refl _ _⟩
  have hm0 : ¬ (m : Int) = 0 := by omega
  have hm1 : ((m : Int) == 0) = false := by simpa using hm0
  have hm2 : (0 : Int) < (m : Int) := by omega
  obtain ⟨b, o, rfl, hcell⟩ := hc.at (Below.refl _ _) 0 (by omega)
  rw [Nat.add_zero] at hcell
  have hsz := rsize15_any (f 0) w
  cases hi : isN (f 0)
  · have hv : szV (f 0) = 0 := by unfold szV; rw [hi]; rfl
    have he : szE (f 0) = 4 := by unfold szE; rw [hi]; rfl
    rw [hv, he] at hsz
    have hA : Hid (gtE m f d = 4 ∧ gtN m f d = 0) := ⟨gtE_form h0 hi, gtN_bad (gtE_form h0 hi) (by decide)⟩
    clear hsum hz hv he hi
    go_enter Tryd.func16, Tryd.ntmps16
    go_wp2_with (go_at_call 14; refine hsz.mono ?_; rintro e w1 ⟨rfl, hb1⟩; have L1 : Hid (Below w.heap.size w w1) := hb1; clear hb1 hsz)
    go_ret2
    exact ⟨none, 0, by rw [hA.out.1, hA.out.2]; rfl, by rw [hA.out.2]; exact .inl rfl, L1.out⟩
  have he : szE (f 0) = 0 := by unfold szE; rw [hi]; rfl
  rw [he] at hsz
  obtain ⟨n, hn⟩ : ∃ n, szV (f 0) = n + 1 := ⟨szV (f 0) - 1, by have := szV_pos hi; omega⟩
  by_cases hlt : m < szV (f 0)
  · have hA : Hid (gtE m f d = 3 ∧ gtN m f d = 0) := ⟨gtE_short h0 hi hlt, gtN_bad (gtE_short h0 hi hlt) (by decide)⟩
    have hlt' : (m : Int) < (szV (f 0) : Int) := by omega
    generalize (szV (f 0) : Int) = V at *
    clear hsum hz he hi hlt
    go_enter Tryd.func16, Tryd.ntmps16
    go_wp2_with (go_at_call 14; refine hsz.mono ?_; rintro e w1 ⟨rfl, hb1⟩; have L1 : Hid (Below w.heap.size w w1) := hb1; clear hb1 hsz)
    go_ret2
    exact ⟨none, 0, by rw [hA.out.1, hA.out.2]; rfl, by rw [hA.out.2]; exact .inl rfl, L1.out⟩
  have hlt' : ¬ (m : Int) < (szV (f 0) : Int) := by omega
  have hv0 : szV (f 0) ≤ cap := by omega
  have hv1 : szV (f 0) ≤ 96 := szV_le _
  have HS : Hid (∀ z, Below w.heap.size w z → Calls Tryd.prog 13 #[.slice (some ⟨b, o, none⟩) (szV (f 0)) cap] z fun e w' => e = .returned (.string (dgT f (szV (f 0)))) ∧ Below z.heap.size z w') := fun z hb => rdigest15_any ((hc.below hb).cut (by omega)) (by omega) (hsum h0 hi (by omega)) (hr.below hb hr.lt)
  by_cases hd : d = dgT f (szV (f 0))
  · have hA : Hid (gtE m f d = wsE f n ∧ gtN m f d = wsN f n) := by
      have e1 := gtE_all h0 hi hlt hd
      rw [hn, Nat.add_sub_cancel] at e1
      have e2 : gtE m f d = wsE f n := e1
      refine ⟨e2, ?_⟩
      unfold gtN
      rw [e2, hn, Nat.add_sub_cancel]
      cases ha : alC f n
      · rw [(ws_no ha).1, (ws_no ha).2]; rfl
      · rw [(ws_yes ha).1, (ws_yes ha).2]; rfl
    have hq : ((dgT f (szV (f 0))).toList == d.toList) = true := by rw [eq_text]; exact decide_eq_true hd.symm
    have hnm : n + 1 ≤ m := by omega
    have HC : Hid (Cs w (some ⟨b, o, none⟩) m f) := hc
    have HZ : Hid (∀ i, i < m → (f i).size ≤ 140737488355328) := hz
    generalize dgT f (szV (f 0)) = D at *
    generalize szV (f 0) = V at *
    subst hn
    have hn2 : ((n + 1 : Nat) : Int) = (n : Int) + 1 := by omega
    have hn3 : (n : Int) ≤ 95 := by omega
    have hzr := zeroRWr
    clear hsum hz he hi hlt hd hc hr
    go_enter Tryd.func16, Tryd.ntmps16
    go_wp2_with (first
      | (go_at_call 14; refine hsz.mono ?_; rintro e w1 ⟨rfl, hb1⟩; have L1 : Hid (Below w.heap.size w w1) := hb1; clear hb1 hsz)
      | (go_at_call 13; refine (HS.out _ L1.out).mono ?_; rintro e w2 ⟨rfl, hb2⟩; have L2 : Hid (Below w.heap.size w w2) := L1.out.trans (hb2.mono L1.out.size); clear hb2 HS L1))
    have H2 : Hid (Hold w.heap.size w w2 (star (rowK 55 2 (.slice none 0 0) 0 (wrs (gtA f) (gtC f) 0)) nought)) := (hold_nought w.heap.size w w2 L2.out.size L2.out).mono fun F h => star_nilR h
    clear L2 hq
    go_loopw [9, 10] (fun v i wr => ∃ (k c : Nat) (s : Option Addr), k ≤ n ∧ i = .int .i64 ((k : Int) + 1) ∧ v = .slice s k c ∧ Hid (∀ j, j < k → okC (f (j + 1)) = true) ∧ Hid (Hold w.heap.size w wr (star (rowK 55 2 (.slice s k c) k (wrs (gtA f) (gtC f) k)) nought))) (fun _ i _ => n + 1 - (intOf i).toNat)
    case atStart => exact ⟨0, 0, none, Nat.zero_le _, rfl, rfl, fun j hj => by omega, H2.out⟩
    case round =>
      clear H2
      obtain ⟨k, c, s, hk, rfl, rfl, hok, hh⟩ := hrel
      by_cases hlt : k < n
      · have hk' : (k : Int) < (n : Int) := by omega
        have hk2 : (k : Int) + 1 < (n : Int) + 1 := by omega
        have hkm : (k : Int) + 1 < (m : Int) := by omega
        obtain ⟨b', o', hao, hcl⟩ := HC.out.at hh.out.low (k + 1) (by omega)
        cases hao
        have ek : ((k : Int) + 1).toNat = k + 1 := by omega
        have hzf := HZ.out (k + 1) (by omega)
        have H1 : Hid (Rg w _ wr.heap.size (f (k + 1)) (f (k + 1)) 0 (.slice s k c) k f) := Rg.start hh.out (f (k + 1))
        have M1 : Hid (∀ z g, Rg w z g (f (k + 1)) (f (k + 1)) 0 (.slice s k c) k f → Calls Tryd.prog 27 #[.pointer (some ⟨g, 0, none⟩)] z fun x w' => x = .returned (.int .u64 (atC (f (k + 1)))) ∧ Rg w w' g (f (k + 1)) (nmL (f (k + 1)) 0) (nmE (f (k + 1)) 0) (.slice s k c) k f) := fun z g h => h.num hzf
        have M2 : Hid (∀ z g, Rg w z g (f (k + 1)) (nmL (f (k + 1)) 0) (nmE (f (k + 1)) 0) (.slice s k c) k f → Calls Tryd.prog 28 #[.pointer (some ⟨g, 0, none⟩)] z fun x w' => x = .returned (.string (txV (nmL (f (k + 1)) 0) (nmE (f (k + 1)) 0))) ∧ Rg w w' g (f (k + 1)) (txL (nmL (f (k + 1)) 0) (nmE (f (k + 1)) 0)) (txE (nmL (f (k + 1)) 0) (nmE (f (k + 1)) 0)) (.slice s k c) k f) := fun z g h => h.text hzf
        have M3 : Hid (∀ z g, Rg w z g (f (k + 1)) (txL (nmL (f (k + 1)) 0) (nmE (f (k + 1)) 0)) (txE (nmL (f (k + 1)) 0) (nmE (f (k + 1)) 0)) (.slice s k c) k f → Calls Tryd.prog 29 #[.pointer (some ⟨g, 0, none⟩)] z fun x w' => x = .returned (.int .i64 (rdD (f (k + 1)))) ∧ Rg w w' g (f (k + 1)) (txL (nmL (f (k + 1)) 0) (nmE (f (k + 1)) 0)) (txE (nmL (f (k + 1)) 0) (nmE (f (k + 1)) 0)) (.slice s k c) k f) := fun z g h => h.done hzf
        have hiff := okC_doc (f (k + 1))
        have hce : okC (f (k + 1)) = true → txV (nmL (f (k + 1)) 0) (nmE (f (k + 1)) 0) = gtC f k := fun h => okC_ce h
        have hat : gtA f k = atC (f (k + 1)) := rfl
        have hr0 := nmV_range (f (k + 1)) 0
        rw [show nmV (f (k + 1)) 0 = atC (f (k + 1)) from rfl] at hr0
        generalize txL (nmL (f (k + 1)) 0) (nmE (f (k + 1)) 0) = L2 at *
        generalize txE (nmL (f (k + 1)) 0) (nmE (f (k + 1)) 0) = E2 at *
        generalize txV (nmL (f (k + 1)) 0) (nmE (f (k + 1)) 0) = tv at *
        generalize nmL (f (k + 1)) 0 = L1 at *
        generalize nmE (f (k + 1)) 0 = E1 at *
        generalize rdD (f (k + 1)) = dd at *
        generalize atC (f (k + 1)) = av at *
        generalize hfk : f (k + 1) = S at *
        have HFK : Hid (f (k + 1) = S) := hfk
        clear hh hzf
        cases hcc : okC S
        · have hA2 : Hid (wsN f n = 0 ∧ wsE f n = 4) := ws_no (alC_not hlt (by rw [hfk]; exact hcc))
          have hno : dd ≠ 0 ∨ (dd = 0 ∧ av < 100) ∨ (dd = 0 ∧ ¬ av < 100 ∧ 139 < av) ∨ (dd = 0 ∧ ¬ av < 100 ∧ ¬ 139 < av ∧ (2032 : Int) < (tv.size : Int)) := by
            rw [hcc] at hiff
            by_cases q1 : dd = 0
            · by_cases q2 : av < 100
              · exact .inr (.inl ⟨q1, q2⟩)
              · by_cases q3 : 139 < av
                · exact .inr (.inr (.inl ⟨q1, q2, q3⟩))
                · refine .inr (.inr (.inr ⟨q1, q2, q3, ?_⟩))
                  rcases Nat.lt_or_ge 2032 tv.size with h | h
                  · omega
                  · exact absurd (hiff.2 ⟨q1, by omega, by omega, h⟩) (by decide)
            · exact .inl q1
          clear hiff hce hat hcc hok hfk hr0
          rcases hno with q1 | ⟨rfl, q2⟩ | ⟨rfl, q2, q3⟩ | ⟨rfl, q2, q3, q4⟩
          · have q1' : (dd != 0) = true := by simpa using q1
            clear q1
            go_wp2_with (first
              | (go_at_call 27; refine (M1.out _ _ H1.out).mono ?_; rintro x w3 ⟨rfl, h3⟩; have H3 : Hid (Rg w w3 wr.heap.size S L1 E1 (.slice s k c) k f) := h3; clear h3 H1 M1)
              | (go_at_call 28; refine (M2.out _ _ H3.out).mono ?_; rintro x w4 ⟨rfl, h4⟩; have H4 : Hid (Rg w w4 wr.heap.size S L2 E2 (.slice s k c) k f) := h4; clear h4 H3 M2)
              | (go_at_call 29; refine (M3.out _ _ H4.out).mono ?_; rintro x w5 ⟨rfl, h5⟩; have L5 : Hid (Below w.heap.size w w5) := h5.row.low; clear h5 H4 M3))
            go_ret2
            first | exact ⟨none, 0, by rw [hA.out.1, hA.out.2, hA2.out.1, hA2.out.2]; rfl, by rw [hA.out.2, hA2.out.1]; exact .inl rfl, L5.out⟩ | exact ⟨none, ⟨0, by rw [hA.out.1, hA.out.2, hA2.out.1, hA2.out.2]; rfl⟩, by rw [hA.out.2, hA2.out.1]; exact .inl rfl, L5.out⟩
          · skip
            go_wp2_with (first
              | (go_at_call 27; refine (M1.out _ _ H1.out).mono ?_; rintro x w3 ⟨rfl, h3⟩; have H3 : Hid (Rg w w3 wr.heap.size S L1 E1 (.slice s k c) k f) := h3; clear h3 H1 M1)
              | (go_at_call 28; refine (M2.out _ _ H3.out).mono ?_; rintro x w4 ⟨rfl, h4⟩; have H4 : Hid (Rg w w4 wr.heap.size S L2 E2 (.slice s k c) k f) := h4; clear h4 H3 M2)
              | (go_at_call 29; refine (M3.out _ _ H4.out).mono ?_; rintro x w5 ⟨rfl, h5⟩; have L5 : Hid (Below w.heap.size w w5) := h5.row.low; clear h5 H4 M3))
            go_ret2
            first | exact ⟨none, 0, by rw [hA.out.1, hA.out.2, hA2.out.1, hA2.out.2]; rfl, by rw [hA.out.2, hA2.out.1]; exact .inl rfl, L5.out⟩ | exact ⟨none, ⟨0, by rw [hA.out.1, hA.out.2, hA2.out.1, hA2.out.2]; rfl⟩, by rw [hA.out.2, hA2.out.1]; exact .inl rfl, L5.out⟩
          · skip
            go_wp2_with (first
              | (go_at_call 27; refine (M1.out _ _ H1.out).mono ?_; rintro x w3 ⟨rfl, h3⟩; have H3 : Hid (Rg w w3 wr.heap.size S L1 E1 (.slice s k c) k f) := h3; clear h3 H1 M1)
              | (go_at_call 28; refine (M2.out _ _ H3.out).mono ?_; rintro x w4 ⟨rfl, h4⟩; have H4 : Hid (Rg w w4 wr.heap.size S L2 E2 (.slice s k c) k f) := h4; clear h4 H3 M2)
              | (go_at_call 29; refine (M3.out _ _ H4.out).mono ?_; rintro x w5 ⟨rfl, h5⟩; have L5 : Hid (Below w.heap.size w w5) := h5.row.low; clear h5 H4 M3))
            go_ret2
            first | exact ⟨none, 0, by rw [hA.out.1, hA.out.2, hA2.out.1, hA2.out.2]; rfl, by rw [hA.out.2, hA2.out.1]; exact .inl rfl, L5.out⟩ | exact ⟨none, ⟨0, by rw [hA.out.1, hA.out.2, hA2.out.1, hA2.out.2]; rfl⟩, by rw [hA.out.2, hA2.out.1]; exact .inl rfl, L5.out⟩
          · skip
            go_wp2_with (first
              | (go_at_call 27; refine (M1.out _ _ H1.out).mono ?_; rintro x w3 ⟨rfl, h3⟩; have H3 : Hid (Rg w w3 wr.heap.size S L1 E1 (.slice s k c) k f) := h3; clear h3 H1 M1)
              | (go_at_call 28; refine (M2.out _ _ H3.out).mono ?_; rintro x w4 ⟨rfl, h4⟩; have H4 : Hid (Rg w w4 wr.heap.size S L2 E2 (.slice s k c) k f) := h4; clear h4 H3 M2)
              | (go_at_call 29; refine (M3.out _ _ H4.out).mono ?_; rintro x w5 ⟨rfl, h5⟩; have L5 : Hid (Below w.heap.size w w5) := h5.row.low; clear h5 H4 M3))
            go_ret2
            first | exact ⟨none, 0, by rw [hA.out.1, hA.out.2, hA2.out.1, hA2.out.2]; rfl, by rw [hA.out.2, hA2.out.1]; exact .inl rfl, L5.out⟩ | exact ⟨none, ⟨0, by rw [hA.out.1, hA.out.2, hA2.out.1, hA2.out.2]; rfl⟩, by rw [hA.out.2, hA2.out.1]; exact .inl rfl, L5.out⟩
        · obtain ⟨q1, q2, q3, q4⟩ := hiff.1 hcc
          have HO : Hid (∀ j, j < k + 1 → okC (f (j + 1)) = true) := fun j hj => by
            by_cases e : j = k
            · rw [e, hfk]; exact hcc
            · exact hok.out j (by omega)
          have p2 : ¬ av < 100 := by omega
          have p3 : ¬ 139 < av := by omega
          have p4 : ¬ (2032 : Int) < (tv.size : Int) := by omega
          have HPU : Hid (∀ z g, Rg w z g S L2 E2 (.slice s k c) k f → ∃ a c' w', (Builtin.append_ #[24, 24] 24 #[.slice s k c, .slice (some ⟨z.heap.size, 0, none⟩) 1 1]).run Tryd.prog (z.alloc (.cells #[.int .i64 av, .string tv] 55)) = .ok (.slice a (k + 1) c') w' ∧ Hold w.heap.size w w' (star (rowK 55 2 (.slice a (k + 1) c') (k + 1) (wrs (gtA f) (gtC f) (k + 1))) nought)) := fun z g h => h.push (by omega) av tv hat (hce hcc).symm
          have hr1 : av ≤ 9223372036854775807 := by omega
          have hr2 : 0 ≤ av := by omega
          subst q1
          clear hiff hce hat hcc hok hfk hr0 q2 q3 q4
          go_wp2_with (first
            | (go_at_call 27; refine (M1.out _ _ H1.out).mono ?_; rintro x w3 ⟨rfl, h3⟩; have H3 : Hid (Rg w w3 wr.heap.size S L1 E1 (.slice s k c) k f) := h3; clear h3 H1 M1)
            | (go_at_call 28; refine (M2.out _ _ H3.out).mono ?_; rintro x w4 ⟨rfl, h4⟩; have H4 : Hid (Rg w w4 wr.heap.size S L2 E2 (.slice s k c) k f) := h4; clear h4 H3 M2)
            | (go_at_call 29; refine (M3.out _ _ H4.out).mono ?_; rintro x w5 ⟨rfl, h5⟩; obtain ⟨s', c', w6, hrun, h6⟩ := HPU.out _ _ h5; have H6 : Hid (Hold w.heap.size w w6 _) := h6; clear h5 h6 H4 M3 HPU)
            | (at_builtin; refine Lib.wpList_append_run _ rfl _ _ 24 24 rfl _ _ rfl rfl _ _ hrun ?_))
          go_roundw
          case rel => exact ⟨k + 1, c', s', by omega, by go_num, rfl, HO.out, H6.out⟩
          case measure => simp [intOf]; omega
      · obtain rfl : k = n := by omega
        have hk' : ¬ (k : Int) + 1 < (k : Int) + 1 := by omega
        have hA2 : Hid (wsN f k = k ∧ wsE f k = 0) := ws_yes (alC_of hok.out)
        have HX : Hid (Wx wr s k (gtA f) (gtC f)) := own_wx hh.out.rowK
        have L3 : Hid (Below w.heap.size w wr) := hh.out.low
        clear hh hok
        go_wp2
        go_ret2
        first | exact ⟨s, c, by rw [hA.out.1, hA.out.2, hA2.out.1, hA2.out.2]; rfl, by rw [hA.out.2, hA2.out.1]; exact HX.out, L3.out⟩ | exact ⟨s, ⟨c, by rw [hA.out.1, hA.out.2, hA2.out.1, hA2.out.2]; rfl⟩, by rw [hA.out.2, hA2.out.1]; exact HX.out, L3.out⟩
  · have hA : Hid (gtE m f d = 22 ∧ gtN m f d = 0) := ⟨gtE_sum h0 hi hlt hd, gtN_bad (gtE_sum h0 hi hlt hd) (by decide)⟩
    have hq : ((dgT f (szV (f 0))).toList == d.toList) = false := by rw [eq_text]; exact decide_eq_false (fun e => hd e.symm)
    generalize dgT f (szV (f 0)) = D at *
    generalize szV (f 0) = V at *
    have hV : (V : Int) ≤ (cap : Int) := by omega
    clear hsum hz he hi hlt hd hn
    go_enter Tryd.func16, Tryd.ntmps16
    go_wp2_with (first
      | (go_at_call 14; refine hsz.mono ?_; rintro e w1 ⟨rfl, hb1⟩; have L1 : Hid (Below w.heap.size w w1) := hb1; clear hb1 hsz)
      | (go_at_call 13; refine (HS.out _ L1.out).mono ?_; rintro e w2 ⟨rfl, hb2⟩; have L2 : Hid (Below w.heap.size w w2) := L1.out.trans (hb2.mono L1.out.size); clear hb2 HS L1))
    go_ret2
    exact ⟨none, 0, by rw [hA.out.1, hA.out.2]; rfl, by rw [hA.out.2]; exact .inl rfl, L2.out⟩
end Go.Proofs.YtegebaomhbogmaaDoor
