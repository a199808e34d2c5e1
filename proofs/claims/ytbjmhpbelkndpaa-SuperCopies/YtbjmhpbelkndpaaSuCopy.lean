/- A copy of a record, with lists of its own. -/
import Derived.Test.YtbjmhpbelkndpaaSuRec0
namespace Go.Proofs.Ytbjmhpbelkndpaa
open Go.RowKit Go.PlainAid
set_option linter.unusedVariables false

theorem rowK_empty {B : Nat} {w0 w : World} {X : Asn} (hX : Firm X) (h : Hold B w0 w X) (T : TypeId) (K : Nat) : Hold B w0 (w.alloc (.cells #[] T)) (star (rowK T K (.slice (some ⟨w.heap.size, 0, none⟩) 0 0) 0 []) X) :=
  Hold.new hX h ((Below.refl _ _).alloc (Nat.le_refl _) _) (G := fun k => k = w.heap.size) ⟨World.ownsRow_lit w #[] 0 (Nat.zero_le _) (by decide) (by simp), fun k => ⟨fun e => by rw [e]; rfl, fun e => (Option.some.inj e).symm⟩⟩ (fun k hk => by rw [hk]; exact Nat.le_refl _)
theorem rowK_nil {B : Nat} {w0 w : World} {X : Asn} (h : Hold B w0 w X) (T : TypeId) (K : Nat) : Hold B w0 w (star (rowK T K (.slice none 0 0) 0 []) X) := h.mono (fun F h => ⟨fun _ => False, F, ⟨World.ownsRow_nil _ _ _ _, fun k => ⟨fun h => h.elim, fun h => by cases h⟩⟩, h, fun _ h => h.elim, fun k => ⟨.inr, fun h => h.elim (fun h => h.elim) id⟩⟩)
set_option maxRecDepth 20000 in
theorem cloneI_any {B : Nat} {w0 w : World} {X : Asn} (hX : Firm X) (h : Hold B w0 w X) (sa : Option Addr) (n sc : Nat) (f : Nat → Int) (hn : n ≤ 100) (hs : Sx w sa n f) (hnil : sa = none → n = 0 ∧ sc = 0) : Calls Try.prog 31 #[.slice sa n sc] w fun e w' => ∃ a c, e = .returned (.slice a n c) ∧ Hold B w0 w' (star (rowK 3 1 (.slice a n c) n (si n f)) X) := by
  cases sa with
  | none =>
    obtain ⟨rfl, rfl⟩ := hnil rfl
    have h2 : Hid (Hold _ _ _ _) := rowK_nil (T := 3) (K := 1) h
    have he : ∀ w : World, (binOp .eql 23 (.slice none 0 0) (.slice none 0 0)).run Try.prog w = .ok (.bool true) w := fun _ => rfl
    go_enter Try.func31, Try.ntmps31
    go_wp2
    go_ret
    exact ⟨none, 0, rfl, h2.out⟩
  | some ad =>
    have h1 := rowK_empty hX h 3 1
    obtain ⟨v', w', hrun, hh⟩ := rowK_app hX 23 3 23 (.int .i64 0) 1 8 Try.underlying23 Try.info3w rfl (by decide) (by decide) h1 ad n sc (si n f) (by rw [si_len, Nat.mul_one]) (fun j u hu => by
      have hj : j < n := by
        rcases Nat.lt_or_ge j n with h | h
        · exact h
        · rw [List.getElem?_eq_none (by rw [si_len]; exact h)] at hu; cases hu
      rw [si_at _ _ _ hj] at hu
      cases hu
      obtain ⟨b', o', e, hc⟩ := hs.at ((Below.refl w.heap.size w).alloc (Nat.le_refl _) (.cells #[] 3)) j hj
      cases e
      rw [Go.WideShapes.add_plain]; exact hc) (fun u hu => by
      unfold si at hu
      obtain ⟨i, _, rfl⟩ := List.mem_map.1 hu
      rfl) (by omega)
    rw [Nat.zero_add] at hh
    obtain ⟨a, c, rfl⟩ := own_form hh.rowK
    have h2 : Hid (Hold B w0 w' (star (rowK 3 1 (.slice a n c) n (si n f)) X)) := by
      show Hold _ _ _ _
      simpa using hh
    clear h1 hh h hs hX hnil
    have he : ∀ (w : World) (n c : Nat), (binOp .eql 23 (.slice (some ad) n c) (.slice none 0 0)).run Try.prog w = .ok (.bool false) w := fun _ _ _ => rfl
    go_enter Try.func31, Try.ntmps31
    go_wp2_with (at_builtin; refine Lib.wpList_append_run _ rfl _ _ 23 23 rfl _ _ rfl rfl _ _ hrun ?_)
    go_ret
    exact ⟨a, c, rfl, h2.out⟩
theorem memF_one (st : Nat → Int) (top log : Nat → ByteArray) (n : Nat) : ∀ u ∈ memF st top log n, u.oneCell' = true := by
  induction n with
  | zero => intro u hu; cases hu
  | succ m ih =>
    intro u hu
    rcases List.mem_append.1 hu with h | h
    · exact ih u h
    · exact mrow_one _ _ _ u h
set_option maxRecDepth 20000 in
theorem cloneM_any {B : Nat} {w0 w : World} {X : Asn} (hX : Firm X) (h : Hold B w0 w X) (ma : Option Addr) (n mc : Nat) (st : Nat → Int) (top log : Nat → ByteArray) (hn : n ≤ 100) (hs : Mx w ma n st top log) (hnil : ma = none → n = 0 ∧ mc = 0) : Calls Try.prog 32 #[.slice ma n mc] w fun e w' => ∃ a c, e = .returned (.slice a n c) ∧ Hold B w0 w' (star (rowK 50 3 (.slice a n c) n (memF st top log n)) X) := by
  cases ma with
  | none =>
    obtain ⟨rfl, rfl⟩ := hnil rfl
    have h2 : Hid (Hold _ _ _ _) := rowK_nil (T := 50) (K := 3) h
    have he : ∀ w : World, (binOp .eql 27 (.slice none 0 0) (.slice none 0 0)).run Try.prog w = .ok (.bool true) w := fun _ => rfl
    go_enter Try.func32, Try.ntmps32
    go_wp2
    go_ret
    exact ⟨none, 0, rfl, h2.out⟩
  | some ad =>
    have h1 := rowK_empty hX h 50 3
    have hP := memF_P st top log n
    obtain ⟨v', w', hrun, hh⟩ := rowK_app hX 27 50 27 (.agg (mrow 0 noB noB).toArray) 3 40 Try.underlying27 Try.info50w rfl (by decide) (by decide) h1 ad n mc (memF st top log n) (memF_len _ _ _ _) (fun j u hu => by
      have hj : j < n * 3 := by
        rcases Nat.lt_or_ge j (n * 3) with h | h
        · exact h
        · rw [List.getElem?_eq_none (by rw [memF_len]; exact h)] at hu; cases hu
      obtain ⟨b', o', e, hc⟩ := hs.at ((Below.refl w.heap.size w).alloc (Nat.le_refl _) (.cells #[] 50)) (j / 3) (by omega)
      cases e
      obtain ⟨p, q, r⟩ := hP.2 (j / 3) (by omega)
      rw [Go.WideShapes.add_plain]
      rcases (by omega : j = j / 3 * 3 ∨ j = j / 3 * 3 + 1 ∨ j = j / 3 * 3 + 2) with e | e | e
      · rw [e] at hu
        rw [p] at hu
        rw [e, ← hu]; exact hc 0 _ rfl
      · rw [e] at hu
        rw [q] at hu
        rw [e, ← Nat.add_assoc, hc 1 _ rfl, ← hu]
      · rw [e] at hu
        rw [r] at hu
        rw [e, ← Nat.add_assoc, hc 2 _ rfl, ← hu]) (fun u hu => by
      exact memF_one st top log n u hu) (by omega)
    rw [Nat.zero_add] at hh
    obtain ⟨a, c, rfl⟩ := own_form hh.rowK
    have h2 : Hid (Hold B w0 w' (star (rowK 50 3 (.slice a n c) n (memF st top log n)) X)) := by
      show Hold _ _ _ _
      simpa using hh
    clear h1 hh h hs hX hnil hP
    have he : ∀ (w : World) (n c : Nat), (binOp .eql 27 (.slice (some ad) n c) (.slice none 0 0)).run Try.prog w = .ok (.bool false) w := fun _ _ _ => rfl
    go_enter Try.func32, Try.ntmps32
    go_wp2_with (at_builtin; refine Lib.wpList_append_run _ rfl _ _ 27 27 rfl _ _ rfl rfl _ _ hrun ?_)
    go_ret
    exact ⟨a, c, rfl, h2.out⟩
/-- Lists that are nil are empty. -/
def NilOk (a : Option Addr) (n c : Nat) : Prop := a = none → n = 0 ∧ c = 0
theorem own_nil {w : World} {T : TypeId} {K : Nat} {a : Option Addr} {n c m : Nat} {xs : List Value} (h : w.ownsRow 0 T K (.slice a n c) m xs) : NilOk a n c := by
  intro e
  rcases h.2 with ⟨h1, h2⟩ | ⟨g, cap, cur, h1, _⟩
  · cases h1; exact ⟨rfl, rfl⟩
  · cases h1; cases e
set_option maxRecDepth 20000 in
set_option maxHeartbeats 1000000 in
theorem scopy_any {w : World} {R : Rec} {sa ma : Option Addr} {sc mc : Nat} (hn : R.ns ≤ 100) (hm : R.nm ≤ 100) (hL : Lies w R sa ma) (n1 : NilOk sa R.ns sc) (n2 : NilOk ma R.nm mc) : Calls Try.prog 15 #[.agg (supV R sa ma sc mc).toArray] w fun e w' => ∃ sb sd mb md, e = .returned (.agg (supV R sb mb sd md).toArray) ∧ Hold w.heap.size w w' (star (rowK 3 1 (.slice sb R.ns sd) R.ns (si R.ns R.seat)) (star (rowK 50 3 (.slice mb R.nm md) R.nm (memF R.st R.top R.log R.nm)) nought)) := by
  have hz := zeroSup
  obtain ⟨HS, hHS⟩ : ∃ HS, w.heap.size = HS := ⟨_, rfl⟩
  have h0 := hold_nought w.heap.size w w (Nat.le_refl _) (Below.refl _ _)
  have h1 := h0.newBlk firm_nought 29 (supV R sa ma sc mc).toArray
  have h2 := h1.newBlk ((firm_blk _ _ _).star firm_nought) 29 zS.toArray
  rw [World.size_alloc, List.toList_toArray, hHS] at h2
  have hbl : Below w.heap.size w ((w.alloc (.cells (supV R sa ma sc mc).toArray 29)).alloc (.cells zS.toArray 29)) := ((Below.refl _ _).alloc (Nat.le_refl _) _).alloc (by simp) _
  have hL2 := hL.below hbl
  have fX : Firm (star (blkA (HS + 1) 29 zS) (star (blkA HS 29 (supV R sa ma sc mc)) nought)) := (firm_blk _ _ _).star ((firm_blk _ _ _).star firm_nought)
  have cI := cloneI_any fX h2 sa R.ns sc R.seat hn hL2.1 n1
  have HLM : Hid (∀ z, Below w.heap.size w z → Mx z ma R.nm R.st R.top R.log) := fun z hz => hL.2.below hz
  have c7 := h2.right.blk.cell (i := 7) rfl
  have HC : Hid (∀ a c, ((supV R sa ma sc mc).set 7 (.slice a R.ns c))[8]? = some (.slice ma R.nm mc)) := fun _ _ => rfl
  have HD : Hid (∀ a c b d, ((supV R sa ma sc mc).set 7 (.slice a R.ns c)).set 8 (.slice b R.nm d) = supV R a b c d) := fun _ _ _ _ => rfl
  have HE : Hid (∃ v, (supV R sa ma sc mc)[7]? = some v) := ⟨_, rfl⟩
  have HLN : Hid (∀ a b c d, (supV R a b c d).length = 9) := fun _ _ _ _ => rfl
  have HLO : Hid (∀ a b c d, ∀ v ∈ supV R a b c d, v.oneCell' = true) := fun a b c d v hv => by
    simp only [supV, List.mem_cons, List.not_mem_nil, or_false] at hv
    rcases hv with rfl | rfl | rfl | rfl | rfl | rfl | rfl | rfl | rfl <;> rfl
  have HZ9 : Hid (zS.length = 9) := rfl
  have HN2 : Hid (NilOk ma R.nm mc) := n2
  obtain ⟨L, hLL⟩ : ∃ L, supV R sa ma sc mc = L := ⟨_, rfl⟩
  rw [hLL] at c7 HC HD HE cI ⊢
  rw [hHS] at HLM ⊢
  have HSW : Hid (w.heap.size = HS) := hHS
  clear h0 h1 h2 hL hL2 hbl n1 n2 hLL fX
  generalize zS = ZS at *
  go_enter Try.func15, Try.ntmps15
  go_wp2_with (first
    | (go_at_call 31; refine cI.mono ?_; rintro e w3 ⟨a, c, rfl, h3⟩; have h3b := ((h3.mono (fun F h => star_monoR h (fun F h => star_swap h))).swap); obtain ⟨v7, hv7⟩ := HE.out; have d7 := h3b.blk.cell hv7; have f7 := h3b.blk.frozen 7; have h4 := h3b.setBlk ((firm_rowK _ _ _ _ _).star ((firm_blk _ _ _).star firm_nought)) 7 (.slice a R.ns c); have d8 := h4.blk.cell (HC.out a c); have cM := cloneM_any ((firm_blk _ _ _).star ((firm_rowK _ _ _ _ _).star ((firm_blk _ _ _).star firm_nought))) h4 ma R.nm mc R.st R.top R.log hm (HLM.out _ h4.low) HN2.out; clear h3 h3b h4 hv7 cI c7)
    | (go_at_call 32; refine cM.mono ?_; rintro e w5 ⟨b, d, rfl, h5⟩; have h6 := h5.swap; have d8' := h6.blk.cell (HC.out a c); have f8' := h6.blk.frozen 8; have h7 := h6.setBlk ((firm_rowK _ _ _ _ _).star ((firm_rowK _ _ _ _ _).star ((firm_blk _ _ _).star firm_nought))) 8 (.slice b R.nm d); rw [HD.out] at h7; have HLE := HLN.out a b c d; have HON := HLO.out a b c d; obtain ⟨M, hM⟩ : ∃ M, supV R a b c d = M := ⟨_, rfl⟩; rw [hM] at h7 HLE HON; obtain ⟨w6, hw6⟩ : ∃ w6, w5.setCell ⟨HS, 8, none⟩ (.slice b R.nm d) = w6 := ⟨_, rfl⟩; rw [hw6] at h7; have h8 := (h7.right.mono (fun F h => star_monoR h (fun F h => star_swap h))).swap; have h9 := h8.setRowBlk ((firm_rowK _ _ _ _ _).star ((firm_rowK _ _ _ _ _).star firm_nought)) M; have B6 : Hid (Blk w6 HS 29 M) := h7.blk; have B7 : Hid (Blk w6 (HS + 1) 29 ZS) := h8.blk; have H9 : Hid (Hold HS w _ _) := h9; have HM : Hid (supV R a b c d = M) := hM; have HLE : Hid (M.length = 9) := HLE; have HON : Hid (∀ v ∈ M, v.oneCell' = true) := HON; clear h5 h6 h7 h8 h9 hM cM)
    | (refine wpList_load_blk rfl 29 _ rfl HS rfl 29 M _ B6.out Try.underlying29 rfl (by rw [Try.size29, HLE.out]) ?_)
    | (refine wpList_store_blk rfl 29 _ _ rfl (HS + 1) ZS M rfl rfl 29 B7.out (by rw [Try.size29, HLE.out]) (by rw [HZ9.out, HLE.out]) HON.out ?_))
  have HR3 : Hid ((loadVar 29 ⟨HS + 1, 0, none⟩).run Try.prog (w6.setRow (HS + 1) M.toArray) = .ok (.agg M.toArray) (w6.setRow (HS + 1) M.toArray)) := run_loadVar_row _ (HS + 1) 29 29 M.toArray (0, 0) _ H9.out.blk Try.underlying29 rfl (by rw [Try.size29]; simp [HLE.out])
  exact bodyPost_ret_by (v := .agg M.toArray) (results_cell 2 29 ⟨HS + 1, 0, none⟩ Try.results15 rfl HR3.out) rfl ⟨a, c, b, d, by rw [HM.out], H9.out.right.swap⟩
end Go.Proofs.Ytbjmhpbelkndpaa
