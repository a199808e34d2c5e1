/- Tamper. -/
import Derived.Test.YtfepmafjkgjmmaaDkDel3
namespace Go.Proofs.Ytfepmafjkgjmmaa
open Go.RowKit Go.PlainAid
set_option linter.unusedVariables false

/-- What Tamper answers, what lasts and what waits behind it. -/
def tampB (dead : Bool) (n : Nat) (at_ : Int) (s : ByteArray) : Bool := decide (errW dead n at_ s = 0)
def tampL (l : Nat → ByteArray) (dead : Bool) (n : Nat) (at_ : Int) (s : ByteArray) : Nat → ByteArray := if errW dead n at_ s = 0 then upd l (at_.toNat, s) else l
def tampQ (q : List Wr) (dead : Bool) (n : Nat) (at_ : Int) (s : ByteArray) : List Wr := if errW dead n at_ s = 0 then others at_.toNat q else q
theorem tamper_nil (at_ : Int) (s : ByteArray) (w : World) : Calls Try.prog 26 #[.pointer none, .int .i64 at_, .string s] w fun e w' => e = .returned (.bool false) ∧ Below w.heap.size w w' := by
  have HB : Hid (Below w.heap.size w (w.alloc (.cells #[.int .i64 at_] 3))) := (Below.refl _ _).alloc (Nat.le_refl _) _
  go_enter Try.func26, Try.ntmps26
  go_wp2_with (go_at_call 45; refine (reach_nil _ _).mono ?_; rintro e w' ⟨rfl, rfl⟩)
  go_ret
  exact ⟨rfl, HB.out⟩
set_option maxRecDepth 20000 in
set_option maxHeartbeats 1000000 in
theorem tamper_any {F : Nat → Prop} {g n : Nat} {l : Nat → ByteArray} {q : List Wr} {dead : Bool} {w : World} (h : DiskAt w F g n l q dead) (at_ : Int) (s : ByteArray) (hq : q.length ≤ 1000000) :
    Calls Try.prog 26 #[.pointer (some ⟨g, 0, none⟩), .int .i64 at_, .string s] w fun e w' => e = .returned (.bool (tampB dead n at_ s)) ∧ Turned F w w' (fun F' => DiskAt w' F' g n (tampL l dead n at_ s) (tampQ q dead n at_ s) dead) := by
  have K0 : Kept (fun _ => False) w (w.alloc (.cells #[.int .i64 at_] 3)) := (Kept.refl _ _).alloc _
  have h' := h.kept K0 (fun _ _ h => h)
  have hu := reach_any h' at_
  have HT0 : Hid (Turned F w (w.alloc (.cells #[.int .i64 at_] 3)) (fun F' => DiskAt (w.alloc (.cells #[.int .i64 at_] 3)) F' g n l q dead)) := ⟨F, h', K0.mono (fun i _ h => h.elim), fun k hk => .inl hk⟩
  unfold tampB tampL tampQ
  rcases errW_cases dead n at_ s with ⟨E, hE, h0, hW⟩ | ⟨hE, hW, hs⟩ | ⟨rfl, hW, hs, k, rfl, hk⟩
  · rw [hW, if_neg h0, if_neg h0, decide_eq_false h0]
    rw [hE] at hu
    have hb : (E == 0) = false := by simpa using h0
    have hb' : (E = 0) = False := eq_false h0
    clear h h' K0 hE hW h0
    go_enter Try.func26, Try.ntmps26
    go_wp2_with (go_at_call 45; refine hu.mono ?_; rintro e w' ⟨rfl, rfl⟩)
    go_ret
    exact ⟨rfl, HT0.out⟩
  · rw [hW, if_neg (by decide), if_neg (by decide), decide_eq_false (by decide)]
    rw [hE] at hu
    clear h h' K0 hE hW
    go_enter Try.func26, Try.ntmps26
    go_wp2_with (go_at_call 45; refine hu.mono ?_; rintro e w' ⟨rfl, rfl⟩)
    go_ret
    exact ⟨rfl, HT0.out⟩
  · rw [hW, if_pos rfl, if_pos rfl, decide_eq_true rfl, Int.toNat_natCast]
    rw [errA_ok n k hk] at hu
    have hs' : ¬ 2048 < s.size := by omega
    have hB := h.bound
    clear h HT0
    obtain ⟨gc, gl, v, h⟩ := h'
    have G0 : Blk (w.alloc (.cells #[.int .i64 (k : Int)] 3)) w.heap.size 3 [.int .i64 (k : Int)] := Blk.new w 3 #[.int .i64 (k : Int)]
    have hgc := h.top.ne h.cells (by decide)
    have hgl := h.top.ne h.lasts (by decide)
    have hvc := h.cells.owns_ne h.row (by decide)
    have hvl := h.lasts.owns_ne h.row (by decide)
    have hac := G0.ne h.cells (by decide)
    have hal := G0.ne h.lasts (by decide)
    have HK0 : Hid (Kept F w (w.alloc (.cells #[.int .i64 (k : Int)] 3))) := K0.mono (fun i _ h => h.elim)
    have HB : Hid _ := hB
    have c0 := h.top.cell (i := 0) rfl
    have c1 := h.top.cell (i := 1) rfl
    have ca1 := G0.cell (i := 0) rfl
    have ec := h.cells.cell (strs_at n _ k hk)
    have fc := h.cells.frozen k
    have el := h.lasts.cell (strs_at n _ k hk)
    have fl := h.lasts.frozen k
    have hk' : (k : Int) < (n : Int) := by omega
    clear K0 hB hW
    -- behind the two stores, in whichever order
    have fact : ∀ w3, (w3 = (((w.alloc (.cells #[.int .i64 (k : Int)] 3)).setCell ⟨gc, k, none⟩ (.string s)).setCell ⟨gl, k, none⟩ (.string s)).drew ∨ w3 = (((w.alloc (.cells #[.int .i64 (k : Int)] 3)).setCell ⟨gl, k, none⟩ (.string s)).setCell ⟨gc, k, none⟩ (.string s)).drew) →
        Hid (Blk w3 g 76 [.slice (some ⟨gc, 0, none⟩) n n, .slice (some ⟨gl, 0, none⟩) n n, v, .bool false] ∧ Blk w3 gc 9 (strs n (upd (app l q) (k, s))) ∧ Blk w3 gl 9 (strs n (upd l (k, s))) ∧ Waits w3 84 v q ∧ Blk w3 w.heap.size 3 [.int .i64 (k : Int)] ∧ Kept F w w3) := by
      intro w3 hw3
      have C1 := h.cells.setCell k (.string s)
      have L1 := h.lasts.setCell k (.string s)
      rw [strs_set] at C1 L1
      have kc := Kept.one (w.alloc (.cells #[.int .i64 (k : Int)] 3)) gc k (.string s)
      have kl := Kept.one (w.alloc (.cells #[.int .i64 (k : Int)] 3)) gl k (.string s)
      rcases hw3 with rfl | rfl
      · have kl' := Kept.one ((w.alloc (.cells #[.int .i64 (k : Int)] 3)).setCell ⟨gc, k, none⟩ (.string s)) gl k (.string s)
        have L2 := (h.lasts.kept kc (fun e => h.ne e.symm)).setCell k (.string s)
        rw [strs_set] at L2
        exact ⟨((h.top.kept kc hgc).kept kl' hgl).drew, (C1.kept kl' h.ne).drew, L2.drew, ((h.row.kept kc (fun i hi e => hvc (by rw [hi, e]))).kept kl' (fun i hi e => hvl (by rw [hi, e]))).kept (Kept.refl (fun _ => False) _).drew (fun _ _ h => h),
          ((G0.kept kc hac).kept kl' hal).drew, ((HK0.out.setCell (.inl h.inn.2.1) _ _).setCell (.inl h.inn.2.2.1) _ _).drew⟩
      · have kc' := Kept.one ((w.alloc (.cells #[.int .i64 (k : Int)] 3)).setCell ⟨gl, k, none⟩ (.string s)) gc k (.string s)
        have C2 := (h.cells.kept kl h.ne).setCell k (.string s)
        rw [strs_set] at C2
        exact ⟨((h.top.kept kl hgl).kept kc' hgc).drew, C2.drew, (L1.kept kc' (fun e => h.ne e.symm)).drew, ((h.row.kept kl (fun i hi e => hvl (by rw [hi, e]))).kept kc' (fun i hi e => hvc (by rw [hi, e]))).kept (Kept.refl (fun _ => False) _).drew (fun _ _ h => h),
          ((G0.kept kl hal).kept kc' hac).drew, ((HK0.out.setCell (.inl h.inn.2.2.1) _ _).setCell (.inl h.inn.2.1) _ _).drew⟩
    have HFA : Hid _ := fact
    have HH : Hid _ := h
    clear fact G0 h
    have hcne : (gc = gl) = False := eq_false HH.out.ne
    have hcne' : (gl = gc) = False := eq_false (fun e => HH.out.ne e.symm)
    go_enter Try.func26, Try.ntmps26
    go_wp2_with (go_at_call 45; refine hu.mono ?_; rintro e w' ⟨rfl, hw'⟩; rw [hw']; clear hw' w')
    go_region
    have hf := HFA.out _ (.inl rfl)
    clear HFA hu c0 c1 ca1 ec fc el fl
    generalize (((w.alloc (.cells #[.int .i64 (k : Int)] 3)).setCell ⟨gc, k, none⟩ (.string s)).setCell ⟨gl, k, none⟩ (.string s)).drew = w3 at hf ⊢
    have hdel := deleteFunc_any k w.heap.size q v w3 hf.out.2.2.2.2.1 hf.out.2.2.2.1 hq
    have c2 := hf.out.1.cell (i := 2) rfl
    go_wp2_with (go_at_call 46; refine hdel.mono ?_; rintro e w4 ⟨b, c, rfl, hW, hK, hob⟩; clear hdel; have T4 := hf.out.1.kept hK (hf.out.1.owns_ne hf.out.2.2.2.1 (by decide)); have d2 := T4.cell (i := 2) rfl; have f2 := T4.frozen 2)
    go_ret
    refine ⟨rfl, ?_⟩
    obtain ⟨-, C3, L3, W3, -, K3⟩ := hf.out
    have hg4 := T4.setCell 2 (.slice b (others k q).length c)
    have K5 := Kept.one w4 g 2 (.slice b (others k q).length c)
    have C4 := (C3.kept hK (C3.owns_ne W3 (by decide))).kept K5 (fun e => hgc e.symm)
    have L4 := (L3.kept hK (L3.owns_ne W3 (by decide))).kept K5 (fun e => hgl e.symm)
    have W5 := hW.kept K5 (fun i hi e => T4.owns_ne hW (by decide) (by rw [hi, e]))
    have K6 : Kept F w (w4.setCell ⟨g, 2, none⟩ (.slice b (others k q).length c)) := (K3.trans hK (fun i hi => .inl (HH.out.inn.2.2.2 i hi))).setCell (.inl HH.out.inn.1) _ _
    refine ⟨F, ⟨gc, gl, .slice b (others k q).length c, ⟨HH.out.inn.1, HH.out.inn.2.1, HH.out.inn.2.2.1, fun i hi => HH.out.inn.2.2.2 i (by rw [← hob]; exact hi)⟩, HH.out.ne, HH.out.low, HH.out.high, fun p hp => HH.out.ats p (others_mem hp), hg4, ?_, L4, W5, fun i hi => Nat.lt_of_lt_of_le (HB.out i hi) K6.size⟩, K6, fun i hi => .inl hi⟩
    rw [app_others]
    exact C4
end Go.Proofs.Ytfepmafjkgjmmaa
