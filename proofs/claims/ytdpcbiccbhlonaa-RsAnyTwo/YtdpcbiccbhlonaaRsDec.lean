/- All chunks, of those that are there: the program's own answer. -/
import Derived.Test.YtdpcbiccbhlonaaRsReb
import Derived.Deep.RegionHeld3
namespace Go.Proofs.Ytdpcbiccbhlonaa
open Go.RowKit Go.PlainAid
set_option linter.unusedVariables false

theorem MatAt.cut {w : World} {a : Option Addr} {n k : Nat} {L : Nat → Nat} {X : Mx} (h : MatAt w a n L X) (hk : k ≤ n) : MatAt w a k L X := by
  obtain ⟨AR, CR, h1, h2⟩ := h
  refine ⟨AR, CR, ?_, fun r hr => h2 r (by omega)⟩
  rcases h1 with h0 | ⟨b, o, e, h⟩
  · exact .inl (by omega)
  · exact .inr ⟨b, o, e, fun i hi => h i (by omega)⟩
theorem keptMat_any (a b : Option Addr) (n ca cb k : Nat) (X : Mx) (T : Nat → Bool) (w : World) (hn : n ≤ 1000) (ha : MatAt w a n (fun _ => k) X) (hb : Vals w b n fun i => .bool (T i)) :
    Calls Try.prog 34 #[.slice a n ca, .slice b n cb] w fun e w' => Below w.heap.size w w' ∧ ∃ a' c', e = .returned (.slice a' (cnt T n) c') ∧ cnt T n ≤ c' ∧ c' ≤ 9223372036854775807 ∧ MatAt w' a' (cnt T n) (fun _ => k) (fun r => X (kidx T n r)) := by
  obtain ⟨AR, CR, h1, h2⟩ := ha
  refine (keptRow_any a b n ca cb AR (fun _ => k) CR T w hn h1 hb).mono ?_
  rintro e w' ⟨hbel, v, rfl, hown⟩
  obtain ⟨a', c', rfl, -, hv⟩ := owns_form hown _ (fun i hi => valsL_at _ _ i hi)
  refine ⟨hbel, a', c', rfl, ?_, ?_, fun r => AR (kidx T n r), fun r => CR (kidx T n r), hv, fun r hr => ?_⟩
  · rcases hown.2 with ⟨h0, h3⟩ | ⟨g, cap, cur, e, _, _, h3, _⟩
    · omega
    · cases e; exact h3
  · rcases hown.2 with ⟨h0, h3⟩ | ⟨g, cap, cur, e, _, _, _, h3, _⟩
    · injection h0 with _ _ h4; omega
    · cases e; unfold maxLen at h3; omega
  · have hs := kidx_spec T hr
    exact ⟨(h2 _ hs.1).1, (h2 _ hs.1).2.below hbel (Nat.le_refl _)⟩

/-- What Decode answers. -/
def DecPost (n nb : Nat) (T : Nat → Bool) (M : Nat → Nat) (Y : Mx) (v : Value) (er : Int) (w' : World) (base : Nat) : Prop :=
  (¬ (3 ≤ n ∧ n ≤ 10 ∧ nb = n) ∧ v = .slice none 0 0 ∧ er = 2) ∨
  ((3 ≤ n ∧ n ≤ 10 ∧ nb = n) ∧ cnt T n < n - 2 ∧ v = .slice none 0 0 ∧ er = 24) ∨
  ((3 ≤ n ∧ n ≤ 10 ∧ nb = n) ∧ n - 2 ≤ cnt T n ∧ meaE (cnt T n) (fun r => M (kidx T n r)) ≠ 0 ∧ v = .slice none 0 0 ∧ er = meaE (cnt T n) (fun r => M (kidx T n r))) ∨
  ((3 ≤ n ∧ n ≤ 10 ∧ nb = n) ∧ n - 2 ≤ cnt T n ∧ meaE (cnt T n) (fun r => M (kidx T n r)) = 0 ∧ er = 0 ∧ ∃ D, Fits (n - 2) T (M (kidx T n 0)) Y D ∧ w'.ownsRow base 9 1 v n (strsL n fun i => strE (M (kidx T n 0)) (St (n - 2) D i)))

set_option maxHeartbeats 2000000 in
theorem decode_ok (a b : Option Addr) (k ca cb : Nat) (M : Nat → Nat) (Y : Mx) (T : Nat → Bool) (w : World) (k1 : 1 ≤ k) (k8 : k ≤ 8) (hT : TxtAt w a (k + 2) M Y) (hB : Vals w b (k + 2) fun i => .bool (T i)) :
    Calls Try.prog 15 #[.slice a (k + 2) ca, .slice b (k + 2) cb] w fun e w' => Below w.heap.size w w' ∧ ∃ v er, e = .returned (.tuple #[v, .int .i64 er]) ∧ DecPost (k + 2) (k + 2) T M Y v er w' w.heap.size := by
  have hin := fun x => inData_any (k : Int) true ⟨fun _ => by omega, fun _ => rfl⟩ x
  have hks := keptStr_any a b (k + 2) ca cb (fun i => strE (M i) (Y i)) T w (by omega) hT.1 hB
  have hst := fun x => stripeRows_any k k1 k8 x
  have HB : Hid (∀ x, Below w.heap.size w x → Vals x b (k + 2) fun i => .bool (T i)) := fun x hx => hB.below hx (Nat.le_refl _)
  have hcl := cnt_le T (k + 2)
  have HS : Hid (∀ r, r < cnt T (k + 2) → M (kidx T (k + 2) r) ≤ 9223372036854775807) := fun r hr => hT.2 _ (kidx_spec T hr).1
  obtain ⟨q, hq⟩ : ∃ q, cnt T (k + 2) = q := ⟨_, rfl⟩
  have HQ : Hid (cnt T (k + 2) = q) := hq
  rw [hq] at hks hcl
  have kk : ((k + 2 : Nat) : Int) - 2 = (k : Int) := by omega
  have t0 : (((k + 2 : Nat) : Int) != ((k + 2 : Nat) : Int)) = false := by simp
  have t1 : (((k : Int) + 2) != ((k : Int) + 2)) = false := by simp
  have HN : Hid (3 ≤ k + 2 ∧ k + 2 ≤ 10) := ⟨by omega, by omega⟩
  clear hT hB hq
  by_cases hlost : q < k
  · have hl : (q : Int) < (k : Int) := by omega
    go_enter Try.func15, Try.ntmps15
    go_wp2_with fail
    go_at_call 20
    refine (hin _).mono ?_
    rintro e w' ⟨rfl, rfl⟩
    go_wp2_with fail
    go_at_call 32
    refine hks.mono ?_
    rintro e w1 ⟨hb1, v, rfl, hown⟩
    obtain ⟨a1, c1, rfl, -, -⟩ := owns_form hown _ (fun i hi => strsL_at _ _ i hi)
    clear hks hown
    go_wp2_with fail
    go_ret2
    exact ⟨hb1, _, _, rfl, .inr (.inl ⟨⟨HN.out.1, HN.out.2, rfl⟩, by rw [HQ.out]; omega, rfl, rfl⟩)⟩
  · have hl : ¬ (q : Int) < (k : Int) := by omega
    have hkq : (k : Int) ≤ (q : Int) := by omega
    go_enter Try.func15, Try.ntmps15
    go_wp2_with fail
    go_at_call 20
    refine (hin _).mono ?_
    rintro e w' ⟨rfl, rfl⟩
    go_wp2_with fail
    go_at_call 32
    refine hks.mono ?_
    rintro e w1 ⟨hb1, v, rfl, hown⟩
    have hT1 : ∃ a1 c1, v = .slice a1 q c1 ∧ q ≤ c1 ∧ c1 ≤ 9223372036854775807 ∧ TxtAt w1 a1 q (fun r => M (kidx T (k + 2) r)) (fun r => Y (kidx T (k + 2) r)) := by
      obtain ⟨a1, c1, rfl, -, hv⟩ := owns_form hown _ (fun i hi => strsL_at _ _ i hi)
      refine ⟨a1, c1, rfl, ?_, ?_, hv, fun r hr => HS.out r (by rw [HQ.out]; exact hr)⟩
      · rcases hown.2 with ⟨h0, h3⟩ | ⟨g, cap, cur, e, _, _, h3, _⟩
        · omega
        · cases e; exact h3
      · rcases hown.2 with ⟨h0, h3⟩ | ⟨g, cap, cur, e, _, _, _, h3, _⟩
        · injection h0 with _ _ h4; omega
        · cases e; unfold maxLen at h3; omega
    obtain ⟨a1, c1, rfl, hc1, hc2, hT1⟩ := hT1
    have hmea := measure_any a1 q c1 _ _ w1 (by omega) (by unfold maxLen; omega) hT1
    have HT1 : Hid (TxtAt w1 a1 q (fun r => M (kidx T (k + 2) r)) (fun r => Y (kidx T (k + 2) r))) := hT1
    obtain ⟨er, her⟩ : ∃ er, meaE q (fun r => M (kidx T (k + 2) r)) = er := ⟨_, rfl⟩
    have HER : Hid (meaE q (fun r => M (kidx T (k + 2) r)) = er) := her
    rw [her] at hmea
    clear hks hown hT1 her
    by_cases h0 : er = 0
    · subst h0
      obtain ⟨hall, h5⟩ := mea_zero.1 HER.out
      obtain ⟨m, hm⟩ : ∃ m, M (kidx T (k + 2) 0) = m := ⟨_, rfl⟩
      have HM : Hid (M (kidx T (k + 2) 0) = m) := hm
      have hTk : TxtAt w1 a1 k (fun _ => m) (fun r => Y (kidx T (k + 2) r)) := by
        refine ⟨?_, fun c hc => by show m ≤ _; have : M (kidx T (k + 2) 0) ≤ 65536 := h5; omega⟩
        rcases HT1.out.1 with h0 | ⟨x, y, e, h⟩
        · omega
        · refine .inr ⟨x, y, e, fun i hi => ?_⟩
          have e1 : M (kidx T (k + 2) i) = m := by rw [← hm]; exact hall i (by omega)
          show _ = some (Value.string (strE m (Y (kidx T (k + 2) i))))
          rw [← e1]
          exact h i (by omega)
      have HTK : Hid (∀ x, Below w1.heap.size w1 x → TxtAt x a1 k (fun _ => m) (fun r => Y (kidx T (k + 2) r))) := fun x hx => hTk.below hx
      have hm5 : m ≤ 65536 := by have : M (kidx T (k + 2) 0) ≤ 65536 := h5; omega
      have kc1 : (k : Int) ≤ (c1 : Int) := by omega
      have kc1' : k ≤ c1 := by omega
      have hqT : k ≤ cnt T (k + 2) := by rw [HQ.out]; omega
      have hreb := fun x a6 c6 (hx : Below w1.heap.size w1 x) hM => rebuild_any a1 a6 k c1 c6 m T Y x k1 k8 kc1' hc2 hm5 hqT (HTK.out x hx) hM
      have HREB : Hid (∀ (x : World) (a6 : Option Addr) (c6 : Nat), Below w1.heap.size w1 x → MatAt x a6 k (fun _ => k) (fun r => stM k (kidx T (k + 2) r)) → Calls Try.prog 33 #[.slice a1 k c1, .slice a6 k c6] x fun e w' => Below x.heap.size x w' ∧ ∃ v D, e = .returned v ∧ Fits k T m Y D ∧ w'.ownsRow x.heap.size 9 1 v (k + 2) (strsL (k + 2) fun i => strE m (St k D i))) := hreb
      clear hall h5 hTk hm hreb hqT
      go_wp2_with fail
      go_at_call 25
      refine hmea.mono ?_
      rintro e w2 ⟨hb2, rfl⟩
      have hd2 : Below w1.heap.size w1 w2.drew := hb2.drew
      clear hmea
      go_wp2_with fail
      go_region_held3 (fun _ => True) (first | trivial) (first | (go_at_call 35; refine (hst _).mono ?_; rintro e w3 ⟨hb3, a3, c3, rfl, hM3⟩; have hx3 : Below w1.heap.size w1 w3 := hd2.trans (hb3.mono hd2.size)) | (go_at_call 34; refine (keptMat_any _ _ (k + 2) _ _ k (stM k) T w3 (by omega) hM3 (HB.out w3 (hb1.trans (hx3.mono hb1.size)))).mono ?_; rw [HQ.out]; rintro e w4 ⟨hb4, a4, c4, rfl, hc41, hc42, hM4⟩; have hx4 : Below w1.heap.size w1 w4 := hx3.trans (hb4.mono hx3.size); have kc4 : (k : Int) ≤ (c4 : Int) := by omega) | (go_at_call 33; refine (HREB.out w4 _ _ hx4 (hM4.cut (by omega))).mono ?_; rintro e w5 ⟨hb5, v5, D, rfl, hF, hown5⟩))
      have hx5 : Below w1.heap.size w1 w5 := hx4.trans (hb5.mono hx4.size)
      have hb05 := hb1.trans (hx5.mono hb1.size)
      have hs4 := Nat.le_trans hb1.size hx4.size
      clear hb5 hb4 hb3 hM3 hM4
      go_wp2_with fail
      go_ret2
      refine ⟨hb05, _, _, rfl, .inr (.inr (.inr ⟨⟨HN.out.1, HN.out.2, rfl⟩, by rw [HQ.out]; omega, by rw [HQ.out]; exact HER.out, rfl, D, ?_, ?_⟩))⟩
      · rw [HM.out]; exact hF
      · rw [HM.out]; exact owns_mono hown5 hs4
    · have t2 : (er != 0) = true := by simpa using h0
      have HE0 : Hid (er ≠ 0) := h0
      clear h0
      go_wp2_with fail
      go_at_call 25
      refine hmea.mono ?_
      rintro e w2 ⟨hb2, rfl⟩
      have hb02 := hb1.trans (hb2.mono hb1.size)
      clear hmea
      go_wp2_with fail
      go_ret2
      exact ⟨hb02, _, _, rfl, .inr (.inr (.inl ⟨⟨HN.out.1, HN.out.2, rfl⟩, by rw [HQ.out]; omega, by rw [HQ.out, HER.out]; exact HE0.out, rfl, by rw [HQ.out, HER.out]⟩))⟩

set_option maxHeartbeats 1000000 in
theorem decode_any (a b : Option Addr) (n nb ca cb : Nat) (M : Nat → Nat) (Y : Mx) (T : Nat → Bool) (w : World) (hnm : n ≤ 9223372036854775807) (hbm : nb ≤ 9223372036854775807) (hT : TxtAt w a n M Y) (hB : Vals w b nb fun i => .bool (T i)) :
    Calls Try.prog 15 #[.slice a n ca, .slice b nb cb] w fun e w' => Below w.heap.size w w' ∧ ∃ v er, e = .returned (.tuple #[v, .int .i64 er]) ∧ DecPost n nb T M Y v er w' w.heap.size := by
  by_cases hn : 3 ≤ n ∧ n ≤ 10
  · by_cases hnb : nb = n
    · obtain ⟨k, rfl⟩ : ∃ k, n = k + 2 := ⟨n - 2, by omega⟩
      subst hnb
      exact decode_ok a b k ca cb M Y T w (by omega) (by omega) hT hB
    · have hin := fun x => inData_any ((n : Int) - 2) true ⟨fun _ => by omega, fun _ => rfl⟩ x
      have t0 : ((nb : Int) != (n : Int)) = true := by simp; omega
      have HN : Hid (¬ (3 ≤ n ∧ n ≤ 10 ∧ nb = n)) := fun h => hnb h.2.2
      clear hT hB hn hnb
      go_enter Try.func15, Try.ntmps15
      go_wp2_with fail
      go_at_call 20
      refine (hin _).mono ?_
      rintro e w' ⟨rfl, rfl⟩
      go_wp2_with fail
      go_ret2
      exact ⟨Below.refl _ _, _, _, rfl, .inl ⟨HN.out, rfl, rfl⟩⟩
  · have hin := fun x => inData_any ((n : Int) - 2) false ⟨fun h => Bool.noConfusion h, fun h => absurd (by omega) hn⟩ x
    have HN : Hid (¬ (3 ≤ n ∧ n ≤ 10 ∧ nb = n)) := fun h => hn ⟨h.1, h.2.1⟩
    clear hT hB hn
    go_enter Try.func15, Try.ntmps15
    go_wp2_with fail
    go_at_call 20
    refine (hin _).mono ?_
    rintro e w' ⟨rfl, rfl⟩
    go_wp2_with fail
    go_ret2
    exact ⟨Below.refl _ _, _, _, rfl, .inl ⟨HN.out, rfl, rfl⟩⟩
end Go.Proofs.Ytdpcbiccbhlonaa
