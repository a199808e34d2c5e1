/- One act, whichever: both disks answer the same. -/
import Derived.Test.YtmgllcmfnljfjaaDkActW
import Derived.Test.YtmgllcmfnljfjaaDkActR
import Derived.Test.YtmgllcmfnljfjaaDkActF
import Derived.Test.YtmgllcmfnljfjaaDkActC
import Derived.Test.YtmgllcmfnljfjaaDkActT
import Derived.Test.YtmgllcmfnljfjaaDkActI
import Derived.Test.YtmgllcmfnljfjaaDkActJ
import Derived.Test.YtmgllcmfnljfjaaDkActK
namespace Go.Proofs.Ytmgllcmfnljfjaa
open Go.RowKit Go.PlainAid
set_option linter.unusedVariables false

/-- Both have the same cells, if they aren't dead. -/
def Rel (dead : Bool) (n : Nat) (l l' : Nat → ByteArray) : Prop := dead = false → ∀ i, i < n → l i = l' i
theorem Rel.read {dead : Bool} {n : Nat} {l l' : Nat → ByteArray} (h : Rel dead n l l') (q : List Wr) (a : Int) : readB l' q dead n a = readB l q dead n a := by
  unfold readB
  rcases errA_cases dead n a with rfl | ⟨rfl, ha⟩ | ⟨rfl, k, rfl, hk⟩
  · rfl
  · rw [errA_low n a ha]; rfl
  · rw [errA_ok n k hk, if_pos rfl, if_pos rfl, Int.toNat_natCast, app_congr q n l' l (fun i hi => (h rfl i hi).symm) k hk]
theorem Rel.flush {dead : Bool} {n : Nat} {l l' : Nat → ByteArray} (h : Rel dead n l l') (q : List Wr) : Rel dead n (flushL l q dead) (flushL l' q dead) := by
  rintro rfl
  exact app_congr q n l l' (h rfl)
theorem Rel.crash {dead : Bool} {n : Nat} {l l' : Nat → ByteArray} (h : Rel dead n l l') (q : List Wr) (k : Nat → Bool) : Rel dead n (crashL l q dead k) (crashL l' q dead k) := by
  rintro rfl
  exact app_congr _ n l l' (h rfl)
theorem Rel.restore {dead : Bool} {n : Nat} {l l' : Nat → ByteArray} (m : Nat) (f : Nat → ByteArray) : Rel dead n (restoreL l dead m f) (restoreL l' dead m f) := by
  rintro rfl i hi
  rfl
theorem Rel.tamper {dead : Bool} {n : Nat} {l l' : Nat → ByteArray} (h : Rel dead n l l') (a : Int) (s : ByteArray) : Rel dead n (tampL l dead n a s) (tampL l' dead n a s) := by
  intro hd i hi
  unfold tampL
  by_cases e : errW dead n a s = 0
  · rw [if_pos e, if_pos e]; unfold upd; rw [h hd i hi]
  · rw [if_neg e, if_neg e]; exact h hd i hi
/-- Both disks and the variable, behind some acts: N writes may wait. -/
def Plays (B : Nat) (w0 w : World) (gd gr gi n N : Nat) (dead : Bool) : Prop := ∃ l q l' v m f, Sys B w0 w gd gr gi n l q dead l' q dead v m f ∧ Rel dead n l l' ∧ q.length ≤ N ∧ m ≤ 512
theorem Plays.below {B : Nat} {w0 w w' : World} {gd gr gi n N : Nat} {dead : Bool} (h : Plays B w0 w gd gr gi n N dead) (hb : Below w.heap.size w w') : Plays B w0 w' gd gr gi n N dead := by
  obtain ⟨l, q, l', v, m, f, h1, h2, h3, h4⟩ := h
  exact ⟨l, q, l', v, m, f, h1.below hb, h2, h3, h4⟩
theorem tmod8 (d : Int) : d.tmod 8 = 0 ∨ d.tmod 8 = 1 ∨ d.tmod 8 = -1 ∨ d.tmod 8 = 2 ∨ d.tmod 8 = -2 ∨ d.tmod 8 = 3 ∨ d.tmod 8 = -3 ∨ d.tmod 8 = 4 ∨ d.tmod 8 = -4 ∨ d.tmod 8 = 5 ∨ d.tmod 8 = -5 ∨ d.tmod 8 = 6 ∨ d.tmod 8 = -6 ∨ d.tmod 8 = 7 ∨ d.tmod 8 = -7 := by
  have h1 := Int.tmod_lt_of_pos d (b := 8) (by omega)
  have h2 := Int.lt_tmod_of_pos d (b := 8) (by omega)
  omega
theorem act_any {B : Nat} {w0 w : World} {gd gr gi n N : Nat} {dead : Bool} (h : Plays B w0 w gd gr gi n N dead) (hN : N ≤ 100000) (A : ActD) (hA : ActOk w0 A) (ho : Old B A.row) :
    Calls Try.prog 12 #[.pointer (some ⟨gd, 0, none⟩), .pointer (some ⟨gr, 0, none⟩), .pointer (some ⟨gi, 0, none⟩), actV A.d A.a A.s A.n A.row A.x] w fun e w' => e = .returned (.bool true) ∧ ∃ dead2, Plays B w0 w' gd gr gi n (N + 1) dead2 ∧ (A.d.tmod 8 ≠ 7 → A.d.tmod 8 ≠ -7 → dead2 = dead) := by
  obtain ⟨l, q, l', v, m, f, hs, hr, hq, hm⟩ := h
  have hq1 : q.length ≤ 100000 := by omega
  obtain ⟨⟨hbo, hk1, hk2⟩, _⟩ := hA
  have wr : ∀ w', Sys B w0 w' gd gr gi n l (putQ q dead n A.a (bytesB A.s A.n)) dead l' (putQ q dead n A.a (bytesB A.s A.n)) dead v m f → ∃ dead2, Plays B w0 w' gd gr gi n (N + 1) dead2 ∧ (A.d.tmod 8 ≠ 7 → A.d.tmod 8 ≠ -7 → dead2 = dead) := fun w' h => ⟨dead, ⟨_, _, _, _, _, _, h, hr, Nat.le_trans (putQ_length _ _ _ _ _) (by omega), hm⟩, fun _ _ => rfl⟩
  have rd : ∀ w', Sys B w0 w' gd gr gi n l q dead l' q dead v m f → ∃ dead2, Plays B w0 w' gd gr gi n (N + 1) dead2 ∧ (A.d.tmod 8 ≠ 7 → A.d.tmod 8 ≠ -7 → dead2 = dead) := fun w' h => ⟨dead, ⟨_, _, _, _, _, _, h, hr, by omega, hm⟩, fun _ _ => rfl⟩
  have fl : ∀ w', Sys B w0 w' gd gr gi n (flushL l q dead) (flushQ q dead) dead (flushL l' q dead) (flushQ q dead) dead v m f → ∃ dead2, Plays B w0 w' gd gr gi n (N + 1) dead2 ∧ (A.d.tmod 8 ≠ 7 → A.d.tmod 8 ≠ -7 → dead2 = dead) := fun w' h => ⟨dead, ⟨_, _, _, _, _, _, h, hr.flush q, Nat.le_trans (flushQ_length _ _) (by omega), hm⟩, fun _ _ => rfl⟩
  have cr : ∀ w', (∃ kx, Sys B w0 w' gd gr gi n (crashL l q dead kx) (flushQ q dead) dead (crashL l' q dead kx) (flushQ q dead) dead v m f) → ∃ dead2, Plays B w0 w' gd gr gi n (N + 1) dead2 ∧ (A.d.tmod 8 ≠ 7 → A.d.tmod 8 ≠ -7 → dead2 = dead) := fun w' ⟨kx, h⟩ => ⟨dead, ⟨_, _, _, _, _, _, h, hr.crash q kx, Nat.le_trans (flushQ_length _ _) (by omega), hm⟩, fun _ _ => rfl⟩
  have ta : ∀ w', Sys B w0 w' gd gr gi n (tampL l dead n A.a (bytesB A.s A.n)) (tampQ q dead n A.a (bytesB A.s A.n)) dead (tampL l' dead n A.a (bytesB A.s A.n)) (tampQ q dead n A.a (bytesB A.s A.n)) dead v m f → ∃ dead2, Plays B w0 w' gd gr gi n (N + 1) dead2 ∧ (A.d.tmod 8 ≠ 7 → A.d.tmod 8 ≠ -7 → dead2 = dead) := fun w' h => ⟨dead, ⟨_, _, _, _, _, _, h, hr.tamper _ _, Nat.le_trans (tampQ_length _ _ _ _ _) (by omega), hm⟩, fun _ _ => rfl⟩
  have im : ∀ w', ImgPost B w0 w' gd gr gi n l q dead l' v m f → ∃ dead2, Plays B w0 w' gd gr gi n (N + 1) dead2 ∧ (A.d.tmod 8 ≠ 7 → A.d.tmod 8 ≠ -7 → dead2 = dead) := fun w' h => by
    rcases h with ⟨v', m', f', hm', h⟩ | h
    · exact ⟨dead, ⟨_, _, _, _, _, _, h, hr, by omega, hm'⟩, fun _ _ => rfl⟩
    · exact ⟨dead, ⟨_, _, _, _, _, _, h, Rel.restore m f, Nat.le_trans (flushQ_length _ _) (by omega), hm⟩, fun _ _ => rfl⟩
  have fa : ∀ w', (A.d.tmod 8 = 7 ∨ A.d.tmod 8 = -7) → Sys B w0 w' gd gr gi n (fun _ => noB) [] true l' [] true v m f → ∃ dead2, Plays B w0 w' gd gr gi n (N + 1) dead2 ∧ (A.d.tmod 8 ≠ 7 → A.d.tmod 8 ≠ -7 → dead2 = dead) := fun w' hd h => ⟨true, ⟨_, _, _, _, _, _, h, (fun h => by cases h), by simp, hm⟩, fun h1 h2 => by rcases hd with h | h <;> contradiction⟩
  have hrd := hr.read q A.a
  rcases tmod8 A.d with hd | hd | hd | hd | hd | hd | hd | hd | hd | hd | hd | hd | hd | hd | hd
  · exact (act_write0 hs hq1 A.d A.a A.s A.n A.kb A.km A.kc A.x hk1 hk2 hd).mono fun e w' ⟨he, h⟩ => ⟨he, wr w' h⟩
  · exact (act_write1 hs hq1 A.d A.a A.s A.n A.kb A.km A.kc A.x hk1 hk2 hd).mono fun e w' ⟨he, h⟩ => ⟨he, wr w' h⟩
  · exact (act_writem1 hs hq1 A.d A.a A.s A.n A.kb A.km A.kc A.x hk1 hk2 hd).mono fun e w' ⟨he, h⟩ => ⟨he, wr w' h⟩
  · exact (act_read2 hs hq1 A.d A.a A.s A.n A.kb A.km A.kc A.x hk1 hk2 hrd hd).mono fun e w' ⟨he, h⟩ => ⟨he, rd w' h⟩
  · exact (act_readm2 hs hq1 A.d A.a A.s A.n A.kb A.km A.kc A.x hk1 hk2 hrd hd).mono fun e w' ⟨he, h⟩ => ⟨he, rd w' h⟩
  · exact (act_flush3 hs hq1 A.d A.a A.s A.n A.kb A.km A.kc A.x hk1 hk2 hd).mono fun e w' ⟨he, h⟩ => ⟨he, fl w' h⟩
  · exact (act_flushm3 hs hq1 A.d A.a A.s A.n A.kb A.km A.kc A.x hk1 hk2 hd).mono fun e w' ⟨he, h⟩ => ⟨he, fl w' h⟩
  · exact (act_crash4 hs hq1 A.d A.a A.s A.n A.kb A.km A.kc A.x hk1 hk2 A.kk hbo ho hd).mono fun e w' ⟨he, h⟩ => ⟨he, cr w' h⟩
  · exact (act_crashm4 hs hq1 A.d A.a A.s A.n A.kb A.km A.kc A.x hk1 hk2 A.kk hbo ho hd).mono fun e w' ⟨he, h⟩ => ⟨he, cr w' h⟩
  · exact (act_tamper5 hs hq1 A.d A.a A.s A.n A.kb A.km A.kc A.x hk1 hk2 hd).mono fun e w' ⟨he, h⟩ => ⟨he, ta w' h⟩
  · exact (act_tamperm5 hs hq1 A.d A.a A.s A.n A.kb A.km A.kc A.x hk1 hk2 hd).mono fun e w' ⟨he, h⟩ => ⟨he, ta w' h⟩
  · cases dead
    · exact (act_imgL6 hs hq1 A.d A.a A.s A.n A.kb A.km A.kc A.x hk1 hk2 hm (hr rfl) hd).mono fun e w' ⟨he, h⟩ => ⟨he, im w' h⟩
    · exact (act_imgD6 hs hq1 A.d A.a A.s A.n A.kb A.km A.kc A.x hk1 hk2 hm hd).mono fun e w' ⟨he, h⟩ => ⟨he, im w' h⟩
  · cases dead
    · exact (act_imgLm6 hs hq1 A.d A.a A.s A.n A.kb A.km A.kc A.x hk1 hk2 hm (hr rfl) hd).mono fun e w' ⟨he, h⟩ => ⟨he, im w' h⟩
    · exact (act_imgDm6 hs hq1 A.d A.a A.s A.n A.kb A.km A.kc A.x hk1 hk2 hm hd).mono fun e w' ⟨he, h⟩ => ⟨he, im w' h⟩
  · cases hx : A.x
    · exact (act_stay7 hs hq1 A.d A.a A.s A.n A.kb A.km A.kc hk1 hk2 hd).mono fun e w' ⟨he, h⟩ => ⟨he, rd w' h⟩
    · exact (act_fail7 hs hq1 A.d A.a A.s A.n A.kb A.km A.kc hk1 hk2 hd).mono fun e w' ⟨he, h⟩ => ⟨he, fa w' (.inl hd) h⟩
  · cases hx : A.x
    · exact (act_staym7 hs hq1 A.d A.a A.s A.n A.kb A.km A.kc hk1 hk2 hd).mono fun e w' ⟨he, h⟩ => ⟨he, rd w' h⟩
    · exact (act_failm7 hs hq1 A.d A.a A.s A.n A.kb A.km A.kc hk1 hk2 hd).mono fun e w' ⟨he, h⟩ => ⟨he, fa w' (.inr hd) h⟩
end Go.Proofs.Ytmgllcmfnljfjaa
