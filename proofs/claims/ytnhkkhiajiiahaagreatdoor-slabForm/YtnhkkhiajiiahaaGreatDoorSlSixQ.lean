/- What six functions of a slab answer, whose form is good or is none. -/
import Derived.Test.YtnhkkhiajiiahaaGreatDoorSlWakes2Q
namespace Go.Proofs.YtnhkkhiajiiahaaGreatDoor
open Go.RowKit Go.PlainAid
set_option linter.unusedVariables false
set_option maxRecDepth 20000
/-- Six answers, over what holds ahead of Apply, and behind it. -/
structure Six (B : Nat) (w0 : World) (gb : Nat) (pv : Value) (i n : Int) (key : ByteArray) (R : Asn) (I J : World → Prop) (bd : Prop) : Prop where
  blk : ∀ z, I z → Blk z gb 41 [pv, .int .i64 i, .int .i64 n, .string key]
  blk' : ∀ z, J z → Blk z gb 41 [pv, .int .i64 i, .int .i64 n, .string key]
  rest : ∀ z, J z → Hold B w0 z R
  below : ∀ z z', I z → Below z.heap.size z z' → I z'
  sea : ∀ z, I z → Calls Tryz.prog 12 #[slV pv i n key, .int .i64 0, .string ⟨#[49, 50, 51, 52, 53, 54, 55, 56, 57, 48, 49, 50]⟩, .string (zB 32)] z fun e w' => ∃ c E, e = .returned (.tuple #[.string c, .int .i64 E]) ∧ (E = 4 ↔ bd) ∧ I w'
  get : ∀ z, I z → Calls Tryz.prog 15 #[slV pv i n key, .string ⟨#[]⟩, .int .i64 0] z fun e w' => ∃ c E, e = .returned (.tuple #[.string c, .int .i64 E]) ∧ (E = 4 ↔ bd) ∧ I w'
  prep : ∀ z, I z → Calls Tryz.prog 13 #[slV pv i n key, .string ⟨#[]⟩, .slice none 0 0] z fun e w' => ∃ v c E, e = .returned (.tuple #[v, .string c, .int .i64 E]) ∧ (E = 4 ↔ bd) ∧ I w'
  blank : ∀ z, I z → Calls Tryz.prog 22 #[slV pv i n key] z fun e w' => ∃ v c E, e = .returned (.tuple #[v, .string c, .int .i64 E]) ∧ (E = 4 ↔ bd) ∧ I w'
  app : ∀ z, I z → Calls Tryz.prog 14 #[slV pv i n key, .slice none 0 0] z fun e w' => ∃ E, e = .returned (.int .i64 E) ∧ (E = 4 ↔ bd) ∧ J w'
  bad : bd → ∀ z, J z → Calls Tryz.prog 16 #[slV pv i n key, .string ⟨#[]⟩] z fun e w' => e = .returned (.slice none 0 0) ∧ J w'
section
variable {B : Nat} {w0 : World} {gb g : Nat} {key : ByteArray} {R : Asn}
theorem four_yes {bd : Prop} (h : bd) : (4 : Int) = 4 ↔ bd := ⟨fun _ => h, fun _ => rfl⟩
theorem four_no {bd : Prop} {E : Int} (h : ¬ bd) (hE : E ≠ 4) : E = 4 ↔ bd := ⟨fun e => absurd e hE, fun e => absurd e h⟩
theorem six_bad (hR : Firm R) {pv : Value} {i n : Int} (hg : ∀ z, Hold B w0 z (star (blkA gb 41 [pv, .int .i64 i, .int .i64 n, .string key]) R) → GoodIs z (slV pv i n key) false) {bd : Prop} (h : bd) :
    Six B w0 gb pv i n key R (fun z => Hold B w0 z (star (blkA gb 41 [pv, .int .i64 i, .int .i64 n, .string key]) R)) (fun z => Hold B w0 z (star (blkA gb 41 [pv, .int .i64 i, .int .i64 n, .string key]) R)) bd where
  blk z hz := Hold.blk hz
  blk' z hz := Hold.blk hz
  rest z hz := Hold.right hz
  below z z' hz hb := Hold.below hz ((firm_blk _ _ _).star hR) hb
  sea z hz := (sseal_err (faultIs_form (hg z hz) 0) (by decide) _ _).mono fun e w' ⟨h1, h2⟩ => ⟨_, _, h1, four_yes h, Hold.below hz ((firm_blk _ _ _).star hR) h2⟩
  get z hz := (sget_err (faultIs_form (hg z hz) 0) (by decide) _).mono fun e w' ⟨h1, h2⟩ => ⟨_, _, h1, four_yes h, Hold.below hz ((firm_blk _ _ _).star hR) h2⟩
  prep z hz := (sprep_err (by decide) _ _ (fun y hy => srefuse_form ((hg z hz).below hy) _)).mono fun e w' ⟨h1, h2⟩ => ⟨_, _, _, h1, four_yes h, Hold.below hz ((firm_blk _ _ _).star hR) h2⟩
  blank z hz := (sblank_form (hg z hz)).mono fun e w' ⟨h1, h2⟩ => ⟨_, _, _, h1, four_yes h, Hold.below hz ((firm_blk _ _ _).star hR) h2⟩
  app z hz := (sapply_form (hg z hz) _).mono fun e w' ⟨h1, h2⟩ => ⟨_, h1, four_yes h, Hold.below hz ((firm_blk _ _ _).star hR) h2⟩
  bad _ z hz := (sbad_form (hg z hz) _).mono fun e w' ⟨h1, h2⟩ => ⟨h1, Hold.below hz ((firm_blk _ _ _).star hR) h2⟩
theorem slGE_ne4 (rd : Nat → ByteArray) (d s : Nat) (top key a : ByteArray) : slGE rd 0 d s top (opE key a) ≠ 4 := by
  unfold slGE
  rw [if_pos rfl]
  split
  · unfold opE
    split
    · decide
    · split
      · decide
      · split <;> decide
  · decide
theorem six_good (hR : Firm R) {b : Bs} {i d n : Nat} {l : Nat → ByteArray} (hi : i < 2) (hn : 2 ^ d = n) (hd : 1 ≤ d ∧ d ≤ 4) (hk : key.size = 32) (ht : ∀ z, Below B w0 z → Tabs z) (hL : Liv 2 i b l) (hf : Few17 2 b 100) {bd : Prop} (h : ¬ bd) :
    Six B w0 gb (.pointer (some ⟨g, 0, none⟩)) (i : Int) (n : Int) key R (fun z => Hold B w0 z (star (bkA g 2 b) (star (blkA gb 41 [.pointer (some ⟨g, 0, none⟩), .int .i64 (i : Int), .int .i64 (n : Int), .string key]) R)))
      (fun z => Hold B w0 z (star (bkA g 2 (apR 2 i b []).2) (star (blkA gb 41 [.pointer (some ⟨g, 0, none⟩), .int .i64 (i : Int), .int .i64 (n : Int), .string key]) R))) bd where
  blk z hz := Hold.blk (Hold.right hz)
  blk' z hz := Hold.blk (Hold.right hz)
  rest z hz := Hold.right (Hold.right hz)
  below z z' hz hb := Hold.below hz ((firm_bnk _ _ _ _ _).star ((firm_blk _ _ _).star hR)) hb
  sea z hz := by
    have h2n : 2 ≤ n := by rw [← hn]; exact (pow_mono hd.1)
    refine (sseal_ok (i := i) (k := 0) (by omega) (by omega) hk (fault_in (good_yes (Hold.bk hz) hi hn hd hk) (by decide) (by show (0 : Int) < (n : Int); omega)) rfl (zB_size 32)).mono ?_
    rintro e w' ⟨h1, h2⟩
    exact ⟨_, _, h1, four_no h (by decide), Hold.below hz ((firm_bnk _ _ _ _ _).star ((firm_blk _ _ _).star hR)) h2⟩
  get z hz := by
    have h2n : 2 ≤ n := by rw [← hn]; exact (pow_mono hd.1)
    have hb : Bk z g 2 b.D b.s b.p := Hold.bk hz
    refine (sget_any (s := 0) hb (ht z (Hold.low hz)) hi (by omega) (by rw [hL.n]; exact Nat.le_refl _) hL.size hn hd hk _ (by omega) (fault_in (good_yes hb hi hn hd hk) (by decide) (by show (0 : Int) < (n : Int); omega))).mono ?_
    rintro e w' ⟨h1, h2⟩
    rw [hL.er0] at h1
    exact ⟨_, _, h1, four_no h (slGE_ne4 _ _ _ _ _ _), Hold.below hz ((firm_bnk _ _ _ _ _).star ((firm_blk _ _ _).star hR)) h2⟩
  prep z hz := by
    have hb : Bk z g 2 b.D b.s b.p := Hold.bk hz
    refine (sprep_any hb (ht z (Hold.low hz)) hi (by rw [hL.n]; exact Nat.le_refl _) hn hd (good_yes hb hi hn hd hk) _ (a := none) (c := 0) (l := []) (.inl rfl) (by decide) rfl).mono ?_
    rintro e w' ⟨_, h2, h3⟩
    obtain ⟨v, h4, _⟩ := h2 rfl
    exact ⟨_, _, _, h4, four_no h (by decide), Hold.below hz ((firm_bnk _ _ _ _ _).star ((firm_blk _ _ _).star hR)) h3⟩
  blank z hz := by
    refine (sblank_any (good_yes (Hold.bk hz) hi hn hd hk) (ht z (Hold.low hz)) hn hd).mono ?_
    rintro e w' ⟨v, h1, _, h3⟩
    exact ⟨_, _, _, h1, four_no h (by decide), Hold.below hz ((firm_bnk _ _ _ _ _).star ((firm_blk _ _ _).star hR)) h3⟩
  app z hz := by
    have h1 : Hold B w0 z (star (bkA g 2 b) (star (rowK 104 2 (.slice none 0 0) ([] : List Wr).length (pairs [])) (star (blkA gb 41 [.pointer (some ⟨g, 0, none⟩), .int .i64 (i : Int), .int .i64 (n : Int), .string key]) R))) := hz.monoR fun F h => star_nil17 h
    refine (sapply_any ((firm_blk _ _ _).star hR) (good_yes (Hold.bk hz) hi hn hd hk) h1 hi hf (by decide)).mono ?_
    rintro e w' ⟨h2, h3⟩
    refine ⟨_, h2, four_no h ?_, Hold.rid h3⟩
    rw [(hL.apply hi (q := []) (fun w hw => by cases hw)).1]; decide
  bad hb := absurd hb h
end
end Go.Proofs.YtnhkkhiajiiahaaGreatDoor
