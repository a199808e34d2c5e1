/- The digest of a text, on plain words and bytes: the schedule, the rounds, the blocks, the ending; no Go function is walked here. -/
import Derived.Test.YtegebaomhbogmaaDoorCut
namespace Go.Proofs.YtegebaomhbogmaaDoor
open Go.RowKit Go.PlainAid
set_option linter.unusedVariables false

/-- A word turned to the right by n places. -/
def rr (n : Nat) (x : Int) : Int := turn (32 - n) x
theorem rr_lo (n : Nat) (x : Int) (h : 0 ≤ x ∧ x < 4294967296) : 0 ≤ rr n x ∧ rr n x < 4294967296 := turn_lo _ x h.1 h.2
theorem turnR_rr (n : Nat) (hn : n ≤ 32) (x : Int) (h : 0 ≤ x ∧ x < 4294967296) : turnR n x = rr n x := by
  unfold rr
  have e : turn n (turn (32 - n) x) = x := by rw [turn_add, show n + (32 - n) = 32 by omega, turn_32 x h.1 h.2]
  conv => lhs; rw [← e]
  exact turnR_turn n _ (turn_lo _ x h.1 h.2).1 (turn_lo _ x h.1 h.2).2
theorem and_lo (a b : Int) : 0 ≤ bits .and .u32 a b ∧ bits .and .u32 a b < 4294967296 := by
  show 0 ≤ IntKind.u32.wrap _ ∧ IntKind.u32.wrap _ < 4294967296
  rw [IntKind.wrap_u32']; omega
def bS1 (e : Int) : Int := bits .xor .u32 (bits .xor .u32 (rr 6 e) (rr 11 e)) (rr 25 e)
def bS0 (a : Int) : Int := bits .xor .u32 (bits .xor .u32 (rr 2 a) (rr 13 a)) (rr 22 a)
def sg1 (x : Int) : Int := bits .xor .u32 (bits .xor .u32 (rr 17 x) (rr 19 x)) (x / 1024)
def sg0 (x : Int) : Int := bits .xor .u32 (bits .xor .u32 (rr 7 x) (rr 18 x)) (x / 8)
def chF (e f g : Int) : Int := bits .xor .u32 (bits .and .u32 e f) (bits .and .u32 (4294967295 - e) g)
def mjF (a b c : Int) : Int := bits .xor .u32 (bits .xor .u32 (bits .and .u32 a b) (bits .and .u32 a c)) (bits .and .u32 b c)
theorem bS1_lo (e : Int) : 0 ≤ bS1 e ∧ bS1 e < 4294967296 := xor_lo _ _
theorem bS0_lo (e : Int) : 0 ≤ bS0 e ∧ bS0 e < 4294967296 := xor_lo _ _
theorem sg1_lo (e : Int) : 0 ≤ sg1 e ∧ sg1 e < 4294967296 := xor_lo _ _
theorem sg0_lo (e : Int) : 0 ≤ sg0 e ∧ sg0 e < 4294967296 := xor_lo _ _
theorem chF_lo (e f g : Int) : 0 ≤ chF e f g ∧ chF e f g < 4294967296 := xor_lo _ _
theorem mjF_lo (e f g : Int) : 0 ≤ mjF e f g ∧ mjF e f g < 4294967296 := xor_lo _ _

/-- The schedule of a block whose words are b. -/
def Wt (b : Nat → Int) (t : Nat) : Int :=
  if h : t < 16 then b t else (((sg1 (Wt b (t - 2)) + Wt b (t - 7)) % 4294967296 + sg0 (Wt b (t - 15))) % 4294967296 + Wt b (t - 16)) % 4294967296
  termination_by t
  decreasing_by all_goals omega
theorem Wt_first (b : Nat → Int) (t : Nat) (h : t < 16) : Wt b t = b t := by rw [Wt, dif_pos h]
theorem Wt_step (b : Nat → Int) (t : Nat) (h : 16 ≤ t) : Wt b t = (((sg1 (Wt b (t - 2)) + Wt b (t - 7)) % 4294967296 + sg0 (Wt b (t - 15))) % 4294967296 + Wt b (t - 16)) % 4294967296 := by
  conv => lhs; rw [Wt]
  rw [dif_neg (by omega)]
theorem Wt_lo (b : Nat → Int) (hb : ∀ i, i < 16 → 0 ≤ b i ∧ b i < 4294967296) (t : Nat) : 0 ≤ Wt b t ∧ Wt b t < 4294967296 := by
  by_cases h : t < 16
  · rw [Wt_first b t h]; exact hb t h
  · rw [Wt_step b t (by omega)]; omega
theorem Wt_congr (b c : Nat → Int) (h : ∀ i, i < 16 → b i = c i) (t : Nat) : Wt b t = Wt c t := by
  induction t using Nat.strongRecOn with
  | _ t ih =>
    by_cases h1 : t < 16
    · rw [Wt_first b t h1, Wt_first c t h1, h t h1]
    · rw [Wt_step b t (by omega), Wt_step c t (by omega), ih (t - 2) (by omega), ih (t - 7) (by omega), ih (t - 15) (by omega), ih (t - 16) (by omega)]

/-- What goes into a round; the words behind it. -/
def tin (S : Nat → Int) (x : Int) : Int := (x + ((S 7 + bS1 (S 4)) % 4294967296 + chF (S 4) (S 5) (S 6)) % 4294967296) % 4294967296
def nx (S : Nat → Int) (x : Int) (i : Nat) : Int :=
  if i = 0 then ((tin S x + bS0 (S 0)) % 4294967296 + mjF (S 0) (S 1) (S 2)) % 4294967296
  else if i = 4 then (S 3 + tin S x) % 4294967296 else S (i - 1)
def rds (S : Nat → Int) (x : Nat → Int) (t : Nat) : Nat → Int := ((List.range t).map x).foldl nx S
theorem rds_zero (S x : Nat → Int) : rds S x 0 = S := rfl
theorem rds_succ (S x : Nat → Int) (t : Nat) : rds S x (t + 1) = nx (rds S x t) (x t) := by
  unfold rds; rw [List.range_succ, List.map_append, List.foldl_append]; rfl
def Ok (S : Nat → Int) : Prop := ∀ i, i < 8 → 0 ≤ S i ∧ S i < 4294967296
theorem nx_ok (S : Nat → Int) (x : Int) (h : Ok S) : Ok (nx S x) := by
  intro i hi
  unfold nx
  split
  · omega
  · split
    · omega
    · exact h (i - 1) (by omega)
theorem rds_ok (S x : Nat → Int) (t : Nat) (h : Ok S) : Ok (rds S x t) := by
  induction t with
  | zero => exact h
  | succ t ih => rw [rds_succ]; exact nx_ok _ _ ih

def kL : List Int := [1116352408, 1899447441, 3049323471, 3921009573, 961987163, 1508970993, 2453635748, 2870763221, 3624381080, 310598401, 607225278, 1426881987, 1925078388, 2162078206, 2614888103, 3248222580, 3835390401, 4022224774, 264347078, 604807628, 770255983, 1249150122, 1555081692, 1996064986, 2554220882, 2821834349, 2952996808, 3210313671, 3336571891, 3584528711, 113926993, 338241895, 666307205, 773529912, 1294757372, 1396182291, 1695183700, 1986661051, 2177026350, 2456956037, 2730485921, 2820302411, 3259730800, 3345764771, 3516065817, 3600352804, 4094571909, 275423344, 430227734, 506948616, 659060556, 883997877, 958139571, 1322822218, 1537002063, 1747873779, 1955562222, 2024104815, 2227730452, 2361852424, 2428436474, 2756734187, 3204031479, 3329325298]
def kc (i : Nat) : Int := kL.getD i 0
theorem kc_all : (List.range 64).all (fun i => decide (0 ≤ kc i ∧ kc i < 4294967296)) = true := by decide +kernel
theorem kc_lo (i : Nat) (h : i < 64) : 0 ≤ kc i ∧ kc i < 4294967296 := by
  have := List.all_eq_true.1 kc_all i (List.mem_range.2 h)
  simpa using this
def iL : List Int := [1779033703, 3144134277, 1013904242, 2773480762, 1359893119, 2600822924, 528734635, 1541459225]
def ini (i : Nat) : Int := iL.getD i 0
theorem ini_ok : Ok ini := by
  have h : (List.range 8).all (fun i => decide (0 ≤ ini i ∧ ini i < 4294967296)) = true := by decide +kernel
  intro i hi
  have := List.all_eq_true.1 h i (List.mem_range.2 hi)
  simpa using this

/-- The state behind one more block whose words are b. -/
def cpr (S b : Nat → Int) (i : Nat) : Int := (rds S (fun t => (Wt b t + kc t) % 4294967296) 64 i + S i) % 4294967296
theorem cpr_ok (S b : Nat → Int) : Ok (cpr S b) := fun i _ => by unfold cpr; omega
theorem cpr_congr (S b c : Nat → Int) (h : ∀ i, i < 16 → b i = c i) : cpr S b = cpr S c := by
  funext i
  unfold cpr
  simp only [Wt_congr b c h]
/-- The words of the text's block k. -/
def blk (s : ByteArray) (k i : Nat) : Int := wordsL be4 s (16 * k + i)
def hst (s : ByteArray) : Nat → Nat → Int
  | 0 => ini
  | k + 1 => cpr (hst s k) (blk s k)
theorem hst_ok (s : ByteArray) (k : Nat) : Ok (hst s k) := by
  cases k with
  | zero => exact ini_ok
  | succ k => exact cpr_ok _ _
theorem hst_congr (s t : ByteArray) (k : Nat) (h : ∀ i, i < 64 * k → bt s i = bt t i) : hst s k = hst t k := by
  induction k with
  | zero => rfl
  | succ k ih =>
    rw [hst, hst, ih (fun i hi => h i (by omega))]
    apply cpr_congr
    intro i hi
    unfold blk wordsL
    rw [h _ (by omega), h _ (by omega), h _ (by omega), h _ (by omega)]
theorem be4_lo (a b c d : Int) (ha : 0 ≤ a ∧ a ≤ 255) (hb : 0 ≤ b ∧ b ≤ 255) (hc : 0 ≤ c ∧ c ≤ 255) (hd : 0 ≤ d ∧ d ≤ 255) : 0 ≤ be4 a b c d ∧ be4 a b c d < 4294967296 := by
  unfold be4 le4; omega
theorem words_lo (s : ByteArray) (i : Nat) : 0 ≤ wordsL be4 s i ∧ wordsL be4 s i < 4294967296 := be4_lo _ _ _ _ (bt_range s _) (bt_range s _) (bt_range s _) (bt_range s _)

/-- What stands behind a text of n bytes. -/
def zs (n : Nat) : Nat := (64 - (n + 9) % 64) % 64
def lw (n : Nat) (i : Nat) : Int := if i = 0 then (8 * (n : Int)) / 4294967296 else (8 * (n : Int)) % 4294967296
def endL (n : Nat) : List Int := 128 :: (List.replicate (zs n) 0 ++ joinF fourB (lw n) 2)
def endB (n : Nat) : ByteArray := strOfNums (endL n)
theorem endB_size (n : Nat) : (endB n).size = zs n + 9 := by
  unfold endB endL
  rw [strOfNums_size, List.length_cons, List.length_append, List.length_replicate, joinF_length fourB (fun _ => rfl)]
theorem end_whole (n : Nat) : (n + (endB n).size) % 64 = 0 := by
  rw [endB_size]; unfold zs; omega
def padB (s : ByteArray) : ByteArray := s ++ endB s.size
theorem padB_size (s : ByteArray) : (padB s).size = s.size + (endB s.size).size := by unfold padB; exact ByteArray.size_append
theorem padB_whole (s : ByteArray) : (padB s).size % 64 = 0 := by rw [padB_size]; exact end_whole _
/-- The digest's text of eight words. -/
def textB (S : Nat → Int) : ByteArray := strOfNums (joinF fourB S 8)
def digest (s : ByteArray) : ByteArray := textB (hst (padB s) ((padB s).size / 64))
theorem digest_size (s : ByteArray) : (digest s).size = 32 := by
  unfold digest textB
  rw [strOfNums_size, joinF_length fourB (fun _ => rfl)]
end Go.Proofs.YtegebaomhbogmaaDoor
