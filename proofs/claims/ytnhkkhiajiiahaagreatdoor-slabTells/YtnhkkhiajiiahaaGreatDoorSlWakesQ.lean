/- A slab of a law that lives: Get, Prepare; a chunk that is sealed, put, and had. -/
import Derived.Test.YtnhkkhiajiiahaaGreatDoorSlBeginQ
namespace Go.Proofs.YtnhkkhiajiiahaaGreatDoor
open Go.RowKit Go.PlainAid
set_option linter.unusedVariables false
set_option maxRecDepth 20000
section
variable {B : Nat} {w0 z : World} {gx g gr : Nat} {b b' : Bs} {i d n : Nat} {key top : ByteArray} {R : Asn} {l : Nat → ByteArray} {C : Nat → ByteArray}
theorem fault_in {pv : Value} {i n : Int} {key : ByteArray} {z : World} (hg : GoodIs z (slV pv i n key) true) {k : Int} (h0 : 0 ≤ k) (h1 : k < n) : FaultIs z (slV pv i n key) k 0 := by
  have := faultIs_any hg k
  rwa [show slE17 n k = 0 from if_neg (by omega)] at this
theorem lv_get (hb : Bk z g 2 b.D b.s b.p) (ht : Tabs z) (hL : Liv 2 i b l) (hi : i < 2) (hn : 2 ^ d = n) (hd : 1 ≤ d ∧ d ≤ 4) (hk : key.size = 32) (hT : InT l d (sl0 top) C) {s : Nat} (hs : s < n) :
    Calls Tryz.prog 15 #[slV (.pointer (some ⟨g, 0, none⟩)) (i : Int) (n : Int) key, .string top, .int .i64 (s : Int)] z fun e w' => e = .returned (.tuple #[.string (opT key (plc i s) (C s)), .int .i64 (opE key (plc i s) (C s))]) ∧ Below z.heap.size z w' := by
  have h := sget_any hb ht hi (by omega) (by rw [hL.n]; exact Nat.le_refl _) hL.size hn hd hk top hs (fault_in (good_yes hb hi hn hd hk) (by omega) (by omega))
  obtain ⟨e1, e2⟩ := hL.get hd.2 hT (s := s) (by omega) (opE key (plc i s)) (opT key (plc i s))
  rw [e1, e2] at h
  exact h
/-- What the changes come to. -/
def pS (b : Bs) (i d : Nat) (top : ByteArray) (cs : List (Int × ByteArray)) : Sl := (prR (rdS b.p (b.D i)) (eR b.p (b.D i)) d (sl0 top) cs).2
theorem lv_prep (hb : Bk z g 2 b.D b.s b.p) (ht : Tabs z) (hL : Liv 2 i b l) (hi : i < 2) (hn : 2 ^ d = n) (hd : 1 ≤ d ∧ d ≤ 4) (hk : key.size = 32) (hT : InT l d (sl0 top) C) {a : Option Addr} {c : Nat} {cs : List (Int × ByteArray)} (hcg : Cg z 49 a cs) (hm : cs.length ≤ 100) (hc : Cok n cs) :
    Calls Tryz.prog 13 #[slV (.pointer (some ⟨g, 0, none⟩)) (i : Int) (n : Int) key, .string top, .slice a cs.length c] z fun e w' => ∃ v, e = .returned (.tuple #[v, .string (pS b i d top cs).top, .int .i64 0]) ∧ w'.ownsRow z.heap.size 104 2 v (slW (pS b i d top cs)).length (pairs (slW (pS b i d top cs))) ∧ Below z.heap.size z w' := by
  have h := sprep_any hb ht hi (by rw [hL.n]; exact Nat.le_refl _) hn hd (good_yes hb hi hn hd hk) top hcg (c := c) hm hc.rf
  have h0 := (hL.change hi hd.2 hT (cs := cs) (by rw [hn]; exact hc)).1
  refine h.mono ?_
  rintro e w' ⟨_, h2, h3⟩
  obtain ⟨v, e1, e2⟩ := h2 h0
  exact ⟨v, e1, e2, h3⟩
theorem slW_few (S : Sl) : (slW S).length ≤ 32 := by
  unfold slW
  rw [List.length_append, slL_length, slL_length]
  have h1 := ksN_length S.ch
  have h2 := ksN_length S.ce
  omega
end
theorem ks_two (rd : Nat → ByteArray) (top c : ByteArray) : (slW (sl1 rd (sl0 top) 2 2 c)).length = 3 := by
  unfold slW
  rw [List.length_append, slL_length, slL_length]
  have h : ∀ i, ((sl1 rd (sl0 top) 2 2 c).ch i).isSome = (i == 1 || i == 3) := fun i => by
    show (slCh rd (sl0 top) 2 2 c i).isSome = _
    by_cases e1 : i = 1
    · subst e1
      have := slCh_on rd (sl0 top) 2 2 c 0 (by decide) (by decide)
      rw [show nd 2 2 0 = 1 from by decide] at this
      rw [this]; rfl
    · by_cases e3 : i = 3
      · subst e3
        have := slCh_on rd (sl0 top) 2 2 c 1 (by decide) (by decide)
        rw [show nd 2 2 1 = 3 from by decide] at this
        rw [this]; rfl
      · rw [slCh_off rd (sl0 top) 2 2 c i (fun k hk => by
          rcases (by omega : k = 0 ∨ k = 1) with rfl | rfl
          · rw [show nd 2 2 0 = 1 from by decide]; exact e1
          · rw [show nd 2 2 1 = 3 from by decide]; exact e3)]
        show (none : Option ByteArray).isSome = _
        simp [e1, e3]
  have h2 : ∀ j, ((sl1 rd (sl0 top) 2 2 c).ce j).isSome = (j == 2) := fun j => by
    show (if j = 2 then some c else none).isSome = _
    by_cases e : j = 2
    · subst e; rfl
    · rw [if_neg e]; simp [e]
  unfold ksN
  rw [List.filter_congr (fun i _ => h i), List.filter_congr (fun i _ => h2 i)]
  rfl
theorem zero32 (w : World) : (zeroValue 23).run Tryz.prog w = .ok (.agg (nr .u8 32 fun _ => 0).toArray) w := by
  obtain ⟨i0, hi, hz⟩ := Option.map_eq_some_iff.1 (show (Tryz.prog.info? 23).map (fun i => i.zero) = some (some (.agg (nr .u8 32 fun _ => 0).toArray)) by kernel_rfl)
  simp [zeroValue, typeInfo, hi, hz]
theorem Cg.one (w : World) (s : Int) (c : ByteArray) : Cg (w.alloc (.cells #[.int .i64 s, .string c] 49)) 49 (some ⟨w.heap.size, 0, none⟩) [(s, c)] := by
  refine .inr ⟨w.heap.size, 0, rfl, by simp, fun i p hp => ?_⟩
  match i, hp with
  | 0, hp =>
    cases hp
    intro j v hv
    exact (Blk.new w 49 #[.int .i64 s, .string c]).cell (by simpa using hv)
  | i + 1, hp => simp at hp
end Go.Proofs.YtnhkkhiajiiahaaGreatDoor
