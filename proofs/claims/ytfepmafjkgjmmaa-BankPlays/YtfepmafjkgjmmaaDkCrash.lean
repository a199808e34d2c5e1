/- Crash. -/
import Derived.Test.YtfepmafjkgjmmaaDkFlush
namespace Go.Proofs.Ytfepmafjkgjmmaa
open Go.RowKit Go.PlainAid
set_option linter.unusedVariables false

/-- A row of m bools k; behind it none is set. -/
def BoolsAt (w : World) (v : Value) (m : Nat) (k : Nat → Bool) : Prop := (∃ a cap, v = .slice a m cap ∧ (m = 0 ∨ ∃ b o, a = some ⟨b, o, none⟩ ∧ b < w.heap.size ∧ ∀ i, i < m → w.cell? ⟨b, o + i, none⟩ = some (.bool (k i)))) ∧ ∀ i, m ≤ i → k i = false
/-- The block of a row, if it has one, lies outside F. -/
def Away (F : Nat → Prop) (v : Value) : Prop := ∀ a n c, v = .slice (some a) n c → n ≠ 0 → ¬ F a.block
theorem BoolsAt.kept {F : Nat → Prop} {w w' : World} {v : Value} {m : Nat} {k : Nat → Bool} (h : BoolsAt w v m k) (ho : Kept F w w') (ha : Away F v) : BoolsAt w' v m k := by
  obtain ⟨⟨a, cap, rfl, h1⟩, h2⟩ := h
  refine ⟨⟨a, cap, rfl, ?_⟩, h2⟩
  rcases h1 with h1 | ⟨b, o, rfl, hb, hc⟩
  · exact .inl h1
  · exact .inr ⟨b, o, rfl, Nat.lt_of_lt_of_le hb ho.size, fun i hi => (ho.cell (p := ⟨b, o + i, none⟩) hb (show ¬ F b from ha ⟨b, o, none⟩ m cap rfl (by omega))).trans (hc i hi)⟩
theorem BoolsAt.below {w w' : World} {v : Value} {m : Nat} {k : Nat → Bool} (h : BoolsAt w v m k) (hb : Below w.heap.size w w') : BoolsAt w' v m k := h.kept (F := fun _ => False) (Kept.ofBelow hb) (fun _ _ _ _ _ h => h)
/-- What lasts behind a Crash. -/
def crashL (l : Nat → ByteArray) (q : List Wr) (dead : Bool) (k : Nat → Bool) : Nat → ByteArray := if dead = true then l else app l (keep k 0 q)
theorem crash_nil (v : Value) (w : World) : Calls Try.prog 44 #[.pointer none, v] w fun e w' => e = .returned (.tuple #[]) ∧ w' = w := by
  go_enter Try.func44, Try.ntmps44
  go_wp2_with (go_at_call 38; refine (usable_nil _).mono ?_; rintro e w' ⟨rfl, rfl⟩)
  refine bodyPost_ret (results_none rfl _ _ _) rfl ⟨rfl, rfl⟩
set_option maxRecDepth 20000 in
set_option maxHeartbeats 1000000 in
theorem crash_any {F : Nat → Prop} {g n : Nat} {l : Nat → ByteArray} {q : List Wr} {dead : Bool} {w : World} (h : DiskAt w F g n l q dead) (v : Value) (m : Nat) (k : Nat → Bool) (hv : BoolsAt w v m k) (hm : m ≤ 1000000000) (hq : q.length ≤ 1000000) (ha : Away F v) :
    Calls Try.prog 44 #[.pointer (some ⟨g, 0, none⟩), v] w fun e w' => e = .returned (.tuple #[]) ∧ Turned F w w' (fun F' => DiskAt w' F' g n (crashL l q dead k) (flushQ q dead) dead) := by
  have hu := usable_any h
  cases dead
  · rw [show crashL l q false k = app l (keep k 0 q) from rfl, show flushQ q false = [] from rfl]
    rw [show errD false = 0 from rfl] at hu
    obtain ⟨gc, gl, vw, h⟩ := h
    have c2 := h.top.cell (i := 2) rfl
    obtain ⟨aw, capw, hvw⟩ := h.row.form
    have hv' := hv
    obtain ⟨⟨av, capv, rfl, hv0⟩, hk0⟩ := hv'
    have HV0 : Hid _ := hv0
    have HV : Hid (BoolsAt w (.slice av m capv) m k) := hv
    have HK0 : Hid _ := hk0
    have HH : Hid _ := h
    have HA : Hid _ := ha
    have hgl := h.top.ne h.lasts (by decide)
    have hgc := h.top.ne h.cells (by decide)
    clear hv hv0 hk0 ha h
    subst hvw
    go_enter Try.func44, Try.ntmps44
    go_wp2_with (go_at_call 38; refine hu.mono ?_; rintro e w' ⟨rfl, hw'⟩; rw [hw']; clear hw' w')
    go_loopw [14] (fun i wr => ∃ j : Nat, j ≤ q.length ∧ i = .int .i64 (j : Int) ∧ Hid (Kept (fun i => i = gl) w wr ∧ Blk wr gl 9 (strs n (app l (keep k 0 (q.take j)))))) (fun i _ => q.length - (intOf i).toNat)
    case atStart => exact ⟨0, Nat.zero_le _, rfl, Kept.refl _ _, by rw [List.take_zero]; exact HH.out.lasts⟩
    case round =>
      obtain ⟨j, hj, rfl, hrr⟩ := hrel
      by_cases hlt : j < q.length
      · obtain ⟨p, hp⟩ : ∃ p, q[j]? = some p := ⟨_, List.getElem?_eq_getElem hlt⟩
        have hpn : p.1 < n := HH.out.ats p (List.mem_of_getElem? hp)
        have hvl := HH.out.lasts.owns_ne HH.out.row (by decide)
        have W1 := HH.out.row.kept hrr.out.1 (fun i hi e => hvl (by rw [hi, e]))
        obtain ⟨gw, cap2, hvv, ca, cb⟩ := W1.at hp
        cases hvv
        have hlen : j * 2 + 1 < q.length * 2 := by omega
        have T1 := HH.out.top.kept hrr.out.1 hgl
        have B1 := HV.out.kept hrr.out.1 (fun a n c e e0 f => HA.out a n c e e0 (by rw [f]; exact HH.out.inn.2.2.1))
        obtain ⟨pa, ps⟩ := p
        have hstep := keep_step k q j (pa, ps) hp
        have e1 := (T1.alloc (.cells #[.int .i64 (pa : Int), .string ps] 84)).drew.cell (i := 1) rfl
        have e2 := (hrr.out.2.alloc (.cells #[.int .i64 (pa : Int), .string ps] 84)).drew.cell (strs_at n _ pa hpn)
        have f2 := (hrr.out.2.alloc (.cells #[.int .i64 (pa : Int), .string ps] 84)).drew.frozen pa
        have hpn' : (pa : Int) < (n : Int) := by have : pa < n := hpn; omega
        by_cases hjm : j < m
        · obtain ⟨b, o, hav, hb, hc⟩ := HV0.out.resolve_left (fun h => by omega)
          subst hav
          have hcj : (wr.alloc (.cells #[.int .i64 (pa : Int), .string ps] 84)).cell? ⟨b, o + j, none⟩ = some (.bool (k j)) := by
            obtain ⟨⟨_, _, e0, h0⟩, _⟩ := B1
            cases e0
            rcases h0 with h0 | ⟨b', o', e', hb', hc'⟩
            · omega
            · cases e'
              rw [World.cell?_alloc_lt wr _ ⟨b, o + j, none⟩ hb']; exact hc' j hjm
          have hjm' : (j : Int) < (m : Int) := by omega
          cases hkj : k j
          · rw [hkj] at hcj hstep
            have HR : Hid (Kept (fun i => i = gl) w (wr.alloc (.cells #[.int .i64 (pa : Int), .string ps] 84)) ∧ Blk (wr.alloc (.cells #[.int .i64 (pa : Int), .string ps] 84)) gl 9 (strs n (app l (keep k 0 (q.take (j + 1)))))) := by
              refine ⟨hrr.out.1.alloc _, ?_⟩
              rw [hstep, if_neg (by decide), List.append_nil]
              exact hrr.out.2.alloc _
            clear hstep hrr W1 T1 B1 e1 e2 f2 hp hc hkj hvl
            go_wp2_with fail
            go_roundw
            case rel => exact ⟨j + 1, by omega, by go_num, HR⟩
            case measure => simp [intOf]; omega
          · rw [hkj] at hcj hstep
            have HR : Hid (Kept (fun i => i = gl) w ((wr.alloc (.cells #[.int .i64 (pa : Int), .string ps] 84)).setCell ⟨gl, pa, none⟩ (.string ps)).drew ∧ Blk ((wr.alloc (.cells #[.int .i64 (pa : Int), .string ps] 84)).setCell ⟨gl, pa, none⟩ (.string ps)).drew gl 9 (strs n (app l (keep k 0 (q.take (j + 1)))))) := by
              refine ⟨((hrr.out.1.alloc _).setCell (.inl rfl) _ _).drew, ?_⟩
              rw [hstep, if_pos rfl, app_snoc, ← strs_set]
              exact ((hrr.out.2.alloc _).setCell _ _).drew
            clear hstep hrr W1 T1 B1 hp hc hkj hvl
            go_wp2_with fail
            go_region
            go_wp2_with fail
            go_roundw
            case rel => exact ⟨j + 1, by omega, by go_num, HR⟩
            case measure => simp [intOf]; omega
        · have hkj : k j = false := HK0.out j (by omega)
          have hjm' : ¬ (j : Int) < (m : Int) := by omega
          have HR : Hid (Kept (fun i => i = gl) w (wr.alloc (.cells #[.int .i64 (pa : Int), .string ps] 84)) ∧ Blk (wr.alloc (.cells #[.int .i64 (pa : Int), .string ps] 84)) gl 9 (strs n (app l (keep k 0 (q.take (j + 1)))))) := by
            refine ⟨hrr.out.1.alloc _, ?_⟩
            rw [hstep, if_neg (by rw [hkj]; decide), List.append_nil]
            exact hrr.out.2.alloc _
          clear hstep hrr W1 T1 B1 e1 e2 f2 hp hkj hvl
          go_wp2_with fail
          go_roundw
          case rel => exact ⟨j + 1, by omega, by go_num, HR⟩
          case measure => simp [intOf]; omega
      · obtain rfl : j = q.length := by omega
        have hL := hrr.out.2
        rw [List.take_length] at hL
        have hset := dkSettle_any (F := F) ⟨HH.out.inn.1, HH.out.inn.2.1, HH.out.inn.2.2.1⟩ HH.out.ne HH.out.low HH.out.high (HH.out.top.kept hrr.out.1 hgl) (HH.out.cells.kept hrr.out.1 HH.out.ne) hL (fun k hk => Nat.lt_of_lt_of_le (HH.out.bound k hk) hrr.out.1.size)
        have HK : Hid (Kept F w wr) := hrr.out.1.mono (fun i _ e => by rw [e]; exact HH.out.inn.2.2.1)
        clear hL hrr HV0 HV
        go_wp2_with (go_at_call 50; refine hset.mono ?_; rintro e w' ⟨rfl, hT⟩)
        go_end0
        exact ⟨rfl, Turned.trans HK.out hT⟩
  · rw [show crashL l q true k = l from rfl, show flushQ q true = q from rfl]
    rw [show errD true = 20 from rfl] at hu
    have HT : Hid _ := DiskIn.turn (w' := w) h
    clear h hv ha
    go_enter Try.func44, Try.ntmps44
    go_wp2_with (go_at_call 38; refine hu.mono ?_; rintro e w' ⟨rfl, rfl⟩)
    refine bodyPost_ret (results_none rfl _ _ _) rfl ⟨rfl, HT.out⟩
end Go.Proofs.Ytfepmafjkgjmmaa
