/- escape: the letters one by one · What the lexer says of bytes: plain functions · quotedRune -/
import Derived.Laws.RangeAny
import Derived.Lib.Strings
import Derived.Lib.IndexBytes
import Derived.StillTailTactics
import Derived.Deep.RegionHeld3
import Derived.Lib.TrimU
import Derived.Test.YtblldoniagiboaaGreatDoorJl19
namespace Go.Proofs.YtblldoniagiboaaGreatDoor
open Go.RowKit Go.Shelf
set_option linter.unusedVariables false

def lettersB : ByteArray := ⟨#[34, 92, 98, 102, 110, 114, 116]⟩
def escapedB : ByteArray := ⟨#[34, 92, 8, 12, 10, 13, 9]⟩
theorem letter_at : ∀ i : Fin 7, letterJ (lettersB.data.toList.getD i.val 0) = some ((escapedB.data.toList.getD i.val 0).toNat : Int) ∧ lettersB.data.toList.getD i.val 0 ≠ 47 ∧ (lettersB.data.toList.getD i.val 0).toNat < 128 := by decide
set_option maxRecDepth 100000 in
set_option maxHeartbeats 4000000 in
theorem escape_any {W : World} {P a n : Nat} {t : ByteArray} (h : Rdr W P t a n) (hR : ReadyJ W) (hP7 : 7 ≤ P) : Calls Tryz.prog 170 #[.pointer (some ⟨P, 0, none⟩)] W (REnds W P t a n (escJ (rest t a))) := by
  have HS := Lib.hid h
  have HR := Lib.hid hR
  have hsz := h.2
  have hPlt := h.1.lt
  cases h47 : Lib.hasPrefix (rest t a) [92, 47]
  · have HK0 := Lib.hid (skip_b h ⟨#[92, 47]⟩ h47)
    have H47 := Lib.hid h47
    obtain ⟨s, hs⟩ : ∃ s : ByteArray, (⟨#[34, 92, 98, 102, 110, 114, 116]⟩ : ByteArray) = s := ⟨_, rfl⟩
    have hs7 : s.size = 7 := by rw [← hs]; rfl
    have hsl : ∀ (i : Nat) (h : i < s.size), ∃ x : UInt8, letterJ (s[i]'h) = some (x.toNat : Int) ∧ s[i]'h ≠ 47 ∧ (s[i]'h).toNat < 128 ∧ ∀ W, (Instr.index 9 (.string ⟨#[34, 92, 8, 12, 10, 13, 9]⟩) (.int .i64 (i : Int))).run Tryz.prog W = .ok (.int .u8 (x.toNat : Int)) W := by
      subst hs
      intro i h
      have h7 : i < 7 := h
      have hg : (⟨#[34, 92, 98, 102, 110, 114, 116]⟩ : ByteArray)[i]'h = lettersB.data.toList.getD i 0 := by
        show (#[34, 92, 98, 102, 110, 114, 116] : Array UInt8)[i]'h = _
        simp [lettersB, List.getD, h7]
      have := letter_at ⟨i, h7⟩
      rw [hg]
      refine ⟨escapedB.data.toList.getD i 0, this.1, this.2.1, this.2.2, fun W => ?_⟩
      have hb := byte_run (t := ⟨#[34, 92, 8, 12, 10, 13, 9]⟩) (a := i) h7 W
      rw [hb]
      have hg2 : (⟨#[34, 92, 8, 12, 10, 13, 9]⟩ : ByteArray)[i]'h7 = escapedB.data.toList.getD i 0 := by
        show (#[34, 92, 8, 12, 10, 13, 9] : Array UInt8)[i]'h7 = _
        simp [escapedB, List.getD, h7]
      rw [hg2]
    have hall : ∀ q ∈ [34, 92, 98, 102, 110, 114, 116], ∃ (i : Nat) (h : i < s.size), (s[i]'h) = q := by
      subst hs
      intro q hq
      simp only [List.mem_cons, List.mem_nil_iff, or_false] at hq
      rcases hq with rfl | rfl | rfl | rfl | rfl | rfl | rfl
      · exact ⟨0, by decide, rfl⟩
      · exact ⟨1, by decide, rfl⟩
      · exact ⟨2, by decide, rfl⟩
      · exact ⟨3, by decide, rfl⟩
      · exact ⟨4, by decide, rfl⟩
      · exact ⟨5, by decide, rfl⟩
      · exact ⟨6, by decide, rfl⟩
    have HSL := Lib.hid hsl
    have HALL := Lib.hid hall
    have HS7 := Lib.hid hs7
    have HSE := Lib.hid hs
    clear h hsl hall hs7 hs h47 hR
    go_enter Tryz.func170, Tryz.ntmps170
    go_wp2_with fail
    go_at_call 109; refine HK0.out.mono ?_; rintro e w1 ⟨rfl, hw1⟩
    have HW1 := Lib.hid (show Went W w1 P t a n from hw1)
    have HR1 := Lib.hid (HR.out.aside hw1.1 hP7)
    clear hw1
    go_wp2_with fail
    rw [HSE.out]
    obtain ⟨W0, hW0⟩ : ∃ W0, w1 = W0 := ⟨_, rfl⟩
    subst hW0
    go_loopg [] 7 (fun gf wx => ∃ pos : Nat, wx.heap[w1.heap.size]? = some (.stringIter s pos) ∧ Hid (Below w1.heap.size w1 wx) ∧ Hid (∀ i (h : i < s.size), i < pos → Lib.hasPrefix (rest t a) [92, s[i]'h] = false) ∧ 7 ≤ pos + gf)
    case atStart => exact ⟨0, World.iter_heap w1 s 0, Lib.hid ((Below.refl _ w1).alloc (Nat.le_refl _) _), Lib.hid (fun i h h' => absurd h' (by omega)), by omega⟩
    case round =>
      obtain ⟨pos, hit, HB, HN, hfu⟩ := hrel
      by_cases hps : pos < s.size
      · obtain ⟨g', rfl⟩ : ∃ g', gk = g' + 1 := ⟨gk - 1, by have := HS7.out; omega⟩
        obtain ⟨x, hlx, hn47, ha, hix⟩ := HSL.out pos hps
        have hx255 := x.toNat_lt
        have hnx : ∀ ty, (Instr.next (.pointer (some ⟨w1.heap.size, 0, none⟩)) true ty).run Tryz.prog wr = _ := fun ty => Lib.run_next_ascii_at wr w1.heap.size s pos ty hit hps ha
        have hit2 := Lib.iterAt_heap wr w1.heap.size s pos (pos + 1) hit
        have hbw2 := Lib.below_iterAt HB.out (k := w1.heap.size) (Nat.le_refl _) s (pos + 1)
        have HNX : ∀ v, Lib.hasPrefix (rest t a) [92, s[pos]'hps] = v → v = false → ∀ i (h : i < s.size), i < pos + 1 → Lib.hasPrefix (rest t a) [92, s[i]'h] = false := fun v hv hf i h hi => by
          rcases Nat.lt_or_ge i pos with h1 | h1
          · exact HN.out i h h1
          · obtain rfl : i = pos := by omega
            rw [hv]; exact hf
        obtain ⟨c, hc⟩ : ∃ c, s[pos]'hps = c := ⟨_, rfl⟩
        rw [hc] at hnx ha HNX hlx hn47
        obtain ⟨X, hWd⟩ : ∃ X, wr.iterAt w1.heap.size s (pos + 1) = X := ⟨_, rfl⟩
        rw [hWd] at hnx hit2 hbw2
        have hltX : w1.heap.size < X.heap.size := (Array.getElem?_eq_some_iff.1 hit2).1
        have he : Utf8.encode ((c.toNat : Nat) : Int) = ⟨#[c]⟩ := by
          have hv : Utf8.valid ((c.toNat : Nat) : Int) = true := by unfold Utf8.valid; simp; omega
          unfold Utf8.encode
          simp only [hv, if_true, Int.toNat_natCast]
          rw [if_pos (by omega)]
          simp
        have hcat : (⟨#[92]⟩ : ByteArray) ++ ⟨#[c]⟩ = ⟨#[92, c]⟩ := by
          apply ByteArray.ext
          simp
        have HSX := Lib.hid (HW1.out.2.below hbw2)
        have HBX := Lib.hid hbw2
        have HLX := Lib.hid hlx
        have H47' := Lib.hid hn47
        have HNN := Lib.hid HNX
        clear hbw2 hc hWd HNX hlx hn47
        cases hv : Lib.hasPrefix (rest t a) [92, c]
        · have HK := Lib.hid (skip_no HSX.out ⟨#[92, c]⟩ hv)
          have HV := Lib.hid hv
          clear hv
          go_wp2_with (go_at_call 109; refine HK.out.mono ?_; rintro e w2 ⟨rfl, hb2⟩)
          go_roundg g'
          case measure => omega
          case rel => exact ⟨pos + 1, (hb2.block _ hltX).trans hit2, Lib.hid (HBX.out.trans (hb2.mono HBX.out.size)), Lib.hid (HNN.out _ HV.out rfl), by omega⟩
        · have HK := Lib.hid (skip_b HSX.out ⟨#[92, c]⟩ hv)
          have HV := Lib.hid hv
          clear hv
          go_wp2_with (go_at_call 109; refine HK.out.mono ?_; rintro e w2 ⟨rfl, hw2⟩)
          go_ret
          rw [escJ_hit HLX.out H47'.out HV.out]
          exact ⟨rfl, a + 2, (HW1.out.trans (HW1.out.2.stays HBX.out)).trans hw2, (rest_add t a 2)⟩
      · have hnx : ∀ ty, (Instr.next (.pointer (some ⟨w1.heap.size, 0, none⟩)) true ty).run Tryz.prog wr = _ := fun ty => Lib.run_next_end_at wr w1.heap.size s pos ty hit hps
        have HX := Lib.hid (escJ_miss H47.out (fun q hq => by
          obtain ⟨i, hi, hq'⟩ := HALL.out q hq
          rw [← hq']
          exact HN.out i hi (by omega)))
        have HE := Lib.hid (escapedRune_any (HW1.out.2.below HB.out) (HR1.out.below HB.out))
        have HWB := Lib.hid (HW1.out.trans (HW1.out.2.stays HB.out))
        cases hpr : pairL (rest t a) with
        | ok y =>
          obtain ⟨x, R'⟩ := y
          rw [hpr] at HE HX
          clear hpr
          go_wp2_with (go_at_call 203; refine HE.out.mono ?_; rintro e w2 ⟨rfl, a', hw2, hr2⟩)
          go_ret
          rw [HX.out]
          exact ⟨rfl, a', HWB.out.trans hw2, hr2⟩
        | error c =>
          rw [hpr] at HE HX
          clear hpr
          go_wp2_with (go_at_call 203; refine HE.out.mono ?_; rintro e w2 ⟨D, rfl, h1, h2, h3⟩)
          refine ⟨rfl, ?_⟩
          rw [HX.out]
          exact Thrown.after ⟨D, rfl, h1, h2, h3⟩ HWB.out.1
  · have HK0 := Lib.hid (skip_b h ⟨#[92, 47]⟩ h47)
    have HX := Lib.hid (escJ_slash h47)
    clear h h47 hR
    go_enter Tryz.func170, Tryz.ntmps170
    go_wp2_with (go_at_call 109; refine HK0.out.mono ?_; rintro e w1 ⟨rfl, hw1⟩)
    go_ret
    rw [HX.out]
    exact ⟨rfl, a + 2, hw1, rest_add t a 2⟩
end Go.Proofs.YtblldoniagiboaaGreatDoor
namespace Go.Proofs.YtblldoniagiboaaGreatDoor
set_option linter.unusedVariables false

/-- How far runes go on of which p says so: from byte pos on, at most n runes. -/
def stopAt (p : Nat → Bool) (s : ByteArray) : Nat → Nat → Nat
  | 0, pos => s.size
  | n + 1, pos => if pos < s.size then (if p (Utf8.decode s pos).1 then stopAt p s n (pos + (Utf8.decode s pos).2) else pos) else s.size
theorem stopAt_step {p : Nat → Bool} {s : ByteArray} {n pos : Nat} (h : pos < s.size) (hp : p (Utf8.decode s pos).1 = true) : stopAt p s (n + 1) pos = stopAt p s n (pos + (Utf8.decode s pos).2) := by
  conv => lhs; unfold stopAt
  rw [if_pos h, if_pos hp]
theorem stopAt_stop {p : Nat → Bool} {s : ByteArray} {n pos : Nat} (h : pos < s.size) (hp : p (Utf8.decode s pos).1 = false) : stopAt p s (n + 1) pos = pos := by
  conv => lhs; unfold stopAt
  rw [if_pos h, if_neg (by rw [hp]; decide)]
theorem stopAt_end {p : Nat → Bool} {s : ByteArray} {n pos : Nat} (h : ¬ pos < s.size) : stopAt p s n pos = s.size := by
  cases n with
  | zero => rfl
  | succ n => unfold stopAt; rw [if_neg h]

/-- All bytes of a rune that is no ASCII are none. -/
theorem decode_wide (s : ByteArray) (pos : Nat) (h : pos < s.size) (ha : 128 ≤ (s[pos]'h).toNat) : pos + (Utf8.decode s pos).2 ≤ s.size ∧ ∀ i, pos ≤ i → i < pos + (Utf8.decode s pos).2 → 128 ≤ (s.get! i).toNat := by
  have hn : ¬ (s[pos]'h).toNat < 128 := by omega
  have g0 : (s.get! (pos + 0)).toNat = (s[pos]'h).toNat := by rw [get_at s pos h]
  have key : ∀ k, k ≤ 4 → 1 ≤ k → (∀ j, 1 ≤ j → j < k → pos + j < s.size ∧ 128 ≤ (s.get! (pos + j)).toNat) → pos + k ≤ s.size ∧ ∀ i, pos ≤ i → i < pos + k → 128 ≤ (s.get! i).toNat := by
    intro k hk hk1 hj
    refine ⟨?_, fun i h1 h2 => ?_⟩
    · rcases Nat.lt_or_ge 1 k with h1 | h1
      · have := (hj (k - 1) (by omega) (by omega)).1; omega
      · omega
    · rcases Nat.eq_or_lt_of_le h1 with h3 | h3
      · subst h3; rw [Nat.add_zero] at g0; omega
      · have := (hj (i - pos) (by omega) (by omega)).2
        rwa [show pos + (i - pos) = i by omega] at this
  have hc : ∀ k, (decide (pos + k < s.size) && ((s.get! (pos + k)).toNat / 64 == 2)) = true → pos + k < s.size ∧ 128 ≤ (s.get! (pos + k)).toNat := by
    intro k hk
    simp only [Bool.and_eq_true, decide_eq_true_eq, beq_iff_eq] at hk
    exact ⟨hk.1, by omega⟩
  simp only [Utf8.decode, get_at s pos h, hn, if_false]
  split
  · rename_i h1
    have h2 := (Bool.and_eq_true_iff.1 h1).2
    split
    · exact key 2 (by omega) (by omega) (fun j a b => by obtain rfl : j = 1 := by omega
                                                         exact hc 1 h2)
    · exact key 1 (by omega) (by omega) (fun j a b => by omega)
  · split
    · rename_i h1
      obtain ⟨h2, h4⟩ := Bool.and_eq_true_iff.1 h1
      have h3 := (Bool.and_eq_true_iff.1 h2).2
      split
      · exact key 3 (by omega) (by omega) (fun j a b => by
          rcases (show j = 1 ∨ j = 2 by omega) with rfl | rfl
          · exact hc 1 h3
          · exact hc 2 h4)
      · exact key 1 (by omega) (by omega) (fun j a b => by omega)
    · split
      · rename_i h1
        obtain ⟨h2, h5⟩ := Bool.and_eq_true_iff.1 h1
        obtain ⟨h3, h4⟩ := Bool.and_eq_true_iff.1 h2
        have h6 := (Bool.and_eq_true_iff.1 h3).2
        split
        · exact key 4 (by omega) (by omega) (fun j a b => by
            rcases (show j = 1 ∨ j = 2 ∨ j = 3 by omega) with rfl | rfl | rfl
            · exact hc 1 h6
            · exact hc 2 h4
            · exact hc 3 h5)
        · exact key 1 (by omega) (by omega) (fun j a b => by omega)
      · exact key 1 (by omega) (by omega) (fun j a b => by omega)

/-- A statement on runes that is one on bytes: all that is no ASCII is alike. -/
def byteP (q : UInt8 → Bool) (hi : Bool) (c : UInt8) : Bool := if c.toNat < 128 then q c else hi
theorem drop_cons {l : List UInt8} {i : Nat} (h : i < l.length) : l.drop i = l[i] :: l.drop (i + 1) := List.drop_eq_getElem_cons h
theorem get_list {s : ByteArray} {i : Nat} (h : i < s.size) : s.get! i = s.data.toList[i]'(by simpa using h) := by
  have := get_at s i h
  rw [Nat.add_zero] at this
  rw [this]
  rfl
theorem skip_all {q : UInt8 → Bool} {l : List UInt8} : ∀ (k i : Nat), i + k ≤ l.length → (∀ j (h : j < l.length), i ≤ j → j < i + k → q l[j] = true) → (l.drop i).dropWhile q = (l.drop (i + k)).dropWhile q
  | 0, i, _, _ => rfl
  | k + 1, i, hk, h => by
    have hi : i < l.length := by omega
    rw [drop_cons hi, List.dropWhile_cons_of_pos (h i hi (Nat.le_refl _) (by omega))]
    rw [skip_all k (i + 1) (by omega) (fun j hj h1 h2 => h j hj (by omega) (by omega)), show i + 1 + k = i + (k + 1) by omega]
/-- Runes are gone over as bytes are. -/
theorem stopAt_bytes {p : Nat → Bool} {q : UInt8 → Bool} {hi : Bool} {s : ByteArray} (hlo : ∀ c : UInt8, c.toNat < 128 → p c.toNat = q c) (hhi : ∀ r, 128 ≤ r → p r = hi) :
    ∀ (n pos : Nat), s.size - pos ≤ n → pos ≤ s.size → s.data.toList.drop (stopAt p s n pos) = (s.data.toList.drop pos).dropWhile (byteP q hi) ∧ pos ≤ stopAt p s n pos ∧ stopAt p s n pos ≤ s.size
  | n, pos, hn, hpos => by
    have hlen : s.data.toList.length = s.size := by simp
    by_cases h : pos < s.size
    · obtain ⟨m, rfl⟩ : ∃ m, n = m + 1 := ⟨n - 1, by omega⟩
      have hl : pos < s.data.toList.length := by omega
      have hg : s.data.toList[pos] = s[pos]'h := rfl
      by_cases ha : (s[pos]'h).toNat < 128
      · have hd := decode_ascii s pos h ha
        have e1 : (Utf8.decode s pos).1 = (s[pos]'h).toNat := by rw [hd]
        have e2 : (Utf8.decode s pos).2 = 1 := by rw [hd]
        have hb : byteP q hi s.data.toList[pos] = p (Utf8.decode s pos).1 := by unfold byteP; rw [hg, if_pos ha, e1, hlo _ ha]
        cases hp : p (Utf8.decode s pos).1
        · rw [stopAt_stop h hp]
          refine ⟨?_, Nat.le_refl _, by omega⟩
          rw [drop_cons hl, List.dropWhile_cons_of_neg (by rw [hb, hp]; decide)]
        · rw [stopAt_step h hp, e2]
          obtain ⟨i1, i2, i3⟩ := stopAt_bytes (p := p) (s := s) (q := q) (hi := hi) hlo hhi m (pos + 1) (by omega) (by omega)
          refine ⟨?_, by omega, i3⟩
          rw [i1, drop_cons hl, List.dropWhile_cons_of_pos (by rw [hb, hp])]
      · have hw := decode_wide s pos h (by omega)
        have hh := decode_high s pos h (by omega)
        have hp' : p (Utf8.decode s pos).1 = hi := hhi _ hh.1
        cases hi with
        | false =>
          rw [stopAt_stop h hp']
          refine ⟨?_, Nat.le_refl _, by omega⟩
          rw [drop_cons hl, List.dropWhile_cons_of_neg (by unfold byteP; rw [hg, if_neg ha]; decide)]
        | true =>
          rw [stopAt_step h hp']
          obtain ⟨i1, i2, i3⟩ := stopAt_bytes (p := p) (s := s) (q := q) (hi := true) hlo hhi m (pos + (Utf8.decode s pos).2) (by omega) hw.1
          refine ⟨?_, by omega, i3⟩
          rw [i1]
          refine (skip_all _ pos (by omega) (fun j hj h1 h2 => ?_)).symm
          have h3 := hw.2 j h1 h2
          rw [get_list (by omega)] at h3
          unfold byteP
          rw [if_neg (by omega)]
    · rw [stopAt_end h]
      refine ⟨?_, hpos, Nat.le_refl _⟩
      rw [List.drop_of_length_le (by omega), List.drop_of_length_le (by omega)]
      rfl
termination_by n => n
end Go.Proofs.YtblldoniagiboaaGreatDoor
namespace Go.Proofs.YtblldoniagiboaaGreatDoor
open Go.RowKit Go.Shelf
set_option linter.unusedVariables false

theorem keep2 {w4 w1 w2 : World} {a0 a1 : Addr} {v0 v1 : Value} (h : Hid (Below w4.heap.size w4 w1) ∧ w1.cell? a0 = some v0 ∧ w1.cell? a1 = some v1) (hb : Below w1.heap.size w1 w2) : Hid (Below w4.heap.size w4 w2) ∧ w2.cell? a0 = some v0 ∧ w2.cell? a1 = some v1 :=
  ⟨Lib.hid (h.1.out.trans (hb.mono h.1.out.size)), cells_keep hb h.2.1, cells_keep hb h.2.2⟩
theorem width_in (s : ByteArray) (h : 0 < s.size) : (Utf8.decode s 0).2 ≤ s.size := by
  by_cases ha : (s[0]'h).toNat < 128
  · rw [decode_ascii s 0 h ha]; exact h
  · have := (decode_wide s 0 h (by omega)).1
    omega
theorem runeJ_low {R : List UInt8} (h : headN R < 32) : runeJ R = .error 30 := by
  cases R with
  | nil => rfl
  | cons c r =>
    unfold runeJ
    simp only
    rw [if_pos (by rw [UInt8.lt_iff_toNat_lt]; exact h)]
theorem runeJ_back {R : List UInt8} (h : headN R = 92) : runeJ R = escJ R := by
  cases R with
  | nil => cases h
  | cons c r =>
    obtain rfl : c = 92 := UInt8.toNat_inj.1 h
    rfl
theorem runeJ_more {R : List UInt8} (h1 : ¬ headN R < 32) (h2 : headN R ≠ 92) : runeJ R = if (Utf8.decode ⟨R.toArray⟩ 0).1 = 65533 ∧ (Utf8.decode ⟨R.toArray⟩ 0).2 = 1 then .error 31 else .ok (((Utf8.decode ⟨R.toArray⟩ 0).1 : Int), R.drop (Utf8.decode ⟨R.toArray⟩ 0).2) := by
  cases R with
  | nil => exact absurd (by show (0 : Nat) < 32; omega) h1
  | cons c r =>
    conv => lhs; unfold runeJ
    simp only
    rw [if_neg (by rw [UInt8.lt_iff_toNat_lt]; exact h1), if_neg (by rintro rfl; exact h2 rfl)]
set_option maxRecDepth 100000 in
set_option maxHeartbeats 4000000 in
theorem quotedRune_any {W : World} {P a n : Nat} {t : ByteArray} (h : Rdr W P t a n) (hR : ReadyJ W) (hP7 : 7 ≤ P) : Calls Tryz.prog 136 #[.pointer (some ⟨P, 0, none⟩)] W (REnds W P t a n (runeJ (rest t a))) := by
  have HS := Lib.hid h
  have HR := Lib.hid hR
  have HP := Lib.hid (peek_any h)
  have hat := h.2.1
  have hsz := h.2.2.1
  obtain ⟨x, hx⟩ : ∃ x, headN (rest t a) = x := ⟨_, rfl⟩
  rw [hx] at HP
  have i0 : (0 : Int) ≤ (x : Int) := by omega
  clear h hR
  by_cases h1 : x < 32
  · have HX := Lib.hid (runeJ_low (by rw [hx]; exact h1))
    have i1 : (x : Int) < 32 := by omega
    clear hx h1
    go_enter Tryz.func136, Tryz.ntmps136
    go_wp2_with fail
    go_at_call 101; refine HP.out.mono ?_; rintro e w1 ⟨rfl, hb1⟩
    have HW1 := Lib.hid (HS.out.stays hb1)
    clear hb1
    have k1 := HW1.out.2.1.cell 1
    go_wp2_with (go_at_call 66; refine (diag_any _ _ _).mono ?_; rintro e w4 ⟨rfl, rfl⟩)
    refine ⟨rfl, ?_⟩
    rw [HX.out]
    exact thrown_new (c := 30) HW1.out (l := (rest t a).length) (rest_back hat)
  · have i1 : ¬ (x : Int) < 32 := by omega
    by_cases h2 : x = 92
    · have HX := Lib.hid (runeJ_back (by rw [hx]; exact h2))
      have q2 : ((x : Int) == 92) = true := by rw [h2]; rfl
      clear hx h1 h2
      go_enter Tryz.func136, Tryz.ntmps136
      go_wp2_with fail
      go_at_call 101; refine HP.out.mono ?_; rintro e w1 ⟨rfl, hb1⟩
      have HW1 := Lib.hid (HS.out.stays hb1)
      have HE := Lib.hid (escape_any HW1.out.2 (HR.out.below hb1) hP7)
      clear hb1
      go_wp2_with fail
      cases hpr : escJ (rest t a) with
      | ok y =>
        obtain ⟨x, R'⟩ := y
        rw [hpr] at HE HX
        clear hpr
        go_wp2_with (go_at_call 170; refine HE.out.mono ?_; rintro e w2 ⟨rfl, a', hw2, hr2⟩)
        go_ret
        rw [HX.out]
        exact ⟨rfl, a', HW1.out.trans hw2, hr2⟩
      | error c =>
        rw [hpr] at HE HX
        clear hpr
        go_wp2_with (go_at_call 170; refine HE.out.mono ?_; rintro e w2 ⟨D, rfl, h1, h2, h3⟩)
        refine ⟨rfl, ?_⟩
        rw [HX.out]
        exact Thrown.after ⟨D, rfl, h1, h2, h3⟩ HW1.out.1
    · have q2 : ((x : Int) == 92) = false := beq_eq_false_iff_ne.2 (by omega)
      have hX := runeJ_more (R := rest t a) (by rw [hx]; exact h1) (by rw [hx]; exact h2)
      have hal : a < t.size := by
        rcases Nat.lt_or_ge a t.size with h | h
        · exact h
        · rw [rest_nil h] at hx
          exact absurd (show x < 32 by rw [← hx]; show (0 : Nat) < 32; omega) h1
      obtain ⟨s, hs⟩ : ∃ s, t.extract a t.size = s := ⟨_, rfl⟩
      have hse : (⟨(rest t a).toArray⟩ : ByteArray) = s := by rw [← hs]; exact (str_eq (rest_extract t a)).symm
      rw [hse] at hX
      have hss : s.size = t.size - a := by rw [← hs]; simp
      have hw0 := Lib.width_pos s 0
      have hwi := width_in s (by omega)
      have hrl := Lib.rune_le s 0
      have hdg : Lib.decodeGo s = Utf8.decode s 0 := by unfold Lib.decodeGo; rw [if_neg (by omega)]
      have hcon := fun (w : World) (hT : Lib.Utf8Tabs 0 1 w) => Tryz.utf8_DecodeRuneInString s w hT
      rw [hdg] at hcon
      obtain ⟨p, hp⟩ : ∃ p, (Utf8.decode s 0).1 = p := ⟨_, rfl⟩
      obtain ⟨q, hq⟩ : ∃ q, (Utf8.decode s 0).2 = q := ⟨_, rfl⟩
      rw [hp, hq] at hX
      simp only [hp, hq] at hcon
      rw [hp] at hrl
      rw [hq] at hw0 hwi
      have HCON := Lib.hid hcon
      have HSS := Lib.hid hs
      have j0 : (0 : Int) ≤ (a : Int) := by omega
      have j1 : (a : Int) ≤ (t.size : Int) := by omega
      have j2 : (0 : Int) ≤ (q : Int) := by omega
      have j3 : (a : Int) + (q : Int) ≤ (t.size : Int) := by omega
      clear hx h1 h2 hs hse hdg hcon hp
      by_cases hbad : p = 65533 ∧ q = 1
      · rw [if_pos hbad] at hX
        have HX := Lib.hid hX
        obtain ⟨rfl, rfl⟩ := hbad
        clear hX hq
        go_enter Tryz.func136, Tryz.ntmps136
        go_wp2_with fail
        go_at_call 101; refine HP.out.mono ?_; rintro e w1 ⟨rfl, hb1⟩
        have HW1 := Lib.hid (HS.out.stays hb1)
        have HR1 := Lib.hid (HR.out.below hb1)
        clear hb1
        have k0 := HW1.out.2.1.cell 0
        have k1 := HW1.out.2.1.cell 1
        go_wp2_with fail
        have HS9 : Hid (Below w1.heap.size w1 w1.drew) ∧ w1.drew.cell? ⟨P, 0, none⟩ = some (.string t) ∧ w1.drew.cell? ⟨P, 1, none⟩ = some (.int .i64 (a : Int)) := ⟨Lib.hid (below_drew w1), k0, k1⟩
        go_region_held3 (fun w' => Hid (Below w1.heap.size w1 w') ∧ w'.cell? ⟨P, 0, none⟩ = some (.string t) ∧ w'.cell? ⟨P, 1, none⟩ = some (.int .i64 (a : Int)))
          (first | with_reducible exact HS9 | (with_reducible exact keep2 (by assumption) (by assumption)))
          (first | (go_at_call 171; rw [HSS.out]; (with_reducible refine (HCON.out _ ?_).mono ?_); (have hbS := ‹Hid (Below w1.heap.size w1 _) ∧ _›.1.out; exact (HR1.out.below hbS).tabs); rintro e w3 ⟨rfl, hb3⟩; have HB3 := Lib.hid ((‹Hid (Below w1.heap.size w1 _) ∧ _›.1.out).trans (hb3.mono (‹Hid (Below w1.heap.size w1 _) ∧ _›.1.out).size))))
        have HW3 := Lib.hid (HW1.out.trans (HW1.out.2.stays HB3.out))
        clear hb3 k0 k1
        have k1 := HW3.out.2.1.cell 1
        go_wp2_with (go_at_call 66; refine (diag_any _ _ _).mono ?_; rintro e w4 ⟨rfl, rfl⟩)
        refine ⟨rfl, ?_⟩
        rw [HX.out]
        exact thrown_new (c := 31) HW3.out (l := (rest t a).length) (rest_back hat)
      · rw [if_neg hbad] at hX
        have HX := Lib.hid hX
        clear hX hq
        have hbb : ((p : Int) == 65533) = false ∨ (((p : Int) == 65533) = true ∧ ((q : Int) == 1) = false) := by
          by_cases hp : p = 65533
          · right
            refine ⟨beq_iff_eq.2 (by omega), beq_eq_false_iff_ne.2 (fun e => hbad ⟨hp, by omega⟩)⟩
          · left
            exact beq_eq_false_iff_ne.2 (by omega)
        clear hbad
        rcases hbb with hb1 | ⟨hb1, hb2⟩
        all_goals
          go_enter Tryz.func136, Tryz.ntmps136
          go_wp2_with fail
          go_at_call 101; refine HP.out.mono ?_; rintro e w1 ⟨rfl, hb1⟩
          have HW1 := Lib.hid (HS.out.stays hb1)
          have HR1 := Lib.hid (HR.out.below hb1)
          clear hb1
          have k0 := HW1.out.2.1.cell 0
          have k1 := HW1.out.2.1.cell 1
          go_wp2_with fail
          have HS9 : Hid (Below w1.heap.size w1 w1.drew) ∧ w1.drew.cell? ⟨P, 0, none⟩ = some (.string t) ∧ w1.drew.cell? ⟨P, 1, none⟩ = some (.int .i64 (a : Int)) := ⟨Lib.hid (below_drew w1), k0, k1⟩
          go_region_held3 (fun w' => Hid (Below w1.heap.size w1 w') ∧ w'.cell? ⟨P, 0, none⟩ = some (.string t) ∧ w'.cell? ⟨P, 1, none⟩ = some (.int .i64 (a : Int)))
            (first | with_reducible exact HS9 | (with_reducible exact keep2 (by assumption) (by assumption)))
            (first | (go_at_call 171; rw [HSS.out]; (with_reducible refine (HCON.out _ ?_).mono ?_); (have hbS := ‹Hid (Below w1.heap.size w1 _) ∧ _›.1.out; exact (HR1.out.below hbS).tabs); rintro e w3 ⟨rfl, hb3⟩; have HB3 := Lib.hid ((‹Hid (Below w1.heap.size w1 _) ∧ _›.1.out).trans (hb3.mono (‹Hid (Below w1.heap.size w1 _) ∧ _›.1.out).size))))
          have HW3 := Lib.hid (HW1.out.trans (HW1.out.2.stays HB3.out))
          clear hb3 k0 k1
          have k1 := HW3.out.2.1.cell 1
          have f1 := HW3.out.2.1.frozen 1
          go_wp2
          go_ret
          rw [HX.out]
          refine ⟨rfl, a + q, ?_, by rw [rest_add]⟩
          have := HW3.out.trans (HW3.out.2.moves (b := a + q) (by omega))
          simpa using this
end Go.Proofs.YtblldoniagiboaaGreatDoor
