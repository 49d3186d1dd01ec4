/- peek, skip, skipBlanks, take, diag, want · strconv.ParseUint of hexadecimal digits, to 16 bits -/
import Derived.Deep.LoopGhost
import Derived.Lib.Strings
import Derived.Lib.Walk
import Derived.Lib.ConvBytes
import Derived.Lib.ParseIntBMem
import Derived.Laws.Strings3
import Derived.Laws.Closers25
import Derived.Laws.Closers25b
import Derived.BigCall
import Derived.BigGuard
import Derived.Shelf.Vars
import Derived.Test.YtcbcjeabpjjhbaaGreatDoorJb13
namespace Go.Proofs.YtcbcjeabpjjhbaaGreatDoor
open Go.RowKit
set_option linter.unusedVariables false

set_option maxRecDepth 100000 in
set_option maxHeartbeats 1000000 in
theorem skip_b {W : World} {P a n : Nat} {t : ByteArray} (h : Rdr W P t a n) (p : ByteArray) {b : Bool} (hp : Lib.hasPrefix (rest t a) p.data.toList = b) : Calls Tryz.prog 65 #[.pointer (some ⟨P, 0, none⟩), .string p] W fun e w' => e = .returned (.bool b) ∧ Went W w' P t (if b then a + p.size else a) n := by
  have HS := Lib.hid h
  have HH := Lib.hid (fun (w : World) => (Tryz.strings_HasPrefix (t.extract a t.size) p w).mono fun e w' (x : e = .returned (.bool (Lib.hasPrefix (t.extract a t.size).data.toList p.data.toList)) ∧ w' = w) => (⟨x.1.trans (by rw [rest_extract, hp]), x.2⟩ : e = .returned (.bool b) ∧ w' = w))
  have hle : b = true → p.size ≤ t.size - a := fun hb => pre_le (hp.trans hb)
  obtain ⟨hb, ha, hs⟩ := h
  have c0 := hb.cell 0
  have c1 := hb.cell 1
  have i0 : (0 : Int) ≤ (a : Int) := by omega
  have i1 : (a : Int) ≤ (t.size : Int) := by omega
  clear hb hp
  cases b with
  | false =>
    clear hle
    go_enter Tryz.func65, Tryz.ntmps65
    go_wp2_with fail
    go_quiet ((go_at_call 87; exact Calls.quiet_of_same (HH.out _)))
    go_wp2
    go_ret
    exact ⟨rfl, HS.out.stays (below_drewN _ _)⟩
  | true =>
    have hle := hle rfl
    go_enter Tryz.func65, Tryz.ntmps65
    go_wp2_with fail
    go_quiet ((go_at_call 87; exact Calls.quiet_of_same (HH.out _)))
    have f1 := HS.out.1.frozen 1
    go_wp2
    go_ret
    refine ⟨rfl, (HS.out.stays (below_drewN _ nq)).trans ?_⟩
    have := (HS.out.below (below_drewN _ nq)).moves (b := a + p.size) (by omega)
    simpa using this

set_option maxRecDepth 100000 in
set_option maxHeartbeats 1000000 in
theorem skip_no {W : World} {P a n : Nat} {t : ByteArray} (h : Rdr W P t a n) (p : ByteArray) (hp : Lib.hasPrefix (rest t a) p.data.toList = false) : Calls Tryz.prog 65 #[.pointer (some ⟨P, 0, none⟩), .string p] W fun e w' => e = .returned (.bool false) ∧ Below W.heap.size W w' := by
  have HH := Lib.hid (fun (w : World) => (Tryz.strings_HasPrefix (t.extract a t.size) p w).mono fun e w' (x : e = .returned (.bool (Lib.hasPrefix (t.extract a t.size).data.toList p.data.toList)) ∧ w' = w) => (⟨x.1.trans (by rw [rest_extract, hp]), x.2⟩ : e = .returned (.bool false) ∧ w' = w))
  obtain ⟨hb, ha, hs⟩ := h
  have c0 := hb.cell 0
  have c1 := hb.cell 1
  have i0 : (0 : Int) ≤ (a : Int) := by omega
  have i1 : (a : Int) ≤ (t.size : Int) := by omega
  clear hb hp
  go_enter Tryz.func65, Tryz.ntmps65
  go_wp2_with fail
  go_quiet ((go_at_call 87; exact Calls.quiet_of_same (HH.out _)))
  go_wp2
  go_ret
  exact ⟨rfl, below_drewN _ _⟩
theorem skipB_blank {R : List UInt8} {q : UInt8} (hq : blankB q = true) (h : Lib.hasPrefix R [q] = true) : skipB R = skipB (R.drop 1) ∧ 0 < R.length := by
  obtain ⟨r, rfl⟩ := pre_head.1 h
  unfold skipB
  rw [List.dropWhile_cons_of_pos hq]
  exact ⟨rfl, by simp⟩
theorem skipB_none {R : List UInt8} (h1 : Lib.hasPrefix R [32] = false) (h2 : Lib.hasPrefix R [9] = false) (h3 : Lib.hasPrefix R [10] = false) (h4 : Lib.hasPrefix R [13] = false) : skipB R = R := by
  cases R with
  | nil => rfl
  | cons c r =>
    have hn : ∀ q : UInt8, Lib.hasPrefix (c :: r) [q] = false → (c == q) = false := fun q h => by
      rw [beq_eq_false_iff_ne]
      rintro rfl
      have : Lib.hasPrefix (c :: r) [c] = true := pre_head.2 ⟨r, rfl⟩
      rw [this] at h; cases h
    unfold skipB
    rw [List.dropWhile_cons_of_neg]
    unfold blankB
    rw [hn _ h1, hn _ h2, hn _ h3, hn _ h4]
    decide
theorem skipB_idem (R : List UInt8) : skipB (skipB R) = skipB R := by
  induction R with
  | nil => rfl
  | cons c r ih =>
    unfold skipB at *
    by_cases h : blankB c = true
    · rw [List.dropWhile_cons_of_pos h]; exact ih
    · rw [List.dropWhile_cons_of_neg h, List.dropWhile_cons_of_neg h]
set_option maxRecDepth 100000 in
set_option maxHeartbeats 4000000 in
theorem blanks_any {W : World} {P a n : Nat} {t : ByteArray} (h : Rdr W P t a n) : Calls Tryz.prog 42 #[.pointer (some ⟨P, 0, none⟩)] W fun e w' => e = .returned (.tuple #[]) ∧ ∃ b, Went W w' P t b n ∧ rest t b = skipB (rest t a) := by
  have HS := Lib.hid h
  clear h
  go_enter Tryz.func42, Tryz.ntmps42
  go_wp2_with fail
  go_loopg [] t.size (fun gf wx => ∃ c : Nat, Hid (Went W wx P t c n) ∧ Hid (skipB (rest t c) = skipB (rest t a)) ∧ t.size - c ≤ gf)
  case atStart => exact ⟨a, Lib.hid HS.out.same, Lib.hid rfl, by omega⟩
  case round =>
    obtain ⟨c, HW0, HE, hc⟩ := hrel
    cases hv0 : Lib.hasPrefix (rest t c) [32]
    · have HK0 := Lib.hid (skip_b HW0.out.2 ⟨#[32]⟩ hv0)
      have HV0 := Lib.hid hv0
      clear hv0
      go_wp2_with fail
      go_at_call 65; refine HK0.out.mono ?_; rintro e w1 ⟨rfl, hw1⟩
      have HW1 := Lib.hid (HW0.out.trans hw1)
      clear hw1
      cases hv1 : Lib.hasPrefix (rest t c) [9]
      · have HK1 := Lib.hid (skip_b HW1.out.2 ⟨#[9]⟩ hv1)
        have HV1 := Lib.hid hv1
        clear hv1
        go_wp2_with fail
        go_at_call 65; refine HK1.out.mono ?_; rintro e w2 ⟨rfl, hw2⟩
        have HW2 := Lib.hid (HW1.out.trans hw2)
        clear hw2
        cases hv2 : Lib.hasPrefix (rest t c) [10]
        · have HK2 := Lib.hid (skip_b HW2.out.2 ⟨#[10]⟩ hv2)
          have HV2 := Lib.hid hv2
          clear hv2
          go_wp2_with fail
          go_at_call 65; refine HK2.out.mono ?_; rintro e w3 ⟨rfl, hw3⟩
          have HW3 := Lib.hid (HW2.out.trans hw3)
          clear hw3
          cases hv3 : Lib.hasPrefix (rest t c) [13]
          · have HK3 := Lib.hid (skip_b HW3.out.2 ⟨#[13]⟩ hv3)
            have HV3 := Lib.hid hv3
            clear hv3
            go_wp2_with fail
            go_at_call 65; refine HK3.out.mono ?_; rintro e w4 ⟨rfl, hw4⟩
            have HW4 := Lib.hid (HW3.out.trans hw4)
            clear hw4
            go_wp2
            go_end0
            exact ⟨rfl, c, HW4.out, by rw [← HE.out, skipB_none HV0.out HV1.out HV2.out HV3.out]⟩
          · have HK3 := Lib.hid (skip_b HW3.out.2 ⟨#[13]⟩ hv3)
            have HV3 := Lib.hid hv3
            clear hv3
            go_wp2_with fail
            go_at_call 65; refine HK3.out.mono ?_; rintro e w4 ⟨rfl, hw4⟩
            have HW4 := Lib.hid (HW3.out.trans hw4)
            clear hw4
            have hq := skipB_blank (q := 13) (by decide) HV3.out
            have hq2 := hq.2
            rw [rest_length] at hq2
            obtain ⟨g', rfl⟩ : ∃ g', gk = g' + 1 := ⟨gk - 1, by omega⟩
            have HQ := Lib.hid hq.1
            clear hq
            go_wp2
            go_roundg g'
            case measure => omega
            case rel => exact ⟨c + 1, HW4.out |> Lib.hid, Lib.hid (by rw [rest_add, ← HQ.out, HE.out]), by omega⟩
        · have HK2 := Lib.hid (skip_b HW2.out.2 ⟨#[10]⟩ hv2)
          have HV2 := Lib.hid hv2
          clear hv2
          go_wp2_with fail
          go_at_call 65; refine HK2.out.mono ?_; rintro e w3 ⟨rfl, hw3⟩
          have HW3 := Lib.hid (HW2.out.trans hw3)
          clear hw3
          have hq := skipB_blank (q := 10) (by decide) HV2.out
          have hq2 := hq.2
          rw [rest_length] at hq2
          obtain ⟨g', rfl⟩ : ∃ g', gk = g' + 1 := ⟨gk - 1, by omega⟩
          have HQ := Lib.hid hq.1
          clear hq
          go_wp2
          go_roundg g'
          case measure => omega
          case rel => exact ⟨c + 1, HW3.out |> Lib.hid, Lib.hid (by rw [rest_add, ← HQ.out, HE.out]), by omega⟩
      · have HK1 := Lib.hid (skip_b HW1.out.2 ⟨#[9]⟩ hv1)
        have HV1 := Lib.hid hv1
        clear hv1
        go_wp2_with fail
        go_at_call 65; refine HK1.out.mono ?_; rintro e w2 ⟨rfl, hw2⟩
        have HW2 := Lib.hid (HW1.out.trans hw2)
        clear hw2
        have hq := skipB_blank (q := 9) (by decide) HV1.out
        have hq2 := hq.2
        rw [rest_length] at hq2
        obtain ⟨g', rfl⟩ : ∃ g', gk = g' + 1 := ⟨gk - 1, by omega⟩
        have HQ := Lib.hid hq.1
        clear hq
        go_wp2
        go_roundg g'
        case measure => omega
        case rel => exact ⟨c + 1, HW2.out |> Lib.hid, Lib.hid (by rw [rest_add, ← HQ.out, HE.out]), by omega⟩
    · have HK0 := Lib.hid (skip_b HW0.out.2 ⟨#[32]⟩ hv0)
      have HV0 := Lib.hid hv0
      clear hv0
      go_wp2_with fail
      go_at_call 65; refine HK0.out.mono ?_; rintro e w1 ⟨rfl, hw1⟩
      have HW1 := Lib.hid (HW0.out.trans hw1)
      clear hw1
      have hq := skipB_blank (q := 32) (by decide) HV0.out
      have hq2 := hq.2
      rw [rest_length] at hq2
      obtain ⟨g', rfl⟩ : ∃ g', gk = g' + 1 := ⟨gk - 1, by omega⟩
      have HQ := Lib.hid hq.1
      clear hq
      go_wp2
      go_roundg g'
      case measure => omega
      case rel => exact ⟨c + 1, HW1.out |> Lib.hid, Lib.hid (by rw [rest_add, ← HQ.out, HE.out]), by omega⟩

/-- The byte that is next. -/
def headN : List UInt8 → Nat
  | [] => 0
  | c :: _ => c.toNat
theorem byte_run {t : ByteArray} {a : Nat} (ha : a < t.size) (W : World) : (Instr.index 9 (.string t) (.int .i64 (a : Int))).run Tryz.prog W = .ok (.int .u8 ((t[a]'ha).toNat : Int)) W := by
  have hu := Tryz.underlying9
  have h1 : (0 : Int) ≤ (a : Int) := by omega
  simp [Instr.index, run_underlying hu, asIntOf, go_sem, h1, getElem?_pos, ha]
set_option maxRecDepth 100000 in
set_option maxHeartbeats 1000000 in
theorem peek_any {W : World} {P a n : Nat} {t : ByteArray} (h : Rdr W P t a n) : Calls Tryz.prog 57 #[.pointer (some ⟨P, 0, none⟩)] W fun e w' => e = .returned (.int .u8 ((headN (rest t a) : Nat) : Int)) ∧ Below W.heap.size W w' := by
  obtain ⟨hb, ha, hs⟩ := h
  have k0 := hb.cell 0
  have k1 := hb.cell 1
  have i0 : (0 : Int) ≤ (a : Int) := by omega
  clear hb
  by_cases hlt : a < t.size
  · have hix := byte_run hlt
    obtain ⟨c, hc⟩ : ∃ c, t[a]'hlt = c := ⟨_, rfl⟩
    rw [hc] at hix
    have HN : Hid (headN (rest t a) = c.toNat) := Lib.hid (by rw [rest_cons hlt, hc]; rfl)
    have i1 : (a : Int) < (t.size : Int) := by omega
    clear hc
    go_enter Tryz.func57, Tryz.ntmps57
    go_wp2_with fail
    go_quiet (fail)
    go_wp2_with fail
    go_quiet (fail)
    go_wp2
    go_ret
    rw [HN.out]
    exact ⟨rfl, ⟨rfl, rfl, rfl, Nat.le_refl _, fun _ _ => rfl⟩⟩
  · have HN : Hid (headN (rest t a) = 0) := Lib.hid (by rw [rest_nil (by omega)]; rfl)
    have i1 : ¬ (a : Int) < (t.size : Int) := by omega
    go_enter Tryz.func57, Tryz.ntmps57
    go_wp2_with fail
    go_quiet (fail)
    go_wp2
    go_ret
    rw [HN.out]
    exact ⟨rfl, below_drewN _ _⟩
set_option maxRecDepth 100000 in
set_option maxHeartbeats 1000000 in
theorem take_b {W : World} {P a n : Nat} {t : ByteArray} (h : Rdr W P t a n) (p : ByteArray) {b : Bool} (hp : Lib.hasPrefix (skipB (rest t a)) p.data.toList = b) : Calls Tryz.prog 99 #[.pointer (some ⟨P, 0, none⟩), .string p] W fun e w' => e = .returned (.bool b) ∧ ∃ c, Went W w' P t c n ∧ rest t c = if b then (skipB (rest t a)).drop p.size else skipB (rest t a) := by
  have HB := Lib.hid (blanks_any h)
  have HP := Lib.hid hp
  clear h hp
  cases b
  all_goals
    go_enter Tryz.func99, Tryz.ntmps99
    go_wp2_with fail
    go_at_call 42; refine HB.out.mono ?_; rintro e w1 ⟨rfl, c, hw1, hc⟩
    have hq := HP.out
    rw [← hc] at hq
    have HK := Lib.hid (skip_b hw1.2 p hq)
    clear hq
    have HW := Lib.hid hw1
    have HC := Lib.hid hc
    clear hw1 hc
    go_wp2_with fail
    go_at_call 65; refine HK.out.mono ?_; rintro e w2 ⟨rfl, hw2⟩
    have HW2 := Lib.hid (HW.out.trans hw2)
    clear hw2
    go_wp2
    go_ret
    refine ⟨rfl, _, HW2.out, ?_⟩
  · exact HC.out
  · show rest t (c + p.size) = List.drop p.size (skipB (rest t a))
    rw [rest_add, HC.out]
theorem diag_any (c p : Int) (W : World) : Calls Tryz.prog 40 #[.int .i64 c, .int .i64 p] W fun e w' => e = .returned (.pointer (some ⟨W.heap.size, 0, none⟩)) ∧ w' = W.alloc (.cells #[.int .i64 c, .string ⟨#[]⟩, .int .i64 p] 48) := by
  go_enter Tryz.func40, Tryz.ntmps40
  go_wp2
  go_ret
  exact ⟨rfl, rfl⟩
/-- What is thrown by panic(diag(..)). -/
theorem thrown_new {W W1 : World} {P a n : Nat} {t : ByteArray} {c : Int} {l : Nat} (hw : Went W W1 P t a n) (hl : t.size - l = a) : Thrown W P t (c, l) (.panicked [{ v := .iface 34 (.pointer (some ⟨W1.heap.size, 0, none⟩)), recovered := false }]) (W1.alloc (.cells #[.int .i64 c, .string ⟨#[]⟩, .int .i64 (a : Int)] 48)) :=
  ⟨W1.heap.size, rfl, hw.1.size, by subst hl; exact Blk.new _ _ _, hw.1.trans (Aside.of (below_new0 _ _))⟩
set_option maxRecDepth 100000 in
set_option maxHeartbeats 1000000 in
theorem want_yes {W : World} {P a n : Nat} {t : ByteArray} (h : Rdr W P t a n) {q : UInt8} (hp : Lib.hasPrefix (skipB (rest t a)) [q] = true) : Calls Tryz.prog 81 #[.pointer (some ⟨P, 0, none⟩), .string ⟨#[q]⟩] W fun e w' => e = .returned (.tuple #[]) ∧ ∃ c, Went W w' P t c n ∧ rest t c = (skipB (rest t a)).drop 1 := by
  have HT := Lib.hid (take_b h ⟨#[q]⟩ hp)
  clear h hp
  go_enter Tryz.func81, Tryz.ntmps81
  go_wp2_with (go_at_call 99; refine HT.out.mono ?_; rintro e w1 ⟨rfl, c, hw1, hc⟩)
  go_end0
  exact ⟨rfl, c, hw1, hc⟩
set_option maxRecDepth 100000 in
set_option maxHeartbeats 1000000 in
theorem want_no {W : World} {P a n : Nat} {t : ByteArray} (h : Rdr W P t a n) {q : UInt8} (hp : Lib.hasPrefix (skipB (rest t a)) [q] = false) : Calls Tryz.prog 81 #[.pointer (some ⟨P, 0, none⟩), .string ⟨#[q]⟩] W fun e w' => Thrown W P t (30, (skipB (rest t a)).length) e w' := by
  have HT := Lib.hid (take_b h ⟨#[q]⟩ hp)
  clear h hp
  go_enter Tryz.func81, Tryz.ntmps81
  go_wp2_with fail
  go_at_call 99; refine HT.out.mono ?_; rintro e w1 ⟨rfl, c, hw1, hc⟩
  have HW := Lib.hid hw1
  have HC := Lib.hid hc
  have k1 := hw1.2.1.cell 1
  clear hw1 hc
  go_wp2_with (go_at_call 40; refine (diag_any _ _ _).mono ?_; rintro e w2 ⟨rfl, rfl⟩)
  have := thrown_new (c := 30) HW.out (l := (skipB (rest t a)).length) (by have := HC.out; simp only [Bool.false_eq_true, if_false] at this; rw [← this]; exact rest_back HW.out.2.2.1)
  exact ⟨rfl, this⟩
end Go.Proofs.YtcbcjeabpjjhbaaGreatDoor
namespace Go.Proofs.YtcbcjeabpjjhbaaGreatDoor
open Go.RowKit Go.Shelf
set_option linter.unusedVariables false

/-- What is read of the program's own variables. -/
structure ReadyJ (W : World) : Prop where
  tabs : Lib.Utf8Tabs 0 1 W
  syn : ∃ ev, W.cell? ⟨3, 0, none⟩ = some ev ∧ (ev = .nilIface ∨ ∃ te pe, ev = .iface te pe)
  rng : ∃ ev, W.cell? ⟨4, 0, none⟩ = some ev ∧ (ev = .nilIface ∨ ∃ te pe, ev = .iface te pe)
  size : 7 ≤ W.heap.size

def puL : List UInt8 → Nat → Option Nat
  | [], n => some n
  | c :: l, n => match hexD c with | none => none | some d => if 65535 < n * 16 + d then none else puL l (n * 16 + d)
set_option maxRecDepth 100000 in
theorem low_bits : ∀ c : Fin 256, bits .or .u8 ((c.val : Nat) : Int) 32 = (((c.val ||| 32 : Nat)) : Int) := by decide
set_option maxRecDepth 100000 in
theorem low_hex : ∀ c : Fin 256, ¬ (48 ≤ c.val ∧ c.val ≤ 57) → (hexD (UInt8.ofNat c.val) = some ((c.val ||| 32) - 87) ∧ 97 ≤ (c.val ||| 32 : Nat) ∧ (c.val ||| 32 : Nat) ≤ 102) ∨ (hexD (UInt8.ofNat c.val) = none ∧ ((c.val ||| 32 : Nat) < 97 ∨ 102 < (c.val ||| 32 : Nat))) := by decide
theorem hexD_dig {c : UInt8} (h : 48 ≤ c.toNat ∧ c.toNat ≤ 57) : hexD c = some (c.toNat - 48) := by unfold hexD; rw [if_pos h]
theorem hexD_lt {c : UInt8} {d : Nat} (h : hexD c = some d) : d < 16 := by
  unfold hexD at h
  split at h
  · cases h; omega
  · split at h
    · cases h; omega
    · split at h
      · cases h; omega
      · cases h

set_option maxHeartbeats 32000000 in
set_option maxRecDepth 100000 in
theorem pu_in (t : ByteArray) (hne : t.size ≠ 0) (hmax : t.size ≤ 1000) (w : World) :
    Calls Tryz.prog 132 #[.string t, .int .i64 16, .int .i64 16] w fun e w' => (match puL t.data.toList 0 with
      | some n => e = .returned (.tuple #[.int .u64 (n : Int), .nilIface])
      | none => ∃ x, e = .returned (.tuple #[.int .u64 x, .iface 156 (.int .i64 2)]) ∨ e = .returned (.tuple #[.int .u64 x, .iface 156 (.int .i64 1)])) ∧ w' = Lib.bytesWorld w 5 t := by
  have e321 : ∀ args w, (callFunc 139 args).run Tryz.prog w = .ok (.enter 139 args) w := enters_of Tryz.func139 (by kernel_rfl) rfl
  have hemp : t.toList.isEmpty = false := by
    rw [← decide_eq_emptyBytes]
    exact decide_eq_false (fun h => hne (by rw [h]; rfl))
  have hcv := Lib.run_convert_string_bytes (P := Tryz.prog) w 9 44 5 t (u := .string) Tryz.underlying9 Tryz.underlying44 Tryz.underlying5
  have hB : ∀ j, j < t.size → (Lib.bytesWorld w 5 t).cell? ⟨w.heap.size, j, none⟩ = some (.int .u8 (t.data.toList.getD j 0).toNat) := fun j hj => Lib.bytesWorld_cell w 5 t j hj
  obtain ⟨W1, hW1⟩ : ∃ W1, W1 = Lib.bytesWorld w 5 t := ⟨_, rfl⟩
  rw [← hW1] at hcv hB ⊢
  clear hW1
  obtain ⟨bs, hL⟩ : ∃ bs, bs = t.data.toList := ⟨_, rfl⟩
  have hLn : bs.length = t.size := by rw [hL, Lib.size_eq]
  rw [← hL] at hB ⊢
  clear hL
  have hmv : IntKind.u64.wrap (IntKind.u64.wrap 65536 - 1) = 65535 := by
    rw [IntKind.wrap_u64, IntKind.wrap_u64]
    decide
  obtain ⟨X, hX⟩ : ∃ X, puL bs 0 = X := ⟨_, rfl⟩
  rw [hX]
  have HX0 := Lib.hid hX
  clear hX
  go_enter Tryz.func132, Tryz.ntmps132
  go_wp2
  go_loop [12, 13, 101] (fun vu vn vi => ∃ (k acc : Nat) (a : Int), vu = .bool false ∧ vn = .int .u64 a ∧ vi = .int .i64 k ∧ k ≤ t.size ∧ Hid (a = (acc : Int) ∧ acc ≤ 65535 ∧ puL (bs.drop k) acc = X))
    (fun _ _ vi => t.size - (intOf vi).toNat)
  case atStart => exact ⟨0, 0, 0, rfl, rfl, rfl, by omega, rfl, by omega, HX0.out⟩
  case round =>
    obtain ⟨k, acc, a, rfl, rfl, rfl, hk, hh⟩ := hrel
    obtain ⟨ha, hacc, hdec⟩ := hh.out
    clear hh
    have a0 : 0 ≤ a := by omega
    have a1 : a ≤ 65535 := by omega
    by_cases hkn : k < t.size
    · have hc := hB k hkn
      have hdrop : bs.drop k = bs[k]'(by omega) :: bs.drop (k + 1) := List.drop_eq_getElem_cons (by omega)
      have hget : bs.getD k 0 = bs[k]'(by omega) := by simp [List.getD, List.getElem?_eq_getElem (show k < bs.length by omega)]
      rw [hdrop] at hdec
      rw [hget] at hc
      generalize bs[k]'(by omega) = c at hc hdec
      have hc256 : c.toNat < 256 := c.toNat_lt
      clear hB hdrop hget
      by_cases hdig : 48 ≤ c.toNat ∧ c.toNat ≤ 57
      · have hh := hexD_dig hdig
        obtain ⟨hd0, hd1⟩ := hdig
        by_cases hov : 65535 < acc * 16 + (c.toNat - 48)
        · have hF : puL (c :: bs.drop (k + 1)) acc = none := by unfold puL; rw [hh]; simp only; rw [if_pos hov]
          obtain rfl : X = none := hdec.symm.trans hF
          have iov : 65535 < a * 16 + ((c.toNat : Int) - 48) := by omega
          clear hdec hF hov ha hh hacc
          go_wp2
          go_ret2
          exact ⟨⟨_, .inr rfl⟩, rfl⟩
        · have hF : puL (c :: bs.drop (k + 1)) acc = puL (bs.drop (k + 1)) (acc * 16 + (c.toNat - 48)) := by
            conv => lhs; unfold puL
            rw [hh]; simp only; rw [if_neg hov]
          have HN : Hid (a * 16 + ((c.toNat : Int) - 48) = ((acc * 16 + (c.toNat - 48) : Nat) : Int) ∧ acc * 16 + (c.toNat - 48) ≤ 65535 ∧ puL (bs.drop (k + 1)) (acc * 16 + (c.toNat - 48)) = X) := Lib.hid ⟨by omega, by omega, hF.symm.trans hdec⟩
          have iov : a * 16 + ((c.toNat : Int) - 48) ≤ 65535 := by omega
          clear hacc hF hov hdec ha hh
          go_wp2
          refine ⟨⟨k + 1, acc * 16 + (c.toNat - 48), a * 16 + ((c.toNat : Int) - 48), rfl, (by first | rfl | (congr 1; omega)), (by first | rfl | (congr 1; omega)), by omega, HN⟩, by simp [intOf]; omega⟩
      · have hlow := low_hex ⟨c.toNat, hc256⟩ hdig
        have hlb := low_bits ⟨c.toNat, hc256⟩
        simp only at hlow hlb
        rw [show UInt8.ofNat c.toNat = c by simp] at hlow
        obtain ⟨m, hm⟩ : ∃ m : Nat, (c.toNat ||| 32) = m := ⟨_, rfl⟩
        rw [hm] at hlow hlb
        have HLow := Lib.hid (fun (w : World) => (Tryz.internal_strconv_lower (c.toNat : Int) w).mono fun e w' (x : e = .returned (.int .u8 (bits .or .u8 (c.toNat : Int) 32)) ∧ w' = w) => (⟨x.1.trans (by rw [hlb]), x.2⟩ : e = .returned (.int .u8 (m : Int)) ∧ w' = w))
        have hm256 : m < 256 := by rw [← hm]; exact Nat.or_lt_two_pow (n := 8) hc256 (by decide)
        have hdz : ¬ ((48 : Int) ≤ (c.toNat : Int) ∧ (c.toNat : Int) ≤ 57) := by omega
        clear hm hlb
        rcases hlow with ⟨hh, h1, h2⟩ | ⟨hh, h1⟩
        · obtain ⟨d, hdm⟩ : ∃ d, m - 87 = d := ⟨_, rfl⟩
          rw [hdm] at hh
          have h3 : m = d + 87 := by omega
          have q95 : ((c.toNat : Int) == 95) = false := beq_eq_false_iff_ne.2 (fun e => by
            have e : c.toNat = 95 := by omega
            unfold hexD at hh
            rw [if_neg (by omega), if_neg (by omega), if_neg (by omega)] at hh
            cases hh)
          clear hdm
          have hd16 : d < 16 := hexD_lt hh
          have i1 : (97 : Int) ≤ (m : Int) := by omega
          have i2 : (m : Int) ≤ 102 := by omega
          by_cases hov : 65535 < acc * 16 + d
          · have hF : puL (c :: bs.drop (k + 1)) acc = none := by unfold puL; rw [hh]; simp only; rw [if_pos hov]
            obtain rfl : X = none := hdec.symm.trans hF
            have iov : 65535 < a * 16 + ((m : Int) - 97 + 10) := by omega
            clear hdec hF hov ha hh hacc h3 h1 h2 hd16
            go_wp2_with (go_at_call 139; refine (HLow.out _).mono ?_; rintro e w' ⟨rfl, rfl⟩)
            all_goals go_ret2
            all_goals exact ⟨⟨_, .inr rfl⟩, rfl⟩
          · have hF : puL (c :: bs.drop (k + 1)) acc = puL (bs.drop (k + 1)) (acc * 16 + d) := by
              conv => lhs; unfold puL
              rw [hh]; simp only; rw [if_neg hov]
            have HN : Hid (a * 16 + ((m : Int) - 97 + 10) = ((acc * 16 + d : Nat) : Int) ∧ acc * 16 + d ≤ 65535 ∧ puL (bs.drop (k + 1)) (acc * 16 + d) = X) := Lib.hid ⟨by omega, by omega, hF.symm.trans hdec⟩
            have iov : a * 16 + ((m : Int) - 97 + 10) ≤ 65535 := by omega
            clear hacc hF hov hdec ha hh h3 h1 h2 hd16
            go_wp2_with (go_at_call 139; refine (HLow.out _).mono ?_; rintro e w' ⟨rfl, rfl⟩)
            all_goals refine ⟨⟨k + 1, acc * 16 + d, a * 16 + ((m : Int) - 97 + 10), rfl, (by first | rfl | (congr 1; omega)), (by first | rfl | (congr 1; omega)), by omega, HN⟩, by simp [intOf]; omega⟩
        · have hF : puL (c :: bs.drop (k + 1)) acc = none := by unfold puL; rw [hh]
          obtain rfl : X = none := hdec.symm.trans hF
          have i1 : (0 : Int) ≤ (m : Int) := by omega
          have i2 : (m : Int) ≤ 255 := by omega
          have i3 : (m : Int) < 97 ∨ (122 : Int) < (m : Int) ∨ ((97 : Int) ≤ (m : Int) ∧ (103 : Int) ≤ (m : Int) ∧ (m : Int) ≤ 122) := by omega
          clear hdec hF hh hacc ha h1
          by_cases h95 : (c.toNat : Int) = 95
          · have q95 : ((c.toNat : Int) == 95) = true := beq_iff_eq.2 h95
            have HL95 := Lib.hid (fun (w : World) => (Tryz.internal_strconv_lower 95 w).mono fun e w' (x : e = .returned (.int .u8 (bits .or .u8 95 32)) ∧ w' = w) => (⟨x.1.trans (by rw [show bits .or .u8 95 32 = 127 from by decide]), x.2⟩ : e = .returned (.int .u8 127) ∧ w' = w))
            clear i3 i1 i2 HLow
            go_wp2_with (go_at_call 139; refine (HL95.out _).mono ?_; rintro e w' ⟨rfl, rfl⟩)
            all_goals go_ret2
            all_goals exact ⟨⟨_, .inl rfl⟩, rfl⟩
          · have q95 : ((c.toNat : Int) == 95) = false := beq_eq_false_iff_ne.2 h95
            clear h95
            rcases i3 with i3 | i3 | ⟨i3, i4, i5⟩
            all_goals
              go_wp2_with (go_at_call 139; refine (HLow.out _).mono ?_; rintro e w' ⟨rfl, rfl⟩)
              all_goals go_ret2
              all_goals exact ⟨⟨_, .inl rfl⟩, rfl⟩
    · have hkk : k = t.size := by omega
      subst hkk
      have hF : puL (bs.drop t.size) acc = some acc := by rw [List.drop_eq_nil_of_le (by omega)]; rfl
      obtain rfl : X = some acc := hdec.symm.trans hF
      subst ha
      clear hacc hF a0 a1 hdec
      go_wp2
      go_ret2
      exact ⟨rfl, rfl⟩
end Go.Proofs.YtcbcjeabpjjhbaaGreatDoor
