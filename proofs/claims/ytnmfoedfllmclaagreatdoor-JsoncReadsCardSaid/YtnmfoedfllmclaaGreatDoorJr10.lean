/- A reader in memory; what is thrown · peek, skip, skipBlanks, take, diag, want · digits -/
import Derived.RangeFuncBox
import Derived.Deep.QuietTactic
import Derived.BigQuiet
import Derived.IntWalk
import Derived.Deep.LoopGhost
import Derived.Test.YtnmfoedfllmclaaGreatDoorJr02
import Derived.Test.YtnmfoedfllmclaaGreatDoorJr09
namespace Go.Proofs.YtnmfoedfllmclaaGreatDoor
open Go.RowKit
set_option linter.unusedVariables false

/-- All blocks that were there but R are as they were. -/
structure Aside (R : Nat) (W w' : World) : Prop where
  os : w'.os = W.os
  tape : w'.tape = W.tape
  output : w'.output = W.output
  size : W.heap.size ≤ w'.heap.size
  block : ∀ k, k < W.heap.size → k ≠ R → w'.heap[k]? = W.heap[k]?
theorem Aside.refl (R : Nat) (W : World) : Aside R W W := ⟨rfl, rfl, rfl, Nat.le_refl _, fun _ _ _ => rfl⟩
theorem Aside.trans {R : Nat} {a b c : World} (h : Aside R a b) (k : Aside R b c) : Aside R a c :=
  ⟨k.os.trans h.os, k.tape.trans h.tape, k.output.trans h.output, Nat.le_trans h.size k.size, fun i hi hr => (k.block i (Nat.lt_of_lt_of_le hi h.size) hr).trans (h.block i hi hr)⟩
theorem Aside.below {R B : Nat} {W w' : World} (h : Aside R W w') (hB : B ≤ W.heap.size) (hR : B ≤ R) : Below B W w' := ⟨h.os, h.tape, h.output, h.size, fun k hk => h.block k (by omega) (by omega)⟩
theorem Aside.of {R : Nat} {W w' : World} (h : Below W.heap.size W w') : Aside R W w' := ⟨h.os, h.tape, h.output, h.size, fun k hk _ => h.block k hk⟩
theorem Aside.set {R : Nat} {W w' : World} (h : Aside R W w') (j : Nat) (u : Value) : Aside R W (w'.setCell ⟨R, j, none⟩ u) :=
  ⟨h.os, h.tape, h.output, by simpa using h.size, fun k hk hr => by rw [Below.heap_setCell w' ⟨R, j, none⟩ u k hr]; exact h.block k hk hr⟩
theorem Aside.draw {R : Nat} {W w' : World} (h : Aside R W w') (n : Nat) : Aside R W (w'.drewN n) := ⟨h.os, h.tape, h.output, h.size, h.block⟩
theorem Blk.aside {R Q : Nat} {W w' : World} {cs : Array Value} {t : TypeId} (h : Blk W Q cs t) (ha : Aside R W w') (hne : Q ≠ R) : Blk w' Q cs t := (ha.block Q h.lt hne).trans h
theorem below_drewN (W : World) (n : Nat) : Below W.heap.size W (W.drewN n) := ⟨rfl, rfl, rfl, Nat.le_refl _, fun _ _ => rfl⟩

/-- The rest of a text, from a byte on. -/
def rest (t : ByteArray) (a : Nat) : List UInt8 := t.data.toList.drop a
theorem rest_length (t : ByteArray) (a : Nat) : (rest t a).length = t.size - a := by unfold rest; simp
theorem rest_extract (t : ByteArray) (a : Nat) : (t.extract a t.size).data.toList = rest t a := Lib.extract_to_end t a
theorem rest_add (t : ByteArray) (a m : Nat) : rest t (a + m) = (rest t a).drop m := by unfold rest; rw [List.drop_drop]
theorem rest_nil {t : ByteArray} {a : Nat} (h : t.size ≤ a) : rest t a = [] := by unfold rest; exact List.drop_of_length_le (by simpa using h)
theorem rest_cons {t : ByteArray} {a : Nat} (h : a < t.size) : rest t a = (t[a]'h) :: rest t (a + 1) := by
  unfold rest
  rw [List.drop_eq_getElem_cons (by simpa using h)]
  rfl
theorem rest_back {t : ByteArray} {a : Nat} (h : a ≤ t.size) : t.size - (rest t a).length = a := by rw [rest_length]; omega
theorem pre_le {t : ByteArray} {a : Nat} {p : ByteArray} (h : Lib.hasPrefix (rest t a) p.data.toList = true) : p.size ≤ t.size - a := by
  have := List.IsPrefix.length_le (List.isPrefixOf_iff_prefix.1 h)
  rw [rest_length] at this
  simpa using this

/-- The reader at P stands at byte a of the text, n values have begun. -/
def Rdr (W : World) (P : Nat) (t : ByteArray) (a n : Nat) : Prop := Blk W P #[.string t, .int .i64 ((a : Nat) : Int), .int .i64 ((n : Nat) : Int)] 53 ∧ a ≤ t.size ∧ t.size ≤ 65536 ∧ n ≤ 2000
/-- It has gone on: all else is as it was. -/
def Went (W W' : World) (P : Nat) (t : ByteArray) (a n : Nat) : Prop := Aside P W W' ∧ Rdr W' P t a n
theorem Went.trans {W W1 W2 : World} {P : Nat} {t : ByteArray} {a b n m : Nat} (h : Went W W1 P t a n) (k : Went W1 W2 P t b m) : Went W W2 P t b m := ⟨h.1.trans k.1, k.2⟩
theorem Rdr.below {W W' : World} {P : Nat} {t : ByteArray} {a n : Nat} (h : Rdr W P t a n) (hb : Below W.heap.size W W') : Rdr W' P t a n := ⟨h.1.below hb, h.2⟩
theorem Rdr.stays {W W' : World} {P : Nat} {t : ByteArray} {a n : Nat} (h : Rdr W P t a n) (hb : Below W.heap.size W W') : Went W W' P t a n := ⟨Aside.of hb, h.below hb⟩
theorem Rdr.same {W : World} {P : Nat} {t : ByteArray} {a n : Nat} (h : Rdr W P t a n) : Went W W P t a n := ⟨Aside.refl P W, h⟩
theorem Rdr.moves {W : World} {P : Nat} {t : ByteArray} {a b n : Nat} (h : Rdr W P t a n) (hb : b ≤ t.size) : Went W (W.setCell ⟨P, 1, none⟩ (.int .i64 (b : Int))) P t b n :=
  ⟨(Aside.refl P W).set 1 _, by have := h.1.set 1 (.int .i64 (b : Int)); simpa using this, hb, h.2.2⟩
theorem Rdr.begins {W : World} {P : Nat} {t : ByteArray} {a n : Nat} (h : Rdr W P t a n) (hn : n < 2000) : Went W (W.setCell ⟨P, 2, none⟩ (.int .i64 ((n + 1 : Nat) : Int))) P t a (n + 1) :=
  ⟨(Aside.refl P W).set 2 _, by have := h.1.set 2 (.int .i64 ((n + 1 : Nat) : Int)); simpa using this, h.2.1, h.2.2.1, by omega⟩

/-- A *api.Diag is thrown: what is wrong, and so many bytes are left there. -/
def Thrown (W : World) (P : Nat) (t : ByteArray) (b : Bad) (e : Ending) (w' : World) : Prop := ∃ D, e = .panicked [{ v := .iface 34 (.pointer (some ⟨D, 0, none⟩)), recovered := false }] ∧ W.heap.size ≤ D ∧ Blk w' D #[.int .i64 b.1, .string ⟨#[]⟩, .int .i64 ((t.size - b.2 : Nat) : Int)] 48 ∧ Aside P W w'
theorem Thrown.after {W W1 w' : World} {P : Nat} {t : ByteArray} {b : Bad} {e : Ending} (h : Thrown W1 P t b e w') (ha : Aside P W W1) : Thrown W P t b e w' := by
  obtain ⟨D, h1, h2, h3, h4⟩ := h
  exact ⟨D, h1, Nat.le_trans ha.size h2, h3, ha.trans h4⟩
/-- How a call of the reader ends: V says what it answers. -/
def Ends {α : Type} (W : World) (P : Nat) (t : ByteArray) (V : α → Value → World → Prop) (r : Except Bad (α × List UInt8 × Nat)) (e : Ending) (w' : World) : Prop :=
  match r with
  | .ok (x, R', n') => ∃ v a', e = .returned v ∧ V x v w' ∧ Went W w' P t a' n' ∧ rest t a' = R'
  | .error b => Thrown W P t b e w'
theorem Ends.after {α : Type} {W W1 w' : World} {P a n : Nat} {t : ByteArray} {V : α → Value → World → Prop} {r : Except Bad (α × List UInt8 × Nat)} {e : Ending} (hw : Went W W1 P t a n) (h : Ends W1 P t V r e w') : Ends W P t V r e w' := by
  cases r with
  | error b => exact Thrown.after h hw.1
  | ok y =>
    obtain ⟨v, a', h1, h2, h3, h4⟩ := h
    exact ⟨v, a', h1, h2, hw.trans h3, h4⟩
theorem pre_head {R : List UInt8} {q : UInt8} : Lib.hasPrefix R [q] = true ↔ ∃ r, R = q :: r := by
  cases R with
  | nil => simp [Lib.hasPrefix]
  | cons c r =>
    simp [Lib.hasPrefix, List.isPrefixOf]
    exact eq_comm
theorem str_eq {s : ByteArray} {l : List UInt8} (h : s.data.toList = l) : s = ⟨l.toArray⟩ := by
  cases s
  congr 1
  apply Array.toList_inj.1
  simpa using h

theorem below_drew (w : World) : Below w.heap.size w w.drew := ⟨rfl, rfl, rfl, Nat.le_refl _, fun _ _ => rfl⟩
end Go.Proofs.YtnmfoedfllmclaaGreatDoor
namespace Go.Proofs.YtnmfoedfllmclaaGreatDoor
open Go.RowKit
set_option linter.unusedVariables false

set_option maxRecDepth 100000 in
set_option maxHeartbeats 1000000 in
theorem skip_b {W : World} {P a n : Nat} {t : ByteArray} (h : Rdr W P t a n) (p : ByteArray) {b : Bool} (hp : Lib.hasPrefix (rest t a) p.data.toList = b) : Calls Tryz.prog 65 #[.pointer (some ⟨P, 0, none⟩), .string p] W fun e w' => e = .returned (.bool b) ∧ Went W w' P t (if b then a + p.size else a) n := by
  have HS := Lib.hid h
  have HH := Lib.hid (fun (w : World) => (Tryz.strings_HasPrefix (t.extract a t.size) p w).mono fun e w' (x : e = .returned (.bool (Lib.hasPrefix (t.extract a t.size).data.toList p.data.toList)) ∧ w' = w) => (⟨x.1.trans (by rw [rest_extract, hp]), x.2⟩ : e = .returned (.bool b) ∧ w' = w))
  have hle : b = true → p.size ≤ t.size - a := fun hb => pre_le (hp.trans hb)
  obtain ⟨hb, ha, hs⟩ := h
  have c0 := hb.cell 0
  have c1 := hb.cell 1
  have i0 : (0 : Int) ≤ (a : Int) := by omega
  have i1 : (a : Int) ≤ (t.size : Int) := by omega
  clear hb hp
  cases b with
  | false =>
    clear hle
    go_enter Tryz.func65, Tryz.ntmps65
    go_wp2_with fail
    go_quiet ((go_at_call 87; exact Calls.quiet_of_same (HH.out _)))
    go_wp2
    go_ret
    exact ⟨rfl, HS.out.stays (below_drewN _ _)⟩
  | true =>
    have hle := hle rfl
    go_enter Tryz.func65, Tryz.ntmps65
    go_wp2_with fail
    go_quiet ((go_at_call 87; exact Calls.quiet_of_same (HH.out _)))
    have f1 := HS.out.1.frozen 1
    go_wp2
    go_ret
    refine ⟨rfl, (HS.out.stays (below_drewN _ nq)).trans ?_⟩
    have := (HS.out.below (below_drewN _ nq)).moves (b := a + p.size) (by omega)
    simpa using this

set_option maxRecDepth 100000 in
set_option maxHeartbeats 1000000 in
theorem skip_no {W : World} {P a n : Nat} {t : ByteArray} (h : Rdr W P t a n) (p : ByteArray) (hp : Lib.hasPrefix (rest t a) p.data.toList = false) : Calls Tryz.prog 65 #[.pointer (some ⟨P, 0, none⟩), .string p] W fun e w' => e = .returned (.bool false) ∧ Below W.heap.size W w' := by
  have HH := Lib.hid (fun (w : World) => (Tryz.strings_HasPrefix (t.extract a t.size) p w).mono fun e w' (x : e = .returned (.bool (Lib.hasPrefix (t.extract a t.size).data.toList p.data.toList)) ∧ w' = w) => (⟨x.1.trans (by rw [rest_extract, hp]), x.2⟩ : e = .returned (.bool false) ∧ w' = w))
  obtain ⟨hb, ha, hs⟩ := h
  have c0 := hb.cell 0
  have c1 := hb.cell 1
  have i0 : (0 : Int) ≤ (a : Int) := by omega
  have i1 : (a : Int) ≤ (t.size : Int) := by omega
  clear hb hp
  go_enter Tryz.func65, Tryz.ntmps65
  go_wp2_with fail
  go_quiet ((go_at_call 87; exact Calls.quiet_of_same (HH.out _)))
  go_wp2
  go_ret
  exact ⟨rfl, below_drewN _ _⟩
theorem skipB_blank {R : List UInt8} {q : UInt8} (hq : blankB q = true) (h : Lib.hasPrefix R [q] = true) : skipB R = skipB (R.drop 1) ∧ 0 < R.length := by
  obtain ⟨r, rfl⟩ := pre_head.1 h
  unfold skipB
  rw [List.dropWhile_cons_of_pos hq]
  exact ⟨rfl, by simp⟩
theorem skipB_none {R : List UInt8} (h1 : Lib.hasPrefix R [32] = false) (h2 : Lib.hasPrefix R [9] = false) (h3 : Lib.hasPrefix R [10] = false) (h4 : Lib.hasPrefix R [13] = false) : skipB R = R := by
  cases R with
  | nil => rfl
  | cons c r =>
    have hn : ∀ q : UInt8, Lib.hasPrefix (c :: r) [q] = false → (c == q) = false := fun q h => by
      rw [beq_eq_false_iff_ne]
      rintro rfl
      have : Lib.hasPrefix (c :: r) [c] = true := pre_head.2 ⟨r, rfl⟩
      rw [this] at h; cases h
    unfold skipB
    rw [List.dropWhile_cons_of_neg]
    unfold blankB
    rw [hn _ h1, hn _ h2, hn _ h3, hn _ h4]
    decide
theorem skipB_idem (R : List UInt8) : skipB (skipB R) = skipB R := by
  induction R with
  | nil => rfl
  | cons c r ih =>
    unfold skipB at *
    by_cases h : blankB c = true
    · rw [List.dropWhile_cons_of_pos h]; exact ih
    · rw [List.dropWhile_cons_of_neg h, List.dropWhile_cons_of_neg h]
set_option maxRecDepth 100000 in
set_option maxHeartbeats 4000000 in
theorem blanks_any {W : World} {P a n : Nat} {t : ByteArray} (h : Rdr W P t a n) : Calls Tryz.prog 42 #[.pointer (some ⟨P, 0, none⟩)] W fun e w' => e = .returned (.tuple #[]) ∧ ∃ b, Went W w' P t b n ∧ rest t b = skipB (rest t a) := by
  have HS := Lib.hid h
  clear h
  go_enter Tryz.func42, Tryz.ntmps42
  go_wp2_with fail
  go_loopg [] t.size (fun gf wx => ∃ c : Nat, Hid (Went W wx P t c n) ∧ Hid (skipB (rest t c) = skipB (rest t a)) ∧ t.size - c ≤ gf)
  case atStart => exact ⟨a, Lib.hid HS.out.same, Lib.hid rfl, by omega⟩
  case round =>
    obtain ⟨c, HW0, HE, hc⟩ := hrel
    cases hv0 : Lib.hasPrefix (rest t c) [32]
    · have HK0 := Lib.hid (skip_b HW0.out.2 ⟨#[32]⟩ hv0)
      have HV0 := Lib.hid hv0
      clear hv0
      go_wp2_with fail
      go_at_call 65; refine HK0.out.mono ?_; rintro e w1 ⟨rfl, hw1⟩
      have HW1 := Lib.hid (HW0.out.trans hw1)
      clear hw1
      cases hv1 : Lib.hasPrefix (rest t c) [9]
      · have HK1 := Lib.hid (skip_b HW1.out.2 ⟨#[9]⟩ hv1)
        have HV1 := Lib.hid hv1
        clear hv1
        go_wp2_with fail
        go_at_call 65; refine HK1.out.mono ?_; rintro e w2 ⟨rfl, hw2⟩
        have HW2 := Lib.hid (HW1.out.trans hw2)
        clear hw2
        cases hv2 : Lib.hasPrefix (rest t c) [10]
        · have HK2 := Lib.hid (skip_b HW2.out.2 ⟨#[10]⟩ hv2)
          have HV2 := Lib.hid hv2
          clear hv2
          go_wp2_with fail
          go_at_call 65; refine HK2.out.mono ?_; rintro e w3 ⟨rfl, hw3⟩
          have HW3 := Lib.hid (HW2.out.trans hw3)
          clear hw3
          cases hv3 : Lib.hasPrefix (rest t c) [13]
          · have HK3 := Lib.hid (skip_b HW3.out.2 ⟨#[13]⟩ hv3)
            have HV3 := Lib.hid hv3
            clear hv3
            go_wp2_with fail
            go_at_call 65; refine HK3.out.mono ?_; rintro e w4 ⟨rfl, hw4⟩
            have HW4 := Lib.hid (HW3.out.trans hw4)
            clear hw4
            go_wp2
            go_end0
            exact ⟨rfl, c, HW4.out, by rw [← HE.out, skipB_none HV0.out HV1.out HV2.out HV3.out]⟩
          · have HK3 := Lib.hid (skip_b HW3.out.2 ⟨#[13]⟩ hv3)
            have HV3 := Lib.hid hv3
            clear hv3
            go_wp2_with fail
            go_at_call 65; refine HK3.out.mono ?_; rintro e w4 ⟨rfl, hw4⟩
            have HW4 := Lib.hid (HW3.out.trans hw4)
            clear hw4
            have hq := skipB_blank (q := 13) (by decide) HV3.out
            have hq2 := hq.2
            rw [rest_length] at hq2
            obtain ⟨g', rfl⟩ : ∃ g', gk = g' + 1 := ⟨gk - 1, by omega⟩
            have HQ := Lib.hid hq.1
            clear hq
            go_wp2
            go_roundg g'
            case measure => omega
            case rel => exact ⟨c + 1, HW4.out |> Lib.hid, Lib.hid (by rw [rest_add, ← HQ.out, HE.out]), by omega⟩
        · have HK2 := Lib.hid (skip_b HW2.out.2 ⟨#[10]⟩ hv2)
          have HV2 := Lib.hid hv2
          clear hv2
          go_wp2_with fail
          go_at_call 65; refine HK2.out.mono ?_; rintro e w3 ⟨rfl, hw3⟩
          have HW3 := Lib.hid (HW2.out.trans hw3)
          clear hw3
          have hq := skipB_blank (q := 10) (by decide) HV2.out
          have hq2 := hq.2
          rw [rest_length] at hq2
          obtain ⟨g', rfl⟩ : ∃ g', gk = g' + 1 := ⟨gk - 1, by omega⟩
          have HQ := Lib.hid hq.1
          clear hq
          go_wp2
          go_roundg g'
          case measure => omega
          case rel => exact ⟨c + 1, HW3.out |> Lib.hid, Lib.hid (by rw [rest_add, ← HQ.out, HE.out]), by omega⟩
      · have HK1 := Lib.hid (skip_b HW1.out.2 ⟨#[9]⟩ hv1)
        have HV1 := Lib.hid hv1
        clear hv1
        go_wp2_with fail
        go_at_call 65; refine HK1.out.mono ?_; rintro e w2 ⟨rfl, hw2⟩
        have HW2 := Lib.hid (HW1.out.trans hw2)
        clear hw2
        have hq := skipB_blank (q := 9) (by decide) HV1.out
        have hq2 := hq.2
        rw [rest_length] at hq2
        obtain ⟨g', rfl⟩ : ∃ g', gk = g' + 1 := ⟨gk - 1, by omega⟩
        have HQ := Lib.hid hq.1
        clear hq
        go_wp2
        go_roundg g'
        case measure => omega
        case rel => exact ⟨c + 1, HW2.out |> Lib.hid, Lib.hid (by rw [rest_add, ← HQ.out, HE.out]), by omega⟩
    · have HK0 := Lib.hid (skip_b HW0.out.2 ⟨#[32]⟩ hv0)
      have HV0 := Lib.hid hv0
      clear hv0
      go_wp2_with fail
      go_at_call 65; refine HK0.out.mono ?_; rintro e w1 ⟨rfl, hw1⟩
      have HW1 := Lib.hid (HW0.out.trans hw1)
      clear hw1
      have hq := skipB_blank (q := 32) (by decide) HV0.out
      have hq2 := hq.2
      rw [rest_length] at hq2
      obtain ⟨g', rfl⟩ : ∃ g', gk = g' + 1 := ⟨gk - 1, by omega⟩
      have HQ := Lib.hid hq.1
      clear hq
      go_wp2
      go_roundg g'
      case measure => omega
      case rel => exact ⟨c + 1, HW1.out |> Lib.hid, Lib.hid (by rw [rest_add, ← HQ.out, HE.out]), by omega⟩

/-- The byte that is next. -/
def headN : List UInt8 → Nat
  | [] => 0
  | c :: _ => c.toNat
theorem byte_run {t : ByteArray} {a : Nat} (ha : a < t.size) (W : World) : (Instr.index 9 (.string t) (.int .i64 (a : Int))).run Tryz.prog W = .ok (.int .u8 ((t[a]'ha).toNat : Int)) W := by
  have hu := Tryz.underlying9
  have h1 : (0 : Int) ≤ (a : Int) := by omega
  simp [Instr.index, run_underlying hu, asIntOf, go_sem, h1, getElem?_pos, ha]
set_option maxRecDepth 100000 in
set_option maxHeartbeats 1000000 in
theorem peek_any {W : World} {P a n : Nat} {t : ByteArray} (h : Rdr W P t a n) : Calls Tryz.prog 57 #[.pointer (some ⟨P, 0, none⟩)] W fun e w' => e = .returned (.int .u8 ((headN (rest t a) : Nat) : Int)) ∧ Below W.heap.size W w' := by
  obtain ⟨hb, ha, hs⟩ := h
  have k0 := hb.cell 0
  have k1 := hb.cell 1
  have i0 : (0 : Int) ≤ (a : Int) := by omega
  clear hb
  by_cases hlt : a < t.size
  · have hix := byte_run hlt
    obtain ⟨c, hc⟩ : ∃ c, t[a]'hlt = c := ⟨_, rfl⟩
    rw [hc] at hix
    have HN : Hid (headN (rest t a) = c.toNat) := Lib.hid (by rw [rest_cons hlt, hc]; rfl)
    have i1 : (a : Int) < (t.size : Int) := by omega
    clear hc
    go_enter Tryz.func57, Tryz.ntmps57
    go_wp2_with fail
    go_quiet (fail)
    go_wp2_with fail
    go_quiet (fail)
    go_wp2
    go_ret
    rw [HN.out]
    exact ⟨rfl, ⟨rfl, rfl, rfl, Nat.le_refl _, fun _ _ => rfl⟩⟩
  · have HN : Hid (headN (rest t a) = 0) := Lib.hid (by rw [rest_nil (by omega)]; rfl)
    have i1 : ¬ (a : Int) < (t.size : Int) := by omega
    go_enter Tryz.func57, Tryz.ntmps57
    go_wp2_with fail
    go_quiet (fail)
    go_wp2
    go_ret
    rw [HN.out]
    exact ⟨rfl, below_drewN _ _⟩
set_option maxRecDepth 100000 in
set_option maxHeartbeats 1000000 in
theorem take_b {W : World} {P a n : Nat} {t : ByteArray} (h : Rdr W P t a n) (p : ByteArray) {b : Bool} (hp : Lib.hasPrefix (skipB (rest t a)) p.data.toList = b) : Calls Tryz.prog 99 #[.pointer (some ⟨P, 0, none⟩), .string p] W fun e w' => e = .returned (.bool b) ∧ ∃ c, Went W w' P t c n ∧ rest t c = if b then (skipB (rest t a)).drop p.size else skipB (rest t a) := by
  have HB := Lib.hid (blanks_any h)
  have HP := Lib.hid hp
  clear h hp
  cases b
  all_goals
    go_enter Tryz.func99, Tryz.ntmps99
    go_wp2_with fail
    go_at_call 42; refine HB.out.mono ?_; rintro e w1 ⟨rfl, c, hw1, hc⟩
    have hq := HP.out
    rw [← hc] at hq
    have HK := Lib.hid (skip_b hw1.2 p hq)
    clear hq
    have HW := Lib.hid hw1
    have HC := Lib.hid hc
    clear hw1 hc
    go_wp2_with fail
    go_at_call 65; refine HK.out.mono ?_; rintro e w2 ⟨rfl, hw2⟩
    have HW2 := Lib.hid (HW.out.trans hw2)
    clear hw2
    go_wp2
    go_ret
    refine ⟨rfl, _, HW2.out, ?_⟩
  · exact HC.out
  · show rest t (c + p.size) = List.drop p.size (skipB (rest t a))
    rw [rest_add, HC.out]
theorem diag_any (c p : Int) (W : World) : Calls Tryz.prog 40 #[.int .i64 c, .int .i64 p] W fun e w' => e = .returned (.pointer (some ⟨W.heap.size, 0, none⟩)) ∧ w' = W.alloc (.cells #[.int .i64 c, .string ⟨#[]⟩, .int .i64 p] 48) := by
  go_enter Tryz.func40, Tryz.ntmps40
  go_wp2
  go_ret
  exact ⟨rfl, rfl⟩
/-- What is thrown by panic(diag(..)). -/
theorem thrown_new {W W1 : World} {P a n : Nat} {t : ByteArray} {c : Int} {l : Nat} (hw : Went W W1 P t a n) (hl : t.size - l = a) : Thrown W P t (c, l) (.panicked [{ v := .iface 34 (.pointer (some ⟨W1.heap.size, 0, none⟩)), recovered := false }]) (W1.alloc (.cells #[.int .i64 c, .string ⟨#[]⟩, .int .i64 (a : Int)] 48)) :=
  ⟨W1.heap.size, rfl, hw.1.size, by subst hl; exact Blk.new _ _ _, hw.1.trans (Aside.of (below_new0 _ _))⟩
set_option maxRecDepth 100000 in
set_option maxHeartbeats 1000000 in
theorem want_yes {W : World} {P a n : Nat} {t : ByteArray} (h : Rdr W P t a n) {q : UInt8} (hp : Lib.hasPrefix (skipB (rest t a)) [q] = true) : Calls Tryz.prog 81 #[.pointer (some ⟨P, 0, none⟩), .string ⟨#[q]⟩] W fun e w' => e = .returned (.tuple #[]) ∧ ∃ c, Went W w' P t c n ∧ rest t c = (skipB (rest t a)).drop 1 := by
  have HT := Lib.hid (take_b h ⟨#[q]⟩ hp)
  clear h hp
  go_enter Tryz.func81, Tryz.ntmps81
  go_wp2_with (go_at_call 99; refine HT.out.mono ?_; rintro e w1 ⟨rfl, c, hw1, hc⟩)
  go_end0
  exact ⟨rfl, c, hw1, hc⟩
set_option maxRecDepth 100000 in
set_option maxHeartbeats 1000000 in
theorem want_no {W : World} {P a n : Nat} {t : ByteArray} (h : Rdr W P t a n) {q : UInt8} (hp : Lib.hasPrefix (skipB (rest t a)) [q] = false) : Calls Tryz.prog 81 #[.pointer (some ⟨P, 0, none⟩), .string ⟨#[q]⟩] W fun e w' => Thrown W P t (30, (skipB (rest t a)).length) e w' := by
  have HT := Lib.hid (take_b h ⟨#[q]⟩ hp)
  clear h hp
  go_enter Tryz.func81, Tryz.ntmps81
  go_wp2_with fail
  go_at_call 99; refine HT.out.mono ?_; rintro e w1 ⟨rfl, c, hw1, hc⟩
  have HW := Lib.hid hw1
  have HC := Lib.hid hc
  have k1 := hw1.2.1.cell 1
  clear hw1 hc
  go_wp2_with (go_at_call 40; refine (diag_any _ _ _).mono ?_; rintro e w2 ⟨rfl, rfl⟩)
  have := thrown_new (c := 30) HW.out (l := (skipB (rest t a)).length) (by have := HC.out; simp only [Bool.false_eq_true, if_false] at this; rw [← this]; exact rest_back HW.out.2.2.1)
  exact ⟨rfl, this⟩
end Go.Proofs.YtnmfoedfllmclaaGreatDoor
namespace Go.Proofs.YtnmfoedfllmclaaGreatDoor
open Go.RowKit
set_option linter.unusedVariables false

def digN (x : Nat) : Bool := decide (48 ≤ x) && decide (x ≤ 57)
theorem digJ_nat (c : UInt8) : digJ c = digN c.toNat := by
  unfold digJ digN
  rw [Bool.eq_iff_iff]
  simp [UInt8.le_iff_toNat_le]
set_option maxHeartbeats 1000000 in
theorem isDigit_b (x : Nat) {b : Bool} (hb : digN x = b) (w : World) : Calls Tryz.prog 62 #[.int .u8 (x : Int)] w fun e w' => e = .returned (.bool b) ∧ w = w' := by
  unfold digN at hb
  by_cases h1 : 48 ≤ x
  · have i1 : (48 : Int) ≤ (x : Int) := by omega
    by_cases h2 : x ≤ 57
    · have i2 : (x : Int) ≤ 57 := by omega
      obtain rfl : b = true := by rw [← hb]; simp [h1, h2]
      clear hb
      go_enter Tryz.func62, Tryz.ntmps62
      go_wp2
      go_ret
      exact ⟨rfl, rfl⟩
    · have i2 : ¬ (x : Int) ≤ 57 := by omega
      obtain rfl : b = false := by rw [← hb]; simp [h2]
      clear hb
      go_enter Tryz.func62, Tryz.ntmps62
      go_wp2
      go_ret
      exact ⟨rfl, rfl⟩
  · have i1 : ¬ (48 : Int) ≤ (x : Int) := by omega
    obtain rfl : b = false := by rw [← hb]; simp [h1]
    clear hb
    go_enter Tryz.func62, Tryz.ntmps62
    go_wp2
    go_ret
    exact ⟨rfl, rfl⟩
theorem headN_any (R : List UInt8) : R.head?.any digJ = digN (headN R) := by
  cases R with
  | nil => rfl
  | cons c r => exact digJ_nat c
theorem digsJ_len (D : List UInt8) : (digsJ D).length ≤ D.length := by
  unfold digsJ
  split
  · rename_i h
    obtain ⟨r, rfl⟩ := pre_head.1 h
    simp
  · exact (List.takeWhile_prefix _).length_le
theorem digsJ_take (D : List UInt8) : digsJ D = D.take (digsJ D).length := by
  unfold digsJ
  split
  · rename_i h
    obtain ⟨r, rfl⟩ := pre_head.1 h
    rfl
  · exact (List.prefix_iff_eq_take.1 (List.takeWhile_prefix _))
theorem extract_len {t : ByteArray} {a b : Nat} (h1 : a ≤ b) : (t.extract a b).data.toList = (rest t a).take (b - a) := by
  obtain ⟨m, rfl⟩ : ∃ m, b = a + m := ⟨b - a, by omega⟩
  unfold rest
  rw [ByteArray.data_extract, Array.toList_extract, List.extract_eq_take_drop]
set_option maxRecDepth 100000 in
set_option maxHeartbeats 2000000 in
theorem digits_no {W : World} {P a n : Nat} {t : ByteArray} (h : Rdr W P t a n) (hd : (rest t a).head?.any digJ = false) : Calls Tryz.prog 83 #[.pointer (some ⟨P, 0, none⟩)] W fun e w' => Thrown W P t (30, (rest t a).length) e w' := by
  have HP := Lib.hid (peek_any h)
  have HD := Lib.hid (fun w => isDigit_b (headN (rest t a)) ((headN_any _).symm.trans hd) w)
  have k1 := h.1.cell 1
  have HS := Lib.hid h
  clear h hd
  go_enter Tryz.func83, Tryz.ntmps83
  go_wp2_with fail
  go_at_call 57; refine HP.out.mono ?_; rintro e w1 ⟨rfl, hb1⟩
  have HW := Lib.hid (HS.out.stays hb1)
  clear hb1 k1
  go_wp2_with (first | (go_at_call 62; refine (HD.out _).mono ?_; rintro e w2 ⟨rfl, rfl⟩) | (go_at_call 40; refine (diag_any _ _ _).mono ?_; rintro e w2 ⟨rfl, rfl⟩))
  exact ⟨rfl, thrown_new (c := 30) HW.out (l := (rest t a).length) (rest_back HW.out.2.2.1)⟩
/-- digits ends behind them. -/
def DigsEnd (W : World) (P : Nat) (t : ByteArray) (a n : Nat) (e : Ending) (w' : World) : Prop := ∃ b, e = .returned (.string (t.extract a b)) ∧ b = a + (digsJ (rest t a)).length ∧ Went W w' P t b n
set_option maxRecDepth 100000 in
set_option maxHeartbeats 4000000 in
theorem digits_yes {W : World} {P a n : Nat} {t : ByteArray} (h : Rdr W P t a n) (hd : (rest t a).head?.any digJ = true) : Calls Tryz.prog 83 #[.pointer (some ⟨P, 0, none⟩)] W (DigsEnd W P t a n) := by
  have HP := Lib.hid (peek_any h)
  have HD := Lib.hid (fun w => isDigit_b (headN (rest t a)) ((headN_any _).symm.trans hd) w)
  have k1 := h.1.cell 1
  have HS := Lib.hid h
  have hsz := h.2
  cases h48 : Lib.hasPrefix (rest t a) [48]
  · have HE0 := Lib.hid (show digsJ (rest t a) = (rest t a).takeWhile digJ by unfold digsJ; rw [if_neg (by rw [h48]; decide)])
    have H48 := Lib.hid h48
    clear h hd h48
    go_enter Tryz.func83, Tryz.ntmps83
    go_wp2_with fail
    go_at_call 57; refine HP.out.mono ?_; rintro e w1 ⟨rfl, hb1⟩
    have HW := Lib.hid (HS.out.stays hb1)
    clear hb1 k1
    go_wp2_with (go_at_call 62; refine (HD.out _).mono ?_; rintro e w2 ⟨rfl, rfl⟩)
    go_at_call 65; refine (skip_b HW.out.2 ⟨#[48]⟩ H48.out).mono ?_; rintro e w2 ⟨rfl, hw2⟩
    have HW2 := Lib.hid (HW.out.trans hw2)
    clear hw2
    go_wp2_with fail
    go_loopg [] t.size (fun gf wx => ∃ c : Nat, Hid (Went W wx P t c n) ∧ Hid (a ≤ c ∧ (rest t a).takeWhile digJ = (rest t a).take (c - a) ++ (rest t c).takeWhile digJ) ∧ t.size - c ≤ gf)
    case atStart => exact ⟨a, HW2, Lib.hid ⟨Nat.le_refl _, by simp⟩, by omega⟩
    case round =>
      obtain ⟨c, HX, HT, hc⟩ := hrel
      have HPc := Lib.hid (peek_any HX.out.2)
      have hcs := HX.out.2.2.1
      have hac := HT.out.1
      by_cases hlt : digN (headN (rest t c)) = true
      · have hcl : c < t.size := by
          rcases Nat.lt_or_ge c t.size with h | h
          · exact h
          · rw [rest_nil h] at hlt; cases hlt
        have HDc := Lib.hid (fun w => isDigit_b (headN (rest t c)) hlt w)
        obtain ⟨g', rfl⟩ : ∃ g', gk = g' + 1 := ⟨gk - 1, by omega⟩
        have hrc := rest_cons hcl
        have hdc : digJ (t[c]'hcl) = true := by rw [digJ_nat]; rw [hrc] at hlt; exact hlt
        have HN := Lib.hid (show a ≤ c + 1 ∧ (rest t a).takeWhile digJ = (rest t a).take (c + 1 - a) ++ (rest t (c + 1)).takeWhile digJ from ⟨by omega, by
          have h1 := HT.out.2
          rw [hrc, List.takeWhile_cons_of_pos hdc] at h1
          have h2 : (rest t a).take (c + 1 - a) = (rest t a).take (c - a) ++ [t[c]'hcl] := by
            rw [show c + 1 - a = (c - a) + 1 by omega, List.take_succ_eq_append_getElem (by rw [rest_length]; omega)]
            congr 1
            have : rest t c = (rest t a).drop (c - a) := by rw [← rest_add, show a + (c - a) = c by omega]
            rw [hrc, List.drop_eq_getElem_cons (by rw [rest_length]; omega)] at this
            rw [(List.cons.inj this).1]
          rw [h2, List.append_assoc]
          exact h1⟩)
        clear hrc hdc hlt
        have i0 : (0 : Int) ≤ (c : Int) := by omega
        have i1 : (c : Int) < (t.size : Int) := by omega
        go_wp2_with fail
        go_at_call 57; refine HPc.out.mono ?_; rintro e w3 ⟨rfl, hb3⟩
        have HX3 := Lib.hid (HX.out.trans (HX.out.2.stays hb3))
        have q1 := HX3.out.2.1.cell 1
        have f1 := HX3.out.2.1.frozen 1
        clear hb3
        go_wp2_with (go_at_call 62; refine (HDc.out _).mono ?_; rintro e w4 ⟨rfl, rfl⟩)
        have HX4 := Lib.hid (HX3.out.trans (HX3.out.2.moves (b := c + 1) (by omega)))
        go_roundg g'
        case measure => omega
        case rel => exact ⟨c + 1, by simpa using HX4, HN, by omega⟩
      · have hlt : digN (headN (rest t c)) = false := by simpa using hlt
        have HDc := Lib.hid (fun w => isDigit_b (headN (rest t c)) hlt w)
        have HE := Lib.hid (show c = a + (digsJ (rest t a)).length by
          have h1 := HT.out.2
          have h2 : (rest t c).takeWhile digJ = [] := by
            cases hr : rest t c with
            | nil => rfl
            | cons x r =>
              rw [hr] at hlt
              rw [List.takeWhile_cons_of_neg (by rw [digJ_nat]; show ¬ digN x.toNat = true; rw [show digN x.toNat = false from hlt]; decide)]
          rw [HE0.out, h1, h2, List.append_nil, List.length_take, rest_length]
          omega)
        clear hlt
        have i0 : (0 : Int) ≤ (a : Int) := by omega
        have i1 : (a : Int) ≤ (c : Int) := by omega
        have i2 : (c : Int) ≤ (t.size : Int) := by omega
        go_wp2_with fail
        go_at_call 57; refine HPc.out.mono ?_; rintro e w3 ⟨rfl, hb3⟩
        have HX3 := Lib.hid (HX.out.trans (HX.out.2.stays hb3))
        have q0 := HX3.out.2.1.cell 0
        have q1 := HX3.out.2.1.cell 1
        clear hb3
        go_wp2_with (go_at_call 62; refine (HDc.out _).mono ?_; rintro e w4 ⟨rfl, rfl⟩)
        go_quiet (fail)
        go_wp2
        go_ret
        exact ⟨c, rfl, HE.out, HX3.out.trans (HX3.out.2.stays (below_drewN _ _))⟩
  · have HE0 := Lib.hid (show (digsJ (rest t a)).length = 1 by unfold digsJ; rw [if_pos h48]; rfl)
    have H48 := Lib.hid h48
    have hlen := pre_le (p := ⟨#[48]⟩) h48
    have hl1 : a + 1 ≤ t.size := by
      have : (⟨#[48]⟩ : ByteArray).size = 1 := rfl
      omega
    clear h hd h48 hlen
    have i0 : (0 : Int) ≤ (a : Int) := by omega
    have i2 : (a : Int) + 1 ≤ (t.size : Int) := by omega
    go_enter Tryz.func83, Tryz.ntmps83
    go_wp2_with fail
    go_at_call 57; refine HP.out.mono ?_; rintro e w1 ⟨rfl, hb1⟩
    have HW := Lib.hid (HS.out.stays hb1)
    clear hb1 k1
    go_wp2_with (go_at_call 62; refine (HD.out _).mono ?_; rintro e w2 ⟨rfl, rfl⟩)
    go_at_call 65; refine (skip_b HW.out.2 ⟨#[48]⟩ H48.out).mono ?_; rintro e w2 ⟨rfl, hw2⟩
    have HW2 := Lib.hid (show Went W w2 P t (a + 1) n from HW.out.trans hw2)
    clear hw2
    have q0 := HW2.out.2.1.cell 0
    have q1 := HW2.out.2.1.cell 1
    go_wp2_with fail
    go_quiet (fail)
    go_wp2
    go_ret
    exact ⟨a + 1, rfl, by rw [HE0.out], HW2.out.trans (HW2.out.2.stays (below_drewN _ _))⟩
end Go.Proofs.YtnmfoedfllmclaaGreatDoor
