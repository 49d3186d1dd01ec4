/- A block of cells; a scanner in memory · What the lexer says of bytes: plain functions · The shelf's contracts · The scanner's has and skip -/
import Derived.Test.YtljgggohjigaoaaGreatDoorProg
import Derived.WalkKit
import Derived.WalkSpells
import Derived.WalkLawsBesides
import Derived.Lib.Hide
import Derived.OneCell
import Derived.RangeFuncBox
import Derived.Laws.RangeAny
import Derived.Lib.Strings
import Derived.Lib.IndexBytes
import Derived.Shelf.Strings.Trim
import Derived.Shelf.Small.Utf8
import Derived.Shelf.Small.Strs
import Derived.Shelf.Utf8.AppendRunePlain
import Derived.Shelf.LaysM
import Derived.Shelf.Strconv.Clone
import Derived.Shelf.Strings.Search1
import Derived.Shelf.Strings.Search2
import Derived.Shelf.Strings.Cut
import Derived.Shelf.Strings.Shaped
import Derived.Shelf.Strings.Prefix
import Derived.Shelf.Strings.Runes
import Derived.Shelf.Strings.AsciiSet
import Derived.Shelf.Unicode.DecodeSlow
import Derived.Shelf.Unicode.DecodeAny
import Derived.Shelf.Slices.Turned
import Derived.Deep.QuietTactic
import Derived.BigQuiet
import Derived.IntWalk
namespace Go.Proofs.YtljgggohjigaoaaGreatDoor
open Go.RowKit
set_option linter.unusedVariables false

/-- Block B holds the cells cs, of type t, none of them frozen. -/
def Blk (W : World) (B : Nat) (cs : Array Value) (t : TypeId) : Prop := W.heap[B]? = some (.cells cs t (0, 0))
theorem Blk.lt {W : World} {B : Nat} {cs : Array Value} {t : TypeId} (h : Blk W B cs t) : B < W.heap.size := (Array.getElem?_eq_some_iff.1 h).1
theorem Blk.cell {W : World} {B : Nat} {cs : Array Value} {t : TypeId} (h : Blk W B cs t) (i : Nat) : W.cell? ⟨B, i, none⟩ = cs[i]? := by simp [World.cell?, show W.heap[B]? = _ from h]
theorem Blk.frozen {W : World} {B : Nat} {cs : Array Value} {t : TypeId} (h : Blk W B cs t) (i : Nat) : W.frozen? ⟨B, i, none⟩ = false := by simp [World.frozen?, show W.heap[B]? = _ from h]
theorem Blk.new (W : World) (cs : Array Value) (t : TypeId) : Blk (W.alloc (.cells cs t)) W.heap.size cs t := World.alloc_heap_new W _
theorem Blk.below {W W' : World} {B : Nat} {cs : Array Value} {t : TypeId} (h : Blk W B cs t) (hb : Below W.heap.size W W') : Blk W' B cs t := (hb.block B h.lt).trans h
theorem Blk.alloc {W : World} {B : Nat} {cs : Array Value} {t : TypeId} (h : Blk W B cs t) (o : Obj) : Blk (W.alloc o) B cs t := h.below ((Below.refl _ W).alloc (Nat.le_refl _) o)

theorem Blk.set {W : World} {B : Nat} {cs : Array Value} {t : TypeId} (h : Blk W B cs t) (i : Nat) (u : Value) : Blk (W.setCell ⟨B, i, none⟩ u) B (cs.setIfInBounds i u) t := heap_setCell_same W B i cs t u h
theorem Blk.other {W : World} {B : Nat} {cs : Array Value} {t : TypeId} (h : Blk W B cs t) {p : Addr} (hp : B ≠ p.block) (u : Value) : Blk (W.setCell p u) B cs t := by
 unfold Blk
 rw [Below.heap_setCell _ _ _ _ hp]
 exact h
theorem below_new (w : World) (o : Obj) : Below w.heap.size w (w.alloc o) := (Below.refl _ _).alloc (Nat.le_refl _) _
theorem cells_keep {w1 w2 : World} (hb : Below w1.heap.size w1 w2) {p : Addr} {v : Value} (h : w1.cell? p = some v) : w2.cell? p = some v := (hb.cell (World.block_lt_of_cell? w1 _ h)).trans h
/-- All blocks that were there but R are as they were. -/
structure Aside (R : Nat) (W w' : World) : Prop where
 os : w'.os = W.os
 tape : w'.tape = W.tape
 output : w'.output = W.output
 size : W.heap.size ≤ w'.heap.size
 block : ∀ k, k < W.heap.size → k ≠ R → w'.heap[k]? = W.heap[k]?
theorem Aside.refl (R : Nat) (W : World) : Aside R W W := ⟨rfl, rfl, rfl, Nat.le_refl _, fun _ _ _ => rfl⟩
theorem Aside.trans {R : Nat} {a b c : World} (h : Aside R a b) (k : Aside R b c) : Aside R a c :=
 ⟨k.os.trans h.os, k.tape.trans h.tape, k.output.trans h.output, Nat.le_trans h.size k.size, fun i hi hr => (k.block i (Nat.lt_of_lt_of_le hi h.size) hr).trans (h.block i hi hr)⟩
theorem Aside.below {R B : Nat} {W w' : World} (h : Aside R W w') (hB : B ≤ W.heap.size) (hR : B ≤ R) : Below B W w' := ⟨h.os, h.tape, h.output, h.size, fun k hk => h.block k (by omega) (by omega)⟩
theorem Aside.of {R : Nat} {W w' : World} (h : Below W.heap.size W w') : Aside R W w' := ⟨h.os, h.tape, h.output, h.size, fun k hk _ => h.block k hk⟩
theorem Aside.set {R : Nat} {W w' : World} (h : Aside R W w') (j : Nat) (u : Value) : Aside R W (w'.setCell ⟨R, j, none⟩ u) :=
 ⟨h.os, h.tape, h.output, by simpa using h.size, fun k hk hr => by rw [Below.heap_setCell w' ⟨R, j, none⟩ u k hr]; exact h.block k hk hr⟩
theorem Aside.draw {R : Nat} {W w' : World} (h : Aside R W w') (n : Nat) : Aside R W (w'.drewN n) := ⟨h.os, h.tape, h.output, h.size, h.block⟩
theorem Blk.aside {R Q : Nat} {W w' : World} {cs : Array Value} {t : TypeId} (h : Blk W Q cs t) (ha : Aside R W w') (hne : Q ≠ R) : Blk w' Q cs t := (ha.block Q h.lt hne).trans h


/-- The scanner at P stands at byte a of the text. -/
def Scn (W : World) (P : Nat) (t : ByteArray) (a : Nat) : Prop := Blk W P #[.string t, .int .i64 ((a : Nat) : Int)] 108 ∧ a ≤ t.size ∧ t.size ≤ 16384
/-- It has gone on to a byte: all else is as it was. -/
def Went (W W' : World) (P : Nat) (t : ByteArray) (a : Nat) : Prop := Aside P W W' ∧ Scn W' P t a
theorem Went.trans {W W1 W2 : World} {P : Nat} {t : ByteArray} {a b : Nat} (h : Went W W1 P t a) (k : Went W1 W2 P t b) : Went W W2 P t b := ⟨h.1.trans k.1, k.2⟩
theorem Scn.below {W W' : World} {P : Nat} {t : ByteArray} {a : Nat} (h : Scn W P t a) (hb : Below W.heap.size W W') : Scn W' P t a := ⟨h.1.below hb, h.2⟩
theorem Scn.stays {W W' : World} {P : Nat} {t : ByteArray} {a : Nat} (h : Scn W P t a) (hb : Below W.heap.size W W') : Went W W' P t a := ⟨Aside.of hb, h.below hb⟩
theorem Scn.moves {W : World} {P : Nat} {t : ByteArray} {a b : Nat} (h : Scn W P t a) (hb : b ≤ t.size) : Went W (W.setCell ⟨P, 1, none⟩ (.int .i64 (b : Int))) P t b :=
 ⟨(Aside.refl P W).set 1 _, by have := h.1.set 1 (.int .i64 (b : Int)); simpa using this, hb, h.2.2⟩
end Go.Proofs.YtljgggohjigaoaaGreatDoor
namespace Go.Proofs.YtljgggohjigaoaaGreatDoor
set_option linter.unusedVariables false

/-- How far runes go on of which p says so: from byte pos on, at most n runes. -/
def stopAt (p : Nat → Bool) (s : ByteArray) : Nat → Nat → Nat
 | 0, pos => s.size
 | n + 1, pos => if pos < s.size then (if p (Utf8.decode s pos).1 then stopAt p s n (pos + (Utf8.decode s pos).2) else pos) else s.size
theorem stopAt_step {p : Nat → Bool} {s : ByteArray} {n pos : Nat} (h : pos < s.size) (hp : p (Utf8.decode s pos).1 = true) : stopAt p s (n + 1) pos = stopAt p s n (pos + (Utf8.decode s pos).2) := by
 conv => lhs; unfold stopAt
 rw [if_pos h, if_pos hp]
theorem stopAt_stop {p : Nat → Bool} {s : ByteArray} {n pos : Nat} (h : pos < s.size) (hp : p (Utf8.decode s pos).1 = false) : stopAt p s (n + 1) pos = pos := by
 conv => lhs; unfold stopAt
 rw [if_pos h, if_neg (by rw [hp]; decide)]
theorem stopAt_end {p : Nat → Bool} {s : ByteArray} {n pos : Nat} (h : ¬ pos < s.size) : stopAt p s n pos = s.size := by
 cases n with
 | zero => rfl
 | succ n => unfold stopAt; rw [if_neg h]

/-- All bytes of a rune that is no ASCII are none. -/
theorem decode_wide (s : ByteArray) (pos : Nat) (h : pos < s.size) (ha : 128 ≤ (s[pos]'h).toNat) : pos + (Utf8.decode s pos).2 ≤ s.size ∧ ∀ i, pos ≤ i → i < pos + (Utf8.decode s pos).2 → 128 ≤ (s.get! i).toNat := by
 have hn : ¬ (s[pos]'h).toNat < 128 := by omega
 have g0 : (s.get! (pos + 0)).toNat = (s[pos]'h).toNat := by rw [get_at s pos h]
 have key : ∀ k, k ≤ 4 → 1 ≤ k → (∀ j, 1 ≤ j → j < k → pos + j < s.size ∧ 128 ≤ (s.get! (pos + j)).toNat) → pos + k ≤ s.size ∧ ∀ i, pos ≤ i → i < pos + k → 128 ≤ (s.get! i).toNat := by
  intro k hk hk1 hj
  refine ⟨?_, fun i h1 h2 => ?_⟩
  ·rcases Nat.lt_or_ge 1 k with h1 | h1
   ·have := (hj (k - 1) (by omega) (by omega)).1; omega
   ·omega
  ·rcases Nat.eq_or_lt_of_le h1 with h3 | h3
   ·subst h3; rw [Nat.add_zero] at g0; omega
   ·have := (hj (i - pos) (by omega) (by omega)).2
    rwa [show pos + (i - pos) = i by omega] at this
 have hc : ∀ k, (decide (pos + k < s.size) && ((s.get! (pos + k)).toNat / 64 == 2)) = true → pos + k < s.size ∧ 128 ≤ (s.get! (pos + k)).toNat := by
  intro k hk
  simp only [Bool.and_eq_true, decide_eq_true_eq, beq_iff_eq] at hk
  exact ⟨hk.1, by omega⟩
 simp only [Utf8.decode, get_at s pos h, hn, if_false]
 split
 ·rename_i h1
  have h2 := (Bool.and_eq_true_iff.1 h1).2
  split
  ·exact key 2 (by omega) (by omega) (fun j a b => by
    obtain rfl : j = 1 := by omega
    exact hc 1 h2)
  ·exact key 1 (by omega) (by omega) (fun j a b => by omega)
 ·split
  ·rename_i h1
   obtain ⟨h2, h4⟩ := Bool.and_eq_true_iff.1 h1
   have h3 := (Bool.and_eq_true_iff.1 h2).2
   split
   ·exact key 3 (by omega) (by omega) (fun j a b => by
     rcases (show j = 1 ∨ j = 2 by omega) with rfl | rfl
     ·exact hc 1 h3
     ·exact hc 2 h4)
   ·exact key 1 (by omega) (by omega) (fun j a b => by omega)
  ·split
   ·rename_i h1
    obtain ⟨h2, h5⟩ := Bool.and_eq_true_iff.1 h1
    obtain ⟨h3, h4⟩ := Bool.and_eq_true_iff.1 h2
    have h6 := (Bool.and_eq_true_iff.1 h3).2
    split
    ·exact key 4 (by omega) (by omega) (fun j a b => by
      rcases (show j = 1 ∨ j = 2 ∨ j = 3 by omega) with rfl | rfl | rfl
      ·exact hc 1 h6
      ·exact hc 2 h4
      ·exact hc 3 h5)
    ·exact key 1 (by omega) (by omega) (fun j a b => by omega)
   ·exact key 1 (by omega) (by omega) (fun j a b => by omega)

/-- A statement on runes that is one on bytes: all that is no ASCII is alike. -/
def byteP (q : UInt8 → Bool) (hi : Bool) (c : UInt8) : Bool := if c.toNat < 128 then q c else hi
theorem drop_cons {l : List UInt8} {i : Nat} (h : i < l.length) : l.drop i = l[i] :: l.drop (i + 1) := List.drop_eq_getElem_cons h
theorem get_list {s : ByteArray} {i : Nat} (h : i < s.size) : s.get! i = s.data.toList[i]'(by simpa using h) := by
 have := get_at s i h
 rw [Nat.add_zero] at this
 rw [this]
 rfl
theorem skip_all {q : UInt8 → Bool} {l : List UInt8} : ∀ (k i : Nat), i + k ≤ l.length → (∀ j (h : j < l.length), i ≤ j → j < i + k → q l[j] = true) → (l.drop i).dropWhile q = (l.drop (i + k)).dropWhile q
 | 0, i, _, _ => rfl
 | k + 1, i, hk, h => by
  have hi : i < l.length := by omega
  rw [drop_cons hi, List.dropWhile_cons_of_pos (h i hi (Nat.le_refl _) (by omega))]
  rw [skip_all k (i + 1) (by omega) (fun j hj h1 h2 => h j hj (by omega) (by omega)), show i + 1 + k = i + (k + 1) by omega]
/-- Runes are gone over as bytes are. -/
theorem stopAt_bytes {p : Nat → Bool} {q : UInt8 → Bool} {hi : Bool} {s : ByteArray} (hlo : ∀ c : UInt8, c.toNat < 128 → p c.toNat = q c) (hhi : ∀ r, 128 ≤ r → p r = hi) :
  ∀ (n pos : Nat), s.size - pos ≤ n → pos ≤ s.size → s.data.toList.drop (stopAt p s n pos) = (s.data.toList.drop pos).dropWhile (byteP q hi) ∧ pos ≤ stopAt p s n pos ∧ stopAt p s n pos ≤ s.size
 | n, pos, hn, hpos => by
  have hlen : s.data.toList.length = s.size := by simp
  by_cases h : pos < s.size
  ·obtain ⟨m, rfl⟩ : ∃ m, n = m + 1 := ⟨n - 1, by omega⟩
   have hl : pos < s.data.toList.length := by omega
   have hg : s.data.toList[pos] = s[pos]'h := rfl
   by_cases ha : (s[pos]'h).toNat < 128
   ·have hd := decode_ascii s pos h ha
    have e1 : (Utf8.decode s pos).1 = (s[pos]'h).toNat := by rw [hd]
    have e2 : (Utf8.decode s pos).2 = 1 := by rw [hd]
    have hb : byteP q hi s.data.toList[pos] = p (Utf8.decode s pos).1 := by unfold byteP; rw [hg, if_pos ha, e1, hlo _ ha]
    cases hp : p (Utf8.decode s pos).1
    ·rw [stopAt_stop h hp]
     refine ⟨?_, Nat.le_refl _, by omega⟩
     rw [drop_cons hl, List.dropWhile_cons_of_neg (by rw [hb, hp]; decide)]
    ·rw [stopAt_step h hp, e2]
     obtain ⟨i1, i2, i3⟩ := stopAt_bytes (p := p) (s := s) (q := q) (hi := hi) hlo hhi m (pos + 1) (by omega) (by omega)
     refine ⟨?_, by omega, i3⟩
     rw [i1, drop_cons hl, List.dropWhile_cons_of_pos (by rw [hb, hp])]
   ·have hw := decode_wide s pos h (by omega)
    have hh := decode_high s pos h (by omega)
    have hp' : p (Utf8.decode s pos).1 = hi := hhi _ hh.1
    cases hi with
    | false =>
     rw [stopAt_stop h hp']
     refine ⟨?_, Nat.le_refl _, by omega⟩
     rw [drop_cons hl, List.dropWhile_cons_of_neg (by unfold byteP; rw [hg, if_neg ha]; decide)]
    | true =>
     rw [stopAt_step h hp']
     obtain ⟨i1, i2, i3⟩ := stopAt_bytes (p := p) (s := s) (q := q) (hi := true) hlo hhi m (pos + (Utf8.decode s pos).2) (by omega) hw.1
     refine ⟨?_, by omega, i3⟩
     rw [i1]
     refine (skip_all _ pos (by omega) (fun j hj h1 h2 => ?_)).symm
     have h3 := hw.2 j h1 h2
     rw [get_list (by omega)] at h3
     unfold byteP
     rw [if_neg (by omega)]
  ·rw [stopAt_end h]
   refine ⟨?_, hpos, Nat.le_refl _⟩
   rw [List.drop_of_length_le (by omega), List.drop_of_length_le (by omega)]
   rfl
termination_by n => n
end Go.Proofs.YtljgggohjigaoaaGreatDoor
namespace Go.Proofs
open Go.Shelf
def Tryz.lays161_ren : Go.Shelf.Ren := ⟨fun | 161 => 115 | 231 => 130 | 227 => 131 | 233 => 132 | 235 => 133 | 228 => 145 | 197 => 146 | 151 => 109 | 260 => 157 | 152 => 122 | 137 => 139 | 119 => 140 | 224 => 141 | 225 => 142 | 217 => 155 | 266 => 167 | n => n, fun | 9 => 9 | 4 => 4 | 3 => 3 | 5 => 5 | 117 => 158 | 116 => 157 | 0 => 0 | 124 => 161 | 105 => 165 | 21 => 21 | 119 => 176 | 46 => 45 | 139 => 179 | 138 => 178 | n => n, fun | 3 => 3 | 4 => 4 | n => n⟩
theorem Tryz.lays161 : Go.Proofs.Lays.n161 Tryz.prog Tryz.lays161_ren := {
  mixed := by kernel_rfl
  f119 := Tryz.func140.trans (congrArg some (by kernel_rfl))
  f137 := Tryz.func139.trans (congrArg some (by kernel_rfl))
  f151 := Tryz.func109.trans (congrArg some (by kernel_rfl))
  f152 := Tryz.func122.trans (congrArg some (by kernel_rfl))
  f161 := Tryz.func115.trans (congrArg some (by kernel_rfl))
  f197 := Tryz.func146.trans (congrArg some (by kernel_rfl))
  f217 := Tryz.func155.trans (congrArg some (by kernel_rfl))
  f224 := Tryz.func141.trans (congrArg some (by kernel_rfl))
  f225 := Tryz.func142.trans (congrArg some (by kernel_rfl))
  f227 := Tryz.func131.trans (congrArg some (by kernel_rfl))
  f228 := Tryz.func145.trans (congrArg some (by kernel_rfl))
  f231 := Tryz.func130.trans (congrArg some (by kernel_rfl))
  f233 := Tryz.func132.trans (congrArg some (by kernel_rfl))
  f235 := Tryz.func133.trans (congrArg some (by kernel_rfl))
  f260 := Tryz.func157.trans (congrArg some (by kernel_rfl))
  f266 := Tryz.func167.trans (congrArg some (by kernel_rfl))
  t0 := Tryz.underlying0
  a0 := Tryz.isAgg0
  z0 := Tryz.sizeOf0
  v0 := Tryz.zeroValue0
  t3 := Tryz.underlying3
  a3 := Tryz.isAgg3
  z3 := Tryz.sizeOf3
  v3 := Tryz.zeroValue3
  t4 := Tryz.underlying4
  a4 := Tryz.isAgg4
  z4 := Tryz.sizeOf4
  v4 := Tryz.zeroValue4
  t5 := Tryz.underlying5
  a5 := Tryz.isAgg5
  z5 := Tryz.sizeOf5
  v5 := Tryz.zeroValue5
  t9 := Tryz.underlying9
  a9 := Tryz.isAgg9
  z9 := Tryz.sizeOf9
  v9 := Tryz.zeroValue9
  t21 := Tryz.underlying21
  a21 := Tryz.isAgg21
  z21 := Tryz.sizeOf21
  v21 := Tryz.zeroValue21
  t46 := Tryz.underlying45
  a46 := Tryz.isAgg45
  z46 := Tryz.sizeOf45
  v46 := Tryz.zeroValue45
  t105 := Tryz.underlying165
  a105 := Tryz.isAgg165
  z105 := Tryz.sizeOf165
  v105 := Tryz.zeroValue165
  t116 := Tryz.underlying157
  a116 := Tryz.isAgg157
  z116 := Tryz.sizeOf157
  t117 := Tryz.underlying158
  a117 := Tryz.isAgg158
  z117 := Tryz.sizeOf158
  v117 := Tryz.zeroValue158
  t119 := Tryz.underlying176
  a119 := Tryz.isAgg176
  z119 := Tryz.sizeOf176
  t124 := Tryz.underlying161
  a124 := Tryz.isAgg161
  z124 := Tryz.sizeOf161
  v124 := Tryz.zeroValue161
  t138 := Tryz.underlying178
  a138 := Tryz.isAgg178
  z138 := Tryz.sizeOf178
  v138 := Tryz.zeroValue178
  t139 := Tryz.underlying179
  a139 := Tryz.isAgg179
  z139 := Tryz.sizeOf179
  v139 := Tryz.zeroValue179
  g3 := by kernel_rfl
  g4 := by kernel_rfl }
def Tryz.lays119_ren : Go.Shelf.Ren := ⟨fun | 119 => 140 | n => n, fun | 21 => 21 | 4 => 4 | n => n, fun | n => n⟩
theorem Tryz.lays119 : Go.Proofs.Lays.n119 Tryz.prog Tryz.lays119_ren := {
  mixed := by kernel_rfl
  f119 := Tryz.func140.trans (congrArg some (by kernel_rfl))
  t4 := Tryz.underlying4
  a4 := Tryz.isAgg4
  z4 := Tryz.sizeOf4
  v4 := Tryz.zeroValue4
  t21 := Tryz.underlying21
  a21 := Tryz.isAgg21
  z21 := Tryz.sizeOf21
  v21 := Tryz.zeroValue21 }
/-- utf8.ValidRune: "ValidRune reports whether r can be legally encoded as UTF-8. Code points that are out of range or a surrogate half are illegal.": IT RETURNS 'Lib.validRune r'; the world is as it was. (LAID: no walk: one application.) -/
theorem Tryz.utf8_ValidRune (r : Int) (w : World) :
    Calls Tryz.prog 140 #[.int .i32 r] w fun e w' => e = .returned (.bool (Lib.validRune r)) ∧ w' = w := Any.utf8_ValidRune Tryz.lays119 r w
def Tryz.lays137_ren : Go.Shelf.Ren := ⟨fun | 137 => 139 | 217 => 155 | 266 => 167 | n => n, fun | 9 => 9 | 5 => 5 | 3 => 3 | n => n, fun | n => n⟩
theorem Tryz.lays137 : Go.Proofs.Lays.n137 Tryz.prog Tryz.lays137_ren := {
  mixed := by kernel_rfl
  f137 := Tryz.func139.trans (congrArg some (by kernel_rfl))
  f217 := Tryz.func155.trans (congrArg some (by kernel_rfl))
  f266 := Tryz.func167.trans (congrArg some (by kernel_rfl))
  t3 := Tryz.underlying3
  a3 := Tryz.isAgg3
  z3 := Tryz.sizeOf3
  v3 := Tryz.zeroValue3
  t5 := Tryz.underlying5
  a5 := Tryz.isAgg5
  z5 := Tryz.sizeOf5
  v5 := Tryz.zeroValue5
  t9 := Tryz.underlying9
  a9 := Tryz.isAgg9
  z9 := Tryz.sizeOf9
  v9 := Tryz.zeroValue9 }
open Go.RowKit in
/-- strings.IndexByte: "IndexByte returns the index of the first instance of c in s, or -1 if c is not present in s.": IT RETURNS 'Lib.indexByte s c'; the world is as it was. (LAID: no walk: one application.) -/
theorem Tryz.strings_IndexByte (s : ByteArray) (c : Int) (w : World) :
    Calls Tryz.prog 139 #[.string s, .int .u8 c] w fun e w' => e = .returned (.int .i64 (Lib.indexByte s.data.toList c.toNat.toUInt8)) ∧ w' = w := Any.strings_IndexByte Tryz.lays137 s c w
def Tryz.lays242_ren : Go.Shelf.Ren := ⟨fun | 242 => 134 | 278 => 147 | n => n, fun | 37 => 56 | 21 => 21 | 51 => 167 | 4 => 4 | 5 => 5 | 46 => 45 | n => n, fun | n => n⟩
theorem Tryz.lays242 : Go.Proofs.Lays.n242 Tryz.prog Tryz.lays242_ren := {
  mixed := by kernel_rfl
  f242 := Tryz.func134.trans (congrArg some (by kernel_rfl))
  f278 := Tryz.func147.trans (congrArg some (by kernel_rfl))
  t4 := Tryz.underlying4
  a4 := Tryz.isAgg4
  z4 := Tryz.sizeOf4
  v4 := Tryz.zeroValue4
  t5 := Tryz.underlying5
  a5 := Tryz.isAgg5
  z5 := Tryz.sizeOf5
  v5 := Tryz.zeroValue5
  t21 := Tryz.underlying21
  a21 := Tryz.isAgg21
  z21 := Tryz.sizeOf21
  v21 := Tryz.zeroValue21
  t37 := Tryz.underlying56
  a37 := Tryz.isAgg56
  z37 := Tryz.sizeOf56
  v37 := Tryz.zeroValue56
  t46 := Tryz.underlying45
  a46 := Tryz.isAgg45
  z46 := Tryz.sizeOf45
  v46 := Tryz.zeroValue45
  t51 := Tryz.underlying167
  a51 := Tryz.isAgg167
  z51 := Tryz.sizeOf167
  v51 := Tryz.zeroValue167 }
open Go.RowKit in
/-- unicode/utf8.AppendRune: "AppendRune appends the UTF-8 encoding of r to the end of p and returns the extended buffer. If the rune is out of range, it appends the encoding of RuneError.": ONTO A ROW OF BYTES THAT THE CALL OWNS (its head frozen or not): EVERY int32: 'Lib.runeCells r' goes in behind what the row holds; the world: one new block (the bytes as the call's variadic argument), then what 'append' does to the row. (LAID: no walk: one application.) -/
theorem Tryz.utf8_AppendRune_plain (B : Nat) (v : Value) (n : Nat) (xs : List Value) (r : Int) (hr0 : -2147483648 ≤ r) (hr1 : r ≤ 2147483647) (w : World) (hown : w.ownsRow B 5 1 v n xs) (hlen : n + 4 ≤ 140737488355328) (hBw : B ≤ w.heap.size) :
    Calls Tryz.prog 134 #[v, .int .i32 r] w fun e w' => ∃ v', e = .returned v' ∧ w'.ownsRow B 5 1 v' (n + (Lib.runeCells r).length) (xs ++ Lib.runeCells r) ∧ ∃ o, (w.alloc o).grownBy w' v.ownBlock := Any.utf8_AppendRune_plain Tryz.lays242 (by kernel_rfl) B v n xs r hr0 hr1 w hown hlen hBw
def Tryz.laysM316_ren : Go.Shelf.Ren := ⟨fun | 316 => 96 | n => n, fun | 9 => 9 | 3 => 3 | 4 => 4 | 37 => 56 | 0 => 0 | 127 => 148 | 5 => 5 | n => n, fun | n => n⟩
theorem Tryz.laysM316 : Go.Proofs.LaysM.n316 Tryz.prog Tryz.laysM316_ren := {
  mixed := by kernel_rfl
  f316 := Tryz.func96.trans (congrArg some (by kernel_rfl))
  t0 := Tryz.underlying0
  a0 := Tryz.isAgg0
  z0 := Tryz.sizeOf0
  v0 := Tryz.zeroValue0
  t3 := Tryz.underlying3
  a3 := Tryz.isAgg3
  z3 := Tryz.sizeOf3
  v3 := Tryz.zeroValue3
  t4 := Tryz.underlying4
  a4 := Tryz.isAgg4
  z4 := Tryz.sizeOf4
  v4 := Tryz.zeroValue4
  t9 := Tryz.underlying9
  a9 := Tryz.isAgg9
  z9 := Tryz.sizeOf9
  v9 := Tryz.zeroValue9
  t37 := Tryz.underlying56
  a37 := Tryz.isAgg56
  z37 := Tryz.sizeOf56
  v37 := Tryz.zeroValue56
  t127 := Tryz.underlying148
  a127 := Tryz.isAgg148
  z127 := Tryz.sizeOf148
  v127 := Tryz.zeroValue148
  t5 := Tryz.underlying5
  a5 := Tryz.isAgg5
  z5 := Tryz.sizeOf5
  v5 := Tryz.zeroValue5
  i0 := by kernel_rfl
  i3 := by kernel_rfl
  i4 := by kernel_rfl
  i5 := by kernel_rfl
  i9 := by kernel_rfl
  i37 := by kernel_rfl
  i127 := by kernel_rfl }
open Go.RowKit in
/-- internal/stringslite.Clone (what strings.Clone calls): "Clone returns a fresh copy of s.": THE SAME BYTES. Of what was there nothing has turned (a new row is laid, and frozen, where s is not empty). (LAID: no walk: one application.) -/
theorem Tryz.stringslite_Clone (s : ByteArray) (w : World) (hlim : s.size ≤ 281474976710656) :
    Calls Tryz.prog 96 #[.string s] w fun e w' => e = .returned (.string s) ∧ Below w.heap.size w w' := Any.stringslite_Clone Tryz.laysM316 s w hlim
def Tryz.lays145_ren : Go.Shelf.Ren := ⟨fun | 145 => 111 | 220 => 124 | 219 => 143 | 217 => 155 | 225 => 142 | 224 => 141 | 267 => 156 | 266 => 167 | 314 => 168 | n => n, fun | 9 => 9 | 4 => 4 | 59 => 143 | 3 => 3 | 5 => 5 | 46 => 45 | 146 => 174 | 51 => 167 | n => n, fun | 1 => 2 | n => n⟩
theorem Tryz.lays145 : Go.Proofs.Lays.n145 Tryz.prog Tryz.lays145_ren := {
  mixed := by kernel_rfl
  f145 := Tryz.func111.trans (congrArg some (by kernel_rfl))
  f217 := Tryz.func155.trans (congrArg some (by kernel_rfl))
  f219 := Tryz.func143.trans (congrArg some (by kernel_rfl))
  f220 := Tryz.func124.trans (congrArg some (by kernel_rfl))
  f224 := Tryz.func141.trans (congrArg some (by kernel_rfl))
  f225 := Tryz.func142.trans (congrArg some (by kernel_rfl))
  f266 := Tryz.func167.trans (congrArg some (by kernel_rfl))
  f267 := Tryz.func156.trans (congrArg some (by kernel_rfl))
  f314 := Tryz.func168.trans (congrArg some (by kernel_rfl))
  t3 := Tryz.underlying3
  a3 := Tryz.isAgg3
  z3 := Tryz.sizeOf3
  v3 := Tryz.zeroValue3
  t4 := Tryz.underlying4
  a4 := Tryz.isAgg4
  z4 := Tryz.sizeOf4
  v4 := Tryz.zeroValue4
  t5 := Tryz.underlying5
  a5 := Tryz.isAgg5
  z5 := Tryz.sizeOf5
  v5 := Tryz.zeroValue5
  t9 := Tryz.underlying9
  a9 := Tryz.isAgg9
  z9 := Tryz.sizeOf9
  v9 := Tryz.zeroValue9
  t46 := Tryz.underlying45
  a46 := Tryz.isAgg45
  z46 := Tryz.sizeOf45
  v46 := Tryz.zeroValue45
  t51 := Tryz.underlying167
  a51 := Tryz.isAgg167
  z51 := Tryz.sizeOf167
  v51 := Tryz.zeroValue167
  t59 := Tryz.underlying143
  a59 := Tryz.isAgg143
  z59 := Tryz.sizeOf143
  v59 := Tryz.zeroValue143
  t146 := Tryz.underlying174
  a146 := Tryz.isAgg174
  z146 := Tryz.sizeOf174
  v146 := Tryz.zeroValue174
  g1 := by kernel_rfl }
open Go.RowKit Go.Lib in
/-- strings.Cut: "Cut slices s around the first instance of sep, returning the text before and after sep. The found result reports whether sep appears in s. If sep does not appear in s, cut returns s, "", false.": IT RETURNS 'Lib.cut s sep'; the world is as it was but for the count of draws. (LAID: no walk: one application.) -/
theorem Tryz.strings_Cut (s sep : ByteArray) (m : Int) (w : World) (hs : s.size < 4294967281) (hm : w.cell? ⟨2, 0, none⟩ = some (.int .i64 m)) :
    Calls Tryz.prog 111 #[.string s, .string sep] w fun e w' => e = .returned (.tuple #[.string ⟨(Lib.cut s.data.toList sep.data.toList).1.toArray⟩, .string ⟨(Lib.cut s.data.toList sep.data.toList).2.1.toArray⟩, .bool (Lib.cut s.data.toList sep.data.toList).2.2]) ∧ ∃ n, w' = w.drewN n := Any.strings_Cut Tryz.lays145 s sep m w hs hm
def Tryz.lays99_ren : Go.Shelf.Ren := ⟨fun | 99 => 67 | 206 => 83 | n => n, fun | 9 => 9 | 4 => 4 | 3 => 3 | n => n, fun | n => n⟩
theorem Tryz.lays99 : Go.Proofs.Lays.n99 Tryz.prog Tryz.lays99_ren := {
  mixed := by kernel_rfl
  f99 := Tryz.func67.trans (congrArg some (by kernel_rfl))
  f206 := Tryz.func83.trans (congrArg some (by kernel_rfl))
  t3 := Tryz.underlying3
  a3 := Tryz.isAgg3
  z3 := Tryz.sizeOf3
  v3 := Tryz.zeroValue3
  t4 := Tryz.underlying4
  a4 := Tryz.isAgg4
  z4 := Tryz.sizeOf4
  v4 := Tryz.zeroValue4
  t9 := Tryz.underlying9
  a9 := Tryz.isAgg9
  z9 := Tryz.sizeOf9
  v9 := Tryz.zeroValue9 }
open Go.RowKit Go.Lib in
/-- strings.HasPrefix: "HasPrefix reports whether the string s begins with prefix.": IT RETURNS 'Lib.hasPrefix s prefix'; the world is as it was. (LAID: no walk: one application.) -/
theorem Tryz.strings_HasPrefix (s p : ByteArray) (w : World) :
    Calls Tryz.prog 67 #[.string s, .string p] w fun e w' => e = .returned (.bool (Lib.hasPrefix s.data.toList p.data.toList)) ∧ w' = w := Any.strings_HasPrefix Tryz.lays99 s p w
def Tryz.lays101_ren : Go.Shelf.Ren := ⟨fun | 101 => 135 | 208 => 148 | 206 => 83 | n => n, fun | 9 => 9 | 4 => 4 | 3 => 3 | n => n, fun | n => n⟩
theorem Tryz.lays101 : Go.Proofs.Lays.n101 Tryz.prog Tryz.lays101_ren := {
  mixed := by kernel_rfl
  f101 := Tryz.func135.trans (congrArg some (by kernel_rfl))
  f206 := Tryz.func83.trans (congrArg some (by kernel_rfl))
  f208 := Tryz.func148.trans (congrArg some (by kernel_rfl))
  t3 := Tryz.underlying3
  a3 := Tryz.isAgg3
  z3 := Tryz.sizeOf3
  v3 := Tryz.zeroValue3
  t4 := Tryz.underlying4
  a4 := Tryz.isAgg4
  z4 := Tryz.sizeOf4
  v4 := Tryz.zeroValue4
  t9 := Tryz.underlying9
  a9 := Tryz.isAgg9
  z9 := Tryz.sizeOf9
  v9 := Tryz.zeroValue9 }
open Go.RowKit Go.Lib in
/-- strings.TrimPrefix: "TrimPrefix returns s without the provided leading prefix string. If s doesn't start with prefix, s is returned unchanged.": IT RETURNS 'Lib.trimPrefix s prefix'; the world is as it was. (LAID: no walk: one application.) -/
theorem Tryz.strings_TrimPrefix (s p : ByteArray) (w : World) :
    Calls Tryz.prog 135 #[.string s, .string p] w fun e w' => e = .returned (.string ⟨(Lib.trimPrefix s.data.toList p.data.toList).toArray⟩) ∧ w' = w := Any.strings_TrimPrefix Tryz.lays101 s p w
def Tryz.lays152_ren : Go.Shelf.Ren := ⟨fun | 152 => 122 | 137 => 139 | 119 => 140 | 224 => 141 | 225 => 142 | 217 => 155 | 266 => 167 | n => n, fun | 9 => 9 | 21 => 21 | 3 => 3 | 4 => 4 | 5 => 5 | 0 => 0 | 46 => 45 | n => n, fun | n => n⟩
theorem Tryz.lays152 : Go.Proofs.Lays.n152 Tryz.prog Tryz.lays152_ren := {
  mixed := by kernel_rfl
  f119 := Tryz.func140.trans (congrArg some (by kernel_rfl))
  f137 := Tryz.func139.trans (congrArg some (by kernel_rfl))
  f152 := Tryz.func122.trans (congrArg some (by kernel_rfl))
  f217 := Tryz.func155.trans (congrArg some (by kernel_rfl))
  f224 := Tryz.func141.trans (congrArg some (by kernel_rfl))
  f225 := Tryz.func142.trans (congrArg some (by kernel_rfl))
  f266 := Tryz.func167.trans (congrArg some (by kernel_rfl))
  t0 := Tryz.underlying0
  a0 := Tryz.isAgg0
  z0 := Tryz.sizeOf0
  v0 := Tryz.zeroValue0
  t3 := Tryz.underlying3
  a3 := Tryz.isAgg3
  z3 := Tryz.sizeOf3
  v3 := Tryz.zeroValue3
  t4 := Tryz.underlying4
  a4 := Tryz.isAgg4
  z4 := Tryz.sizeOf4
  v4 := Tryz.zeroValue4
  t5 := Tryz.underlying5
  a5 := Tryz.isAgg5
  z5 := Tryz.sizeOf5
  v5 := Tryz.zeroValue5
  t9 := Tryz.underlying9
  a9 := Tryz.isAgg9
  z9 := Tryz.sizeOf9
  v9 := Tryz.zeroValue9
  t21 := Tryz.underlying21
  a21 := Tryz.isAgg21
  z21 := Tryz.sizeOf21
  v21 := Tryz.zeroValue21
  t46 := Tryz.underlying45
  a46 := Tryz.isAgg45
  z46 := Tryz.sizeOf45
  v46 := Tryz.zeroValue45 }
open Go.RowKit Go.Lib in
theorem Tryz.strings_IndexRune_ascii (s : ByteArray) (r : Int) (w : World) (h0 : 0 ≤ r) (h1 : r < 128) :
    Calls Tryz.prog 122 #[.string s, .int .i32 r] w fun e w' => e = .returned (.int .i64 (Lib.indexByte s.data.toList r.toNat.toUInt8)) ∧ w' = w := Any.strings_IndexRune_ascii Tryz.lays152 s r w h0 h1
def Tryz.lays151_ren : Go.Shelf.Ren := ⟨fun | 151 => 109 | 152 => 122 | 137 => 139 | 119 => 140 | 224 => 141 | 225 => 142 | 217 => 155 | 266 => 167 | n => n, fun | 9 => 9 | 21 => 21 | 4 => 4 | 3 => 3 | 5 => 5 | 0 => 0 | 46 => 45 | n => n, fun | n => n⟩
theorem Tryz.lays151 : Go.Proofs.Lays.n151 Tryz.prog Tryz.lays151_ren := {
  mixed := by kernel_rfl
  f119 := Tryz.func140.trans (congrArg some (by kernel_rfl))
  f137 := Tryz.func139.trans (congrArg some (by kernel_rfl))
  f151 := Tryz.func109.trans (congrArg some (by kernel_rfl))
  f152 := Tryz.func122.trans (congrArg some (by kernel_rfl))
  f217 := Tryz.func155.trans (congrArg some (by kernel_rfl))
  f224 := Tryz.func141.trans (congrArg some (by kernel_rfl))
  f225 := Tryz.func142.trans (congrArg some (by kernel_rfl))
  f266 := Tryz.func167.trans (congrArg some (by kernel_rfl))
  t0 := Tryz.underlying0
  a0 := Tryz.isAgg0
  z0 := Tryz.sizeOf0
  v0 := Tryz.zeroValue0
  t3 := Tryz.underlying3
  a3 := Tryz.isAgg3
  z3 := Tryz.sizeOf3
  v3 := Tryz.zeroValue3
  t4 := Tryz.underlying4
  a4 := Tryz.isAgg4
  z4 := Tryz.sizeOf4
  v4 := Tryz.zeroValue4
  t5 := Tryz.underlying5
  a5 := Tryz.isAgg5
  z5 := Tryz.sizeOf5
  v5 := Tryz.zeroValue5
  t9 := Tryz.underlying9
  a9 := Tryz.isAgg9
  z9 := Tryz.sizeOf9
  v9 := Tryz.zeroValue9
  t21 := Tryz.underlying21
  a21 := Tryz.isAgg21
  z21 := Tryz.sizeOf21
  v21 := Tryz.zeroValue21
  t46 := Tryz.underlying45
  a46 := Tryz.isAgg45
  z46 := Tryz.sizeOf45
  v46 := Tryz.zeroValue45 }
open Go.RowKit Go.Lib in
theorem Tryz.strings_ContainsRune_ascii (s : ByteArray) (r : Int) (w : World) (h0 : 0 ≤ r) (h1 : r < 128) :
    Calls Tryz.prog 109 #[.string s, .int .i32 r] w fun e w' => e = .returned (.bool (decide (0 ≤ Lib.indexByte s.data.toList r.toNat.toUInt8))) ∧ w' = w := Any.strings_ContainsRune_ascii Tryz.lays151 s r w h0 h1
def Tryz.lays110_ren : Go.Shelf.Ren := ⟨fun | 110 => 176 | 109 => 177 | n => n, fun | 31 => 36 | 9 => 9 | 4 => 4 | 3 => 3 | 0 => 0 | n => n, fun | n => n⟩
theorem Tryz.lays110 : Go.Proofs.Lays.n110 Tryz.prog Tryz.lays110_ren := {
  mixed := by kernel_rfl
  f109 := Tryz.func177.trans (congrArg some (by kernel_rfl))
  f110 := Tryz.func176.trans (congrArg some (by kernel_rfl))
  t0 := Tryz.underlying0
  a0 := Tryz.isAgg0
  z0 := Tryz.sizeOf0
  v0 := Tryz.zeroValue0
  t3 := Tryz.underlying3
  a3 := Tryz.isAgg3
  z3 := Tryz.sizeOf3
  v3 := Tryz.zeroValue3
  t4 := Tryz.underlying4
  a4 := Tryz.isAgg4
  z4 := Tryz.sizeOf4
  v4 := Tryz.zeroValue4
  t9 := Tryz.underlying9
  a9 := Tryz.isAgg9
  z9 := Tryz.sizeOf9
  v9 := Tryz.zeroValue9
  t31 := Tryz.underlying36
  a31 := Tryz.isAgg36
  z31 := Tryz.sizeOf36
  v31 := Tryz.zeroValue36 }
open Go.Lib in
/-- slices.Contains at []string: "Contains reports whether v is present in s.": IT RETURNS 'Lib.containsS (the elements) v', which is true just where v is among them ('Lib.containsS_iff'); the world is as it was. ITS CALLEE slices.Index IS MET BY ITS OWN CONTRACT OFF THE SHELF (lay that first): no loop is walked here. (LAID: no walk: one application.) -/
theorem Tryz.slices_Contains_string (b off n c : Nat) (zs : List ByteArray) (x : ByteArray) (w : World) (hz : n ≤ zs.length) (hbig : n ≤ 9223372036854775807) (hc : ∀ j, j < zs.length → w.cell? ⟨b, off + j, none⟩ = some (.string (zs.getD j ByteArray.empty))) :
    Calls Tryz.prog 176 #[.slice (some ⟨b, off, none⟩) n c, .string x] w fun e w' => e = .returned (.bool (Lib.containsS (zs.take n) x)) ∧ w' = w := Any.slices_Contains_string Tryz.lays110 b off n c zs x w hz hbig hc
open Go.Lib in
/-- The same at a slice of length 0, a nil one too. (LAID: no walk: one application.) -/
theorem Tryz.slices_Contains_string_empty (a : Option Addr) (c : Nat) (x : ByteArray) (w : World) :
    Calls Tryz.prog 176 #[.slice a 0 c, .string x] w fun e w' => e = .returned (.bool false) ∧ w' = w := Any.slices_Contains_string_empty Tryz.lays110 a c x w
end Go.Proofs
namespace Go.Proofs.YtljgggohjigaoaaGreatDoor
open Go.RowKit
set_option linter.unusedVariables false

/-- The rest of a text, from a byte on. -/
def rest (t : ByteArray) (a : Nat) : List UInt8 := t.data.toList.drop a
theorem rest_length (t : ByteArray) (a : Nat) : (rest t a).length = t.size - a := by unfold rest; simp
theorem rest_extract (t : ByteArray) (a : Nat) : (t.extract a t.size).data.toList = rest t a := Lib.extract_to_end t a
theorem below_drewN (W : World) (n : Nat) : Below W.heap.size W (W.drewN n) := ⟨rfl, rfl, rfl, Nat.le_refl _, fun _ _ => rfl⟩

set_option maxRecDepth 100000 in
set_option maxHeartbeats 1000000 in
theorem has_any {W : World} {P a : Nat} {t : ByteArray} (h : Scn W P t a) (p : ByteArray) : Calls Tryz.prog 89 #[.pointer (some ⟨P, 0, none⟩), .string p] W fun e w' => e = .returned (.bool (Lib.hasPrefix (rest t a) p.data.toList)) ∧ Below W.heap.size W w' := by
 obtain ⟨hb, ha, hs⟩ := h
 have c0 := hb.cell 0
 have c1 := hb.cell 1
 have i0 : (0 : Int) ≤ (a : Int) := by omega
 have i1 : (a : Int) ≤ (t.size : Int) := by omega
 have HS := Lib.hid (fun w => Tryz.strings_HasPrefix (t.extract a t.size) p w)
 have HR := Lib.hid (rest_extract t a)
 clear hb ha
 go_enter Tryz.func89, Tryz.ntmps89
 go_wp2_with fail
 go_quiet ((go_at_call 67; exact Calls.quiet_of_same (HS.out _)))
 go_wp2
 go_ret
 rw [HR.out]
 exact ⟨rfl, below_drewN _ _⟩

theorem pre_le {t : ByteArray} {a : Nat} {p : ByteArray} (h : Lib.hasPrefix (rest t a) p.data.toList = true) : p.size ≤ t.size - a := by
 have := List.IsPrefix.length_le (List.isPrefixOf_iff_prefix.1 h)
 rw [rest_length] at this
 simpa using this
set_option maxRecDepth 100000 in
set_option maxHeartbeats 1000000 in
theorem skip_no {W : World} {P a : Nat} {t : ByteArray} (h : Scn W P t a) (p : ByteArray) (hp : Lib.hasPrefix (rest t a) p.data.toList = false) : Calls Tryz.prog 112 #[.pointer (some ⟨P, 0, none⟩), .string p] W fun e w' => e = .returned (.bool false) ∧ Below W.heap.size W w' := by
 have HH := Lib.hid (has_any h p)
 rw [hp] at HH
 clear hp h
 go_enter Tryz.func112, Tryz.ntmps112
 go_wp2_with fail
 go_at_call 89; refine HH.out.mono ?_; rintro e w1 ⟨rfl, hb⟩
 go_wp2
 go_ret
 exact ⟨rfl, hb⟩
set_option maxRecDepth 100000 in
set_option maxHeartbeats 1000000 in
theorem skip_yes {W : World} {P a : Nat} {t : ByteArray} (h : Scn W P t a) (p : ByteArray) (hp : Lib.hasPrefix (rest t a) p.data.toList = true) : Calls Tryz.prog 112 #[.pointer (some ⟨P, 0, none⟩), .string p] W fun e w' => e = .returned (.bool true) ∧ Went W w' P t (a + p.size) := by
 have HH := Lib.hid (has_any h p)
 rw [hp] at HH
 have hle := pre_le hp
 have HS := Lib.hid h
 obtain ⟨hb, ha, hs⟩ := h
 clear hp hb
 go_enter Tryz.func112, Tryz.ntmps112
 go_wp2_with fail
 go_at_call 89; refine HH.out.mono ?_; rintro e w1 ⟨rfl, hb⟩
 have HS1 := Lib.hid (HS.out.below hb)
 have HB := Lib.hid hb
 clear hb
 have c1 := HS1.out.1.cell 1
 have f1 := HS1.out.1.frozen 1
 go_wp2
 go_ret
 refine ⟨rfl, (HS.out.stays HB.out).trans ?_⟩
 have := HS1.out.moves (b := a + p.size) (by omega)
 simpa using this
end Go.Proofs.YtljgggohjigaoaaGreatDoor
