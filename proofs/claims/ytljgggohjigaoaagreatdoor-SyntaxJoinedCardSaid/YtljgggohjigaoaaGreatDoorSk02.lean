/- The scanner's take: as far as a function value says so · The scanner's take with a function value that keeps whether it was asked · strings.IndexRune and ContainsRune of a rune that is no ASCII, in a text of ASCII: none · The lexer's statements on runes: anyOf, noneOf, isDigit, isLetter, and a word's -/
import Derived.Shelf.Strings.FuncGrows
import Derived.Deep.LoopGhost
import Derived.BigRegion
import Derived.RegionTactic
import Derived.Laws.Runes
import Derived.Lib.OthersKept
import Derived.WalkMore
import Derived.Lib.IndexAny
import Derived.Test.YtljgggohjigaoaaGreatDoorSk01
namespace Go.Proofs.YtljgggohjigaoaaGreatDoor
open Go.RowKit Go.Shelf
set_option linter.unusedVariables false

/-- A function value that says of runes what p says. -/
structure Says (g : Nat) (lb : Array Value) (p : Nat → Bool) (w : World) : Prop where
 enters : ∀ args w, (callFunc g args).run Tryz.prog w = .ok (.enter g args) w
 says : PredGrows Tryz.prog g lb p w
theorem Says.later {g : Nat} {lb : Array Value} {p : Nat → Bool} {w W : World} (h : Says g lb p w) (hb : Below w.heap.size w W) : Says g lb p W := ⟨h.1, h.2.later hb⟩
/-- Where take stops. -/
def takeTo (p : Nat → Bool) (t : ByteArray) (a : Nat) : Nat := a + stopAt p (t.extract a t.size) (t.size - a) 0
theorem extract_size {t : ByteArray} {a : Nat} (h : a ≤ t.size) : (t.extract a t.size).size = t.size - a := by simp

set_option maxRecDepth 100000 in
set_option maxHeartbeats 2000000 in
theorem take_any {W : World} {P a b : Nat} {t : ByteArray} (h : Scn W P t a) {g : Nat} {lb : Array Value} {p : Nat → Bool} (hs : Says g lb p W) (hb : takeTo p t a = b) (hbt : b ≤ t.size) (hab : a ≤ b) :
  Calls Tryz.prog 84 #[.pointer (some ⟨P, 0, none⟩), .func (.func g) #[] lb] W fun e w' => e = .returned (.string (t.extract a b)) ∧ Went W w' P t b := by
 have HS := Lib.hid h
 have eg := hs.enters
 have HP := Lib.hid hs.says
 obtain ⟨hk, ha, hsz⟩ := h
 have hz := extract_size ha
 obtain ⟨s, hse⟩ : ∃ s, t.extract a t.size = s := ⟨_, rfl⟩
 rw [hse] at hz
 have HB : Hid (a + stopAt p s (t.size - a) 0 = b) := Lib.hid (by rw [← hse]; exact hb)
 have HSE := Lib.hid hse
 have HZ := Lib.hid hz
 have c0 := hk.cell 0
 have c1 := hk.cell 1
 have i0 : (0 : Int) ≤ (a : Int) := by omega
 have i1 : (a : Int) ≤ (t.size : Int) := by omega
 have i2 : (a : Int) ≤ (b : Int) := by omega
 have i3 : (b : Int) ≤ (t.size : Int) := by omega
 clear hb hk hs hz hse
 go_enter Tryz.func84, Tryz.ntmps84
 go_wp2_with fail
 go_quiet (fail)
 go_wp2_with fail
 obtain ⟨W0, hW0⟩ : ∃ W0, W.drewN nq = W0 := ⟨_, rfl⟩
 have hb0 : Below W.heap.size W W0 := by rw [← hW0]; exact below_drewN W nq
 have HS0 := Lib.hid (HS.out.below hb0)
 have HSB := Lib.hid (HS.out.stays hb0)
 have HP0 := Lib.hid (HP.out.later hb0)
 have HQ := Lib.hid (show W0.heap.size = W.heap.size by rw [← hW0]; rfl)
 rw [hW0, HSE.out]
 clear hW0 hb0 c0 c1
 have hz := HZ.out
 obtain ⟨n, hn⟩ : ∃ n, t.size - a = n := ⟨_, rfl⟩
 rw [hn] at hz
 have HB1 : Hid (a + stopAt p s n 0 = b) := Lib.hid (by rw [← hn]; exact HB.out)
 have HN := Lib.hid hn
 have HZ1 := Lib.hid hz
 have hPlt : P < W.heap.size := by have := HS0.out.1.lt; have := HQ.out; omega
 clear hn hz HZ
 go_loopg [6] n (fun gf s6 wx => s6 = .int .i64 (t.size : Int) ∧ ∃ pos : Nat, wx.heap[W.heap.size]? = some (.stringIter s pos) ∧ Hid (Below W0.heap.size W0 wx) ∧ Hid (a + stopAt p s gf pos = b) ∧ n ≤ pos + gf)
 case atStart => exact ⟨rfl, 0, by have := World.iter_heap W0 s 0; rwa [HQ.out] at this, Lib.hid ((Below.refl _ W0).alloc (Nat.le_refl _) _), HB1, by omega⟩
 case round =>
  obtain ⟨rfl, pos, hit, hbw, hleft, hfu⟩ := hrel
  by_cases hps : pos < s.size
  ·obtain ⟨g', rfl⟩ : ∃ g', gk = g' + 1 := ⟨gk - 1, by have := HZ1.out; omega⟩
   have hnx : ∀ ty, (Instr.next (.pointer (some ⟨W.heap.size, 0, none⟩)) true ty).run Tryz.prog wr = _ := fun ty => Lib.run_next_any_at wr W.heap.size s pos ty hit hps
   have hwd := Lib.width_pos s pos
   obtain ⟨R, hR⟩ : ∃ R, (Utf8.decode s pos).1 = R := ⟨_, rfl⟩
   obtain ⟨K, hK⟩ : ∃ K, (Utf8.decode s pos).2 = K := ⟨_, rfl⟩
   have hst : p R = true → stopAt p s (g' + 1) pos = stopAt p s g' (pos + K) := fun h => by rw [stopAt_step hps (by rw [hR]; exact h), hK]
   have hsf : p R = false → stopAt p s (g' + 1) pos = pos := fun h => stopAt_stop hps (by rw [hR]; exact h)
   have hRle : R ≤ 1114111 := by rw [← hR]; exact Lib.rune_le s pos
   rw [hR, hK] at hnx
   rw [hK] at hwd
   have hit2 := Lib.iterAt_heap wr W.heap.size s pos (pos + K) hit
   have hbw2 := Lib.below_iterAt hbw.out (k := W.heap.size) (by rw [HQ.out]; exact Nat.le_refl _) s (pos + K)
   obtain ⟨X, hWd⟩ : ∃ X, wr.iterAt W.heap.size s (pos + K) = X := ⟨_, rfl⟩
   rw [hWd] at hnx hit2 hbw2
   have hltX : W.heap.size < X.heap.size := (Array.getElem?_eq_some_iff.1 hit2).1
   have cS : Calls Tryz.prog g (#[.int .i32 (R : Int)] ++ lb) X _ := HP0.out X R hRle hbw2
   have HBW2 := Lib.hid hbw2
   clear hbw2 hR hK hWd
   cases hsp : p R
   ·rw [hsp] at cS
    have hp1 : a + pos = b := by rw [← hsf hsp]; exact hleft.out
    have HP1 := Lib.hid hp1
    have i4 : (a : Int) + (pos : Int) = (b : Int) := by omega
    clear hst hsf hsp hleft hp1
    go_wp2_with (go_at_fn g; refine cS.mono ?_; rintro e W' ⟨rfl, hbc⟩; have HX := Lib.hid (HBW2.out.trans (hbc.mono HBW2.out.size)); have k0 := (HS0.out.below HX.out).1.cell 0; have k1 := (HS0.out.below HX.out).1.cell 1; have f1 := (HS0.out.below HX.out).1.frozen 1)
    go_ret
    exact ⟨rfl, HSB.out.trans ((HS0.out.stays HX.out).trans ((HS0.out.below HX.out).moves hbt))⟩
   ·rw [hsp] at cS
    have HL := Lib.hid (show a + stopAt p s g' (pos + K) = b by rw [← hst hsp]; exact hleft.out)
    clear hst hsf hsp hleft
    go_wp2_with (go_at_fn g; refine cS.mono ?_; rintro e W' ⟨rfl, hbc⟩)
    go_roundg g'
    case measure => omega
    case rel => exact ⟨rfl, pos + K, (hbc.block _ hltX).trans hit2, Lib.hid (HBW2.out.trans (hbc.mono HBW2.out.size)), HL, by omega⟩
  ·have hnx : ∀ ty, (Instr.next (.pointer (some ⟨W.heap.size, 0, none⟩)) true ty).run Tryz.prog wr = _ := fun ty => Lib.run_next_end_at wr W.heap.size s pos ty hit hps
   have hbe : b = t.size := by
    have h1 := hleft.out
    rw [stopAt_end hps] at h1
    have := HZ1.out; have := HN.out; omega
   subst hbe
   have HX := hbw
   have k0 := (HS0.out.below HX.out).1.cell 0
   have k1 := (HS0.out.below HX.out).1.cell 1
   have f1 := (HS0.out.below HX.out).1.frozen 1
   clear hleft hbw hps
   go_wp2
   go_ret
   exact ⟨rfl, HSB.out.trans ((HS0.out.stays HX.out).trans ((HS0.out.below HX.out).moves hbt))⟩
end Go.Proofs.YtljgggohjigaoaaGreatDoor
namespace Go.Proofs.YtljgggohjigaoaaGreatDoor
open Go.RowKit Go.Shelf
set_option linter.unusedVariables false

/-- A function value that says p0 of the first rune and p1 of those behind it; block F tells which. -/
structure SaysSt (g F : Nat) (p0 p1 : Nat → Bool) : Prop where
 enters : ∀ args w, (callFunc g args).run Tryz.prog w = .ok (.enter g args) w
 one : ∀ (W : World) (x : Nat), x ≤ 1114111 → Blk W F #[.bool true] 4 → Calls Tryz.prog g #[.int .i32 (x : Int), .pointer (some ⟨F, 0, none⟩)] W fun e w' => e = .returned (.bool (p0 x)) ∧ Aside F W w' ∧ Blk w' F #[.bool false] 4
 more : ∀ (W : World) (x : Nat), x ≤ 1114111 → Blk W F #[.bool false] 4 → Calls Tryz.prog g #[.int .i32 (x : Int), .pointer (some ⟨F, 0, none⟩)] W fun e w' => e = .returned (.bool (p1 x)) ∧ Aside F W w' ∧ Blk w' F #[.bool false] 4
/-- Where it stops. -/
def wordTo (p0 p1 : Nat → Bool) (t : ByteArray) (a : Nat) : Nat := if 0 < (t.extract a t.size).size then (if p0 (Utf8.decode (t.extract a t.size) 0).1 then a + stopAt p1 (t.extract a t.size) (t.size - a) (Utf8.decode (t.extract a t.size) 0).2 else a) else a
/-- All blocks that were there but two are as they were. -/
structure Off (P F : Nat) (W w' : World) : Prop where
 os : w'.os = W.os
 tape : w'.tape = W.tape
 output : w'.output = W.output
 size : W.heap.size ≤ w'.heap.size
 block : ∀ k, k < W.heap.size → k ≠ P → k ≠ F → w'.heap[k]? = W.heap[k]?
theorem stopAt_more {p : Nat → Bool} {s : ByteArray} : ∀ {n m pos : Nat}, s.size - pos ≤ n → s.size - pos ≤ m → stopAt p s n pos = stopAt p s m pos
 | 0, m, pos, h, _ => by rw [stopAt_end (by omega), stopAt_end (by omega)]
 | n + 1, 0, pos, _, h => by rw [stopAt_end (by omega), stopAt_end (by omega)]
 | n + 1, m + 1, pos, h1, h2 => by
  by_cases h : pos < s.size
  ·have hwd := Lib.width_pos s pos
   cases hp : p (Utf8.decode s pos).1
   ·rw [stopAt_stop h hp, stopAt_stop h hp]
   ·rw [stopAt_step h hp, stopAt_step h hp]
    exact stopAt_more (by omega) (by omega)
  ·rw [stopAt_end h, stopAt_end h]
theorem iterAt_other (w : World) {k q : Nat} (h : q ≠ k) (s : ByteArray) (pos : Nat) : (w.iterAt k s pos).heap[q]? = w.heap[q]? := by
 show (w.heap.setIfInBounds k _)[q]? = _
 rw [Array.getElem?_setIfInBounds_ne (Ne.symm h)]
theorem aside_iterAt {F k : Nat} {W w : World} (h : Aside F W w) (hk : W.heap.size ≤ k) (s : ByteArray) (pos : Nat) : Aside F W (w.iterAt k s pos) :=
 ⟨h.os, h.tape, h.output, by show _ ≤ (w.heap.setIfInBounds k _).size; rw [Array.size_setIfInBounds]; exact h.size, fun q hq hf => (iterAt_other w (by omega) s pos).trans (h.block q hq hf)⟩
theorem off_end {P F : Nat} {W W0 w1 : World} (hb : Below W.heap.size W W0) (ha : Aside F W0 w1) {b : Nat} {t : ByteArray} (hbt : b ≤ t.size) : Off P F W (w1.setCell ⟨P, 1, none⟩ (.int .i64 (b : Int))) :=
 ⟨ha.os.trans hb.os, ha.tape.trans hb.tape, ha.output.trans hb.output, by simpa using Nat.le_trans hb.size ha.size, fun k hk hP hF => by
  rw [Below.heap_setCell w1 ⟨P, 1, none⟩ _ k hP]
  exact (ha.block k (Nat.lt_of_lt_of_le hk hb.size) hF).trans (hb.block k hk)⟩
theorem scn_end {P F : Nat} {W0 w1 : World} {t : ByteArray} {a b : Nat} (h : Scn W0 P t a) (ha : Aside F W0 w1) (hPF : P ≠ F) (hbt : b ≤ t.size) : Scn (w1.setCell ⟨P, 1, none⟩ (.int .i64 (b : Int))) P t b :=
 ⟨by have := (h.1.aside ha hPF).set 1 (.int .i64 (b : Int)); simpa using this, hbt, h.2.2⟩

set_option maxRecDepth 100000 in
set_option maxHeartbeats 2000000 in
theorem take_st {W : World} {P F a b : Nat} {t : ByteArray} (h : Scn W P t a) (hF : Blk W F #[.bool true] 4) (hPF : P ≠ F) {g : Nat} {p0 p1 : Nat → Bool} (hs : SaysSt g F p0 p1) (hb : wordTo p0 p1 t a = b) (hbt : b ≤ t.size) (hab : a ≤ b) :
  Calls Tryz.prog 84 #[.pointer (some ⟨P, 0, none⟩), .func (.func g) #[] #[.pointer (some ⟨F, 0, none⟩)]] W fun e w' => e = .returned (.string (t.extract a b)) ∧ Off P F W w' ∧ Scn w' P t b := by
 have HS := Lib.hid h
 have eg := hs.enters
 have HP := Lib.hid hs
 obtain ⟨hk, ha, hsz⟩ := h
 have hz := extract_size ha
 obtain ⟨s, hse⟩ : ∃ s, t.extract a t.size = s := ⟨_, rfl⟩
 rw [hse] at hz
 have HB : Hid (wordTo p0 p1 t a = b) := Lib.hid hb
 have HF := Lib.hid hF
 have HSE := Lib.hid hse
 have HZ := Lib.hid hz
 have c0 := hk.cell 0
 have c1 := hk.cell 1
 have i0 : (0 : Int) ≤ (a : Int) := by omega
 have i1 : (a : Int) ≤ (t.size : Int) := by omega
 have i2 : (a : Int) ≤ (b : Int) := by omega
 have i3 : (b : Int) ≤ (t.size : Int) := by omega
 clear hb hk hs hz hse hF
 go_enter Tryz.func84, Tryz.ntmps84
 go_wp2_with fail
 go_quiet (fail)
 go_wp2_with fail
 obtain ⟨W0, hW0⟩ : ∃ W0, W.drewN nq = W0 := ⟨_, rfl⟩
 have hb0 : Below W.heap.size W W0 := by rw [← hW0]; exact below_drewN W nq
 have HS0 := Lib.hid (HS.out.below hb0)
 have HSB := Lib.hid (HS.out.stays hb0)
 have HF0 := Lib.hid (HF.out.below hb0)
 have HSB0 := Lib.hid hb0
 have HQ := Lib.hid (show W0.heap.size = W.heap.size by rw [← hW0]; rfl)
 rw [hW0, HSE.out]
 clear hW0 hb0 c0 c1
 have hz := HZ.out
 obtain ⟨n, hn⟩ : ∃ n, t.size - a = n := ⟨_, rfl⟩
 rw [hn] at hz
 have HB1 : Hid ((if 0 < s.size then (if p0 (Utf8.decode s 0).1 then a + stopAt p1 s n (Utf8.decode s 0).2 else a) else a) = b) := Lib.hid (by rw [← hn, ← HSE.out]; exact HB.out)
 have HN := Lib.hid hn
 have HZ1 := Lib.hid hz
 have hFlt : F < W.heap.size := by have := HF0.out.lt; have := HQ.out; omega
 have hPlt : P < W.heap.size := by have := HS0.out.1.lt; have := HQ.out; omega
 clear hn hz HZ
 go_loopg [6] n (fun gf s6 wx => s6 = .int .i64 (t.size : Int) ∧ ∃ pos : Nat, wx.heap[W.heap.size]? = some (.stringIter s pos) ∧ Hid (Aside F W0 wx) ∧ Hid ((pos = 0 ∧ Blk wx F #[.bool true] 4 ∧ gf = n) ∨ (Blk wx F #[.bool false] 4 ∧ 0 < pos ∧ a + stopAt p1 s gf pos = b)) ∧ n ≤ pos + gf)
 case atStart => exact ⟨rfl, 0, by have := World.iter_heap W0 s 0; rwa [HQ.out] at this, Lib.hid (Aside.of ((Below.refl _ W0).alloc (Nat.le_refl _) _)), Lib.hid (.inl ⟨rfl, HF0.out.alloc _, rfl⟩), by omega⟩
 case round =>
  obtain ⟨rfl, pos, hit, hbw, hleft, hfu⟩ := hrel
  by_cases hps : pos < s.size
  ·obtain ⟨g', rfl⟩ : ∃ g', gk = g' + 1 := ⟨gk - 1, by have := HZ1.out; omega⟩
   have hnx : ∀ ty, (Instr.next (.pointer (some ⟨W.heap.size, 0, none⟩)) true ty).run Tryz.prog wr = _ := fun ty => Lib.run_next_any_at wr W.heap.size s pos ty hit hps
   have hwd := Lib.width_pos s pos
   obtain ⟨R, hR⟩ : ∃ R, (Utf8.decode s pos).1 = R := ⟨_, rfl⟩
   obtain ⟨K, hK⟩ : ∃ K, (Utf8.decode s pos).2 = K := ⟨_, rfl⟩
   have hq : ∃ q : Nat → Bool, (p0 = q ∧ pos = 0 ∧ Blk wr F #[.bool true] 4 ∨ p1 = q ∧ Blk wr F #[.bool false] 4) ∧ (q R = true → a + stopAt p1 s g' (pos + K) = b) ∧ (q R = false → a + pos = b) := by
    rcases hleft.out with ⟨h1, h2, h3⟩ | ⟨h2, h1, h3⟩
    ·refine ⟨p0, .inl ⟨rfl, h1, h2⟩, fun h => ?_, fun h => ?_⟩
     ·have := HB1.out
      subst h1
      rw [if_pos hps, hR, h, hK, ← h3] at this
      rcases Nat.lt_or_ge K s.size with h4 | h4
      ·rw [Nat.zero_add]
       simp only [if_true] at this
       have hz := HZ1.out
       rw [← this]
       exact congrArg (fun x => a + x) (stopAt_more (by omega) (by omega))
      ·rw [stopAt_end (by omega)] at this
       rw [stopAt_end (by omega)]
       simpa using this
     ·have := HB1.out
      subst h1
      rw [if_pos hps, hR, h] at this
      simpa using this
    ·refine ⟨p1, .inr ⟨rfl, h2⟩, fun h => ?_, fun h => ?_⟩
     ·rw [← h3, stopAt_step hps (by rw [hR]; exact h), hK]
     ·rw [← h3, stopAt_stop hps (by rw [hR]; exact h)]
   obtain ⟨q, hqs, hst, hsf⟩ := hq
   have hRle : R ≤ 1114111 := by rw [← hR]; exact Lib.rune_le s pos
   rw [hR, hK] at hnx
   rw [hK] at hwd
   have hit2 := Lib.iterAt_heap wr W.heap.size s pos (pos + K) hit
   have hbw2 := aside_iterAt hbw.out (k := W.heap.size) (by rw [HQ.out]; exact Nat.le_refl _) s (pos + K)
   have hfk : ∀ v, Blk wr F #[.bool v] 4 → Blk (wr.iterAt W.heap.size s (pos + K)) F #[.bool v] 4 := fun v h => (iterAt_other wr (by omega) s (pos + K)).trans h
   obtain ⟨X, hWd⟩ : ∃ X, wr.iterAt W.heap.size s (pos + K) = X := ⟨_, rfl⟩
   rw [hWd] at hnx hit2 hbw2 hfk
   have hltX : W.heap.size < X.heap.size := (Array.getElem?_eq_some_iff.1 hit2).1
   have cS : Calls Tryz.prog g #[.int .i32 (R : Int), .pointer (some ⟨F, 0, none⟩)] X fun e w' => e = .returned (.bool (q R)) ∧ Aside F X w' ∧ Blk w' F #[.bool false] 4 := by
    rcases hqs with ⟨rfl, -, h⟩ | ⟨rfl, h⟩
    ·exact HP.out.one X R hRle (hfk _ h)
    ·exact HP.out.more X R hRle (hfk _ h)
   have HBW2 := Lib.hid hbw2
   clear hbw2 hR hK hWd hqs hfk
   cases hsp : q R
   ·rw [hsp] at cS
    have hp1 : a + pos = b := by exact hsf hsp
    have HP1 := Lib.hid hp1
    have i4 : (a : Int) + (pos : Int) = (b : Int) := by omega
    clear hst hsf hsp hleft hp1
    go_wp2_with (go_at_fn g; refine cS.mono ?_; rintro e W' ⟨rfl, hbc, hbf⟩; have HX := Lib.hid (HBW2.out.trans hbc); have k0 := (HS0.out.1.aside HX.out hPF).cell 0; have k1 := (HS0.out.1.aside HX.out hPF).cell 1; have f1 := (HS0.out.1.aside HX.out hPF).frozen 1)
    go_ret
    exact ⟨rfl, off_end HSB0.out HX.out hbt, scn_end HS0.out HX.out hPF hbt⟩
   ·rw [hsp] at cS
    have HL := Lib.hid (show a + stopAt p1 s g' (pos + K) = b from hst hsp)
    clear hst hsf hsp hleft
    go_wp2_with (go_at_fn g; refine cS.mono ?_; rintro e W' ⟨rfl, hbc, hbf⟩)
    go_roundg g'
    case measure => omega
    case rel => exact ⟨rfl, pos + K, (hbc.block _ hltX (by omega)).trans hit2, Lib.hid (HBW2.out.trans hbc), Lib.hid (.inr ⟨hbf, by omega, HL.out⟩), by omega⟩
  ·have hnx : ∀ ty, (Instr.next (.pointer (some ⟨W.heap.size, 0, none⟩)) true ty).run Tryz.prog wr = _ := fun ty => Lib.run_next_end_at wr W.heap.size s pos ty hit hps
   have hbe : b = t.size := by
    have h3 := HZ1.out
    have h4 := HN.out
    rcases hleft.out with ⟨h1, -, -⟩ | ⟨-, -, h1⟩
    ·have h5 := HB1.out
     rw [if_neg (by omega)] at h5
     omega
    ·rw [stopAt_end hps] at h1
     omega
   subst hbe
   have HX := hbw
   have k0 := (HS0.out.1.aside HX.out hPF).cell 0
   have k1 := (HS0.out.1.aside HX.out hPF).cell 1
   have f1 := (HS0.out.1.aside HX.out hPF).frozen 1
   clear hleft hbw hps
   go_wp2
   go_ret
   exact ⟨rfl, off_end HSB0.out HX.out hbt, scn_end HS0.out HX.out hPF hbt⟩
end Go.Proofs.YtljgggohjigaoaaGreatDoor
namespace Go.Proofs.YtljgggohjigaoaaGreatDoor
open Go.RowKit
set_option linter.unusedVariables false

def AllAscii (s : ByteArray) : Prop := ∀ c ∈ s.data.toList, c.toNat < 128
theorem indexByte_none {l : List UInt8} {c : UInt8} (h : ∀ b ∈ l, b.toNat < 128) (hc : 128 ≤ c.toNat) : Lib.indexByte l c = -1 := by
 induction l with
 | nil => rfl
 | cons b l ih =>
  unfold Lib.indexByte
  have hb := h b List.mem_cons_self
  have hne : (b == c) = false := by rw [beq_eq_false_iff_ne]; intro e; subst e; omega
  rw [hne, ih (fun x hx => h x (List.mem_cons_of_mem _ hx))]
  rfl
theorem indexByte_contains (l : List UInt8) (c : UInt8) : decide (0 ≤ Lib.indexByte l c) = l.contains c := by
 induction l with
 | nil => rfl
 | cons b l ih =>
  unfold Lib.indexByte
  rw [List.contains_cons, ← ih]
  have hge := Lib.indexByte_ge l c
  by_cases h : b = c
  ·subst h; simp
  ·have h1 : (b == c) = false := beq_eq_false_iff_ne.2 h
   have h2 : (c == b) = false := beq_eq_false_iff_ne.2 (Ne.symm h)
   rw [h1, h2]
   by_cases h3 : Lib.indexByte l c = -1
   ·rw [h3]; rfl
   ·have h4 : (Lib.indexByte l c == -1) = false := beq_eq_false_iff_ne.2 h3
    rw [h4]
    simp only [Bool.false_eq_true, if_false, Bool.false_or]
    rw [decide_eq_decide]
    omega
theorem ascii_at {s : ByteArray} (hs : AllAscii s) {pos : Nat} (h : pos < s.size) : (s[pos]'h).toNat < 128 := hs _ (by
 have : s[pos]'h ∈ s.data := Array.getElem_mem h
 exact Array.mem_toList_iff.2 this)
set_option maxRecDepth 100000 in
set_option maxHeartbeats 2000000 in
theorem indexRune_err {s : ByteArray} (hs : AllAscii s) (hsz : s.size ≤ 100) (W : World) : Calls Tryz.prog 122 #[.string s, .int .i32 65533] W fun e w' => e = .returned (.int .i64 (-1)) ∧ Below W.heap.size W w' := by
 go_enter Tryz.func122, Tryz.ntmps122
 go_wp2_with fail
 go_wp2_with fail
 go_loopg [] s.size (fun gf wx => ∃ pos : Nat, wx.heap[W.heap.size]? = some (.stringIter s pos) ∧ Hid (Below W.heap.size W wx) ∧ s.size ≤ pos + gf)
 case atStart => exact ⟨0, World.iter_heap W s 0, Lib.hid ((Below.refl _ W).alloc (Nat.le_refl _) _), by omega⟩
 case round =>
  obtain ⟨pos, hit, hbw, hfu⟩ := hrel
  by_cases hps : pos < s.size
  ·obtain ⟨g', rfl⟩ : ∃ g', gk = g' + 1 := ⟨gk - 1, by omega⟩
   have ha := ascii_at hs hps
   have hnx : ∀ ty, (Instr.next (.pointer (some ⟨W.heap.size, 0, none⟩)) true ty).run Tryz.prog wr = _ := fun ty => Lib.run_next_ascii_at wr W.heap.size s pos ty hit hps ha
   have hit2 := Lib.iterAt_heap wr W.heap.size s pos (pos + 1) hit
   have hbw2 := Lib.hid (Lib.below_iterAt hbw.out (k := W.heap.size) (Nat.le_refl _) s (pos + 1))
   obtain ⟨c, hc⟩ : ∃ c : Nat, (s[pos]'hps).toNat = c := ⟨_, rfl⟩
   rw [hc] at hnx ha
   have hne : ((c : Int) == 65533) = false := beq_eq_false_iff_ne.2 (by omega)
   obtain ⟨X, hWd⟩ : ∃ X, wr.iterAt W.heap.size s (pos + 1) = X := ⟨_, rfl⟩
   rw [hWd] at hnx hit2 hbw2
   clear hWd hc
   go_wp2
   go_roundg g'
   case measure => omega
   case rel => exact ⟨pos + 1, hit2, hbw2, by omega⟩
  ·have hnx : ∀ ty, (Instr.next (.pointer (some ⟨W.heap.size, 0, none⟩)) true ty).run Tryz.prog wr = _ := fun ty => Lib.run_next_end_at wr W.heap.size s pos ty hit hps
   go_wp2
   go_ret
   exact ⟨rfl, hbw.out⟩
set_option maxRecDepth 100000 in
set_option maxHeartbeats 2000000 in
theorem indexRune_bad {s : ByteArray} {r : Int} (h0 : 128 ≤ r) (h1 : r ≤ 1114111) (hr : r ≠ 65533) (hv : Lib.validRune r = false) (W : World) : Calls Tryz.prog 122 #[.string s, .int .i32 r] W fun e w' => e = .returned (.int .i64 (-1)) ∧ Below W.heap.size W w' := by
 have HV := Lib.hid (fun w => Tryz.utf8_ValidRune r w)
 rw [hv] at HV
 have e1 : (r == 65533) = false := beq_eq_false_iff_ne.2 hr
 have i0 : ¬ r < 128 := by omega
 clear hv hr
 go_enter Tryz.func122, Tryz.ntmps122
 go_wp2_with fail
 go_wp2_with (go_at_call 140; refine (HV.out _).mono ?_; rintro e w' ⟨rfl, rfl⟩)
 go_ret
 exact ⟨rfl, Below.refl _ _⟩
set_option maxRecDepth 100000 in
set_option maxHeartbeats 4000000 in
theorem indexRune_good {s : ByteArray} {r : Int} (hs : AllAscii s) (hsz : s.size ≤ 100) (h0 : 128 ≤ r) (h1 : r ≤ 1114111) (hr : r ≠ 65533) (hv : Lib.validRune r = true) (W : World) : Calls Tryz.prog 122 #[.string s, .int .i32 r] W fun e w' => e = .returned (.int .i64 (-1)) ∧ Below W.heap.size W w' := by
 have HV := Lib.hid (fun w => Tryz.utf8_ValidRune r w)
 rw [hv] at HV
 have e1 : (r == 65533) = false := beq_eq_false_iff_ne.2 hr
 have i0 : ¬ r < 128 := by omega
 have hv2 : Utf8.valid r = true := by
  unfold Lib.validRune at hv
  unfold Utf8.valid
  simp at hv ⊢
  omega
 obtain ⟨z2, z4, zl⟩ := encode_facts r hv2 h0
 obtain ⟨rs, hrs⟩ : ∃ rs, Utf8.encode r = rs := ⟨_, rfl⟩
 rw [hrs] at z2 z4 zl
 have HRS := Lib.hid hrs
 have HZL := Lib.hid zl
 clear hv hr hv2 zl hrs
 go_enter Tryz.func122, Tryz.ntmps122
 go_wp2_with (go_at_call 140; refine (HV.out _).mono ?_; rintro e w' ⟨rfl, rfl⟩)
 have hrs := HRS.out
 obtain ⟨l, hl⟩ : ∃ l, rs.size = l + 1 := ⟨rs.size - 1, by omega⟩
 have hzl : ∀ h : l < rs.size, 128 ≤ (rs[l]'h).toNat := fun h => by
  have := HZL.out (by omega)
  simpa [hl] using this
 have hls : (rs.size : Int) - 1 = (l : Int) := by omega
 have hlr : l < rs.size := by omega
 have hz := hzl hlr
 have j0 : (0 : Int) ≤ (l : Int) := by omega
 have j1 : (l : Int) < (rs.size : Int) := by omega
 clear hzl HZL hl
 go_step3
 go_wp2_with fail
 refine wp_loop_rounds 1 ?_
 rw [rounds_succ]
 by_cases hlt : l < s.size
 ·have j2 : (l : Int) < (s.size : Int) := by omega
  have ha := ascii_at hs hlt
  have hne : (((s[l]'hlt).toNat : Int) == ((rs[l]'hlr).toNat : Int)) = false := beq_eq_false_iff_ne.2 (by omega)
  have hwr : IntKind.i64.wrap ((l : Int) + 1) = (l : Int) + 1 := IntWalk.i64_in _ (by omega)
  have j3 : (0 : Int) ≤ (l : Int) + 1 := by omega
  have j4 : (l : Int) + 1 ≤ (s.size : Int) := by omega
  have htn : ((l : Int) + 1).toNat = l + 1 := by omega
  have HIB := Lib.hid (fun w => Tryz.strings_IndexByte (s.extract (l + 1) s.size) ((rs[l]'hlr).toNat : Int) w)
  rw [show Lib.indexByte (s.extract (l + 1) s.size).data.toList (((rs[l]'hlr).toNat : Int)).toNat.toUInt8 = -1 from indexByte_none (fun b hb => by
   rw [Lib.extract_to_end] at hb
   exact hs b (List.mem_of_mem_drop hb)) (by
   rw [Int.toNat_natCast]
   have := (rs[l]'hlr).toNat_lt
   simpa using hz)] at HIB
  clear ha hz hls hrs hs hsz z2 z4 h0 h1
  go_wp2_with fail
  go_step3
  go_wp2_with fail
  go_quiet (fail)
  go_wp2_with fail
  obtain ⟨W1, hW1⟩ : ∃ W1, w'.drewN nq = W1 := ⟨_, rfl⟩
  have HB1 := Lib.hid (show Below w'.heap.size w' W1 by rw [← hW1]; exact below_drewN _ _)
  rw [hW1]
  clear hW1
  go_quiet ((go_at_call 139; exact Calls.quiet_of_same (HIB.out _)))
  go_wp2_with fail
  rw [Exit.noGoto_ret]
  go_wp2_with fail
  rw [Exit.noGoto_ret]
  go_ret
  exact ⟨rfl, HB1.out.trans ((below_drewN W1 nq).mono HB1.out.size)⟩
 ·go_wp2_with fail
  rw [Exit.noGoto_ret]
  go_ret
  exact ⟨rfl, Below.refl _ _⟩
/-- In a text of ASCII stands no rune that is none. -/
theorem contains_wide {s : ByteArray} {r : Int} (hs : AllAscii s) (hsz : s.size ≤ 100) (h0 : 128 ≤ r) (h1 : r ≤ 1114111) (W : World) : Calls Tryz.prog 109 #[.string s, .int .i32 r] W fun e w' => e = .returned (.bool false) ∧ Below W.heap.size W w' := by
 have HI : Hid (∀ w, Calls Tryz.prog 122 #[.string s, .int .i32 r] w fun e w' => e = .returned (.int .i64 (-1)) ∧ Below w.heap.size w w') := Lib.hid (fun w => by
  by_cases hr : r = 65533
  ·subst hr; exact indexRune_err hs hsz w
  ·cases hv : Lib.validRune r
   ·exact indexRune_bad h0 h1 hr hv w
   ·exact indexRune_good hs hsz h0 h1 hr hv w)
 clear hs hsz h0 h1
 go_enter Tryz.func109, Tryz.ntmps109
 go_wp2_with (go_at_call 122; refine (HI.out _).mono ?_; rintro e w1 ⟨rfl, hb⟩)
 go_ret
 exact ⟨rfl, hb⟩
/-- ContainsRune, for all runes. -/
theorem contains_any {s : ByteArray} (hs : AllAscii s) (hsz : s.size ≤ 100) (x : Nat) (hx : x ≤ 1114111) (W : World) : Calls Tryz.prog 109 #[.string s, .int .i32 (x : Int)] W fun e w' => e = .returned (.bool (decide (x < 128) && s.data.toList.contains x.toUInt8)) ∧ Below W.heap.size W w' := by
 by_cases h : x < 128
 ·refine (Tryz.strings_ContainsRune_ascii s (x : Int) W (by omega) (by omega)).mono ?_
  rintro e w' ⟨rfl, rfl⟩
  rw [decide_eq_true h, Int.toNat_natCast, indexByte_contains]
  exact ⟨rfl, Below.refl _ _⟩
 ·rw [decide_eq_false h]
  exact contains_wide hs hsz (by omega) (by omega) W
end Go.Proofs.YtljgggohjigaoaaGreatDoor
namespace Go.Proofs.YtljgggohjigaoaaGreatDoor
open Go.RowKit Go.Shelf
set_option linter.unusedVariables false

/-- One of these bytes? -/
def inP (s : ByteArray) (x : Nat) : Bool := decide (x < 128) && s.data.toList.contains x.toUInt8
def outP (s : ByteArray) (x : Nat) : Bool := !inP s x
def digB (c : UInt8) : Bool := decide (48 ≤ c.toNat) && decide (c.toNat ≤ 57)
def letB (c : UInt8) : Bool := (decide (97 ≤ c.toNat) && decide (c.toNat ≤ 122)) || (decide (65 ≤ c.toNat) && decide (c.toNat ≤ 90)) || decide (c.toNat = 95)
def digP (x : Nat) : Bool := decide (48 ≤ x) && decide (x ≤ 57)
def letP (x : Nat) : Bool := (decide (97 ≤ x) && decide (x ≤ 122)) || (decide (65 ≤ x) && decide (x ≤ 90)) || decide (x = 95)
def wordP (x : Nat) : Bool := letP x || digP x || decide (x = 45)
def wordB (c : UInt8) : Bool := letB c || digB c || decide (c.toNat = 45)

theorem hmf : ∀ (fn : Fn) (first cap : Array Value) (w : World), (Instr.makeFunc fn first cap).run Tryz.prog w = .ok (.func fn first cap) w := fun _ _ _ _ => rfl
set_option maxRecDepth 100000 in
set_option maxHeartbeats 1000000 in
theorem anyIn {s : ByteArray} (hs : AllAscii s) (hsz : s.size ≤ 100) {F : Nat} {X : World} (hc : X.cell? ⟨F, 0, none⟩ = some (.string s)) (x : Nat) (hx : x ≤ 1114111) : Calls Tryz.prog 108 #[.int .i32 (x : Int), .pointer (some ⟨F, 0, none⟩)] X fun e w' => e = .returned (.bool (inP s x)) ∧ Below X.heap.size X w' := by
 have HC := Lib.hid (fun w => contains_any hs hsz x hx w)
 obtain ⟨v, hv⟩ : ∃ v, inP s x = v := ⟨_, rfl⟩
 rw [hv]
 rw [show (decide (x < 128) && s.data.toList.contains x.toUInt8) = v from hv] at HC
 clear hv hs hsz
 go_enter Tryz.func108, Tryz.ntmps108
 go_wp2_with (go_at_call 109; refine (HC.out _).mono ?_; rintro e w1 ⟨rfl, hb⟩)
 go_ret
 exact ⟨rfl, hb⟩
set_option maxRecDepth 100000 in
set_option maxHeartbeats 1000000 in
theorem noneIn {s : ByteArray} (hs : AllAscii s) (hsz : s.size ≤ 100) {F : Nat} {X : World} (hc : X.cell? ⟨F, 0, none⟩ = some (.string s)) (x : Nat) (hx : x ≤ 1114111) : Calls Tryz.prog 123 #[.int .i32 (x : Int), .pointer (some ⟨F, 0, none⟩)] X fun e w' => e = .returned (.bool (outP s x)) ∧ Below X.heap.size X w' := by
 have HC := Lib.hid (fun w => contains_any hs hsz x hx w)
 obtain ⟨v, hv⟩ : ∃ v, inP s x = v := ⟨_, rfl⟩
 unfold outP
 rw [hv]
 rw [show (decide (x < 128) && s.data.toList.contains x.toUInt8) = v from hv] at HC
 clear hv hs hsz
 cases v
 all_goals
  go_enter Tryz.func123, Tryz.ntmps123
  go_wp2_with (go_at_call 109; refine (HC.out _).mono ?_; rintro e w1 ⟨rfl, hb⟩)
  go_ret
  exact ⟨rfl, hb⟩
/-- What anyOf answers. -/
theorem anyOf_any {s : ByteArray} (hs : AllAscii s) (hsz : s.size ≤ 100) (W : World) : Calls Tryz.prog 85 #[.string s] W fun e w' => (∃ lb, e = .returned (.func (.func 108) #[] lb) ∧ Says 108 lb (inP s) w') ∧ Below W.heap.size W w' := by
 have hmf := hmf
 go_enter Tryz.func85, Tryz.ntmps85
 go_wp2
 go_ret
 refine ⟨⟨_, rfl, enters_of Tryz.func108 (by kernel_rfl) rfl, fun X x hx hb => ?_⟩, below_new _ _⟩
 exact anyIn hs hsz ((hb.cell (p := ⟨W.heap.size, 0, none⟩) (by simp)).trans ((Blk.new W #[.string s] 9).cell 0)) x hx
theorem noneOf_any {s : ByteArray} (hs : AllAscii s) (hsz : s.size ≤ 100) (W : World) : Calls Tryz.prog 110 #[.string s] W fun e w' => (∃ lb, e = .returned (.func (.func 123) #[] lb) ∧ Says 123 lb (outP s) w') ∧ Below W.heap.size W w' := by
 have hmf := hmf
 go_enter Tryz.func110, Tryz.ntmps110
 go_wp2
 go_ret
 refine ⟨⟨_, rfl, enters_of Tryz.func123 (by kernel_rfl) rfl, fun X x hx hb => ?_⟩, below_new _ _⟩
 exact noneIn hs hsz ((hb.cell (p := ⟨W.heap.size, 0, none⟩) (by simp)).trans ((Blk.new W #[.string s] 9).cell 0)) x hx

theorem isDigit_any (x : Nat) (hx : x ≤ 1114111) (W : World) : Calls Tryz.prog 91 #[.int .i32 (x : Int)] W fun e w' => e = .returned (.bool (digP x)) ∧ W = w' := by
 unfold digP
 by_cases h1 : 48 ≤ x
 ·by_cases h2 : x ≤ 57
  ·have a1 : (48 : Int) ≤ (x : Int) := by omega
   have a2 : (x : Int) ≤ 57 := by omega
   go_enter Tryz.func91, Tryz.ntmps91
   go_wp2
   go_ret
   exact ⟨by first | (simp; done) | (simp; omega), rfl⟩
  ·have a1 : (48 : Int) ≤ (x : Int) := by omega
   have a2 : ¬ (x : Int) ≤ 57 := by omega
   go_enter Tryz.func91, Tryz.ntmps91
   go_wp2
   go_ret
   exact ⟨by first | (simp; done) | (simp; omega), rfl⟩
 ·have a1 : ¬ (48 : Int) ≤ (x : Int) := by omega
  go_enter Tryz.func91, Tryz.ntmps91
  go_wp2
  go_ret
  exact ⟨by first | (simp; done) | (simp; omega), rfl⟩
theorem isDigit_says (W : World) : Says 91 #[] digP W := ⟨enters_of Tryz.func91 (by kernel_rfl) rfl, fun X x hx hb => (isDigit_any x hx X).mono fun e w' ⟨he, hw⟩ => ⟨he, by subst hw; exact Below.refl _ _⟩⟩
set_option maxHeartbeats 1000000 in
theorem isLetter_any (x : Nat) (hx : x ≤ 1114111) (W : World) : Calls Tryz.prog 93 #[.int .i32 (x : Int)] W fun e w' => e = .returned (.bool (letP x)) ∧ W = w' := by
 rcases (show (x < 65) ∨ (65 ≤ x ∧ x ≤ 90) ∨ (91 ≤ x ∧ x ≤ 94) ∨ (x = 95) ∨ (x = 96) ∨ (97 ≤ x ∧ x ≤ 122) ∨ (123 ≤ x) by omega) with hc | hc | hc | hc | hc | hc | hc
 ·have hv : letP x = false := by unfold letP; simp; omega
  rw [hv]
  clear hv
  have a1 : ¬ (97 : Int) ≤ (x : Int) := by omega
  have a3 : ¬ (65 : Int) ≤ (x : Int) := by omega
  have a5 : ((x : Int) == 95) = false := by exact beq_eq_false_iff_ne.2 (by omega)
  clear hc
  go_enter Tryz.func93, Tryz.ntmps93
  go_wp2
  go_ret
  exact ⟨rfl, rfl⟩
 ·have hv : letP x = true := by unfold letP; simp; omega
  rw [hv]
  clear hv
  have a1 : ¬ (97 : Int) ≤ (x : Int) := by omega
  have a3 : (65 : Int) ≤ (x : Int) := by omega
  have a4 : (x : Int) ≤ 90 := by omega
  have a5 : ((x : Int) == 95) = false := by exact beq_eq_false_iff_ne.2 (by omega)
  clear hc
  go_enter Tryz.func93, Tryz.ntmps93
  go_wp2
  go_ret
  exact ⟨rfl, rfl⟩
 ·have hv : letP x = false := by unfold letP; simp; omega
  rw [hv]
  clear hv
  have a1 : ¬ (97 : Int) ≤ (x : Int) := by omega
  have a3 : (65 : Int) ≤ (x : Int) := by omega
  have a4 : ¬ (x : Int) ≤ 90 := by omega
  have a5 : ((x : Int) == 95) = false := by exact beq_eq_false_iff_ne.2 (by omega)
  clear hc
  go_enter Tryz.func93, Tryz.ntmps93
  go_wp2
  go_ret
  exact ⟨rfl, rfl⟩
 ·have hv : letP x = true := by unfold letP; simp; omega
  rw [hv]
  clear hv
  have a1 : ¬ (97 : Int) ≤ (x : Int) := by omega
  have a3 : (65 : Int) ≤ (x : Int) := by omega
  have a4 : ¬ (x : Int) ≤ 90 := by omega
  have a5 : ((x : Int) == 95) = true := by exact beq_iff_eq.2 (by omega)
  clear hc
  go_enter Tryz.func93, Tryz.ntmps93
  go_wp2
  go_ret
  exact ⟨rfl, rfl⟩
 ·have hv : letP x = false := by unfold letP; simp; omega
  rw [hv]
  clear hv
  have a1 : ¬ (97 : Int) ≤ (x : Int) := by omega
  have a3 : (65 : Int) ≤ (x : Int) := by omega
  have a4 : ¬ (x : Int) ≤ 90 := by omega
  have a5 : ((x : Int) == 95) = false := by exact beq_eq_false_iff_ne.2 (by omega)
  clear hc
  go_enter Tryz.func93, Tryz.ntmps93
  go_wp2
  go_ret
  exact ⟨rfl, rfl⟩
 ·have hv : letP x = true := by unfold letP; simp; omega
  rw [hv]
  clear hv
  have a1 : (97 : Int) ≤ (x : Int) := by omega
  have a2 : (x : Int) ≤ 122 := by omega
  clear hc
  go_enter Tryz.func93, Tryz.ntmps93
  go_wp2
  go_ret
  exact ⟨rfl, rfl⟩
 ·have hv : letP x = false := by unfold letP; simp; omega
  rw [hv]
  clear hv
  have a1 : (97 : Int) ≤ (x : Int) := by omega
  have a2 : ¬ (x : Int) ≤ 122 := by omega
  have a3 : (65 : Int) ≤ (x : Int) := by omega
  have a4 : ¬ (x : Int) ≤ 90 := by omega
  have a5 : ((x : Int) == 95) = false := by exact beq_eq_false_iff_ne.2 (by omega)
  clear hc
  go_enter Tryz.func93, Tryz.ntmps93
  go_wp2
  go_ret
  exact ⟨rfl, rfl⟩

theorem stored_false {F : Nat} {W w1 : World} {v : Bool} (h : Blk W F #[.bool v] 4) (hb : Below W.heap.size W w1) : Aside F W (w1.setCell ⟨F, 0, none⟩ (.bool false)) ∧ Blk (w1.setCell ⟨F, 0, none⟩ (.bool false)) F #[.bool false] 4 :=
 ⟨(Aside.of hb).set 0 _, by have := (h.below hb).set 0 (.bool false); simpa using this⟩
set_option maxRecDepth 100000 in
set_option maxHeartbeats 1000000 in
theorem word_one (x : Nat) (hx : x ≤ 1114111) {F : Nat} {W : World} (h : Blk W F #[.bool true] 4) : Calls Tryz.prog 129 #[.int .i32 (x : Int), .pointer (some ⟨F, 0, none⟩)] W fun e w' => e = .returned (.bool (letP x)) ∧ Aside F W w' ∧ Blk w' F #[.bool false] 4 := by
 have HL := Lib.hid (fun w => isLetter_any x hx w)
 have HK := Lib.hid h
 have c0 := h.cell 0
 have f0 := h.frozen 0
 clear h
 cases hv : letP x
 ·rw [hv] at HL
  clear hv
  go_enter Tryz.func129, Tryz.ntmps129
  go_wp2_with (go_at_call 93; refine (HL.out _).mono ?_; rintro e w1 ⟨rfl, rfl⟩)
  go_ret
  exact ⟨rfl, stored_false HK.out (Below.refl _ _)⟩
 ·rw [hv] at HL
  clear hv
  go_enter Tryz.func129, Tryz.ntmps129
  go_wp2_with (go_at_call 93; refine (HL.out _).mono ?_; rintro e w1 ⟨rfl, rfl⟩)
  go_ret
  exact ⟨rfl, stored_false HK.out (Below.refl _ _)⟩
set_option maxRecDepth 100000 in
set_option maxHeartbeats 1000000 in
theorem word_more (x : Nat) (hx : x ≤ 1114111) {F : Nat} {W : World} (h : Blk W F #[.bool false] 4) : Calls Tryz.prog 129 #[.int .i32 (x : Int), .pointer (some ⟨F, 0, none⟩)] W fun e w' => e = .returned (.bool (wordP x)) ∧ Aside F W w' ∧ Blk w' F #[.bool false] 4 := by
 have HL := Lib.hid (fun w => isLetter_any x hx w)
 have HD := Lib.hid (fun w => isDigit_any x hx w)
 have HK := Lib.hid h
 have c0 := h.cell 0
 have f0 := h.frozen 0
 clear h
 unfold wordP
 by_cases h45 : x = 45
 ·subst h45
  have e1 : letP 45 = false := by decide
  have e2 : digP 45 = false := by decide
  rw [e1] at HL
  rw [e2] at HD
  clear e1 e2
  go_enter Tryz.func129, Tryz.ntmps129
  go_wp2_with (first | (go_at_call 93; refine (HL.out _).mono ?_; rintro e w1 ⟨rfl, rfl⟩) | (go_at_call 91; refine (HD.out _).mono ?_; rintro e w1 ⟨rfl, rfl⟩))
  go_ret
  exact ⟨by first | rfl | simp, stored_false HK.out (Below.refl _ _)⟩
 ·have h45' : ((x : Int) == 45) = false := beq_eq_false_iff_ne.2 (by omega)
  cases hv : letP x <;> cases hd : digP x
  all_goals
   rw [hv] at HL
   rw [hd] at HD
   clear hv hd
   go_enter Tryz.func129, Tryz.ntmps129
   go_wp2_with (first | (go_at_call 93; refine (HL.out _).mono ?_; rintro e w1 ⟨rfl, rfl⟩) | (go_at_call 91; refine (HD.out _).mono ?_; rintro e w1 ⟨rfl, rfl⟩))
   go_ret
   exact ⟨by simp [h45], stored_false HK.out (Below.refl _ _)⟩
theorem word_says (F : Nat) : SaysSt 129 F letP wordP := ⟨enters_of Tryz.func129 (by kernel_rfl) rfl, fun W x hx h => word_one x hx h, fun W x hx h => word_more x hx h⟩
end Go.Proofs.YtljgggohjigaoaaGreatDoor
