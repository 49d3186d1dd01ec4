/- The scanner's take with a function value that keeps whether it was asked. -/
import Derived.Test.YtpdepdigacpfiaaDoorLTake
namespace Go.Proofs.YtpdepdigacpfiaaDoor
open Go.RowKit Go.Shelf
set_option linter.unusedVariables false

/-- A function value that says p0 of the first rune and p1 of those behind it; block F tells which. -/
structure SaysSt (g F : Nat) (p0 p1 : Nat → Bool) : Prop where
  enters : ∀ args w, (callFunc g args).run Tryd.prog w = .ok (.enter g args) w
  one : ∀ (W : World) (x : Nat), x ≤ 1114111 → Blk W F #[.bool true] 4 → Calls Tryd.prog g #[.int .i32 (x : Int), .pointer (some ⟨F, 0, none⟩)] W fun e w' => e = .returned (.bool (p0 x)) ∧ Aside F W w' ∧ Blk w' F #[.bool false] 4
  more : ∀ (W : World) (x : Nat), x ≤ 1114111 → Blk W F #[.bool false] 4 → Calls Tryd.prog g #[.int .i32 (x : Int), .pointer (some ⟨F, 0, none⟩)] W fun e w' => e = .returned (.bool (p1 x)) ∧ Aside F W w' ∧ Blk w' F #[.bool false] 4
/-- Where it stops. -/
def wordTo (p0 p1 : Nat → Bool) (t : ByteArray) (a : Nat) : Nat := if 0 < (t.extract a t.size).size then (if p0 (Utf8.decode (t.extract a t.size) 0).1 then a + stopAt p1 (t.extract a t.size) (t.size - a) (Utf8.decode (t.extract a t.size) 0).2 else a) else a
/-- All blocks that were there but two are as they were. -/
structure Off (P F : Nat) (W w' : World) : Prop where
  os : w'.os = W.os
  tape : w'.tape = W.tape
  output : w'.output = W.output
  size : W.heap.size ≤ w'.heap.size
  block : ∀ k, k < W.heap.size → k ≠ P → k ≠ F → w'.heap[k]? = W.heap[k]?
theorem stopAt_more {p : Nat → Bool} {s : ByteArray} : ∀ {n m pos : Nat}, s.size - pos ≤ n → s.size - pos ≤ m → stopAt p s n pos = stopAt p s m pos
  | 0, m, pos, h, _ => by rw [stopAt_end (by omega), stopAt_end (by omega)]
  | n + 1, 0, pos, _, h => by rw [stopAt_end (by omega), stopAt_end (by omega)]
  | n + 1, m + 1, pos, h1, h2 => by
    by_cases h : pos < s.size
    · have hwd := Lib.width_pos s pos
      cases hp : p (Utf8.decode s pos).1
      · rw [stopAt_stop h hp, stopAt_stop h hp]
      · rw [stopAt_step h hp, stopAt_step h hp]
        exact stopAt_more (by omega) (by omega)
    · rw [stopAt_end h, stopAt_end h]
theorem iterAt_other (w : World) {k q : Nat} (h : q ≠ k) (s : ByteArray) (pos : Nat) : (w.iterAt k s pos).heap[q]? = w.heap[q]? := by
  show (w.heap.setIfInBounds k _)[q]? = _
  rw [Array.getElem?_setIfInBounds_ne (Ne.symm h)]
theorem aside_iterAt {F k : Nat} {W w : World} (h : Aside F W w) (hk : W.heap.size ≤ k) (s : ByteArray) (pos : Nat) : Aside F W (w.iterAt k s pos) :=
  ⟨h.os, h.tape, h.output, by show _ ≤ (w.heap.setIfInBounds k _).size; rw [Array.size_setIfInBounds]; exact h.size, fun q hq hf => (iterAt_other w (by omega) s pos).trans (h.block q hq hf)⟩
theorem off_end {P F : Nat} {W W0 w1 : World} (hb : Below W.heap.size W W0) (ha : Aside F W0 w1) {b : Nat} {t : ByteArray} (hbt : b ≤ t.size) : Off P F W (w1.setCell ⟨P, 1, none⟩ (.int .i64 (b : Int))) :=
  ⟨ha.os.trans hb.os, ha.tape.trans hb.tape, ha.output.trans hb.output, by simpa using Nat.le_trans hb.size ha.size, fun k hk hP hF => by
    rw [Below.heap_setCell w1 ⟨P, 1, none⟩ _ k hP]
    exact (ha.block k (Nat.lt_of_lt_of_le hk hb.size) hF).trans (hb.block k hk)⟩
theorem scn_end {P F : Nat} {W0 w1 : World} {t : ByteArray} {a b : Nat} (h : Scn W0 P t a) (ha : Aside F W0 w1) (hPF : P ≠ F) (hbt : b ≤ t.size) : Scn (w1.setCell ⟨P, 1, none⟩ (.int .i64 (b : Int))) P t b :=
  ⟨by have := (h.1.aside ha hPF).set 1 (.int .i64 (b : Int)); simpa using this, hbt, h.2.2⟩

set_option maxRecDepth 100000 in
set_option maxHeartbeats 2000000 in
theorem take_st {W : World} {P F a b : Nat} {t : ByteArray} (h : Scn W P t a) (hF : Blk W F #[.bool true] 4) (hPF : P ≠ F) {g : Nat} {p0 p1 : Nat → Bool} (hs : SaysSt g F p0 p1) (hb : wordTo p0 p1 t a = b) (hbt : b ≤ t.size) (hab : a ≤ b) :
    Calls Tryd.prog 20 #[.pointer (some ⟨P, 0, none⟩), .func (.func g) #[] #[.pointer (some ⟨F, 0, none⟩)]] W fun e w' => e = .returned (.string (t.extract a b)) ∧ Off P F W w' ∧ Scn w' P t b := by
  have HS := Lib.hid h
  have eg := hs.enters
  have HP := Lib.hid hs
  obtain ⟨hk, ha, hsz⟩ := h
  have hz := extract_size ha
  obtain ⟨s, hse⟩ : ∃ s, t.extract a t.size = s := ⟨_, rfl⟩
  rw [hse] at hz
  have HB : Hid (wordTo p0 p1 t a = b) := Lib.hid hb
  have HF := Lib.hid hF
  have HSE := Lib.hid hse
  have HZ := Lib.hid hz
  have c0 := hk.cell 0
  have c1 := hk.cell 1
  have i0 : (0 : Int) ≤ (a : Int) := by omega
  have i1 : (a : Int) ≤ (t.size : Int) := by omega
  have i2 : (a : Int) ≤ (b : Int) := by omega
  have i3 : (b : Int) ≤ (t.size : Int) := by omega
  clear hb hk hs hz hse hF
  go_enter Tryd.func20, Tryd.ntmps20
  go_wp2_with fail
  go_quiet (fail)
  go_wp2_with fail
  obtain ⟨W0, hW0⟩ : ∃ W0, W.drewN nq = W0 := ⟨_, rfl⟩
  have hb0 : Below W.heap.size W W0 := by rw [← hW0]; exact below_drewN W nq
  have HS0 := Lib.hid (HS.out.below hb0)
  have HSB := Lib.hid (HS.out.stays hb0)
  have HF0 := Lib.hid (HF.out.below hb0)
  have HSB0 := Lib.hid hb0
  have HQ := Lib.hid (show W0.heap.size = W.heap.size by rw [← hW0]; rfl)
  rw [hW0, HSE.out]
  clear hW0 hb0 c0 c1
  have hz := HZ.out
  obtain ⟨n, hn⟩ : ∃ n, t.size - a = n := ⟨_, rfl⟩
  rw [hn] at hz
  have HB1 : Hid ((if 0 < s.size then (if p0 (Utf8.decode s 0).1 then a + stopAt p1 s n (Utf8.decode s 0).2 else a) else a) = b) := Lib.hid (by rw [← hn, ← HSE.out]; exact HB.out)
  have HN := Lib.hid hn
  have HZ1 := Lib.hid hz
  have hFlt : F < W.heap.size := by have := HF0.out.lt; have := HQ.out; omega
  have hPlt : P < W.heap.size := by have := HS0.out.1.lt; have := HQ.out; omega
  clear hn hz HZ
  go_loopg [6] n (fun gf s6 wx => s6 = .int .i64 (t.size : Int) ∧ ∃ pos : Nat, wx.heap[W.heap.size]? = some (.stringIter s pos) ∧ Hid (Aside F W0 wx) ∧ Hid ((pos = 0 ∧ Blk wx F #[.bool true] 4 ∧ gf = n) ∨ (Blk wx F #[.bool false] 4 ∧ 0 < pos ∧ a + stopAt p1 s gf pos = b)) ∧ n ≤ pos + gf)
  case atStart => exact ⟨rfl, 0, by have := World.iter_heap W0 s 0; rwa [HQ.out] at this, Lib.hid (Aside.of ((Below.refl _ W0).alloc (Nat.le_refl _) _)), Lib.hid (.inl ⟨rfl, HF0.out.alloc _, rfl⟩), by omega⟩
  case round =>
    obtain ⟨rfl, pos, hit, hbw, hleft, hfu⟩ := hrel
    by_cases hps : pos < s.size
    · obtain ⟨g', rfl⟩ : ∃ g', gk = g' + 1 := ⟨gk - 1, by have := HZ1.out; omega⟩
      have hnx : ∀ ty, (Instr.next (.pointer (some ⟨W.heap.size, 0, none⟩)) true ty).run Tryd.prog wr = _ := fun ty => Lib.run_next_any_at wr W.heap.size s pos ty hit hps
      have hwd := Lib.width_pos s pos
      obtain ⟨R, hR⟩ : ∃ R, (Utf8.decode s pos).1 = R := ⟨_, rfl⟩
      obtain ⟨K, hK⟩ : ∃ K, (Utf8.decode s pos).2 = K := ⟨_, rfl⟩
      have hq : ∃ q : Nat → Bool, (p0 = q ∧ pos = 0 ∧ Blk wr F #[.bool true] 4 ∨ p1 = q ∧ Blk wr F #[.bool false] 4) ∧ (q R = true → a + stopAt p1 s g' (pos + K) = b) ∧ (q R = false → a + pos = b) := by
        rcases hleft.out with ⟨h1, h2, h3⟩ | ⟨h2, h1, h3⟩
        · refine ⟨p0, .inl ⟨rfl, h1, h2⟩, fun h => ?_, fun h => ?_⟩
          · have := HB1.out
            subst h1
            rw [if_pos hps, hR, h, hK, ← h3] at this
            rcases Nat.lt_or_ge K s.size with h4 | h4
            · rw [Nat.zero_add]
              simp only [if_true] at this
              have hz := HZ1.out
              rw [← this]
              exact congrArg (fun x => a + x) (stopAt_more (by omega) (by omega))
            · rw [stopAt_end (by omega)] at this
              rw [stopAt_end (by omega)]
              simpa using this
          · have := HB1.out
            subst h1
            rw [if_pos hps, hR, h] at this
            simpa using this
        · refine ⟨p1, .inr ⟨rfl, h2⟩, fun h => ?_, fun h => ?_⟩
          · rw [← h3, stopAt_step hps (by rw [hR]; exact h), hK]
          · rw [← h3, stopAt_stop hps (by rw [hR]; exact h)]
      obtain ⟨q, hqs, hst, hsf⟩ := hq
      have hRle : R ≤ 1114111 := by rw [← hR]; exact Lib.rune_le s pos
      rw [hR, hK] at hnx
      rw [hK] at hwd
      have hit2 := Lib.iterAt_heap wr W.heap.size s pos (pos + K) hit
      have hbw2 := aside_iterAt hbw.out (k := W.heap.size) (by rw [HQ.out]; exact Nat.le_refl _) s (pos + K)
      have hfk : ∀ v, Blk wr F #[.bool v] 4 → Blk (wr.iterAt W.heap.size s (pos + K)) F #[.bool v] 4 := fun v h => (iterAt_other wr (by omega) s (pos + K)).trans h
      obtain ⟨X, hWd⟩ : ∃ X, wr.iterAt W.heap.size s (pos + K) = X := ⟨_, rfl⟩
      rw [hWd] at hnx hit2 hbw2 hfk
      have hltX : W.heap.size < X.heap.size := (Array.getElem?_eq_some_iff.1 hit2).1
      have cS : Calls Tryd.prog g #[.int .i32 (R : Int), .pointer (some ⟨F, 0, none⟩)] X fun e w' => e = .returned (.bool (q R)) ∧ Aside F X w' ∧ Blk w' F #[.bool false] 4 := by
        rcases hqs with ⟨rfl, -, h⟩ | ⟨rfl, h⟩
        · exact HP.out.one X R hRle (hfk _ h)
        · exact HP.out.more X R hRle (hfk _ h)
      have HBW2 := Lib.hid hbw2
      clear hbw2 hR hK hWd hqs hfk
      cases hsp : q R
      · rw [hsp] at cS
        have hp1 : a + pos = b := by exact hsf hsp
        have HP1 := Lib.hid hp1
        have i4 : (a : Int) + (pos : Int) = (b : Int) := by omega
        clear hst hsf hsp hleft hp1
        go_wp2_with (go_at_fn g; refine cS.mono ?_; rintro e W' ⟨rfl, hbc, hbf⟩; have HX := Lib.hid (HBW2.out.trans hbc); have k0 := (HS0.out.1.aside HX.out hPF).cell 0; have k1 := (HS0.out.1.aside HX.out hPF).cell 1; have f1 := (HS0.out.1.aside HX.out hPF).frozen 1)
        go_ret
        exact ⟨rfl, off_end HSB0.out HX.out hbt, scn_end HS0.out HX.out hPF hbt⟩
      · rw [hsp] at cS
        have HL := Lib.hid (show a + stopAt p1 s g' (pos + K) = b from hst hsp)
        clear hst hsf hsp hleft
        go_wp2_with (go_at_fn g; refine cS.mono ?_; rintro e W' ⟨rfl, hbc, hbf⟩)
        go_roundg g'
        case measure => omega
        case rel => exact ⟨rfl, pos + K, (hbc.block _ hltX (by omega)).trans hit2, Lib.hid (HBW2.out.trans hbc), Lib.hid (.inr ⟨hbf, by omega, HL.out⟩), by omega⟩
    · have hnx : ∀ ty, (Instr.next (.pointer (some ⟨W.heap.size, 0, none⟩)) true ty).run Tryd.prog wr = _ := fun ty => Lib.run_next_end_at wr W.heap.size s pos ty hit hps
      have hbe : b = t.size := by
        have h3 := HZ1.out
        have h4 := HN.out
        rcases hleft.out with ⟨h1, -, -⟩ | ⟨-, -, h1⟩
        · have h5 := HB1.out
          rw [if_neg (by omega)] at h5
          omega
        · rw [stopAt_end hps] at h1
          omega
      subst hbe
      have HX := hbw
      have k0 := (HS0.out.1.aside HX.out hPF).cell 0
      have k1 := (HS0.out.1.aside HX.out hPF).cell 1
      have f1 := (HS0.out.1.aside HX.out hPF).frozen 1
      clear hleft hbw hps
      go_wp2
      go_ret
      exact ⟨rfl, off_end HSB0.out HX.out hbt, scn_end HS0.out HX.out hPF hbt⟩
end Go.Proofs.YtpdepdigacpfiaaDoor
