/- The scanner's take: as far as a function value says so. -/
import Derived.Test.YtpdepdigacpfiaaDoorLHas
import Derived.Shelf.Strings.FuncGrows
import Derived.Deep.LoopGhost
import Derived.BigRegion
import Derived.RegionTactic
namespace Go.Proofs.YtpdepdigacpfiaaDoor
open Go.RowKit Go.Shelf
set_option linter.unusedVariables false

/-- A function value that says of runes what p says. -/
structure Says (g : Nat) (lb : Array Value) (p : Nat → Bool) (w : World) : Prop where
  enters : ∀ args w, (callFunc g args).run Tryd.prog w = .ok (.enter g args) w
  says : PredGrows Tryd.prog g lb p w
theorem Says.later {g : Nat} {lb : Array Value} {p : Nat → Bool} {w W : World} (h : Says g lb p w) (hb : Below w.heap.size w W) : Says g lb p W := ⟨h.1, h.2.later hb⟩
/-- Where take stops. -/
def takeTo (p : Nat → Bool) (t : ByteArray) (a : Nat) : Nat := a + stopAt p (t.extract a t.size) (t.size - a) 0
theorem extract_size {t : ByteArray} {a : Nat} (h : a ≤ t.size) : (t.extract a t.size).size = t.size - a := by simp

set_option maxRecDepth 100000 in
set_option maxHeartbeats 2000000 in
theorem take_any {W : World} {P a b : Nat} {t : ByteArray} (h : Scn W P t a) {g : Nat} {lb : Array Value} {p : Nat → Bool} (hs : Says g lb p W) (hb : takeTo p t a = b) (hbt : b ≤ t.size) (hab : a ≤ b) :
    Calls Tryd.prog 20 #[.pointer (some ⟨P, 0, none⟩), .func (.func g) #[] lb] W fun e w' => e = .returned (.string (t.extract a b)) ∧ Went W w' P t b := by
  have HS := Lib.hid h
  have eg := hs.enters
  have HP := Lib.hid hs.says
  obtain ⟨hk, ha, hsz⟩ := h
  have hz := extract_size ha
  obtain ⟨s, hse⟩ : ∃ s, t.extract a t.size = s := ⟨_, rfl⟩
  rw [hse] at hz
  have HB : Hid (a + stopAt p s (t.size - a) 0 = b) := Lib.hid (by rw [← hse]; exact hb)
  have HSE := Lib.hid hse
  have HZ := Lib.hid hz
  have c0 := hk.cell 0
  have c1 := hk.cell 1
  have i0 : (0 : Int) ≤ (a : Int) := by omega
  have i1 : (a : Int) ≤ (t.size : Int) := by omega
  have i2 : (a : Int) ≤ (b : Int) := by omega
  have i3 : (b : Int) ≤ (t.size : Int) := by omega
  clear hb hk hs hz hse
  go_enter Tryd.func20, Tryd.ntmps20
  go_wp2_with fail
  go_quiet (fail)
  go_wp2_with fail
  obtain ⟨W0, hW0⟩ : ∃ W0, W.drewN nq = W0 := ⟨_, rfl⟩
  have hb0 : Below W.heap.size W W0 := by rw [← hW0]; exact below_drewN W nq
  have HS0 := Lib.hid (HS.out.below hb0)
  have HSB := Lib.hid (HS.out.stays hb0)
  have HP0 := Lib.hid (HP.out.later hb0)
  have HQ := Lib.hid (show W0.heap.size = W.heap.size by rw [← hW0]; rfl)
  rw [hW0, HSE.out]
  clear hW0 hb0 c0 c1
  have hz := HZ.out
  obtain ⟨n, hn⟩ : ∃ n, t.size - a = n := ⟨_, rfl⟩
  rw [hn] at hz
  have HB1 : Hid (a + stopAt p s n 0 = b) := Lib.hid (by rw [← hn]; exact HB.out)
  have HN := Lib.hid hn
  have HZ1 := Lib.hid hz
  have hPlt : P < W.heap.size := by have := HS0.out.1.lt; have := HQ.out; omega
  clear hn hz HZ
  go_loopg [6] n (fun gf s6 wx => s6 = .int .i64 (t.size : Int) ∧ ∃ pos : Nat, wx.heap[W.heap.size]? = some (.stringIter s pos) ∧ Hid (Below W0.heap.size W0 wx) ∧ Hid (a + stopAt p s gf pos = b) ∧ n ≤ pos + gf)
  case atStart => exact ⟨rfl, 0, by have := World.iter_heap W0 s 0; rwa [HQ.out] at this, Lib.hid ((Below.refl _ W0).alloc (Nat.le_refl _) _), HB1, by omega⟩
  case round =>
    obtain ⟨rfl, pos, hit, hbw, hleft, hfu⟩ := hrel
    by_cases hps : pos < s.size
    · obtain ⟨g', rfl⟩ : ∃ g', gk = g' + 1 := ⟨gk - 1, by have := HZ1.out; omega⟩
      have hnx : ∀ ty, (Instr.next (.pointer (some ⟨W.heap.size, 0, none⟩)) true ty).run Tryd.prog wr = _ := fun ty => Lib.run_next_any_at wr W.heap.size s pos ty hit hps
      have hwd := Lib.width_pos s pos
      obtain ⟨R, hR⟩ : ∃ R, (Utf8.decode s pos).1 = R := ⟨_, rfl⟩
      obtain ⟨K, hK⟩ : ∃ K, (Utf8.decode s pos).2 = K := ⟨_, rfl⟩
      have hst : p R = true → stopAt p s (g' + 1) pos = stopAt p s g' (pos + K) := fun h => by rw [stopAt_step hps (by rw [hR]; exact h), hK]
      have hsf : p R = false → stopAt p s (g' + 1) pos = pos := fun h => stopAt_stop hps (by rw [hR]; exact h)
      have hRle : R ≤ 1114111 := by rw [← hR]; exact Lib.rune_le s pos
      rw [hR, hK] at hnx
      rw [hK] at hwd
      have hit2 := Lib.iterAt_heap wr W.heap.size s pos (pos + K) hit
      have hbw2 := Lib.below_iterAt hbw.out (k := W.heap.size) (by rw [HQ.out]; exact Nat.le_refl _) s (pos + K)
      obtain ⟨X, hWd⟩ : ∃ X, wr.iterAt W.heap.size s (pos + K) = X := ⟨_, rfl⟩
      rw [hWd] at hnx hit2 hbw2
      have hltX : W.heap.size < X.heap.size := (Array.getElem?_eq_some_iff.1 hit2).1
      have cS : Calls Tryd.prog g (#[.int .i32 (R : Int)] ++ lb) X _ := HP0.out X R hRle hbw2
      have HBW2 := Lib.hid hbw2
      clear hbw2 hR hK hWd
      cases hsp : p R
      · rw [hsp] at cS
        have hp1 : a + pos = b := by rw [← hsf hsp]; exact hleft.out
        have HP1 := Lib.hid hp1
        have i4 : (a : Int) + (pos : Int) = (b : Int) := by omega
        clear hst hsf hsp hleft hp1
        go_wp2_with (go_at_fn g; refine cS.mono ?_; rintro e W' ⟨rfl, hbc⟩; have HX := Lib.hid (HBW2.out.trans (hbc.mono HBW2.out.size)); have k0 := (HS0.out.below HX.out).1.cell 0; have k1 := (HS0.out.below HX.out).1.cell 1; have f1 := (HS0.out.below HX.out).1.frozen 1)
        go_ret
        exact ⟨rfl, HSB.out.trans ((HS0.out.stays HX.out).trans ((HS0.out.below HX.out).moves hbt))⟩
      · rw [hsp] at cS
        have HL := Lib.hid (show a + stopAt p s g' (pos + K) = b by rw [← hst hsp]; exact hleft.out)
        clear hst hsf hsp hleft
        go_wp2_with (go_at_fn g; refine cS.mono ?_; rintro e W' ⟨rfl, hbc⟩)
        go_roundg g'
        case measure => omega
        case rel => exact ⟨rfl, pos + K, (hbc.block _ hltX).trans hit2, Lib.hid (HBW2.out.trans (hbc.mono HBW2.out.size)), HL, by omega⟩
    · have hnx : ∀ ty, (Instr.next (.pointer (some ⟨W.heap.size, 0, none⟩)) true ty).run Tryd.prog wr = _ := fun ty => Lib.run_next_end_at wr W.heap.size s pos ty hit hps
      have hbe : b = t.size := by
        have h1 := hleft.out
        rw [stopAt_end hps] at h1
        have := HZ1.out; have := HN.out; omega
      subst hbe
      have HX := hbw
      have k0 := (HS0.out.below HX.out).1.cell 0
      have k1 := (HS0.out.below HX.out).1.cell 1
      have f1 := (HS0.out.below HX.out).1.frozen 1
      clear hleft hbw hps
      go_wp2
      go_ret
      exact ⟨rfl, HSB.out.trans ((HS0.out.stays HX.out).trans ((HS0.out.below HX.out).moves hbt))⟩
end Go.Proofs.YtpdepdigacpfiaaDoor
