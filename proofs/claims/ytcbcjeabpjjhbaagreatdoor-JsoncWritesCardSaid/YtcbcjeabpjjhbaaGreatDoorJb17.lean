/- quotedRune · quoted: a text, from its quote on -/
import Derived.StillTailTactics
import Derived.Deep.RegionHeld3
import Derived.Lib.TrimU
import Derived.OwnWalk
import Derived.Laws.BytesArg
import Derived.Laws.AppendOwn
import Derived.Deep.LoopGhost
import Derived.Test.YtcbcjeabpjjhbaaGreatDoorJb16
namespace Go.Proofs.YtcbcjeabpjjhbaaGreatDoor
open Go.RowKit Go.Shelf
set_option linter.unusedVariables false

theorem keep2 {w4 w1 w2 : World} {a0 a1 : Addr} {v0 v1 : Value} (h : Hid (Below w4.heap.size w4 w1) ∧ w1.cell? a0 = some v0 ∧ w1.cell? a1 = some v1) (hb : Below w1.heap.size w1 w2) : Hid (Below w4.heap.size w4 w2) ∧ w2.cell? a0 = some v0 ∧ w2.cell? a1 = some v1 :=
  ⟨Lib.hid (h.1.out.trans (hb.mono h.1.out.size)), cells_keep hb h.2.1, cells_keep hb h.2.2⟩
theorem width_in (s : ByteArray) (h : 0 < s.size) : (Utf8.decode s 0).2 ≤ s.size := by
  by_cases ha : (s[0]'h).toNat < 128
  · rw [decode_ascii s 0 h ha]; exact h
  · have := (decode_wide s 0 h (by omega)).1
    omega
theorem runeJ_low {R : List UInt8} (h : headN R < 32) : runeJ R = .error 30 := by
  cases R with
  | nil => rfl
  | cons c r =>
    unfold runeJ
    simp only
    rw [if_pos (by rw [UInt8.lt_iff_toNat_lt]; exact h)]
theorem runeJ_back {R : List UInt8} (h : headN R = 92) : runeJ R = escJ R := by
  cases R with
  | nil => cases h
  | cons c r =>
    obtain rfl : c = 92 := UInt8.toNat_inj.1 h
    rfl
theorem runeJ_more {R : List UInt8} (h1 : ¬ headN R < 32) (h2 : headN R ≠ 92) : runeJ R = if (Utf8.decode ⟨R.toArray⟩ 0).1 = 65533 ∧ (Utf8.decode ⟨R.toArray⟩ 0).2 = 1 then .error 31 else .ok (((Utf8.decode ⟨R.toArray⟩ 0).1 : Int), R.drop (Utf8.decode ⟨R.toArray⟩ 0).2) := by
  cases R with
  | nil => exact absurd (by show (0 : Nat) < 32; omega) h1
  | cons c r =>
    conv => lhs; unfold runeJ
    simp only
    rw [if_neg (by rw [UInt8.lt_iff_toNat_lt]; exact h1), if_neg (by rintro rfl; exact h2 rfl)]
set_option maxRecDepth 100000 in
set_option maxHeartbeats 4000000 in
theorem quotedRune_any {W : World} {P a n : Nat} {t : ByteArray} (h : Rdr W P t a n) (hR : ReadyJ W) (hP7 : 7 ≤ P) : Calls Tryz.prog 75 #[.pointer (some ⟨P, 0, none⟩)] W (REnds W P t a n (runeJ (rest t a))) := by
  have HS := Lib.hid h
  have HR := Lib.hid hR
  have HP := Lib.hid (peek_any h)
  have hat := h.2.1
  have hsz := h.2.2.1
  obtain ⟨x, hx⟩ : ∃ x, headN (rest t a) = x := ⟨_, rfl⟩
  rw [hx] at HP
  have i0 : (0 : Int) ≤ (x : Int) := by omega
  clear h hR
  by_cases h1 : x < 32
  · have HX := Lib.hid (runeJ_low (by rw [hx]; exact h1))
    have i1 : (x : Int) < 32 := by omega
    clear hx h1
    go_enter Tryz.func75, Tryz.ntmps75
    go_wp2_with fail
    go_at_call 57; refine HP.out.mono ?_; rintro e w1 ⟨rfl, hb1⟩
    have HW1 := Lib.hid (HS.out.stays hb1)
    clear hb1
    have k1 := HW1.out.2.1.cell 1
    go_wp2_with (go_at_call 40; refine (diag_any _ _ _).mono ?_; rintro e w4 ⟨rfl, rfl⟩)
    refine ⟨rfl, ?_⟩
    rw [HX.out]
    exact thrown_new (c := 30) HW1.out (l := (rest t a).length) (rest_back hat)
  · have i1 : ¬ (x : Int) < 32 := by omega
    by_cases h2 : x = 92
    · have HX := Lib.hid (runeJ_back (by rw [hx]; exact h2))
      have q2 : ((x : Int) == 92) = true := by rw [h2]; rfl
      clear hx h1 h2
      go_enter Tryz.func75, Tryz.ntmps75
      go_wp2_with fail
      go_at_call 57; refine HP.out.mono ?_; rintro e w1 ⟨rfl, hb1⟩
      have HW1 := Lib.hid (HS.out.stays hb1)
      have HE := Lib.hid (escape_any HW1.out.2 (HR.out.below hb1) hP7)
      clear hb1
      go_wp2_with fail
      cases hpr : escJ (rest t a) with
      | ok y =>
        obtain ⟨x, R'⟩ := y
        rw [hpr] at HE HX
        clear hpr
        go_wp2_with (go_at_call 97; refine HE.out.mono ?_; rintro e w2 ⟨rfl, a', hw2, hr2⟩)
        go_ret
        rw [HX.out]
        exact ⟨rfl, a', HW1.out.trans hw2, hr2⟩
      | error c =>
        rw [hpr] at HE HX
        clear hpr
        go_wp2_with (go_at_call 97; refine HE.out.mono ?_; rintro e w2 ⟨D, rfl, h1, h2, h3⟩)
        refine ⟨rfl, ?_⟩
        rw [HX.out]
        exact Thrown.after ⟨D, rfl, h1, h2, h3⟩ HW1.out.1
    · have q2 : ((x : Int) == 92) = false := beq_eq_false_iff_ne.2 (by omega)
      have hX := runeJ_more (R := rest t a) (by rw [hx]; exact h1) (by rw [hx]; exact h2)
      have hal : a < t.size := by
        rcases Nat.lt_or_ge a t.size with h | h
        · exact h
        · rw [rest_nil h] at hx
          exact absurd (show x < 32 by rw [← hx]; show (0 : Nat) < 32; omega) h1
      obtain ⟨s, hs⟩ : ∃ s, t.extract a t.size = s := ⟨_, rfl⟩
      have hse : (⟨(rest t a).toArray⟩ : ByteArray) = s := by rw [← hs]; exact (str_eq (rest_extract t a)).symm
      rw [hse] at hX
      have hss : s.size = t.size - a := by rw [← hs]; simp
      have hw0 := Lib.width_pos s 0
      have hwi := width_in s (by omega)
      have hrl := Lib.rune_le s 0
      have hdg : Lib.decodeGo s = Utf8.decode s 0 := by unfold Lib.decodeGo; rw [if_neg (by omega)]
      have hcon := fun (w : World) (hT : Lib.Utf8Tabs 0 1 w) => Tryz.utf8_DecodeRuneInString s w hT
      rw [hdg] at hcon
      obtain ⟨p, hp⟩ : ∃ p, (Utf8.decode s 0).1 = p := ⟨_, rfl⟩
      obtain ⟨q, hq⟩ : ∃ q, (Utf8.decode s 0).2 = q := ⟨_, rfl⟩
      rw [hp, hq] at hX
      simp only [hp, hq] at hcon
      rw [hp] at hrl
      rw [hq] at hw0 hwi
      have HCON := Lib.hid hcon
      have HSS := Lib.hid hs
      have j0 : (0 : Int) ≤ (a : Int) := by omega
      have j1 : (a : Int) ≤ (t.size : Int) := by omega
      have j2 : (0 : Int) ≤ (q : Int) := by omega
      have j3 : (a : Int) + (q : Int) ≤ (t.size : Int) := by omega
      clear hx h1 h2 hs hse hdg hcon hp
      by_cases hbad : p = 65533 ∧ q = 1
      · rw [if_pos hbad] at hX
        have HX := Lib.hid hX
        obtain ⟨rfl, rfl⟩ := hbad
        clear hX hq
        go_enter Tryz.func75, Tryz.ntmps75
        go_wp2_with fail
        go_at_call 57; refine HP.out.mono ?_; rintro e w1 ⟨rfl, hb1⟩
        have HW1 := Lib.hid (HS.out.stays hb1)
        have HR1 := Lib.hid (HR.out.below hb1)
        clear hb1
        have k0 := HW1.out.2.1.cell 0
        have k1 := HW1.out.2.1.cell 1
        go_wp2_with fail
        have HS9 : Hid (Below w1.heap.size w1 w1.drew) ∧ w1.drew.cell? ⟨P, 0, none⟩ = some (.string t) ∧ w1.drew.cell? ⟨P, 1, none⟩ = some (.int .i64 (a : Int)) := ⟨Lib.hid (below_drew w1), k0, k1⟩
        go_region_held3 (fun w' => Hid (Below w1.heap.size w1 w') ∧ w'.cell? ⟨P, 0, none⟩ = some (.string t) ∧ w'.cell? ⟨P, 1, none⟩ = some (.int .i64 (a : Int)))
          (first | with_reducible exact HS9 | (with_reducible exact keep2 (by assumption) (by assumption)))
          (first | (go_at_call 98; rw [HSS.out]; (with_reducible refine (HCON.out _ ?_).mono ?_); (have hbS := ‹Hid (Below w1.heap.size w1 _) ∧ _›.1.out; exact (HR1.out.below hbS).tabs); rintro e w3 ⟨rfl, hb3⟩; have HB3 := Lib.hid ((‹Hid (Below w1.heap.size w1 _) ∧ _›.1.out).trans (hb3.mono (‹Hid (Below w1.heap.size w1 _) ∧ _›.1.out).size))))
        have HW3 := Lib.hid (HW1.out.trans (HW1.out.2.stays HB3.out))
        clear hb3 k0 k1
        have k1 := HW3.out.2.1.cell 1
        go_wp2_with (go_at_call 40; refine (diag_any _ _ _).mono ?_; rintro e w4 ⟨rfl, rfl⟩)
        refine ⟨rfl, ?_⟩
        rw [HX.out]
        exact thrown_new (c := 31) HW3.out (l := (rest t a).length) (rest_back hat)
      · rw [if_neg hbad] at hX
        have HX := Lib.hid hX
        clear hX hq
        have hbb : ((p : Int) == 65533) = false ∨ (((p : Int) == 65533) = true ∧ ((q : Int) == 1) = false) := by
          by_cases hp : p = 65533
          · right
            refine ⟨beq_iff_eq.2 (by omega), beq_eq_false_iff_ne.2 (fun e => hbad ⟨hp, by omega⟩)⟩
          · left
            exact beq_eq_false_iff_ne.2 (by omega)
        clear hbad
        rcases hbb with hb1 | ⟨hb1, hb2⟩
        all_goals
          go_enter Tryz.func75, Tryz.ntmps75
          go_wp2_with fail
          go_at_call 57; refine HP.out.mono ?_; rintro e w1 ⟨rfl, hb1⟩
          have HW1 := Lib.hid (HS.out.stays hb1)
          have HR1 := Lib.hid (HR.out.below hb1)
          clear hb1
          have k0 := HW1.out.2.1.cell 0
          have k1 := HW1.out.2.1.cell 1
          go_wp2_with fail
          have HS9 : Hid (Below w1.heap.size w1 w1.drew) ∧ w1.drew.cell? ⟨P, 0, none⟩ = some (.string t) ∧ w1.drew.cell? ⟨P, 1, none⟩ = some (.int .i64 (a : Int)) := ⟨Lib.hid (below_drew w1), k0, k1⟩
          go_region_held3 (fun w' => Hid (Below w1.heap.size w1 w') ∧ w'.cell? ⟨P, 0, none⟩ = some (.string t) ∧ w'.cell? ⟨P, 1, none⟩ = some (.int .i64 (a : Int)))
            (first | with_reducible exact HS9 | (with_reducible exact keep2 (by assumption) (by assumption)))
            (first | (go_at_call 98; rw [HSS.out]; (with_reducible refine (HCON.out _ ?_).mono ?_); (have hbS := ‹Hid (Below w1.heap.size w1 _) ∧ _›.1.out; exact (HR1.out.below hbS).tabs); rintro e w3 ⟨rfl, hb3⟩; have HB3 := Lib.hid ((‹Hid (Below w1.heap.size w1 _) ∧ _›.1.out).trans (hb3.mono (‹Hid (Below w1.heap.size w1 _) ∧ _›.1.out).size))))
          have HW3 := Lib.hid (HW1.out.trans (HW1.out.2.stays HB3.out))
          clear hb3 k0 k1
          have k1 := HW3.out.2.1.cell 1
          have f1 := HW3.out.2.1.frozen 1
          go_wp2
          go_ret
          rw [HX.out]
          refine ⟨rfl, a + q, ?_, by rw [rest_add]⟩
          have := HW3.out.trans (HW3.out.2.moves (b := a + q) (by omega))
          simpa using this
end Go.Proofs.YtcbcjeabpjjhbaaGreatDoor
namespace Go.Proofs.YtcbcjeabpjjhbaaGreatDoor
open Go.RowKit Go.Shelf
set_option linter.unusedVariables false

theorem pairL_len {R R' : List UInt8} {x : Int} (h : pairL R = .ok (x, R')) : R'.length < R.length ∧ 0 ≤ x ∧ x ≤ 1114111 := by
  unfold pairL at h
  have hr := unitL_range R
  have hr2 := unitL_range (R.drop 6)
  split at h
  · rename_i hv
    cases h
    have h0 : 0 ≤ unitL R := by
      unfold Utf8.valid at hv
      simp at hv
      omega
    have := unitL_len h0
    refine ⟨by rw [List.length_drop]; omega, h0, by omega⟩
  · split at h
    · cases h
    · rename_i hn
      cases h
      have h0 := unitL_len (R := R) (by omega)
      have h1 := unitL_len (R := R.drop 6) (by omega)
      rw [List.length_drop] at h1
      refine ⟨by rw [List.length_drop]; omega, by omega, by omega⟩
theorem escJ_len {R R' : List UInt8} {x : Int} (h : escJ R = .ok (x, R')) : R'.length < R.length ∧ 0 ≤ x ∧ x ≤ 1114111 := by
  unfold escJ at h
  split at h
  · rename_i c r
    split at h
    · cases h; simp; omega
    · split at h
      · rename_i y hy
        cases h
        refine ⟨by simp; omega, ?_⟩
        unfold letterJ at hy
        repeat (split at hy; · cases hy; omega)
        cases hy
      · exact pairL_len h
  · exact pairL_len h
theorem runeJ_len {R R' : List UInt8} {x : Int} (h : runeJ R = .ok (x, R')) : R'.length < R.length ∧ 0 ≤ x ∧ x ≤ 1114111 := by
  cases R with
  | nil => cases h
  | cons c r =>
    by_cases h1 : headN (c :: r) < 32
    · rw [runeJ_low h1] at h; cases h
    · by_cases h2 : headN (c :: r) = 92
      · rw [runeJ_back h2] at h; exact escJ_len h
      · rw [runeJ_more h1 h2] at h
        split at h
        · cases h
        · cases h
          have hw := Lib.width_pos ⟨(c :: r).toArray⟩ 0
          have hr := Lib.rune_le ⟨(c :: r).toArray⟩ 0
          refine ⟨by rw [List.length_drop]; simp only [List.length_cons]; omega, by omega, by omega⟩
theorem textJ_end {f : Nat} {R acc : List UInt8} (h : Lib.hasPrefix R [34] = true) : textJ (f + 1) R acc = .ok (acc, R.drop 1) := by
  unfold textJ; rw [if_pos h]
theorem textJ_ok {f : Nat} {R acc R' : List UInt8} {x : Int} (h : Lib.hasPrefix R [34] = false) (hr : runeJ R = .ok (x, R')) : textJ (f + 1) R acc = textJ f R' (acc ++ Lib.encodeRune x) := by
  conv => lhs; unfold textJ
  rw [if_neg (by rw [h]; decide), hr]
theorem textJ_err {f : Nat} {R acc : List UInt8} {c : Int} (h : Lib.hasPrefix R [34] = false) (hr : runeJ R = .error c) : textJ (f + 1) R acc = .error (c, R.length) := by
  unfold textJ
  rw [if_neg (by rw [h]; decide), hr]
theorem row_aside {w w' : World} {P B e size n : Nat} {v : Value} {xs : List Value} (h : w.ownsRow B e size v n xs) (ha : Aside P w w') (hP : P < B) : w'.ownsRow B e size v n xs := by
  obtain ⟨h1, h2⟩ := h
  refine ⟨h1, ?_⟩
  rcases h2 with h2 | ⟨g, cap, cur, rfl, h3, h4, h5⟩
  · exact .inl h2
  · exact .inr ⟨g, cap, cur, rfl, h3, (ha.block g (Array.getElem?_eq_some_iff.1 h4).1 (by omega)).trans h4, h5⟩
theorem went_grown {W w1 w2 : World} {P a n : Nat} {t : ByteArray} (h : Went W w1 P t a n) (hP : P < W.heap.size) {o : Obj} {row : Option Nat} (hg : (w1.alloc o).grownBy w2 row) (hr : ∀ k, row = some k → W.heap.size ≤ k) : Went W w2 P t a n := by
  have hP1 : P < w1.heap.size := h.2.1.lt
  have hne : ∀ k, k < W.heap.size → some k ≠ row := fun k hk e => by have := hr k e.symm; omega
  refine ⟨⟨?_, ?_, ?_, ?_, fun k hk hkP => ?_⟩, ?_, h.2.2⟩
  · exact hg.os.trans h.1.os
  · exact hg.tape.trans h.1.tape
  · exact hg.output.trans h.1.output
  · have := hg.size; have := h.1.size; simp at *; omega
  · rw [hg.block k (by have := h.1.size; simp; omega) (hne k hk), Below.heap_alloc w1 o k (by have := h.1.size; omega)]
    exact h.1.block k hk hkP
  · show w2.heap[P]? = _
    rw [hg.block P (by simp; omega) (hne P hP), Below.heap_alloc w1 o P hP1]
    exact h.2.1
theorem own_base' {w : World} {B e size n : Nat} {v : Value} {xs : List Value} (h : w.ownsRow B e size v n xs) : ∀ k, v.ownBlock = some k → B ≤ k := by
  rcases h.2 with ⟨rfl, -⟩ | ⟨g, cap, cur, rfl, h3, -⟩
  · intro k hk; cases hk
  · intro k hk; cases hk; exact h3
theorem quotedJ_ok {R : List UInt8} {acc R' : List UInt8} (h : textJ R.length (R.drop 1) [] = .ok (acc, R')) (hl : ¬ 16384 < acc.length) : quotedJ R = .ok (⟨acc.toArray⟩, R') := by
  unfold quotedJ; rw [h]; simp only; rw [if_neg hl]
theorem quotedJ_long {R : List UInt8} {acc R' : List UInt8} (h : textJ R.length (R.drop 1) [] = .ok (acc, R')) (hl : 16384 < acc.length) : quotedJ R = .error (3, R.length) := by
  unfold quotedJ; rw [h]; simp only; rw [if_pos hl]
theorem quotedJ_err {R : List UInt8} {b : Bad} (h : textJ R.length (R.drop 1) [] = .error b) : quotedJ R = .error b := by
  unfold quotedJ; rw [h]
/-- How quoted ends. -/
def QEnds (W : World) (P : Nat) (t : ByteArray) (n : Nat) (r : Except Bad (ByteArray × List UInt8)) (e : Ending) (w' : World) : Prop :=
  match r with
  | .ok (s, R') => e = .returned (.string s) ∧ ∃ a', Went W w' P t a' n ∧ rest t a' = R'
  | .error b => Thrown W P t b e w'
set_option maxRecDepth 100000 in
set_option maxHeartbeats 8000000 in
theorem quoted_any {W : World} {P a n : Nat} {t : ByteArray} (h : Rdr W P t a n) (hR : ReadyJ W) (hP7 : 7 ≤ P) (hal : a < t.size) : Calls Tryz.prog 59 #[.pointer (some ⟨P, 0, none⟩)] W (QEnds W P t n (quotedJ (rest t a))) := by
  have HS := Lib.hid h
  have HR := Lib.hid hR
  have hsz := h.2.2.1
  have hPlt := h.1.lt
  have k1 := h.1.cell 1
  have f1 := h.1.frozen 1
  have hF := rest_length t a
  have i0 : (0 : Int) ≤ (a : Int) := by omega
  have i1 : (a : Int) < (t.size : Int) := by omega
  have HM := Lib.hid (h.moves (b := a + 1) (by omega))
  have HRM := Lib.hid (hR.aside HM.out.1 hP7)
  obtain ⟨X, hX⟩ : ∃ X, textJ (rest t a).length ((rest t a).drop 1) [] = X := ⟨_, rfl⟩
  obtain ⟨F, hFF⟩ : ∃ F, (rest t a).length = F := ⟨_, rfl⟩
  rw [hFF] at hF
  have HX := Lib.hid hX
  have HX0 : Hid (textJ F (rest t (a + 1)) [] = X) := Lib.hid (by rw [rest_add, ← hFF]; exact hX)
  have HFF := Lib.hid hFF
  have hl1 := rest_length t (a + 1)
  have HAR := Lib.hid (fun (v : Value) (m : Nat) (xs : List Value) (r : Int) (h0 : 0 ≤ r) (hr : r ≤ 1114111) (w : World) (hown : w.ownsRow W.heap.size 5 1 v m xs) (hlen : m + 4 ≤ 140737488355328) (hBw : W.heap.size ≤ w.heap.size) => Tryz.utf8_AppendRune_plain W.heap.size v m xs r (by omega) (by omega) w hown hlen hBw)
  clear h hR hX hFF
  go_enter Tryz.func59, Tryz.ntmps59
  go_wp2_with fail
  have HM' : Hid (Went W (W.setCell ⟨P, 1, none⟩ (.int .i64 ((a : Int) + 1))) P t (a + 1) n) := Lib.hid (by simpa using HM.out)
  have HRM' : Hid (ReadyJ (W.setCell ⟨P, 1, none⟩ (.int .i64 ((a : Int) + 1)))) := Lib.hid (by simpa using HRM.out)
  clear HM HRM
  obtain ⟨W0, hW0⟩ : ∃ W0, W.setCell ⟨P, 1, none⟩ (.int .i64 ((a : Int) + 1)) = W0 := ⟨_, rfl⟩
  rw [hW0] at HM' HRM'
  rw [hW0]
  clear hW0 k1 f1
  go_loopg [4] F (fun gf s4 wx => ∃ (c : Nat) (acc : List UInt8), Hid (Went W wx P t c n) ∧ Hid (ReadyJ wx) ∧ Hid (wx.ownsRow W.heap.size 5 1 s4 acc.length (Lib.byteCells acc)) ∧ Hid (textJ gf (rest t c) acc = X) ∧ t.size - c < gf ∧ acc.length + 4 * gf ≤ 4 * F)
  case atStart => exact ⟨a + 1, [], HM', HRM', Lib.hid ⟨rfl, .inl ⟨rfl, rfl⟩⟩, HX0, by omega, by simp⟩
  case round =>
    obtain ⟨c, acc, HW, HRW, HO, HE, hfu, hacl⟩ := hrel
    obtain ⟨g', rfl⟩ : ∃ g', gk = g' + 1 := ⟨gk - 1, by omega⟩
    have hlc := rest_length t c
    cases hq : Lib.hasPrefix (rest t c) [34]
    · have HK := Lib.hid (skip_b HW.out.2 ⟨#[34]⟩ hq)
      have HQ := Lib.hid hq
      clear hq
      go_wp2_with fail
      go_at_call 65; refine HK.out.mono ?_; rintro e w1 ⟨rfl, hw1⟩
      have HW1 := Lib.hid (show Went W w1 P t c n from HW.out.trans hw1)
      have HRW1 := Lib.hid (HRW.out.aside hw1.1 hP7)
      have HO1 := Lib.hid (row_aside HO.out hw1.1 hPlt)
      have HQR := Lib.hid (quotedRune_any HW1.out.2 HRW1.out hP7)
      clear hw1
      go_wp2_with fail
      cases hpr : runeJ (rest t c) with
      | ok y =>
        obtain ⟨x, R'⟩ := y
        have hlen := runeJ_len hpr
        obtain ⟨hln, hx0, hx1⟩ := hlen
        have HE2 := Lib.hid (HE.out.symm.trans (textJ_ok HQ.out hpr))
        rw [hpr] at HQR
        obtain ⟨E, hE⟩ : ∃ E, Lib.encodeRune x = E := ⟨_, rfl⟩
        have hcells : Lib.runeCells x = Lib.byteCells E := by rw [← hE, Lib.byteCells_encodeRune]
        have hEl : E.length ≤ 4 := by
          rw [← hE]
          unfold Lib.encodeRune
          rw [List.length_map]
          exact (Lib.encodeRuneZ_length x).2
        rw [hE] at HE2
        have HC := Lib.hid hcells
        clear hpr hE hcells
        go_at_call 75; refine HQR.out.mono ?_; rintro e w2 ⟨rfl, c', hw2, hc'⟩
        have HW2 := Lib.hid (HW1.out.trans hw2)
        have HRW2 := Lib.hid (HRW1.out.aside hw2.1 hP7)
        have HO2 := Lib.hid (row_aside HO1.out hw2.1 hPlt)
        have hlc' : t.size - c' = R'.length := by rw [← hc', rest_length]
        have HC' := Lib.hid hc'
        clear hw2 hc'
        have HCon := Lib.hid (HAR.out u4 acc.length (Lib.byteCells acc) x hx0 hx1 w2 HO2.out (by omega) HW2.out.1.size)
        go_wp2_with fail
        go_at_call 72; refine HCon.out.mono ?_; rintro e w3 ⟨v', rfl, hown', o, hgrow⟩
        have HRow := Lib.hid hown'
        have HW3 := Lib.hid (went_grown HW2.out hPlt hgrow (own_base' HO2.out))
        have HRW3 : Hid (ReadyJ w3) := Lib.hid (by
          have hb : Below 7 w2 w3 := by
            have hs := HW2.out.1.size
            refine ((Below.refl 7 w2).alloc (by omega) o).grown hgrow (by simp; omega) (fun q hq => ?_)
            have := own_base' HO2.out q hq
            omega
          exact HRW2.out.below7 hb)
        clear hown' hgrow HCon
        go_wp2_with fail
        go_roundg g'
        case measure => omega
        case rel => exact ⟨c', acc ++ E, HW3, HRW3, Lib.hid (by
          have := HRow.out
          rw [HC.out, Lib.byteCells_length] at this
          rw [Lib.byteCells_append, List.length_append]
          exact this), Lib.hid (by rw [HC'.out]; exact HE2.out.symm), by omega, by rw [List.length_append]; omega⟩
      | error d =>
        rw [hpr] at HQR
        have HE2 := Lib.hid (HE.out.symm.trans (textJ_err HQ.out hpr))
        clear hpr
        go_at_call 75; refine HQR.out.mono ?_; rintro e w2 ⟨D, rfl, h1, h2, h3⟩
        refine ⟨rfl, ?_⟩
        rw [quotedJ_err (HX.out.trans HE2.out)]
        rw [show ((rest t c).length) = (rest t c).length from rfl]
        exact Thrown.after ⟨D, rfl, h1, h2, h3⟩ HW1.out.1
    · have HK := Lib.hid (skip_b HW.out.2 ⟨#[34]⟩ hq)
      have HE2 := Lib.hid (HE.out.symm.trans (textJ_end hq))
      clear hq
      go_wp2_with fail
      go_at_call 65; refine HK.out.mono ?_; rintro e w1 ⟨rfl, hw1⟩
      have HW1 := Lib.hid (show Went W w1 P t (c + 1) n from HW.out.trans hw1)
      have HO1 := Lib.hid (row_aside HO.out hw1.1 hPlt)
      clear hw1
      obtain ⟨ad, cap, hu⟩ := row_shape HO1.out
      subst hu
      have hcv : (convert 44 9 (.slice ad acc.length cap)).run Tryz.prog w1 = .ok (.string ⟨acc.toArray⟩) w1 := by
        rcases HO1.out.2 with ⟨h1, h2⟩ | ⟨g, cap', cur, h1, h3, h4, h5, h6, h7, h8⟩
        · obtain rfl : acc = [] := List.length_eq_zero_iff.1 h2
          cases h1
          exact run_convert_bytes_nil (P := Tryz.prog) w1 44 5 Tryz.underlying44 Tryz.underlying5 0 0 9 Tryz.underlying9
        · cases h1
          refine run_convert_bytes_back (P := Tryz.prog) w1 44 9 5 ⟨g, 0, none⟩ cap acc Tryz.underlying44 Tryz.underlying5 Tryz.underlying9 (fun j hj => ?_)
          have := World.ownsRow.cells HO1.out (g := g) rfl j (.int .u8 (acc[j].toNat : Int)) (by simp [Lib.byteCells, hj])
          exact this
      by_cases hlong : 16384 < acc.length
      · have HQJ := Lib.hid (quotedJ_long (HX.out.trans HE2.out) hlong)
        have j1 : (16384 : Int) < (acc.length : Int) := by omega
        clear hlong
        go_wp2_with (go_at_call 40; refine (diag_any _ _ _).mono ?_; rintro e w4 ⟨rfl, rfl⟩)
        refine ⟨rfl, ?_⟩
        rw [HQJ.out]
        exact ⟨w1.heap.size, rfl, HW1.out.1.size, by have := Blk.new w1 #[.int .i64 3, .string ⟨#[]⟩, .int .i64 (a : Int)] 48; simpa [rest_back (Nat.le_of_lt hal)] using this, HW1.out.1.trans (Aside.of (below_new0 _ _))⟩
      · have HQJ := Lib.hid (quotedJ_ok (HX.out.trans HE2.out) hlong)
        have j1 : ¬ (16384 : Int) < (acc.length : Int) := by omega
        clear hlong
        go_wp2
        go_ret
        rw [HQJ.out]
        exact ⟨rfl, c + 1, HW1.out, rest_add t c 1⟩
end Go.Proofs.YtcbcjeabpjjhbaaGreatDoor
