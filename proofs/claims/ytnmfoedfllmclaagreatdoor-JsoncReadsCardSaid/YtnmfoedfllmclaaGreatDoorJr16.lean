/- quoted: a text, from its quote on · Bytes that grow: what appends of a text's pieces leave · appendRune: any rune -/
import Derived.OwnWalk
import Derived.Laws.BytesArg
import Derived.Laws.AppendOwn
import Derived.Deep.LoopGhost
import Derived.Lib.AppendStr
import Derived.Deep.AppendLies
import Derived.Deep.RegionHeld2
import Derived.Test.YtnmfoedfllmclaaGreatDoorJr15
namespace Go.Proofs.YtnmfoedfllmclaaGreatDoor
open Go.RowKit Go.Shelf
set_option linter.unusedVariables false

theorem pairL_len {R R' : List UInt8} {x : Int} (h : pairL R = .ok (x, R')) : R'.length < R.length ∧ 0 ≤ x ∧ x ≤ 1114111 := by
  unfold pairL at h
  have hr := unitL_range R
  have hr2 := unitL_range (R.drop 6)
  split at h
  · rename_i hv
    cases h
    have h0 : 0 ≤ unitL R := by
      unfold Utf8.valid at hv
      simp at hv
      omega
    have := unitL_len h0
    refine ⟨by rw [List.length_drop]; omega, h0, by omega⟩
  · split at h
    · cases h
    · rename_i hn
      cases h
      have h0 := unitL_len (R := R) (by omega)
      have h1 := unitL_len (R := R.drop 6) (by omega)
      rw [List.length_drop] at h1
      refine ⟨by rw [List.length_drop]; omega, by omega, by omega⟩
theorem escJ_len {R R' : List UInt8} {x : Int} (h : escJ R = .ok (x, R')) : R'.length < R.length ∧ 0 ≤ x ∧ x ≤ 1114111 := by
  unfold escJ at h
  split at h
  · rename_i c r
    split at h
    · cases h; simp; omega
    · split at h
      · rename_i y hy
        cases h
        refine ⟨by simp; omega, ?_⟩
        unfold letterJ at hy
        repeat (split at hy; · cases hy; omega)
        cases hy
      · exact pairL_len h
  · exact pairL_len h
theorem runeJ_len {R R' : List UInt8} {x : Int} (h : runeJ R = .ok (x, R')) : R'.length < R.length ∧ 0 ≤ x ∧ x ≤ 1114111 := by
  cases R with
  | nil => cases h
  | cons c r =>
    by_cases h1 : headN (c :: r) < 32
    · rw [runeJ_low h1] at h; cases h
    · by_cases h2 : headN (c :: r) = 92
      · rw [runeJ_back h2] at h; exact escJ_len h
      · rw [runeJ_more h1 h2] at h
        split at h
        · cases h
        · cases h
          have hw := Lib.width_pos ⟨(c :: r).toArray⟩ 0
          have hr := Lib.rune_le ⟨(c :: r).toArray⟩ 0
          refine ⟨by rw [List.length_drop]; simp only [List.length_cons]; omega, by omega, by omega⟩
theorem textJ_end {f : Nat} {R acc : List UInt8} (h : Lib.hasPrefix R [34] = true) : textJ (f + 1) R acc = .ok (acc, R.drop 1) := by
  unfold textJ; rw [if_pos h]
theorem textJ_ok {f : Nat} {R acc R' : List UInt8} {x : Int} (h : Lib.hasPrefix R [34] = false) (hr : runeJ R = .ok (x, R')) : textJ (f + 1) R acc = textJ f R' (acc ++ Lib.encodeRune x) := by
  conv => lhs; unfold textJ
  rw [if_neg (by rw [h]; decide), hr]
theorem textJ_err {f : Nat} {R acc : List UInt8} {c : Int} (h : Lib.hasPrefix R [34] = false) (hr : runeJ R = .error c) : textJ (f + 1) R acc = .error (c, R.length) := by
  unfold textJ
  rw [if_neg (by rw [h]; decide), hr]
theorem row_aside {w w' : World} {P B e size n : Nat} {v : Value} {xs : List Value} (h : w.ownsRow B e size v n xs) (ha : Aside P w w') (hP : P < B) : w'.ownsRow B e size v n xs := by
  obtain ⟨h1, h2⟩ := h
  refine ⟨h1, ?_⟩
  rcases h2 with h2 | ⟨g, cap, cur, rfl, h3, h4, h5⟩
  · exact .inl h2
  · exact .inr ⟨g, cap, cur, rfl, h3, (ha.block g (Array.getElem?_eq_some_iff.1 h4).1 (by omega)).trans h4, h5⟩
theorem went_grown {W w1 w2 : World} {P a n : Nat} {t : ByteArray} (h : Went W w1 P t a n) (hP : P < W.heap.size) {o : Obj} {row : Option Nat} (hg : (w1.alloc o).grownBy w2 row) (hr : ∀ k, row = some k → W.heap.size ≤ k) : Went W w2 P t a n := by
  have hP1 : P < w1.heap.size := h.2.1.lt
  have hne : ∀ k, k < W.heap.size → some k ≠ row := fun k hk e => by have := hr k e.symm; omega
  refine ⟨⟨?_, ?_, ?_, ?_, fun k hk hkP => ?_⟩, ?_, h.2.2⟩
  · exact hg.os.trans h.1.os
  · exact hg.tape.trans h.1.tape
  · exact hg.output.trans h.1.output
  · have := hg.size; have := h.1.size; simp at *; omega
  · rw [hg.block k (by have := h.1.size; simp; omega) (hne k hk), Below.heap_alloc w1 o k (by have := h.1.size; omega)]
    exact h.1.block k hk hkP
  · show w2.heap[P]? = _
    rw [hg.block P (by simp; omega) (hne P hP), Below.heap_alloc w1 o P hP1]
    exact h.2.1
theorem own_base' {w : World} {B e size n : Nat} {v : Value} {xs : List Value} (h : w.ownsRow B e size v n xs) : ∀ k, v.ownBlock = some k → B ≤ k := by
  rcases h.2 with ⟨rfl, -⟩ | ⟨g, cap, cur, rfl, h3, -⟩
  · intro k hk; cases hk
  · intro k hk; cases hk; exact h3
theorem quotedJ_ok {R : List UInt8} {acc R' : List UInt8} (h : textJ R.length (R.drop 1) [] = .ok (acc, R')) (hl : ¬ 16384 < acc.length) : quotedJ R = .ok (⟨acc.toArray⟩, R') := by
  unfold quotedJ; rw [h]; simp only; rw [if_neg hl]
theorem quotedJ_long {R : List UInt8} {acc R' : List UInt8} (h : textJ R.length (R.drop 1) [] = .ok (acc, R')) (hl : 16384 < acc.length) : quotedJ R = .error (3, R.length) := by
  unfold quotedJ; rw [h]; simp only; rw [if_pos hl]
theorem quotedJ_err {R : List UInt8} {b : Bad} (h : textJ R.length (R.drop 1) [] = .error b) : quotedJ R = .error b := by
  unfold quotedJ; rw [h]
/-- How quoted ends. -/
def QEnds (W : World) (P : Nat) (t : ByteArray) (n : Nat) (r : Except Bad (ByteArray × List UInt8)) (e : Ending) (w' : World) : Prop :=
  match r with
  | .ok (s, R') => e = .returned (.string s) ∧ ∃ a', Went W w' P t a' n ∧ rest t a' = R'
  | .error b => Thrown W P t b e w'
set_option maxRecDepth 100000 in
set_option maxHeartbeats 8000000 in
theorem quoted_any {W : World} {P a n : Nat} {t : ByteArray} (h : Rdr W P t a n) (hR : ReadyJ W) (hP7 : 7 ≤ P) (hal : a < t.size) : Calls Tryz.prog 59 #[.pointer (some ⟨P, 0, none⟩)] W (QEnds W P t n (quotedJ (rest t a))) := by
  have HS := Lib.hid h
  have HR := Lib.hid hR
  have hsz := h.2.2.1
  have hPlt := h.1.lt
  have k1 := h.1.cell 1
  have f1 := h.1.frozen 1
  have hF := rest_length t a
  have i0 : (0 : Int) ≤ (a : Int) := by omega
  have i1 : (a : Int) < (t.size : Int) := by omega
  have HM := Lib.hid (h.moves (b := a + 1) (by omega))
  have HRM := Lib.hid (hR.aside HM.out.1 hP7)
  obtain ⟨X, hX⟩ : ∃ X, textJ (rest t a).length ((rest t a).drop 1) [] = X := ⟨_, rfl⟩
  obtain ⟨F, hFF⟩ : ∃ F, (rest t a).length = F := ⟨_, rfl⟩
  rw [hFF] at hF
  have HX := Lib.hid hX
  have HX0 : Hid (textJ F (rest t (a + 1)) [] = X) := Lib.hid (by rw [rest_add, ← hFF]; exact hX)
  have HFF := Lib.hid hFF
  have hl1 := rest_length t (a + 1)
  have HAR := Lib.hid (fun (v : Value) (m : Nat) (xs : List Value) (r : Int) (h0 : 0 ≤ r) (hr : r ≤ 1114111) (w : World) (hown : w.ownsRow W.heap.size 5 1 v m xs) (hlen : m + 4 ≤ 140737488355328) (hBw : W.heap.size ≤ w.heap.size) => Tryz.utf8_AppendRune_plain W.heap.size v m xs r (by omega) (by omega) w hown hlen hBw)
  clear h hR hX hFF
  go_enter Tryz.func59, Tryz.ntmps59
  go_wp2_with fail
  have HM' : Hid (Went W (W.setCell ⟨P, 1, none⟩ (.int .i64 ((a : Int) + 1))) P t (a + 1) n) := Lib.hid (by simpa using HM.out)
  have HRM' : Hid (ReadyJ (W.setCell ⟨P, 1, none⟩ (.int .i64 ((a : Int) + 1)))) := Lib.hid (by simpa using HRM.out)
  clear HM HRM
  obtain ⟨W0, hW0⟩ : ∃ W0, W.setCell ⟨P, 1, none⟩ (.int .i64 ((a : Int) + 1)) = W0 := ⟨_, rfl⟩
  rw [hW0] at HM' HRM'
  rw [hW0]
  clear hW0 k1 f1
  go_loopg [4] F (fun gf s4 wx => ∃ (c : Nat) (acc : List UInt8), Hid (Went W wx P t c n) ∧ Hid (ReadyJ wx) ∧ Hid (wx.ownsRow W.heap.size 5 1 s4 acc.length (Lib.byteCells acc)) ∧ Hid (textJ gf (rest t c) acc = X) ∧ t.size - c < gf ∧ acc.length + 4 * gf ≤ 4 * F)
  case atStart => exact ⟨a + 1, [], HM', HRM', Lib.hid ⟨rfl, .inl ⟨rfl, rfl⟩⟩, HX0, by omega, by simp⟩
  case round =>
    obtain ⟨c, acc, HW, HRW, HO, HE, hfu, hacl⟩ := hrel
    obtain ⟨g', rfl⟩ : ∃ g', gk = g' + 1 := ⟨gk - 1, by omega⟩
    have hlc := rest_length t c
    cases hq : Lib.hasPrefix (rest t c) [34]
    · have HK := Lib.hid (skip_b HW.out.2 ⟨#[34]⟩ hq)
      have HQ := Lib.hid hq
      clear hq
      go_wp2_with fail
      go_at_call 65; refine HK.out.mono ?_; rintro e w1 ⟨rfl, hw1⟩
      have HW1 := Lib.hid (show Went W w1 P t c n from HW.out.trans hw1)
      have HRW1 := Lib.hid (HRW.out.aside hw1.1 hP7)
      have HO1 := Lib.hid (row_aside HO.out hw1.1 hPlt)
      have HQR := Lib.hid (quotedRune_any HW1.out.2 HRW1.out hP7)
      clear hw1
      go_wp2_with fail
      cases hpr : runeJ (rest t c) with
      | ok y =>
        obtain ⟨x, R'⟩ := y
        have hlen := runeJ_len hpr
        obtain ⟨hln, hx0, hx1⟩ := hlen
        have HE2 := Lib.hid (HE.out.symm.trans (textJ_ok HQ.out hpr))
        rw [hpr] at HQR
        obtain ⟨E, hE⟩ : ∃ E, Lib.encodeRune x = E := ⟨_, rfl⟩
        have hcells : Lib.runeCells x = Lib.byteCells E := by rw [← hE, Lib.byteCells_encodeRune]
        have hEl : E.length ≤ 4 := by
          rw [← hE]
          unfold Lib.encodeRune
          rw [List.length_map]
          exact (Lib.encodeRuneZ_length x).2
        rw [hE] at HE2
        have HC := Lib.hid hcells
        clear hpr hE hcells
        go_at_call 75; refine HQR.out.mono ?_; rintro e w2 ⟨rfl, c', hw2, hc'⟩
        have HW2 := Lib.hid (HW1.out.trans hw2)
        have HRW2 := Lib.hid (HRW1.out.aside hw2.1 hP7)
        have HO2 := Lib.hid (row_aside HO1.out hw2.1 hPlt)
        have hlc' : t.size - c' = R'.length := by rw [← hc', rest_length]
        have HC' := Lib.hid hc'
        clear hw2 hc'
        have HCon := Lib.hid (HAR.out u4 acc.length (Lib.byteCells acc) x hx0 hx1 w2 HO2.out (by omega) HW2.out.1.size)
        go_wp2_with fail
        go_at_call 72; refine HCon.out.mono ?_; rintro e w3 ⟨v', rfl, hown', o, hgrow⟩
        have HRow := Lib.hid hown'
        have HW3 := Lib.hid (went_grown HW2.out hPlt hgrow (own_base' HO2.out))
        have HRW3 : Hid (ReadyJ w3) := Lib.hid (by
          have hb : Below 7 w2 w3 := by
            have hs := HW2.out.1.size
            refine ((Below.refl 7 w2).alloc (by omega) o).grown hgrow (by simp; omega) (fun q hq => ?_)
            have := own_base' HO2.out q hq
            omega
          exact HRW2.out.below7 hb)
        clear hown' hgrow HCon
        go_wp2_with fail
        go_roundg g'
        case measure => omega
        case rel => exact ⟨c', acc ++ E, HW3, HRW3, Lib.hid (by
          have := HRow.out
          rw [HC.out, Lib.byteCells_length] at this
          rw [Lib.byteCells_append, List.length_append]
          exact this), Lib.hid (by rw [HC'.out]; exact HE2.out.symm), by omega, by rw [List.length_append]; omega⟩
      | error d =>
        rw [hpr] at HQR
        have HE2 := Lib.hid (HE.out.symm.trans (textJ_err HQ.out hpr))
        clear hpr
        go_at_call 75; refine HQR.out.mono ?_; rintro e w2 ⟨D, rfl, h1, h2, h3⟩
        refine ⟨rfl, ?_⟩
        rw [quotedJ_err (HX.out.trans HE2.out)]
        rw [show ((rest t c).length) = (rest t c).length from rfl]
        exact Thrown.after ⟨D, rfl, h1, h2, h3⟩ HW1.out.1
    · have HK := Lib.hid (skip_b HW.out.2 ⟨#[34]⟩ hq)
      have HE2 := Lib.hid (HE.out.symm.trans (textJ_end hq))
      clear hq
      go_wp2_with fail
      go_at_call 65; refine HK.out.mono ?_; rintro e w1 ⟨rfl, hw1⟩
      have HW1 := Lib.hid (show Went W w1 P t (c + 1) n from HW.out.trans hw1)
      have HO1 := Lib.hid (row_aside HO.out hw1.1 hPlt)
      clear hw1
      obtain ⟨ad, cap, hu⟩ := row_shape HO1.out
      subst hu
      have hcv : (convert 44 9 (.slice ad acc.length cap)).run Tryz.prog w1 = .ok (.string ⟨acc.toArray⟩) w1 := by
        rcases HO1.out.2 with ⟨h1, h2⟩ | ⟨g, cap', cur, h1, h3, h4, h5, h6, h7, h8⟩
        · obtain rfl : acc = [] := List.length_eq_zero_iff.1 h2
          cases h1
          exact run_convert_bytes_nil (P := Tryz.prog) w1 44 5 Tryz.underlying44 Tryz.underlying5 0 0 9 Tryz.underlying9
        · cases h1
          refine run_convert_bytes_back (P := Tryz.prog) w1 44 9 5 ⟨g, 0, none⟩ cap acc Tryz.underlying44 Tryz.underlying5 Tryz.underlying9 (fun j hj => ?_)
          have := World.ownsRow.cells HO1.out (g := g) rfl j (.int .u8 (acc[j].toNat : Int)) (by simp [Lib.byteCells, hj])
          exact this
      by_cases hlong : 16384 < acc.length
      · have HQJ := Lib.hid (quotedJ_long (HX.out.trans HE2.out) hlong)
        have j1 : (16384 : Int) < (acc.length : Int) := by omega
        clear hlong
        go_wp2_with (go_at_call 40; refine (diag_any _ _ _).mono ?_; rintro e w4 ⟨rfl, rfl⟩)
        refine ⟨rfl, ?_⟩
        rw [HQJ.out]
        exact ⟨w1.heap.size, rfl, HW1.out.1.size, by have := Blk.new w1 #[.int .i64 3, .string ⟨#[]⟩, .int .i64 (a : Int)] 48; simpa [rest_back (Nat.le_of_lt hal)] using this, HW1.out.1.trans (Aside.of (below_new0 _ _))⟩
      · have HQJ := Lib.hid (quotedJ_ok (HX.out.trans HE2.out) hlong)
        have j1 : ¬ (16384 : Int) < (acc.length : Int) := by omega
        clear hlong
        go_wp2
        go_ret
        rw [HQJ.out]
        exact ⟨rfl, c + 1, HW1.out, rest_add t c 1⟩
end Go.Proofs.YtnmfoedfllmclaaGreatDoor
namespace Go.Proofs.YtnmfoedfllmclaaGreatDoor
open Go.RowKit Go.Shelf
set_option linter.unusedVariables false

/-- A byte's digit. -/
def hexB (n : Nat) : UInt8 := if n < 10 then (48 + n).toUInt8 else (87 + n).toUInt8
/-- A rune's JSON within a text. -/
def runeQ (r : Int) : List UInt8 := if r = 34 then [92, 34] else if r = 92 then [92, 92] else if r = 8 then [92, 98] else if r = 12 then [92, 102] else if r = 10 then [92, 110] else if r = 13 then [92, 114] else if r = 9 then [92, 116] else if r < 32 then [92, 117, 48, 48, hexB (r.toNat / 16), hexB (r.toNat % 16)] else Lib.encodeRune r
abbrev Row (B : Nat) (w : World) (v : Value) (L : List UInt8) : Prop := w.ownsRow B 5 1 v L.length (Lib.byteCells L)
abbrev Oth (w w' : World) : Prop := Lib.OthersKept 5 none w w'
/-- How an append ends: the bytes are these; all else is as it was. -/
def AppE (B : Nat) (W : World) (L : List UInt8) (e : Ending) (w' : World) : Prop := ∃ v', e = .returned v' ∧ Row B w' v' L ∧ Below B W w' ∧ Oth W w'
theorem row_kind {w : World} {B e n : Nat} {v : Value} {xs : List Value} (h : w.ownsRow B e 1 v n xs) : ∀ g, v.ownBlock = some g → B ≤ g ∧ ∃ c fz, w.heap[g]? = some (.cells c e fz) := by
  intro g hg
  rcases h.2 with ⟨rfl, _⟩ | ⟨g', cap, cur, rfl, h1, hgg, _⟩
  · cases hg
  · cases hg
    exact ⟨h1, cur, _, hgg⟩
theorem grown_app {B n : Nat} {w w' : World} {v : Value} {xs : List Value} (h : w.ownsRow B 5 1 v n xs) (hB : B ≤ w.heap.size) (hg : w.grownBy w' v.ownBlock) : Below B w w' ∧ Oth w w' :=
  ⟨(Below.refl B w).grown hg hB (fun q hq => (row_kind h q hq).1), (Lib.OthersKept.refl _ _ w).grown hg (fun g e => (row_kind h g e).2)⟩
theorem Oth.of {w w' : World} (h : Below w.heap.size w w') : Oth w w' := fun k o hk _ _ => (h.block k (Array.getElem?_eq_some_iff.1 hk).1).trans hk
theorem Row.below {B : Nat} {w w' : World} {v : Value} {L : List UInt8} (h : Row B w v L) (hb : Below w.heap.size w w') : Row B w' v L := by
  obtain ⟨h1, h2⟩ := h
  refine ⟨h1, ?_⟩
  rcases h2 with h2 | ⟨g, cap, cur, rfl, h3, h4, h5⟩
  · exact .inl h2
  · exact .inr ⟨g, cap, cur, rfl, h3, (hb.block g (Array.getElem?_eq_some_iff.1 h4).1).trans h4, h5⟩
theorem AppE.after {B : Nat} {W W1 w' : World} {L : List UInt8} {e : Ending} (hb : Below B W W1) (ho : Oth W W1) (h : AppE B W1 L e w') : AppE B W L e w' := by
  obtain ⟨v', h1, h2, h3, h4⟩ := h
  exact ⟨v', h1, h2, hb.trans h3, ho.trans h4⟩
theorem infoB : (Tryz.prog.info? 5).map (fun i => (i.zero, i.size, i.bytes)) = some (some (.int .u8 0), 1, 1) := by kernel_rfl
theorem info_byte : ∃ i, Tryz.prog.info? 5 = some i ∧ i.zero = some (.int .u8 0) ∧ i.size = 1 ∧ i.bytes = 1 := by
  have h := infoB
  cases hi : Tryz.prog.info? 5 with
  | none => rw [hi] at h; cases h
  | some i =>
    rw [hi] at h
    simp only [Option.map_some, Option.some.injEq, Prod.mk.injEq] at h
    exact ⟨i, rfl, h.1, h.2.1, h.2.2⟩
theorem byte_one (l : List UInt8) : ∀ u ∈ Lib.byteCells l, u.oneCell' = true := by
  intro u hu
  obtain ⟨x, -, rfl⟩ := List.mem_map.1 hu
  rfl
/-- 'append' of bytes that lie in a block. -/
theorem app_u8 {ops : Array Oper} {rest : List Oper} {o : Oper} {a : Act} {Q : Exit → Act → World → Prop} {w : World} {B D s x c : Nat} {v : Value} {L N : List UInt8} {cs : Array Value} {ty : TypeId} (hgd : o.guard = none)
    (ho : o.op = .call { callee := .builtin .append, args := #[.tmp s, .tmp x], argTypes := #[44, 44] }) (hs : a.eval (.tmp s) = v) (hx : a.eval (.tmp x) = .slice (some ⟨D, 0, none⟩) N.length c) (hown : Row B w v L) (hblk : Blk w D cs ty) (hcs : cs.toList = Lib.byteCells N) (hN : 0 < N.length) (hlen : L.length + N.length ≤ 100000000000) (hB : B ≤ w.heap.size)
    (h : ∀ v' w', Row B w' v' (L ++ N) → Below B w w' → Oth w w' → wpList Tryz.prog ops Q rest (a.put o.dst v') w') : wpList Tryz.prog ops Q (o :: rest) a w := by
  obtain ⟨i, hi, hz, hsz, hby⟩ := info_byte
  refine wpList_append_lies w hgd (.tmp s) (.tmp x) 44 ho B 5 i (.int .u8 0) 1 1 Tryz.underlying44 hi hz hsz hby rfl (by decide) v L.length (Lib.byteCells L) hs hown ⟨D, 0, none⟩ N.length c (Lib.byteCells N) hx (by rw [Lib.byteCells_length]; omega) ?_ (byte_one N) hN (by unfold maxLen; omega) (by omega) hB w.heap.size rfl ?_
  · rw [← hcs]; exact World.news_of_block hblk
  · intro g cap w' hrow hg hat hlt
    have hga := grown_app hown hB hg
    refine h _ w' ?_ hga.1 hga.2
    unfold Row
    rw [List.length_append, Lib.byteCells_append]
    exact hrow
/-- The same at a step of a region that draws. -/
theorem app_u8S {ops : Array Oper} {o : Oper} {a : Act} {K : Act → World → Prop} {Q : Exit → Act → World → Prop} {E : Prop} {w : World} {B D s x c : Nat} {v : Value} {L N : List UInt8} {cs : Array Value} {ty : TypeId} (hgd : o.guard = none)
    (ho : o.op = .call { callee := .builtin .append, args := #[.tmp s, .tmp x], argTypes := #[44, 44] }) (hs : a.eval (.tmp s) = v) (hx : a.eval (.tmp x) = .slice (some ⟨D, 0, none⟩) N.length c) (hown : Row B w v L) (hblk : Blk w D cs ty) (hcs : cs.toList = Lib.byteCells N) (hN : 0 < N.length) (hlen : L.length + N.length ≤ 100000000000) (hB : B ≤ w.heap.size)
    (h : ∀ v' w', Row B w' v' (L ++ N) → Below B w w' → Oth w w' → K (a.put o.dst v') w') : if Region.wanted o (yielded ops a.tmps) = true then Oper.wp Tryz.prog o a w K Q else E := by
  obtain ⟨i, hi, hz, hsz, hby⟩ := info_byte
  refine step_append_lies w hgd (.tmp s) (.tmp x) 44 ho B 5 i (.int .u8 0) 1 1 Tryz.underlying44 hi hz hsz hby rfl (by decide) v L.length (Lib.byteCells L) hs hown ⟨D, 0, none⟩ N.length c (Lib.byteCells N) hx (by rw [Lib.byteCells_length]; omega) ?_ (byte_one N) hN (by unfold maxLen; omega) (by omega) hB w.heap.size rfl ?_
  · rw [← hcs]; exact World.news_of_block hblk
  · intro g cap w' hrow hg hat hlt
    have hga := grown_app hown hB hg
    refine h _ w' ?_ hga.1 hga.2
    unfold Row
    rw [List.length_append, Lib.byteCells_append]
    exact hrow
/-- 'append' of a string's bytes. -/
theorem app_str {ops : Array Oper} {rest : List Oper} {o : Oper} {a : Act} {Q : Exit → Act → World → Prop} {w : World} {B s : Nat} {x : Operand} {v : Value} {L : List UInt8} {t : ByteArray} (hgd : o.guard = none)
    (ho : o.op = .call { callee := .builtin .append, args := #[.tmp s, x], argTypes := #[44, 9] }) (hs : a.eval (.tmp s) = v) (hx : a.eval x = .string t) (hown : Row B w v L) (hlen : L.length + t.size ≤ 100000000000) (hB : B ≤ w.heap.size)
    (h : ∀ v' w', Row B w' v' (L ++ t.data.toList) → Below B w w' → Oth w w' → wpList Tryz.prog ops Q rest (a.put o.dst v') w') : wpList Tryz.prog ops Q (o :: rest) a w := by
  obtain ⟨i, hi, hz, hsz, hby⟩ := info_byte
  refine Lib.wpList_append_own_string w hgd (.tmp s) x 44 9 ho B 5 i Tryz.underlying44 Tryz.underlying9 hi hz hsz hby v L.length (Lib.byteCells L) hs hown t hx (by unfold maxLen; omega) (by omega) hB ?_
  intro v' w' hrow hg _
  have hga := grown_app hown hB hg
  refine h _ w' ?_ hga.1 hga.2
  unfold Row
  rw [List.length_append, Lib.byteCells_append, ← Lib.size_eq]
  exact hrow
set_option maxRecDepth 100000 in
set_option maxHeartbeats 2000000 in
theorem appRune_esc {B : Nat} {W : World} {v : Value} {L : List UInt8} {r place : Int} {c : UInt8} (h : Row B W v L) (hB : B ≤ W.heap.size) (hL : L.length ≤ 10000000000) (h0 : 0 ≤ r) (h1 : r ≤ 1114111) (hv : Utf8.valid r = true) (hp : placeQ r = place) (hp0 : 0 ≤ place) (hix : ∀ w : World, (Instr.index 9 (.string ⟨#[34, 92, 98, 102, 110, 114, 116]⟩) (.int .i64 place)).run Tryz.prog w = .ok (.int .u8 (c.toNat : Int)) w) :
    Calls Tryz.prog 55 #[v, .int .i32 r] W (AppE B W (L ++ [92, c])) := by
  have HI := Lib.hid (index_any h0 h1 hv W)
  rw [hp] at HI
  have HO := Lib.hid h
  clear h hp
  go_enter Tryz.func55, Tryz.ntmps55
  go_wp2_with fail
  go_at_call 71; refine HI.out.mono ?_; rintro e w1 ⟨rfl, hb1⟩
  have hrow := HO.out.below hb1
  have hrow2 := hrow.below (below_new0 w1 (.cells #[.int .u8 92, .int .u8 (c.toNat : Int)] 5))
  have hsz : B ≤ (w1.alloc (.cells #[.int .u8 92, .int .u8 (c.toNat : Int)] 5)).heap.size := by have := hb1.size; simp; omega
  have HB1 := Lib.hid (hb1.trans ((below_new0 w1 (.cells #[.int .u8 92, .int .u8 (c.toNat : Int)] 5)).mono hb1.size))
  clear hb1 hrow
  go_wp2_with (at_builtin; refine app_u8 (N := [92, c]) rfl rfl rfl rfl hrow2 (Blk.new _ _ _) rfl (by simp) (by simp; omega) hsz ?_; intro v' w2 hown2 hb2 ho2)
  go_ret
  exact ⟨v', rfl, hown2, (HB1.out.mono hB).trans hb2, (Oth.of HB1.out).trans ho2⟩
end Go.Proofs.YtnmfoedfllmclaaGreatDoor
namespace Go.Proofs.YtnmfoedfllmclaaGreatDoor
open Go.RowKit Go.Shelf
set_option linter.unusedVariables false
set_option linter.unusedSimpArgs false

set_option maxRecDepth 100000 in
theorem low_ops {r : Int} (h0 : 0 ≤ r) (h1 : r < 32) : (∀ w : World, (binOp BinOp.shr 21 (.int .i32 r) (.int .u64 4)).run Tryz.prog w = .ok (.int .i32 (r / 16)) w) ∧ bits BinOp.and IntKind.i32 r 15 = r % 16
    ∧ (∀ w : World, (Instr.index 9 (.string ⟨#[48, 49, 50, 51, 52, 53, 54, 55, 56, 57, 97, 98, 99, 100, 101, 102]⟩) (.int .i32 (r / 16))).run Tryz.prog w = .ok (.int .u8 ((hexB (r.toNat / 16)).toNat : Int)) w) ∧ (∀ w : World, (Instr.index 9 (.string ⟨#[48, 49, 50, 51, 52, 53, 54, 55, 56, 57, 97, 98, 99, 100, 101, 102]⟩) (.int .i32 (r % 16))).run Tryz.prog w = .ok (.int .u8 ((hexB (r.toNat % 16)).toNat : Int)) w) := by
  rcases (show r = 0 ∨ r = 1 ∨ r = 2 ∨ r = 3 ∨ r = 4 ∨ r = 5 ∨ r = 6 ∨ r = 7 ∨ r = 8 ∨ r = 9 ∨ r = 10 ∨ r = 11 ∨ r = 12 ∨ r = 13 ∨ r = 14 ∨ r = 15 ∨ r = 16 ∨ r = 17 ∨ r = 18 ∨ r = 19 ∨ r = 20 ∨ r = 21 ∨ r = 22 ∨ r = 23 ∨ r = 24 ∨ r = 25 ∨ r = 26 ∨ r = 27 ∨ r = 28 ∨ r = 29 ∨ r = 30 ∨ r = 31 by omega) with rfl | rfl | rfl | rfl | rfl | rfl | rfl | rfl | rfl | rfl | rfl | rfl | rfl | rfl | rfl | rfl | rfl | rfl | rfl | rfl | rfl | rfl | rfl | rfl | rfl | rfl | rfl | rfl | rfl | rfl | rfl | rfl <;> exact ⟨fun w => by kernel_rfl, by decide, fun w => by kernel_rfl, fun w => by kernel_rfl⟩
set_option maxRecDepth 100000 in
set_option maxHeartbeats 2000000 in
theorem appRune_low {B : Nat} {W : World} {v : Value} {L : List UInt8} {r : Int} (h : Row B W v L) (hB : B ≤ W.heap.size) (hL : L.length ≤ 10000000000) (h0 : 0 ≤ r) (h1 : r < 32) (hv : Utf8.valid r = true) (hp : placeQ r = -1) :
    Calls Tryz.prog 55 #[v, .int .i32 r] W (AppE B W (L ++ [92, 117, 48, 48, hexB (r.toNat / 16), hexB (r.toNat % 16)])) := by
  have HI := Lib.hid (index_any h0 (by omega) hv W)
  rw [hp] at HI
  have HO := Lib.hid h
  obtain ⟨o1, o2, o3, o4⟩ := low_ops h0 h1
  obtain ⟨x, hx⟩ : ∃ x, hexB (r.toNat / 16) = x := ⟨_, rfl⟩
  obtain ⟨y, hy⟩ : ∃ y, hexB (r.toNat % 16) = y := ⟨_, rfl⟩
  rw [hx] at o3
  rw [hy] at o4
  rw [hx, hy]
  clear h hp hx hy
  go_enter Tryz.func55, Tryz.ntmps55
  go_wp2_with fail
  go_at_call 71; refine HI.out.mono ?_; rintro e w1 ⟨rfl, hb1⟩
  go_wp2_with fail
  have hb2 := hb1.drew
  have hrow := HO.out.below hb2
  have hrow2 := hrow.below (below_new0 w1.drew (.cells #[.int .u8 92, .int .u8 117, .int .u8 48, .int .u8 48, .int .u8 (x.toNat : Int), .int .u8 (y.toNat : Int)] 5))
  have hsz : B ≤ (w1.drew.alloc (.cells #[.int .u8 92, .int .u8 117, .int .u8 48, .int .u8 48, .int .u8 (x.toNat : Int), .int .u8 (y.toNat : Int)] 5)).heap.size := by have := hb2.size; have := (below_new0 w1.drew (.cells #[.int .u8 92, .int .u8 117, .int .u8 48, .int .u8 48, .int .u8 (x.toNat : Int), .int .u8 (y.toNat : Int)] 5)).size; omega
  have HB1 := Lib.hid (hb2.trans ((below_new0 w1.drew (.cells #[.int .u8 92, .int .u8 117, .int .u8 48, .int .u8 48, .int .u8 (x.toNat : Int), .int .u8 (y.toNat : Int)] 5)).mono hb2.size))
  clear hb1 hb2 hrow
  obtain ⟨w2, hw2⟩ : ∃ w2, w1.drew = w2 := ⟨_, rfl⟩
  rw [hw2] at hrow2 hsz HB1
  refine wp_region_held_drew (S := fun _ => True) (by kernel_rfl) ?_ (fun hHeld => ?_)
  · trivial
  rw [hw2]
  refine wpAnyH_take (i := 0) (oi := _) (v := ?k_v1) rfl (by kernel_rfl) (by kernel_rfl) (by kernel_rfl) (fun _ _ _ h => h) (Or.inl ⟨by rfl, ?k_y1⟩) (by assumption) ?k_r1
  case k_y1 => (intro w hSw; (try dsimp only at hSw); go_simp; (try with_reducible rfl))
  try simp only [Act.put, List.setIfInBounds_toArray, List.set_cons_zero, List.set_cons_succ]
  refine wpAnyH_take (i := 1) (oi := _) (v := ?k_v2) rfl (by kernel_rfl) (by kernel_rfl) (by kernel_rfl) (fun _ _ _ h => h) (Or.inl ⟨by rfl, ?k_y2⟩) (by assumption) ?k_r2
  case k_y2 => (intro w hSw; (try dsimp only at hSw); go_simp; (try with_reducible rfl))
  try simp only [Act.put, List.setIfInBounds_toArray, List.set_cons_zero, List.set_cons_succ]
  refine wpAnyH_take (i := 2) (oi := _) (v := ?k_v3) rfl (by kernel_rfl) (by kernel_rfl) (by kernel_rfl) (fun _ _ _ h => h) (Or.inl ⟨by rfl, ?k_y3⟩) (by assumption) ?k_r3
  case k_y3 => (intro w hSw; (try dsimp only at hSw); go_simp; (try with_reducible rfl))
  try simp only [Act.put, List.setIfInBounds_toArray, List.set_cons_zero, List.set_cons_succ]
  refine wpAnyH_take (i := 3) (oi := _) (v := ?k_v4) rfl (by kernel_rfl) (by kernel_rfl) (by kernel_rfl) (fun _ _ _ h => h) (Or.inl ⟨by rfl, ?k_y4⟩) (by assumption) ?k_r4
  case k_y4 => (intro w hSw; (try dsimp only at hSw); go_simp; (try with_reducible rfl))
  try simp only [Act.put, List.setIfInBounds_toArray, List.set_cons_zero, List.set_cons_succ]
  refine wpAnyH_take (i := 4) (oi := _) (v := ?k_v5) rfl (by kernel_rfl) (by kernel_rfl) (by kernel_rfl) (fun _ _ _ h => h) (Or.inl ⟨by rfl, ?k_y5⟩) (by assumption) ?k_r5
  case k_y5 => (intro w hSw; (try dsimp only at hSw); go_simp; (try with_reducible rfl))
  try simp only [Act.put, List.setIfInBounds_toArray, List.set_cons_zero, List.set_cons_succ]
  refine wpAnyH_take (i := 5) (oi := _) (v := ?k_v6) rfl (by kernel_rfl) (by kernel_rfl) (by kernel_rfl) (fun _ _ _ h => h) (Or.inl ⟨by rfl, ?k_y6⟩) (by assumption) ?k_r6
  case k_y6 => (intro w hSw; (try dsimp only at hSw); go_simp; (try with_reducible rfl))
  try simp only [Act.put, List.setIfInBounds_toArray, List.set_cons_zero, List.set_cons_succ]
  refine wpAnyH_take (i := 6) (oi := _) (v := ?k_v7) rfl (by kernel_rfl) (by kernel_rfl) (by kernel_rfl) (fun _ _ _ h => h) (Or.inl ⟨by rfl, ?k_y7⟩) (by assumption) ?k_r7
  case k_y7 => (intro w hSw; (try dsimp only at hSw); go_simp; (try with_reducible rfl))
  try simp only [Act.put, List.setIfInBounds_toArray, List.set_cons_zero, List.set_cons_succ]
  refine wpAnyH_ready (rs := [7]) (by kernel_rfl) (by simp) ?_
  refine AllReadyH.cons (o := _) rfl (fun K hK => ?_) ?_
  · go_simp
    refine hK.out _ _ trivial (fun hHeld => ?_)
    clear hK K
    try simp only [Act.put, List.setIfInBounds_toArray, List.set_cons_zero, List.set_cons_succ]
    refine wpAnyH_ready (rs := [8]) (by kernel_rfl) (by simp) ?_
    refine AllReadyH.cons (o := _) rfl (fun K hK => ?_) ?_
    · refine app_u8S (N := [92, 117, 48, 48, x, y]) rfl rfl rfl rfl hrow2 (Blk.new _ _ _) rfl (by simp) (by simp; omega) hsz ?_
      intro v' w3 hown2 hb2 ho2
      refine hK.out _ _ trivial (fun hHeld => ?_)
      clear hK K
      try simp only [Act.put, List.setIfInBounds_toArray, List.set_cons_zero, List.set_cons_succ]
      refine wpAnyH_ready (rs := [9]) (by kernel_rfl) (by simp) ?_
      refine AllReadyH.cons (o := _) rfl (fun K hK => ?_) ?_
      · go_simp
        refine hK.out _ _ trivial (fun hHeld => ?_)
        clear hK K
        try simp only [Act.put, List.setIfInBounds_toArray, List.set_cons_zero, List.set_cons_succ]
        refine wpAnyH_done (by kernel_rfl) ?_ _
        go_wp2_with fail
        go_ret
        exact ⟨v', rfl, hown2, (HB1.out.mono hB).trans hb2, (Oth.of HB1.out).trans ho2⟩
      exact AllReadyH.nil
    exact AllReadyH.nil
  exact AllReadyH.nil
set_option maxRecDepth 100000 in
set_option maxHeartbeats 2000000 in
theorem appRune_else {B : Nat} {W : World} {v : Value} {L : List UInt8} {r : Int} (h : Row B W v L) (hB : B ≤ W.heap.size) (hL : L.length ≤ 10000000000) (h0 : 32 ≤ r) (h1 : r ≤ 1114111) (hv : Utf8.valid r = true) (hp : placeQ r = -1) :
    Calls Tryz.prog 55 #[v, .int .i32 r] W (AppE B W (L ++ Lib.encodeRune r)) := by
  have HI := Lib.hid (index_any (by omega) h1 hv W)
  rw [hp] at HI
  have HO := Lib.hid h
  have i0 : ¬ r < 32 := by omega
  clear h hp
  go_enter Tryz.func55, Tryz.ntmps55
  go_wp2_with fail
  go_at_call 71; refine HI.out.mono ?_; rintro e w1 ⟨rfl, hb1⟩
  have HR := Lib.hid (HO.out.below hb1)
  have HB1 := Lib.hid hb1
  have HA := Lib.hid (Tryz.utf8_AppendRune_plain B v L.length (Lib.byteCells L) r (by omega) (by omega) w1 HR.out (by omega) (Nat.le_trans hB hb1.size))
  clear hb1
  go_wp2_with (go_at_call 72; refine HA.out.mono ?_; rintro e w2 ⟨v', rfl, hown, o, hg⟩)
  go_ret
  have hbn := below_new0 w1 o
  have hga := grown_app (HR.out.below hbn) (by have := hbn.size; have := HB1.out.size; omega) hg
  refine ⟨v', rfl, ?_, ((HB1.out.mono hB).trans (hbn.mono (by have := HB1.out.size; omega))).trans hga.1, ((Oth.of HB1.out).trans (Oth.of hbn)).trans hga.2⟩
  unfold Row
  rw [List.length_append, Lib.byteCells_append, Lib.byteCells_encodeRune, ← Lib.runeCells_length]
  exact hown
theorem appRune_any {B : Nat} {W : World} {v : Value} {L : List UInt8} {r : Int} (h : Row B W v L) (hB : B ≤ W.heap.size) (hL : L.length ≤ 10000000000) (h0 : 0 ≤ r) (h1 : r ≤ 1114111) (hv : Utf8.valid r = true) :
    Calls Tryz.prog 55 #[v, .int .i32 r] W (AppE B W (L ++ runeQ r)) := by
  by_cases e0 : r = 34
  · subst e0; exact appRune_esc (place := 0) (c := 34) h hB hL h0 h1 hv rfl (by decide) (fun w => by kernel_rfl)
  by_cases e1 : r = 92
  · subst e1; exact appRune_esc (place := 1) (c := 92) h hB hL h0 h1 hv rfl (by decide) (fun w => by kernel_rfl)
  by_cases e2 : r = 8
  · subst e2; exact appRune_esc (place := 2) (c := 98) h hB hL h0 h1 hv rfl (by decide) (fun w => by kernel_rfl)
  by_cases e3 : r = 12
  · subst e3; exact appRune_esc (place := 3) (c := 102) h hB hL h0 h1 hv rfl (by decide) (fun w => by kernel_rfl)
  by_cases e4 : r = 10
  · subst e4; exact appRune_esc (place := 4) (c := 110) h hB hL h0 h1 hv rfl (by decide) (fun w => by kernel_rfl)
  by_cases e5 : r = 13
  · subst e5; exact appRune_esc (place := 5) (c := 114) h hB hL h0 h1 hv rfl (by decide) (fun w => by kernel_rfl)
  by_cases e6 : r = 9
  · subst e6; exact appRune_esc (place := 6) (c := 116) h hB hL h0 h1 hv rfl (by decide) (fun w => by kernel_rfl)
  have hp : placeQ r = -1 := by unfold placeQ; rw [if_neg e0, if_neg e1, if_neg e2, if_neg e3, if_neg e4, if_neg e5, if_neg e6]
  unfold runeQ
  rw [if_neg e0, if_neg e1, if_neg e2, if_neg e3, if_neg e4, if_neg e5, if_neg e6]
  by_cases hl : r < 32
  · rw [if_pos hl]; exact appRune_low h hB hL h0 hl hv hp
  · rw [if_neg hl]; exact appRune_else h hB hL (by omega) h1 hv hp
end Go.Proofs.YtnmfoedfllmclaaGreatDoor
