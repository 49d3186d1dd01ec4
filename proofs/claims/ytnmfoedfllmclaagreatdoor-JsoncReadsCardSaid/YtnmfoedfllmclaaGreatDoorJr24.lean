/- each: comma by comma, with a function value · value.List; a list of two values · A row whose last element is written; a list's state, ahead of that and behind it -/
import Derived.Deep.LoopGhost
import Derived.Test.YtnmfoedfllmclaaGreatDoorJr05
import Derived.Test.YtnmfoedfllmclaaGreatDoorJr07
import Derived.Test.YtnmfoedfllmclaaGreatDoorJr12
import Derived.Test.YtnmfoedfllmclaaGreatDoorJr16
import Derived.Test.YtnmfoedfllmclaaGreatDoorJr21
namespace Go.Proofs.YtnmfoedfllmclaaGreatDoor
open Go.RowKit Go.Shelf
set_option linter.unusedVariables false

/-- All blocks below B but P are as they were. -/
structure AsideB (B P : Nat) (W w' : World) : Prop where
  os : w'.os = W.os
  tape : w'.tape = W.tape
  output : w'.output = W.output
  size : W.heap.size ≤ w'.heap.size
  block : ∀ k, k < B → k ≠ P → w'.heap[k]? = W.heap[k]?
theorem AsideB.refl (B P : Nat) (W : World) : AsideB B P W W := ⟨rfl, rfl, rfl, Nat.le_refl _, fun _ _ _ => rfl⟩
theorem AsideB.trans {B P : Nat} {a b c : World} (h : AsideB B P a b) (k : AsideB B P b c) : AsideB B P a c :=
  ⟨k.os.trans h.os, k.tape.trans h.tape, k.output.trans h.output, Nat.le_trans h.size k.size, fun i hi hr => (k.block i hi hr).trans (h.block i hi hr)⟩
theorem Aside.toB {B P : Nat} {W w' : World} (h : Aside P W w') (hB : B ≤ W.heap.size) : AsideB B P W w' := ⟨h.os, h.tape, h.output, h.size, fun k hk hP => h.block k (by omega) hP⟩
theorem AsideB.toA {P : Nat} {W w' : World} (h : AsideB W.heap.size P W w') : Aside P W w' := ⟨h.os, h.tape, h.output, h.size, h.block⟩
theorem AsideB.ofBelow {B P : Nat} {W w' : World} (h : Below B W w') : AsideB B P W w' := ⟨h.os, h.tape, h.output, h.size, fun k hk _ => h.block k hk⟩
theorem ReadyJ.asideB {B P : Nat} {W W' : World} (h : ReadyJ W) (ha : AsideB B P W W') (hP : 7 ≤ P) (hB : 7 ≤ B) : ReadyJ W' := by
  refine h.below7 ⟨ha.os, ha.tape, ha.output, ha.size, fun k hk => ha.block k (by omega) (by omega)⟩
def WentB (B : Nat) (W W' : World) (P : Nat) (t : ByteArray) (a n : Nat) : Prop := AsideB B P W W' ∧ Rdr W' P t a n
theorem Went.toB {B P a n : Nat} {W W' : World} {t : ByteArray} (h : Went W W' P t a n) (hB : B ≤ W.heap.size) : WentB B W W' P t a n := ⟨h.1.toB hB, h.2⟩
theorem WentB.trans {B P a b n m : Nat} {W W1 W2 : World} {t : ByteArray} (h : WentB B W W1 P t a n) (k : WentB B W1 W2 P t b m) : WentB B W W2 P t b m := ⟨h.1.trans k.1, k.2⟩
def ThrownB (B : Nat) (W : World) (P : Nat) (t : ByteArray) (b : Bad) (e : Ending) (w' : World) : Prop := ∃ D, e = .panicked [{ v := .iface 34 (.pointer (some ⟨D, 0, none⟩)), recovered := false }] ∧ B ≤ D ∧ Blk w' D #[.int .i64 b.1, .string ⟨#[]⟩, .int .i64 ((t.size - b.2 : Nat) : Int)] 48 ∧ AsideB B P W w'
theorem Thrown.toB {B P : Nat} {W w' : World} {t : ByteArray} {b : Bad} {e : Ending} (h : Thrown W P t b e w') (hB : B ≤ W.heap.size) : ThrownB B W P t b e w' := by
  obtain ⟨D, h1, h2, h3, h4⟩ := h
  exact ⟨D, h1, Nat.le_trans hB h2, h3, h4.toB hB⟩
theorem ThrownB.after {B P : Nat} {W W1 w' : World} {t : ByteArray} {b : Bad} {e : Ending} (h : ThrownB B W1 P t b e w') (ha : AsideB B P W W1) : ThrownB B W P t b e w' := by
  obtain ⟨D, h1, h2, h3, h4⟩ := h
  exact ⟨D, h1, h2, h3, ha.trans h4⟩
theorem ThrownB.toA {P : Nat} {W w' : World} {t : ByteArray} {b : Bad} {e : Ending} (h : ThrownB W.heap.size W P t b e w') : Thrown W P t b e w' := by
  obtain ⟨D, h1, h2, h3, h4⟩ := h
  exact ⟨D, h1, h2, h3, h4.toA⟩
/-- How a reader by closure ends. -/
def CEnds {σ : Type} (B : Nat) (W : World) (P : Nat) (t : ByteArray) (St : World → σ → Nat → Prop) (r : Except Bad (σ × List UInt8 × Nat)) (e : Ending) (w' : World) : Prop :=
  match r with
  | .ok (st, R', n') => e = .returned (.tuple #[]) ∧ ∃ a', WentB B W w' P t a' n' ∧ rest t a' = R' ∧ St w' st n'
  | .error b => ThrownB B W P t b e w'
/-- A function value that reads one more. -/
structure ReadsC {σ : Type} (g : Nat) (lb : Array Value) (B P : Nat) (t : ByteArray) (St : World → σ → Nat → Prop) (rd : σ → RdJ σ) : Prop where
  enters : ∀ args w, (callFunc g args).run Tryz.prog w = .ok (.enter g args) w
  stays : ∀ W W' st n, St W st n → Aside P W W' → St W' st n
  reads : ∀ W a n st, Rdr W P t a n → ReadyJ W → B ≤ W.heap.size → St W st n → Calls Tryz.prog g lb W (CEnds B W P t St (rd st (rest t a) n))
  less : ∀ st R n st' R' n', rd st R n = .ok (st', R', n') → R'.length ≤ R.length
theorem skipB_le (R : List UInt8) : (skipB R).length ≤ R.length := by
  unfold skipB
  exact (List.dropWhile_suffix _).length_le
theorem pre_len {R : List UInt8} {q : UInt8} (h : Lib.hasPrefix R [q] = true) : 0 < R.length := by
  obtain ⟨r, rfl⟩ := pre_head.1 h
  simp
theorem seqJ_err {σ : Type} {rd : σ → RdJ σ} {q : UInt8} {f : Nat} {st : σ} {R : List UInt8} {n : Nat} {b : Bad} (h : rd st R n = .error b) : seqJ rd q (f + 1) st R n = .error b := by
  unfold seqJ; rw [h]
theorem seqJ_end {σ : Type} {rd : σ → RdJ σ} {q : UInt8} {f : Nat} {st st' : σ} {R R' : List UInt8} {n n' : Nat} (h : rd st R n = .ok (st', R', n')) (hq : Lib.hasPrefix (skipB R') [q] = true) : seqJ rd q (f + 1) st R n = .ok (st', (skipB R').drop 1, n') := by
  unfold seqJ; rw [h]; simp only; rw [if_pos hq]
theorem seqJ_more {σ : Type} {rd : σ → RdJ σ} {q : UInt8} {f : Nat} {st st' : σ} {R R' : List UInt8} {n n' : Nat} (h : rd st R n = .ok (st', R', n')) (hq : Lib.hasPrefix (skipB R') [q] = false) (hc : Lib.hasPrefix (skipB R') [44] = true) : seqJ rd q (f + 1) st R n = seqJ rd q f st' ((skipB R').drop 1) n' := by
  conv => lhs; unfold seqJ
  rw [h]; simp only; rw [if_neg (by rw [hq]; decide), if_pos hc]
theorem seqJ_bad {σ : Type} {rd : σ → RdJ σ} {q : UInt8} {f : Nat} {st st' : σ} {R R' : List UInt8} {n n' : Nat} (h : rd st R n = .ok (st', R', n')) (hq : Lib.hasPrefix (skipB R') [q] = false) (hc : Lib.hasPrefix (skipB R') [44] = false) : seqJ rd q (f + 1) st R n = .error (30, (skipB R').length) := by
  unfold seqJ; rw [h]; simp only; rw [if_neg (by rw [hq]; decide), if_neg (by rw [hc]; decide)]

set_option maxRecDepth 100000 in
set_option maxHeartbeats 8000000 in
theorem each_any {σ : Type} {W : World} {P B a n : Nat} {t : ByteArray} (h : Rdr W P t a n) (hR : ReadyJ W) (hP7 : 7 ≤ P) (hPB : P < B) (hBW : B ≤ W.heap.size) (hal : a < t.size) {g : Nat} {lb : Array Value} {St : World → σ → Nat → Prop} {rd : σ → RdJ σ} (hr : ReadsC g lb B P t St rd) {st0 : σ} (hst : St W st0 n) (q : UInt8) :
    Calls Tryz.prog 76 #[.pointer (some ⟨P, 0, none⟩), .string ⟨#[q]⟩, .func (.func g) #[] lb] W (CEnds B W P t St (eachJ rd q st0 (rest t a) n)) := by
  have hsz := h.2.2.1
  have k1 := h.1.cell 1
  have f1 := h.1.frozen 1
  have i0 : (0 : Int) ≤ (a : Int) := by omega
  have i1 : (a : Int) < (t.size : Int) := by omega
  have HM := Lib.hid (h.moves (b := a + 1) (by omega))
  have HM' : Hid (Went W (W.setCell ⟨P, 1, none⟩ (.int .i64 ((a : Int) + 1))) P t (a + 1) n) := Lib.hid (by simpa using HM.out)
  have HRM := Lib.hid (hR.aside HM'.out.1 hP7)
  have HST := Lib.hid (hr.stays _ _ _ _ hst HM'.out.1)
  have HR := Lib.hid hr
  have eg := hr.enters
  have hF := rest_length t a
  clear h hR hst hr HM
  have heach : eachJ rd q st0 (rest t a) n = if Lib.hasPrefix (skipB (rest t (a + 1))) [q] then .ok (st0, (skipB (rest t (a + 1))).drop 1, n) else seqJ rd q (rest t a).length st0 (skipB (rest t (a + 1))) n := by rw [rest_add]; rfl
  obtain ⟨W0, hW0⟩ : ∃ W0, W.setCell ⟨P, 1, none⟩ (.int .i64 ((a : Int) + 1)) = W0 := ⟨_, rfl⟩
  rw [hW0] at HM' HRM HST
  have HW0 := Lib.hid hW0
  clear hW0
  cases hq : Lib.hasPrefix (skipB (rest t (a + 1))) [q]
  · rw [hq, if_neg Bool.false_ne_true] at heach
    have HT := Lib.hid (take_b HM'.out.2 ⟨#[q]⟩ hq)
    obtain ⟨F, hFF⟩ : ∃ F, (rest t a).length = F := ⟨_, rfl⟩
    rw [hFF] at heach hF
    obtain ⟨X, hX⟩ : ∃ X, seqJ rd q F st0 (skipB (rest t (a + 1))) n = X := ⟨_, rfl⟩
    rw [hX] at heach
    have HE := Lib.hid heach
    have HX := Lib.hid hX
    have hl0 := skipB_le (rest t (a + 1))
    rw [rest_length] at hl0
    clear hq heach hX hFF
    go_enter Tryz.func76, Tryz.ntmps76
    go_wp2_with fail
    rw [HW0.out]
    clear k1 f1
    go_at_call 99; refine HT.out.mono ?_; rintro e w1 ⟨rfl, c1, hw1, hc1⟩
    have hc1' : rest t c1 = skipB (rest t (a + 1)) := hc1
    have HW1 := Lib.hid ((HM'.out.trans hw1).toB hBW)
    have HR1 := Lib.hid (HRM.out.aside hw1.1 hP7)
    have HS1 := Lib.hid (HR.out.stays _ _ _ _ HST.out hw1.1)
    have HX1 : Hid (seqJ rd q F st0 (rest t c1) n = X) := Lib.hid (by rw [hc1']; exact HX.out)
    have hl1 : t.size - c1 ≤ t.size - (a + 1) := by rw [← rest_length t c1, hc1']; exact hl0
    clear hw1 hc1 hc1'
    go_wp2_with fail
    go_loopg [] F (fun gf wx => ∃ (c m : Nat) (st : σ), Hid (WentB B W wx P t c m) ∧ Hid (ReadyJ wx) ∧ Hid (St wx st m) ∧ Hid (seqJ rd q gf st (rest t c) m = X) ∧ t.size - c < gf)
    case atStart => exact ⟨c1, n, st0, HW1, HR1, HS1, HX1, by omega⟩
    case round =>
      obtain ⟨c, m, st, HW, HRW, HS, HXc, hfu⟩ := hrel
      obtain ⟨g', rfl⟩ : ∃ g', gk = g' + 1 := ⟨gk - 1, by omega⟩
      have hBw : B ≤ wr.heap.size := Nat.le_trans hBW HW.out.1.size
      have HC := Lib.hid (HR.out.reads wr c m st HW.out.2 HRW.out hBw HS.out)
      cases hrd : rd st (rest t c) m with
      | error b =>
        rw [hrd] at HC
        have HX2 := Lib.hid (HXc.out.symm.trans (seqJ_err hrd))
        clear hrd
        go_wp2_with (go_at_fn g; refine HC.out.mono ?_; rintro e w2 ⟨D, rfl, h1, h2, h3⟩)
        refine ⟨rfl, ?_⟩
        rw [HE.out, HX2.out]
        exact ThrownB.after ⟨D, rfl, h1, h2, h3⟩ HW.out.1
      | ok y =>
        obtain ⟨st', R', n'⟩ := y
        have hless := HR.out.less _ _ _ _ _ _ hrd
        rw [rest_length] at hless
        rw [hrd] at HC
        have HRD := Lib.hid hrd
        clear hrd
        go_wp2_with (go_at_fn g; refine HC.out.mono ?_; rintro e w2 ⟨rfl, c', hw2, hc', hst'⟩; refine Hid.out ?_)
        refine Lib.hid ?_
        have HW2 := Lib.hid (HW.out.trans hw2)
        have HR2 := Lib.hid (HRW.out.asideB hw2.1 hP7 (by omega))
        have HS2 := Lib.hid hst'
        have HC2 := Lib.hid hc'
        have hBw2 : B ≤ w2.heap.size := Nat.le_trans hBw hw2.1.size
        clear hw2 hc' hst' HC
        cases hq2 : Lib.hasPrefix (skipB R') [q]
        · have hq3 : Lib.hasPrefix (skipB (rest t c')) [q] = false := by rw [HC2.out]; exact hq2
          have HT2 := Lib.hid (take_b HW2.out.2 ⟨#[q]⟩ hq3)
          have HQ2 := Lib.hid hq2
          clear hq2 hq3
          go_wp2_with (go_at_call 99; refine HT2.out.mono ?_; rintro e w3 ⟨rfl, c3, hw3, hc3⟩; refine Hid.out ?_)
          refine Lib.hid ?_
          have hc3' : rest t c3 = skipB R' := by rw [← HC2.out]; exact hc3
          have HW3 := Lib.hid (HW2.out.trans (hw3.toB hBw2))
          have HR3 := Lib.hid (HR2.out.aside hw3.1 hP7)
          have HS3 := Lib.hid (HR.out.stays _ _ _ _ HS2.out hw3.1)
          have HC3 := Lib.hid hc3'
          have hBw3 : B ≤ w3.heap.size := Nat.le_trans hBw2 hw3.1.size
          clear hw3 hc3 hc3' HT2
          cases hcm : Lib.hasPrefix (skipB R') [44]
          · have hcm' : Lib.hasPrefix (skipB (rest t c3)) [44] = false := by rw [HC3.out, skipB_idem]; exact hcm
            have HX2 := Lib.hid (HXc.out.symm.trans (seqJ_bad HRD.out HQ2.out hcm))
            have HN := Lib.hid (want_no HW3.out.2 hcm')
            clear hcm hcm'
            go_wp2_with (go_at_call 81; refine HN.out.mono ?_; rintro e w4 ⟨D, rfl, h1, h2, h3⟩)
            refine ⟨rfl, ?_⟩
            rw [HE.out, HX2.out]
            rw [HC3.out, skipB_idem] at h2
            exact ThrownB.after ⟨D, rfl, Nat.le_trans hBw3 h1, h2, h3.toB hBw3⟩ HW3.out.1
          · have hcm' : Lib.hasPrefix (skipB (rest t c3)) [44] = true := by rw [HC3.out, skipB_idem]; exact hcm
            have HX2 := Lib.hid (HXc.out.symm.trans (seqJ_more HRD.out HQ2.out hcm))
            have HY := Lib.hid (want_yes HW3.out.2 hcm')
            have hpl := pre_len hcm
            have hsl := skipB_le R'
            clear hcm hcm'
            go_wp2_with (go_at_call 81; refine HY.out.mono ?_; rintro e w4 ⟨rfl, c4, hw4, hc4⟩)
            have hc4' : rest t c4 = (skipB R').drop 1 := by rw [hc4, HC3.out, skipB_idem]
            have hl4 : t.size - c4 = (skipB R').length - 1 := by rw [← rest_length, hc4', List.length_drop]
            have HW4 := Lib.hid (HW3.out.trans (hw4.toB hBw3))
            have HR4 := Lib.hid (HR3.out.aside hw4.1 hP7)
            have HS4 := Lib.hid (HR.out.stays _ _ _ _ HS3.out hw4.1)
            have HX4 : Hid (seqJ rd q g' st' (rest t c4) n' = X) := Lib.hid (by rw [hc4']; exact HX2.out.symm)
            clear hw4 hc4 hc4' HY
            go_roundg g'
            case measure => omega
            case rel => exact ⟨c4, n', st', HW4, HR4, HS4, HX4, by omega⟩
        · have hq3 : Lib.hasPrefix (skipB (rest t c')) [q] = true := by rw [HC2.out]; exact hq2
          have HT2 := Lib.hid (take_b HW2.out.2 ⟨#[q]⟩ hq3)
          have HX2 := Lib.hid (HXc.out.symm.trans (seqJ_end HRD.out hq2))
          clear hq2 hq3
          go_wp2_with (go_at_call 99; refine HT2.out.mono ?_; rintro e w3 ⟨rfl, c3, hw3, hc3⟩)
          have hc3' : rest t c3 = (skipB R').drop 1 := by rw [← HC2.out]; exact hc3
          go_end0
          rw [HE.out, HX2.out]
          exact ⟨rfl, c3, HW2.out.trans (hw3.toB hBw2), hc3', HR.out.stays _ _ _ _ HS2.out hw3.1⟩
  · rw [hq, if_pos rfl] at heach
    have HT := Lib.hid (take_b HM'.out.2 ⟨#[q]⟩ hq)
    have HE := Lib.hid heach
    clear hq heach
    go_enter Tryz.func76, Tryz.ntmps76
    go_wp2_with fail
    rw [HW0.out]
    clear k1 f1
    go_at_call 99; refine HT.out.mono ?_; rintro e w1 ⟨rfl, c1, hw1, hc1⟩
    have HW1 := Lib.hid ((HM'.out.trans hw1).toB hBW)
    have HS1 := Lib.hid (HR.out.stays _ _ _ _ HST.out hw1.1)
    have HC1 := Lib.hid hc1
    clear hw1 hc1
    go_wp2
    go_end0
    rw [HE.out]
    exact ⟨rfl, c1, HW1.out, HC1.out, HS1.out⟩
end Go.Proofs.YtnmfoedfllmclaaGreatDoor
namespace Go.Proofs.YtnmfoedfllmclaaGreatDoor
open Go.RowKit
set_option linter.unusedVariables false

set_option maxRecDepth 100000 in
set_option maxHeartbeats 4000000 in
theorem list_any {B : Nat} {w : World} {its : List VT} {ad : Option Addr} {cap g o : Nat} {ik : Nat → Int} {ib : Nat → Bool} {it : Nat → ByteArray} {ii iv : Nat → Value} (hsm : its.length ≤ 1000000) (hsi : ∀ x ∈ its, smallT x)
    (ha : 0 < its.length → ad = some ⟨g, o, none⟩ ∧ g < B)
    (hcell : ∀ j, j < its.length → Five w g (o + j * 5) (.int .i64 (ik j)) (.bool (ib j)) (.string (it j)) (ii j) (iv j))
    (hrec : ∀ j (h : j < its.length), Is B w (.agg #[.int .i64 (ik j), .bool (ib j), .string (it j), ii j, iv j]) its[j])
    (W : World) (hb : Below B w W) (hBW : B ≤ W.heap.size) : Calls Tryz.prog 78 #[.slice ad its.length cap] W (Clones (.node 5 false ⟨#[]⟩ its []) W) := by
  have en : nil5 = #[.int .i64 0, .bool false, .string ⟨#[]⟩, .slice none 0 0, .slice none 0 0] := rfl
  have hb0 := below_new W (.cells nil5 26)
  have hr0 := Blk.new W nil5 26
  have HZ0 : Hid ((W.alloc (.cells nil5 26)).heap.size = W.heap.size + 1) := Lib.hid (by simp)
  have HAll := Lib.hid (cloneAll_of (cap := cap) hsm ha hcell hrec (fun j hj => clone_any (hrec j hj) (hsi _ (List.getElem_mem hj))) (W.alloc (.cells nil5 26)) (hb.trans (hb0.mono hBW)) (Nat.le_trans hBW hb0.size))
  obtain ⟨len, hlen⟩ : ∃ len, its.length = len := ⟨_, rfl⟩
  have HL := Lib.hid hlen
  rw [hlen] at HAll ⊢
  have HSM := Lib.hid hsm
  rw [en] at hb0 hr0 HZ0 HAll
  have HB0 := Lib.hid hb0
  have HR0 := Lib.hid hr0
  clear hsm hsi ha hcell hrec hlen hb0 hr0 hb hBW
  go_enter Tryz.func78, Tryz.ntmps78
  go_wp2_with fail
  go_at_call 100; refine HAll.out.mono ?_; rintro e w1 ⟨ad', cap', rfl, hitf, hb1⟩
  rw [HL.out]
  have HIT := Lib.hid hitf
  have HBx1 := Lib.hid hb1
  have HB1 := Lib.hid (HB0.out.trans (hb1.mono HB0.out.size))
  have hr1 := HR0.out.below hb1
  have HR1 := Lib.hid hr1
  have r0 := hr1.cell 0
  have r1 := hr1.cell 1
  have r2 := hr1.cell 2
  have r3 := hr1.cell 3
  have r4 := hr1.cell 4
  have s0 := hr1.frozen 0
  have s1 := hr1.frozen 1
  have s2 := hr1.frozen 2
  have s3 := hr1.frozen 3
  have s4 := hr1.frozen 4
  clear hitf hb1 hr1
  go_wp2_with fail
  have HR3 := HR1.out.set5 (.int .i64 5) (.bool false) (.string ⟨#[]⟩) (.slice ad' len cap') (.slice none 0 0)
  have d0 := HR3.cell 0
  have d1 := HR3.cell 1
  have d2 := HR3.cell 2
  have d3 := HR3.cell 3
  have d4 := HR3.cell 4
  have hfin : Clones (.node 5 false ⟨#[]⟩ its []) W (.returned (.agg #[.int .i64 5, .bool false, .string ⟨#[]⟩, .slice ad' len cap', .slice none 0 0])) (set5 w1 W.heap.size 0 (.int .i64 5) (.bool false) (.string ⟨#[]⟩) (.slice ad' len cap') (.slice none 0 0)) := by
    refine ⟨_, rfl, ?_, below_set5at HB1.out (Nat.le_refl _) _ _ _ _ _ _⟩
    have hz := HZ0.out
    have hx1 := HBx1.out.size
    have hks : StrsF W.heap.size W.heap.size W (.slice none 0 0) [] := ⟨none, 0, rfl, by simp, by simp, fun h => absurd h (by simp)⟩
    have hf := fresh_of (lo0 := W.heap.size) (k := 5) (b := false) (t := ⟨#[]⟩) (w3 := set5 w1 W.heap.size 0 (.int .i64 5) (.bool false) (.string ⟨#[]⟩) (.slice ad' len cap') (.slice none 0 0)) hks HIT.out (by have := HSM.out; have := HL.out; omega) (fun g h1 h2 => by omega) (fun g h1 h2 => set5_other _ _ _ _ _ _ _ _ (by omega)) (Nat.le_refl _) (by omega) (by rw [set5_size]; have := HB1.out.size; omega) (by rw [set5_size]; exact Nat.le_refl _)
    rw [HL.out] at hf
    exact hf
  refine bodyPost_ret (v := .agg #[.int .i64 5, .bool false, .string ⟨#[]⟩, .slice ad' len cap', .slice none 0 0]) ?_ rfl hfin
  simp [results, Tryz.results78, go_sem, d0, d1, d2, d3, d4]

end Go.Proofs.YtnmfoedfllmclaaGreatDoor
namespace Go.Proofs.YtnmfoedfllmclaaGreatDoor
open Go.RowKit Go.Shelf Go.Sort
set_option linter.unusedVariables false

/-- How value ends. -/
def VEnds (W : World) (P : Nat) (t : ByteArray) (r : Except Bad (VT × List UInt8 × Nat)) (e : Ending) (w' : World) : Prop :=
  match r with
  | .ok (T, R', n') => ∃ v a', e = .returned v ∧ Fresh W.heap.size w'.heap.size w' v T ∧ smallT T ∧ Went W w' P t a' n' ∧ rest t a' = R'
  | .error b => Thrown W P t b e w'
abbrev nilV : Value := .slice none 0 0
def zero5 : List Value := [.int .i64 0, .bool false, .string ⟨#[]⟩, .slice none 0 0, .slice none 0 0]
theorem row_last {X : World} {B g k cap E : Nat} {xs ys : List Value} (h : X.ownsRow B E 5 (.slice (some ⟨g, 0, none⟩) (k + 1) cap) (k + 1) (xs ++ ys)) (hx : xs.length = k * 5) (c0 c1 c2 c3 c4 : Value) :
    (set5 X g (k * 5) c0 c1 c2 c3 c4).ownsRow B E 5 (.slice (some ⟨g, 0, none⟩) (k + 1) cap) (k + 1) (xs ++ [c0, c1, c2, c3, c4]) := by
  obtain ⟨hl, h1 | ⟨g', cap', cur, h1, h2, h3, h4, h5, h6, h7⟩⟩ := h
  · omega
  · cases h1
    refine ⟨by simp [hx]; omega, .inr ⟨g, cap, put5 cur (k * 5) c0 c1 c2 c3 c4, rfl, h2, Blk.put5 h3 (k * 5) c0 c1 c2 c3 c4, h4, h5, by rw [put5_size]; exact h6, ?_⟩⟩
    have hsz : (k + 1) * 5 ≤ cur.size := by rw [h6]; exact Nat.mul_le_mul_right _ h4
    have hat := put5_at (cur := cur) (i := k * 5) (a0 := c0) (a1 := c1) (a2 := c2) (a3 := c3) (a4 := c4) (by omega)
    apply List.ext_getElem?
    intro q
    rcases Nat.lt_or_ge q (k * 5) with hq | hq
    · rw [List.getElem?_take_of_lt (by omega), List.getElem?_append_left (by omega), Array.getElem?_toList, put5_far (.inl hq)]
      have h8 : (cur.toList.take ((k + 1) * 5))[q]? = (xs ++ ys)[q]? := by rw [h7]
      rw [List.getElem?_take_of_lt (by omega), List.getElem?_append_left (by omega), Array.getElem?_toList] at h8
      exact h8
    · rcases Nat.lt_or_ge q ((k + 1) * 5) with hq2 | hq2
      · rw [List.getElem?_take_of_lt hq2, List.getElem?_append_right (by omega), Array.getElem?_toList, hx]
        rcases (show q = k * 5 ∨ q = k * 5 + 1 ∨ q = k * 5 + 2 ∨ q = k * 5 + 3 ∨ q = k * 5 + 4 by omega) with rfl | rfl | rfl | rfl | rfl
        · rw [hat.1, Nat.sub_self]; rfl
        · rw [hat.2.1, Nat.add_sub_cancel_left]; rfl
        · rw [hat.2.2.1, Nat.add_sub_cancel_left]; rfl
        · rw [hat.2.2.2.1, Nat.add_sub_cancel_left]; rfl
        · rw [hat.2.2.2.2, Nat.add_sub_cancel_left]; rfl
      · rw [List.getElem?_eq_none (by simp; omega), List.getElem?_eq_none (by simp [hx]; omega)]
theorem set_comm (w : World) {p q : Addr} (h : p.block ≠ q.block) (u v : Value) : (w.setCell p u).setCell q v = (w.setCell q v).setCell p u := by
  have : ((w.heap.modify p.block fun o => match o with
      | .cells c elem frozen => .cells (if p.spot.isSome then c else c.setIfInBounds p.off u) elem frozen
      | o => o).modify q.block fun o => match o with
      | .cells c elem frozen => .cells (if q.spot.isSome then c else c.setIfInBounds q.off v) elem frozen
      | o => o) = ((w.heap.modify q.block fun o => match o with
      | .cells c elem frozen => .cells (if q.spot.isSome then c else c.setIfInBounds q.off v) elem frozen
      | o => o).modify p.block fun o => match o with
      | .cells c elem frozen => .cells (if p.spot.isSome then c else c.setIfInBounds p.off u) elem frozen
      | o => o) := by
    apply Array.ext_getElem?
    intro i
    simp only [Array.getElem?_modify]
    by_cases h1 : p.block = i
    · have h2 : ¬ q.block = i := fun e => h (h1.trans e.symm)
      simp [h1, h2]
    · by_cases h2 : q.block = i
      · simp [h1, h2]
      · simp [h1, h2]
  unfold World.setCell
  simp only
  congr 1
theorem set5_comm (w : World) {g i B o : Nat} (h : B ≠ g) (u c0 c1 c2 c3 c4 : Value) : set5 (w.setCell ⟨B, o, none⟩ u) g i c0 c1 c2 c3 c4 = (set5 w g i c0 c1 c2 c3 c4).setCell ⟨B, o, none⟩ u := by
  unfold set5
  rw [set_comm w (p := ⟨B, o, none⟩) (q := ⟨g, i, none⟩) h, set_comm _ (p := ⟨B, o, none⟩) (q := ⟨g, i + 1, none⟩) h, set_comm _ (p := ⟨B, o, none⟩) (q := ⟨g, i + 2, none⟩) h, set_comm _ (p := ⟨B, o, none⟩) (q := ⟨g, i + 3, none⟩) h, set_comm _ (p := ⟨B, o, none⟩) (q := ⟨g, i + 4, none⟩) h]
theorem held_set5 {W : World} {g i A B : Nat} {p q : Value} (h : W.cell? ⟨A, 0, none⟩ = some p ∧ W.cell? ⟨B, 0, none⟩ = some q) (hA : ¬ A = g) (hB : ¬ B = g) (c0 c1 c2 c3 c4 : Value) : (((((W.setCell ⟨g, i, none⟩ c0).setCell ⟨g, i + 1, none⟩ c1).setCell ⟨g, i + 2, none⟩ c2).setCell ⟨g, i + 3, none⟩ c3).setCell ⟨g, i + 4, none⟩ c4).cell? ⟨A, 0, none⟩ = some p ∧ (((((W.setCell ⟨g, i, none⟩ c0).setCell ⟨g, i + 1, none⟩ c1).setCell ⟨g, i + 2, none⟩ c2).setCell ⟨g, i + 3, none⟩ c3).setCell ⟨g, i + 4, none⟩ c4).cell? ⟨B, 0, none⟩ = some q :=
  ⟨(cell_same (set5_other W g i c0 c1 c2 c3 c4 hA) 0).trans h.1, (cell_same (set5_other W g i c0 c1 c2 c3 c4 hB) 0).trans h.2⟩
theorem held_set {W : World} {A B D : Nat} {p q u : Value} (h : W.cell? ⟨A, 0, none⟩ = some p ∧ W.cell? ⟨B, 0, none⟩ = some q) (hA : ¬ A = D) (hB : ¬ B = D) : (W.setCell ⟨D, 0, none⟩ u).cell? ⟨A, 0, none⟩ = some p ∧ (W.setCell ⟨D, 0, none⟩ u).cell? ⟨B, 0, none⟩ = some q :=
  ⟨(cell_same (Below.heap_setCell W ⟨D, 0, none⟩ u A hA) 0).trans h.1, (cell_same (Below.heap_setCell W ⟨D, 0, none⟩ u B hB) 0).trans h.2⟩
theorem AsideB.setFar {H R : Nat} {W w : World} {p : Addr} (h : AsideB H R W w) (hB : H ≤ p.block) (u : Value) : AsideB H R W (w.setCell p u) :=
  ⟨h.os, h.tape, h.output, by simpa using h.size, fun k hk hr => by rw [Below.heap_setCell w p u k (by omega)]; exact h.block k hk hr⟩
theorem AsideB.set5 {H R B : Nat} {W w : World} (h : AsideB H R W w) (hB : H ≤ B) (i : Nat) (b0 b1 b2 b3 b4 : Value) : AsideB H R W (set5 w B i b0 b1 b2 b3 b4) :=
  ((((h.setFar (p := ⟨B, i, none⟩) hB b0).setFar (p := ⟨B, i + 1, none⟩) hB b1).setFar (p := ⟨B, i + 2, none⟩) hB b2).setFar (p := ⟨B, i + 3, none⟩) hB b3).setFar (p := ⟨B, i + 4, none⟩) hB b4
/-- What a list's closure has. -/
structure ListAt (H P : Nat) (dep : Int) (W : World) (v : Value) (yy : List It) : Prop where
  rp : Blk W H #[.pointer (some ⟨P, 0, none⟩)] 73
  dp : Blk W (H + 1) #[.int .i64 dep] 3
  res : Blk W (H + 2) nil5 26
  box : Blk W (H + 3) #[v] 23
  row : W.ownsRow (H + 4) 26 5 v yy.length (yy.flatMap It.cells)
  far : ∀ e ∈ yy, FarIt (H + 3) W nilV v e
  small : ∀ e ∈ yy, smallT e.T
theorem ListAt.aside {H P : Nat} {dep : Int} {W W' : World} {v : Value} {yy : List It} (h : ListAt H P dep W v yy) (ha : Aside P W W') (hP : P < H) : ListAt H P dep W' v yy :=
  ⟨h.rp.aside ha (by omega), h.dp.aside ha (by omega), h.res.aside ha (by omega), h.box.aside ha (by omega), row_aside h.row ha (by omega), fun e he => (h.far e he).go ha.size (fun g h1 h2 _ _ => ha.block g h2 (by omega)) (fun g e => .inl e) (fun g e => .inl e), h.small⟩
def ListSt (H P : Nat) (dep : Int) (W : World) (its : List VT) (n : Nat) : Prop := ∃ v yy, ListAt H P dep W v yy ∧ yy.map It.T = its ∧ its.length ≤ n

/-- An element more, not yet written; v is what the variable holds still. -/
structure ListPre (H P : Nat) (dep : Int) (W : World) (v : Value) (g cap : Nat) (yy : List It) : Prop where
  rp : Blk W H #[.pointer (some ⟨P, 0, none⟩)] 73
  dp : Blk W (H + 1) #[.int .i64 dep] 3
  res : Blk W (H + 2) nil5 26
  box : Blk W (H + 3) #[v] 23
  row : W.ownsRow (H + 4) 26 5 (.slice (some ⟨g, 0, none⟩) (yy.length + 1) cap) (yy.length + 1) (yy.flatMap It.cells ++ zero5)
  far : ∀ e ∈ yy, FarIt (H + 3) W nilV (.slice (some ⟨g, 0, none⟩) (yy.length + 1) cap) e
  small : ∀ e ∈ yy, smallT e.T
section
variable {H P : Nat} {dep : Int} {W W' : World} {v : Value} {g cap : Nat} {yy : List It}
theorem ListPre.aside (h : ListPre H P dep W v g cap yy) (ha : Aside P W W') (hP : P < H) : ListPre H P dep W' v g cap yy :=
  ⟨h.rp.aside ha (by omega), h.dp.aside ha (by omega), h.res.aside ha (by omega), h.box.aside ha (by omega), row_aside h.row ha (by omega), fun e he => (h.far e he).go ha.size (fun g h1 h2 _ _ => ha.block g h2 (by omega)) (fun g e => .inl e) (fun g e => .inl e), h.small⟩
theorem ListPre.base (h : ListPre H P dep W v g cap yy) : H + 4 ≤ g ∧ g < W.heap.size := World.ownsRow.lt h.row g rfl
/-- Behind an append to what stands there. -/
theorem ListAt.append (h : ListAt H P dep W v yy) (hown : W'.ownsRow (H + 4) 26 5 (.slice (some ⟨g, 0, none⟩) (yy.length + 1) cap) (yy.length + 1) (yy.flatMap It.cells ++ zero5)) (hg : W.grownBy W' v.ownBlock) (hat : v.ownBlock = some g ∨ g = W.heap.size) : ListPre H P dep W' v g cap yy := by
  have hb : ∀ q, v.ownBlock = some q → H + 4 ≤ q ∧ q < W.heap.size := fun q e => World.ownsRow.lt h.row q e
  have hne : ∀ B, B < H + 4 → some B ≠ v.ownBlock := fun B hB e => by have := hb B e.symm; omega
  refine ⟨h.rp.grows hg (hne _ (by omega)), h.dp.grows hg (hne _ (by omega)), h.res.grows hg (hne _ (by omega)), h.box.grows hg (hne _ (by omega)), hown, fun e he => (h.far e he).go hg.size (fun q h1 h2 _ h3 => hg.block q h2 h3) (fun q e => .inl e) (fun q e => ?_), h.small⟩
  obtain rfl : g = q := Option.some.inj e
  rcases hat with h | h
  · exact .inl h
  · exact .inr (by omega)
/-- The element written, then the variable. -/
theorem ListPre.done {y : It} (h : ListPre H P dep W v g cap yy) (hy : FarIt (H + 3) W nilV (.slice (some ⟨g, 0, none⟩) (yy.length + 1) cap) y) (hs : smallT y.T) :
    ListAt H P dep ((set5 W g (yy.length * 5) (.int .i64 y.k) (.bool y.b) (.string y.t) y.x y.y).setCell ⟨H + 3, 0, none⟩ (.slice (some ⟨g, 0, none⟩) (yy.length + 1) cap)) (.slice (some ⟨g, 0, none⟩) (yy.length + 1) cap) (yy ++ [y]) := by
  have hb := h.base
  have hk5 : ∀ B, B ≠ g → (set5 W g (yy.length * 5) (.int .i64 y.k) (.bool y.b) (.string y.t) y.x y.y).heap[B]? = W.heap[B]? := fun B hB => set5_other W g _ _ _ _ _ _ hB
  have hbk : ∀ {B : Nat} {cs : Array Value} {ty : TypeId}, Blk W B cs ty → B ≠ g → Blk (set5 W g (yy.length * 5) (.int .i64 y.k) (.bool y.b) (.string y.t) y.x y.y) B cs ty := fun hB hne => (hk5 _ hne).trans hB
  have hrow := row_last h.row (by rw [flat5_length]) (.int .i64 y.k) (.bool y.b) (.string y.t) y.x y.y
  have hfin : ∀ q, H + 3 < q → q < W.heap.size → some q ≠ (Value.slice (some ⟨g, 0, none⟩) (yy.length + 1) cap).ownBlock → (((set5 W g (yy.length * 5) (.int .i64 y.k) (.bool y.b) (.string y.t) y.x y.y).setCell ⟨H + 3, 0, none⟩ (.slice (some ⟨g, 0, none⟩) (yy.length + 1) cap))).heap[q]? = W.heap[q]? := fun q h1 h2 h3 => by
    rw [Below.heap_setCell _ _ _ _ (by show q ≠ H + 3; omega)]
    exact hk5 q (fun e => h3 (by rw [e]; rfl))
  have hsz : W.heap.size ≤ ((set5 W g (yy.length * 5) (.int .i64 y.k) (.bool y.b) (.string y.t) y.x y.y).setCell ⟨H + 3, 0, none⟩ (.slice (some ⟨g, 0, none⟩) (yy.length + 1) cap)).heap.size := by simp [set5]
  refine ⟨(hbk h.rp (by omega)).other (p := ⟨H + 3, 0, none⟩) (by show H ≠ H + 3; omega) _, (hbk h.dp (by omega)).other (p := ⟨H + 3, 0, none⟩) (by show H + 1 ≠ H + 3; omega) _, (hbk h.res (by omega)).other (p := ⟨H + 3, 0, none⟩) (by show H + 2 ≠ H + 3; omega) _, ?_, ?_, fun e he => ?_, fun e he => ?_⟩
  · have := (hbk h.box (by omega)).set 0 (.slice (some ⟨g, 0, none⟩) (yy.length + 1) cap)
    simpa using this
  · rw [List.length_append, List.flatMap_append]
    simp only [List.flatMap_cons, List.flatMap_nil, List.append_nil]
    exact row_set hrow _ _ (by intro e; have e2 : g = H + 3 := Option.some.inj e; omega)
  · rcases List.mem_append.1 he with he | he
    · exact (h.far e he).go hsz (fun q h1 h2 _ h3 => hfin q h1 h2 h3) (fun q e => .inl e) (fun q e => .inl e)
    · rw [List.mem_singleton] at he
      subst he
      exact hy.go hsz (fun q h1 h2 _ h3 => hfin q h1 h2 h3) (fun q e => .inl e) (fun q e => .inl e)
  · rcases List.mem_append.1 he with he | he
    · exact h.small e he
    · rw [List.mem_singleton] at he
      subst he
      exact hs
theorem pre_cells (h : ListPre H P dep W v g cap yy) : H + 4 ≤ g ∧ W.cell? ⟨g, yy.length * 5, none⟩ = some (.int .i64 0) ∧ W.cell? ⟨g, yy.length * 5 + 1, none⟩ = some (.bool false) ∧ W.cell? ⟨g, yy.length * 5 + 2, none⟩ = some (.string ⟨#[]⟩) ∧ W.cell? ⟨g, yy.length * 5 + 3, none⟩ = some (.slice none 0 0) ∧ W.cell? ⟨g, yy.length * 5 + 4, none⟩ = some (.slice none 0 0) ∧ W.frozen? ⟨g, yy.length * 5, none⟩ = false ∧ W.frozen? ⟨g, yy.length * 5 + 1, none⟩ = false ∧ W.frozen? ⟨g, yy.length * 5 + 2, none⟩ = false ∧ W.frozen? ⟨g, yy.length * 5 + 3, none⟩ = false ∧ W.frozen? ⟨g, yy.length * 5 + 4, none⟩ = false := by
  have hl : (yy.flatMap It.cells).length = yy.length * 5 := flat5_length yy
  have hc : ∀ i u, zero5[i]? = some u → W.cell? ⟨g, yy.length * 5 + i, none⟩ = some u := fun i u hu => by
    have := World.ownsRow.cells h.row (g := g) rfl (yy.length * 5 + i) u (by rw [List.getElem?_append_right (by omega), hl, Nat.add_sub_cancel_left]; exact hu)
    rwa [Lib.add_plain, Nat.zero_add] at this
  have hf : ∀ i, W.frozen? ⟨g, i, none⟩ = false := fun i => by
    obtain ⟨-, h1 | ⟨g', cap', cur, h1, h2, h3, -⟩⟩ := h.row
    · omega
    · cases h1; exact Blk.frozen h3 i
  exact ⟨h.base.1, hc 0 _ rfl, hc 1 _ rfl, hc 2 _ rfl, hc 3 _ rfl, hc 4 _ rfl, hf _, hf _, hf _, hf _, hf _⟩
end
end Go.Proofs.YtnmfoedfllmclaaGreatDoor
