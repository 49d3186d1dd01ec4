/- each: comma by comma, with a function value · key: one that isn't among those seen -/
import Derived.Deep.LoopGhost
import Derived.Maps.OwnSet
import Derived.Maps.Views
import Derived.Test.YtblldoniagiboaaGreatDoorJl18
import Derived.Test.YtblldoniagiboaaGreatDoorJl21
namespace Go.Proofs.YtblldoniagiboaaGreatDoor
open Go.RowKit Go.Shelf
set_option linter.unusedVariables false

/-- All blocks below B but P are as they were. -/
structure AsideB (B P : Nat) (W w' : World) : Prop where
  os : w'.os = W.os
  tape : w'.tape = W.tape
  output : w'.output = W.output
  size : W.heap.size ≤ w'.heap.size
  block : ∀ k, k < B → k ≠ P → w'.heap[k]? = W.heap[k]?
theorem AsideB.refl (B P : Nat) (W : World) : AsideB B P W W := ⟨rfl, rfl, rfl, Nat.le_refl _, fun _ _ _ => rfl⟩
theorem AsideB.trans {B P : Nat} {a b c : World} (h : AsideB B P a b) (k : AsideB B P b c) : AsideB B P a c :=
  ⟨k.os.trans h.os, k.tape.trans h.tape, k.output.trans h.output, Nat.le_trans h.size k.size, fun i hi hr => (k.block i hi hr).trans (h.block i hi hr)⟩
theorem Aside.toB {B P : Nat} {W w' : World} (h : Aside P W w') (hB : B ≤ W.heap.size) : AsideB B P W w' := ⟨h.os, h.tape, h.output, h.size, fun k hk hP => h.block k (by omega) hP⟩
theorem AsideB.toA {P : Nat} {W w' : World} (h : AsideB W.heap.size P W w') : Aside P W w' := ⟨h.os, h.tape, h.output, h.size, h.block⟩
theorem AsideB.ofBelow {B P : Nat} {W w' : World} (h : Below B W w') : AsideB B P W w' := ⟨h.os, h.tape, h.output, h.size, fun k hk _ => h.block k hk⟩
theorem ReadyJ.asideB {B P : Nat} {W W' : World} (h : ReadyJ W) (ha : AsideB B P W W') (hP : 7 ≤ P) (hB : 7 ≤ B) : ReadyJ W' := by
  refine h.below7 ⟨ha.os, ha.tape, ha.output, ha.size, fun k hk => ha.block k (by omega) (by omega)⟩
def WentB (B : Nat) (W W' : World) (P : Nat) (t : ByteArray) (a n : Nat) : Prop := AsideB B P W W' ∧ Rdr W' P t a n
theorem Went.toB {B P a n : Nat} {W W' : World} {t : ByteArray} (h : Went W W' P t a n) (hB : B ≤ W.heap.size) : WentB B W W' P t a n := ⟨h.1.toB hB, h.2⟩
theorem WentB.trans {B P a b n m : Nat} {W W1 W2 : World} {t : ByteArray} (h : WentB B W W1 P t a n) (k : WentB B W1 W2 P t b m) : WentB B W W2 P t b m := ⟨h.1.trans k.1, k.2⟩
def ThrownB (B : Nat) (W : World) (P : Nat) (t : ByteArray) (b : Bad) (e : Ending) (w' : World) : Prop := ∃ D, e = .panicked [{ v := .iface 34 (.pointer (some ⟨D, 0, none⟩)), recovered := false }] ∧ B ≤ D ∧ Blk w' D #[.int .i64 b.1, .string ⟨#[]⟩, .int .i64 ((t.size - b.2 : Nat) : Int)] 56 ∧ AsideB B P W w'
theorem Thrown.toB {B P : Nat} {W w' : World} {t : ByteArray} {b : Bad} {e : Ending} (h : Thrown W P t b e w') (hB : B ≤ W.heap.size) : ThrownB B W P t b e w' := by
  obtain ⟨D, h1, h2, h3, h4⟩ := h
  exact ⟨D, h1, Nat.le_trans hB h2, h3, h4.toB hB⟩
theorem ThrownB.after {B P : Nat} {W W1 w' : World} {t : ByteArray} {b : Bad} {e : Ending} (h : ThrownB B W1 P t b e w') (ha : AsideB B P W W1) : ThrownB B W P t b e w' := by
  obtain ⟨D, h1, h2, h3, h4⟩ := h
  exact ⟨D, h1, h2, h3, ha.trans h4⟩
theorem ThrownB.toA {P : Nat} {W w' : World} {t : ByteArray} {b : Bad} {e : Ending} (h : ThrownB W.heap.size W P t b e w') : Thrown W P t b e w' := by
  obtain ⟨D, h1, h2, h3, h4⟩ := h
  exact ⟨D, h1, h2, h3, h4.toA⟩
/-- How a reader by closure ends. -/
def CEnds {σ : Type} (B : Nat) (W : World) (P : Nat) (t : ByteArray) (St : World → σ → Nat → Prop) (r : Except Bad (σ × List UInt8 × Nat)) (e : Ending) (w' : World) : Prop :=
  match r with
  | .ok (st, R', n') => e = .returned (.tuple #[]) ∧ ∃ a', WentB B W w' P t a' n' ∧ rest t a' = R' ∧ St w' st n'
  | .error b => ThrownB B W P t b e w'
/-- A function value that reads one more. -/
structure ReadsC {σ : Type} (g : Nat) (lb : Array Value) (B P : Nat) (t : ByteArray) (St : World → σ → Nat → Prop) (rd : σ → RdJ σ) : Prop where
  enters : ∀ args w, (callFunc g args).run Tryz.prog w = .ok (.enter g args) w
  stays : ∀ W W' st n, St W st n → Aside P W W' → St W' st n
  reads : ∀ W a n st, Rdr W P t a n → ReadyJ W → B ≤ W.heap.size → St W st n → Calls Tryz.prog g lb W (CEnds B W P t St (rd st (rest t a) n))
  less : ∀ st R n st' R' n', rd st R n = .ok (st', R', n') → R'.length ≤ R.length
theorem skipB_le (R : List UInt8) : (skipB R).length ≤ R.length := by
  unfold skipB
  exact (List.dropWhile_suffix _).length_le
theorem pre_len {R : List UInt8} {q : UInt8} (h : Lib.hasPrefix R [q] = true) : 0 < R.length := by
  obtain ⟨r, rfl⟩ := pre_head.1 h
  simp
theorem seqJ_err {σ : Type} {rd : σ → RdJ σ} {q : UInt8} {f : Nat} {st : σ} {R : List UInt8} {n : Nat} {b : Bad} (h : rd st R n = .error b) : seqJ rd q (f + 1) st R n = .error b := by
  unfold seqJ; rw [h]
theorem seqJ_end {σ : Type} {rd : σ → RdJ σ} {q : UInt8} {f : Nat} {st st' : σ} {R R' : List UInt8} {n n' : Nat} (h : rd st R n = .ok (st', R', n')) (hq : Lib.hasPrefix (skipB R') [q] = true) : seqJ rd q (f + 1) st R n = .ok (st', (skipB R').drop 1, n') := by
  unfold seqJ; rw [h]; simp only; rw [if_pos hq]
theorem seqJ_more {σ : Type} {rd : σ → RdJ σ} {q : UInt8} {f : Nat} {st st' : σ} {R R' : List UInt8} {n n' : Nat} (h : rd st R n = .ok (st', R', n')) (hq : Lib.hasPrefix (skipB R') [q] = false) (hc : Lib.hasPrefix (skipB R') [44] = true) : seqJ rd q (f + 1) st R n = seqJ rd q f st' ((skipB R').drop 1) n' := by
  conv => lhs; unfold seqJ
  rw [h]; simp only; rw [if_neg (by rw [hq]; decide), if_pos hc]
theorem seqJ_bad {σ : Type} {rd : σ → RdJ σ} {q : UInt8} {f : Nat} {st st' : σ} {R R' : List UInt8} {n n' : Nat} (h : rd st R n = .ok (st', R', n')) (hq : Lib.hasPrefix (skipB R') [q] = false) (hc : Lib.hasPrefix (skipB R') [44] = false) : seqJ rd q (f + 1) st R n = .error (30, (skipB R').length) := by
  unfold seqJ; rw [h]; simp only; rw [if_neg (by rw [hq]; decide), if_neg (by rw [hc]; decide)]

set_option maxRecDepth 100000 in
set_option maxHeartbeats 8000000 in
theorem each_any {σ : Type} {W : World} {P B a n : Nat} {t : ByteArray} (h : Rdr W P t a n) (hR : ReadyJ W) (hP7 : 7 ≤ P) (hPB : P < B) (hBW : B ≤ W.heap.size) (hal : a < t.size) {g : Nat} {lb : Array Value} {St : World → σ → Nat → Prop} {rd : σ → RdJ σ} (hr : ReadsC g lb B P t St rd) {st0 : σ} (hst : St W st0 n) (q : UInt8) :
    Calls Tryz.prog 137 #[.pointer (some ⟨P, 0, none⟩), .string ⟨#[q]⟩, .func (.func g) #[] lb] W (CEnds B W P t St (eachJ rd q st0 (rest t a) n)) := by
  have hsz := h.2.2.1
  have k1 := h.1.cell 1
  have f1 := h.1.frozen 1
  have i0 : (0 : Int) ≤ (a : Int) := by omega
  have i1 : (a : Int) < (t.size : Int) := by omega
  have HM := Lib.hid (h.moves (b := a + 1) (by omega))
  have HM' : Hid (Went W (W.setCell ⟨P, 1, none⟩ (.int .i64 ((a : Int) + 1))) P t (a + 1) n) := Lib.hid (by simpa using HM.out)
  have HRM := Lib.hid (hR.aside HM'.out.1 hP7)
  have HST := Lib.hid (hr.stays _ _ _ _ hst HM'.out.1)
  have HR := Lib.hid hr
  have eg := hr.enters
  have hF := rest_length t a
  clear h hR hst hr HM
  have heach : eachJ rd q st0 (rest t a) n = if Lib.hasPrefix (skipB (rest t (a + 1))) [q] then .ok (st0, (skipB (rest t (a + 1))).drop 1, n) else seqJ rd q (rest t a).length st0 (skipB (rest t (a + 1))) n := by rw [rest_add]; rfl
  obtain ⟨W0, hW0⟩ : ∃ W0, W.setCell ⟨P, 1, none⟩ (.int .i64 ((a : Int) + 1)) = W0 := ⟨_, rfl⟩
  rw [hW0] at HM' HRM HST
  have HW0 := Lib.hid hW0
  clear hW0
  cases hq : Lib.hasPrefix (skipB (rest t (a + 1))) [q]
  · rw [hq, if_neg Bool.false_ne_true] at heach
    have HT := Lib.hid (take_b HM'.out.2 ⟨#[q]⟩ hq)
    obtain ⟨F, hFF⟩ : ∃ F, (rest t a).length = F := ⟨_, rfl⟩
    rw [hFF] at heach hF
    obtain ⟨X, hX⟩ : ∃ X, seqJ rd q F st0 (skipB (rest t (a + 1))) n = X := ⟨_, rfl⟩
    rw [hX] at heach
    have HE := Lib.hid heach
    have HX := Lib.hid hX
    have hl0 := skipB_le (rest t (a + 1))
    rw [rest_length] at hl0
    clear hq heach hX hFF
    go_enter Tryz.func137, Tryz.ntmps137
    go_wp2_with fail
    rw [HW0.out]
    clear k1 f1
    go_at_call 172; refine HT.out.mono ?_; rintro e w1 ⟨rfl, c1, hw1, hc1⟩
    have hc1' : rest t c1 = skipB (rest t (a + 1)) := hc1
    have HW1 := Lib.hid ((HM'.out.trans hw1).toB hBW)
    have HR1 := Lib.hid (HRM.out.aside hw1.1 hP7)
    have HS1 := Lib.hid (HR.out.stays _ _ _ _ HST.out hw1.1)
    have HX1 : Hid (seqJ rd q F st0 (rest t c1) n = X) := Lib.hid (by rw [hc1']; exact HX.out)
    have hl1 : t.size - c1 ≤ t.size - (a + 1) := by rw [← rest_length t c1, hc1']; exact hl0
    clear hw1 hc1 hc1'
    go_wp2_with fail
    go_loopg [] F (fun gf wx => ∃ (c m : Nat) (st : σ), Hid (WentB B W wx P t c m) ∧ Hid (ReadyJ wx) ∧ Hid (St wx st m) ∧ Hid (seqJ rd q gf st (rest t c) m = X) ∧ t.size - c < gf)
    case atStart => exact ⟨c1, n, st0, HW1, HR1, HS1, HX1, by omega⟩
    case round =>
      obtain ⟨c, m, st, HW, HRW, HS, HXc, hfu⟩ := hrel
      obtain ⟨g', rfl⟩ : ∃ g', gk = g' + 1 := ⟨gk - 1, by omega⟩
      have hBw : B ≤ wr.heap.size := Nat.le_trans hBW HW.out.1.size
      have HC := Lib.hid (HR.out.reads wr c m st HW.out.2 HRW.out hBw HS.out)
      cases hrd : rd st (rest t c) m with
      | error b =>
        rw [hrd] at HC
        have HX2 := Lib.hid (HXc.out.symm.trans (seqJ_err hrd))
        clear hrd
        go_wp2_with (go_at_fn g; refine HC.out.mono ?_; rintro e w2 ⟨D, rfl, h1, h2, h3⟩)
        refine ⟨rfl, ?_⟩
        rw [HE.out, HX2.out]
        exact ThrownB.after ⟨D, rfl, h1, h2, h3⟩ HW.out.1
      | ok y =>
        obtain ⟨st', R', n'⟩ := y
        have hless := HR.out.less _ _ _ _ _ _ hrd
        rw [rest_length] at hless
        rw [hrd] at HC
        have HRD := Lib.hid hrd
        clear hrd
        go_wp2_with (go_at_fn g; refine HC.out.mono ?_; rintro e w2 ⟨rfl, c', hw2, hc', hst'⟩; refine Hid.out ?_)
        refine Lib.hid ?_
        have HW2 := Lib.hid (HW.out.trans hw2)
        have HR2 := Lib.hid (HRW.out.asideB hw2.1 hP7 (by omega))
        have HS2 := Lib.hid hst'
        have HC2 := Lib.hid hc'
        have hBw2 : B ≤ w2.heap.size := Nat.le_trans hBw hw2.1.size
        clear hw2 hc' hst' HC
        cases hq2 : Lib.hasPrefix (skipB R') [q]
        · have hq3 : Lib.hasPrefix (skipB (rest t c')) [q] = false := by rw [HC2.out]; exact hq2
          have HT2 := Lib.hid (take_b HW2.out.2 ⟨#[q]⟩ hq3)
          have HQ2 := Lib.hid hq2
          clear hq2 hq3
          go_wp2_with (go_at_call 172; refine HT2.out.mono ?_; rintro e w3 ⟨rfl, c3, hw3, hc3⟩; refine Hid.out ?_)
          refine Lib.hid ?_
          have hc3' : rest t c3 = skipB R' := by rw [← HC2.out]; exact hc3
          have HW3 := Lib.hid (HW2.out.trans (hw3.toB hBw2))
          have HR3 := Lib.hid (HR2.out.aside hw3.1 hP7)
          have HS3 := Lib.hid (HR.out.stays _ _ _ _ HS2.out hw3.1)
          have HC3 := Lib.hid hc3'
          have hBw3 : B ≤ w3.heap.size := Nat.le_trans hBw2 hw3.1.size
          clear hw3 hc3 hc3' HT2
          cases hcm : Lib.hasPrefix (skipB R') [44]
          · have hcm' : Lib.hasPrefix (skipB (rest t c3)) [44] = false := by rw [HC3.out, skipB_idem]; exact hcm
            have HX2 := Lib.hid (HXc.out.symm.trans (seqJ_bad HRD.out HQ2.out hcm))
            have HN := Lib.hid (want_no HW3.out.2 hcm')
            clear hcm hcm'
            go_wp2_with (go_at_call 142; refine HN.out.mono ?_; rintro e w4 ⟨D, rfl, h1, h2, h3⟩)
            refine ⟨rfl, ?_⟩
            rw [HE.out, HX2.out]
            rw [HC3.out, skipB_idem] at h2
            exact ThrownB.after ⟨D, rfl, Nat.le_trans hBw3 h1, h2, h3.toB hBw3⟩ HW3.out.1
          · have hcm' : Lib.hasPrefix (skipB (rest t c3)) [44] = true := by rw [HC3.out, skipB_idem]; exact hcm
            have HX2 := Lib.hid (HXc.out.symm.trans (seqJ_more HRD.out HQ2.out hcm))
            have HY := Lib.hid (want_yes HW3.out.2 hcm')
            have hpl := pre_len hcm
            have hsl := skipB_le R'
            clear hcm hcm'
            go_wp2_with (go_at_call 142; refine HY.out.mono ?_; rintro e w4 ⟨rfl, c4, hw4, hc4⟩)
            have hc4' : rest t c4 = (skipB R').drop 1 := by rw [hc4, HC3.out, skipB_idem]
            have hl4 : t.size - c4 = (skipB R').length - 1 := by rw [← rest_length, hc4', List.length_drop]
            have HW4 := Lib.hid (HW3.out.trans (hw4.toB hBw3))
            have HR4 := Lib.hid (HR3.out.aside hw4.1 hP7)
            have HS4 := Lib.hid (HR.out.stays _ _ _ _ HS3.out hw4.1)
            have HX4 : Hid (seqJ rd q g' st' (rest t c4) n' = X) := Lib.hid (by rw [hc4']; exact HX2.out.symm)
            clear hw4 hc4 hc4' HY
            go_roundg g'
            case measure => omega
            case rel => exact ⟨c4, n', st', HW4, HR4, HS4, HX4, by omega⟩
        · have hq3 : Lib.hasPrefix (skipB (rest t c')) [q] = true := by rw [HC2.out]; exact hq2
          have HT2 := Lib.hid (take_b HW2.out.2 ⟨#[q]⟩ hq3)
          have HX2 := Lib.hid (HXc.out.symm.trans (seqJ_end HRD.out hq2))
          clear hq2 hq3
          go_wp2_with (go_at_call 172; refine HT2.out.mono ?_; rintro e w3 ⟨rfl, c3, hw3, hc3⟩)
          have hc3' : rest t c3 = (skipB R').drop 1 := by rw [← HC2.out]; exact hc3
          go_end0
          rw [HE.out, HX2.out]
          exact ⟨rfl, c3, HW2.out.trans (hw3.toB hBw2), hc3', HR.out.stays _ _ _ _ HS2.out hw3.1⟩
  · rw [hq, if_pos rfl] at heach
    have HT := Lib.hid (take_b HM'.out.2 ⟨#[q]⟩ hq)
    have HE := Lib.hid heach
    clear hq heach
    go_enter Tryz.func137, Tryz.ntmps137
    go_wp2_with fail
    rw [HW0.out]
    clear k1 f1
    go_at_call 172; refine HT.out.mono ?_; rintro e w1 ⟨rfl, c1, hw1, hc1⟩
    have HW1 := Lib.hid ((HM'.out.trans hw1).toB hBW)
    have HS1 := Lib.hid (HR.out.stays _ _ _ _ HST.out hw1.1)
    have HC1 := Lib.hid hc1
    clear hw1 hc1
    go_wp2
    go_end0
    rw [HE.out]
    exact ⟨rfl, c1, HW1.out, HC1.out, HS1.out⟩
end Go.Proofs.YtblldoniagiboaaGreatDoor
namespace Go.Proofs.YtblldoniagiboaaGreatDoor
open Go.RowKit Go.Shelf Go.Maps Go.WideMaps
set_option linter.unusedVariables false

def litOf (k : ByteArray) : Lit := .string k.data.toList
def seenD (ks : List ByteArray) : DataW Unit := setOf (.agg []) (ks.map litOf)
/-- Block M is the set of these keys. -/
def SeenAt (W : World) (M : Nat) (ks : List ByteArray) : Prop := W.ownsMap (H := Unit) Tryz.prog 9 unitElem M ks.length (seenD ks)
theorem seenD_snoc (ks : List ByteArray) (k : ByteArray) : seenD (ks ++ [k]) = (seenD ks).put (litOf k) (.agg []) := by
  unfold seenD
  rw [List.map_append]
  exact setOf_snoc _ _ _
theorem bytes_eq {a b : ByteArray} (h : a.data.toList = b.data.toList) : a = b := by
  cases a; cases b
  congr 1
  exact Array.toList_inj.1 h
theorem has_seen (ks : List ByteArray) (k : ByteArray) : Maps.has (seenD ks) (litOf k) = ks.contains k := by
  unfold seenD
  rw [has_setOf _ _ _ (fun x hx => by obtain ⟨y, -, rfl⟩ := List.mem_map.1 hx; exact trivial)]
  induction ks with
  | nil => rfl
  | cons a l ih =>
    rw [List.map_cons, List.any_cons, ih, List.contains_cons]
    have e : (litOf a).sameKey (litOf k) = (k == a) := by
      show (a.data.toList == k.data.toList) = (k == a)
      cases a with | mk x => cases k with | mk y =>
      show (x.toList == y.toList) = (y == x)
      rw [Bool.eq_iff_iff, beq_iff_eq, beq_iff_eq]
      exact ⟨fun h => (Array.toList_inj.1 h).symm, fun h => by rw [h]⟩
    rw [e]
theorem law_str : Keyed Tryz.prog 9 := string_keyed Tryz.underlying9
/-- All blocks that were there but two are as they were. -/
structure OffM (P M : Nat) (W w' : World) : Prop where
  os : w'.os = W.os
  tape : w'.tape = W.tape
  output : w'.output = W.output
  size : W.heap.size ≤ w'.heap.size
  block : ∀ k, k < W.heap.size → k ≠ P → k ≠ M → w'.heap[k]? = W.heap[k]?
theorem OffM.of {P M : Nat} {W w w' : World} (h : Aside P W w) {row : Option Nat} (hg : w.grownBy w' row) (hr : ∀ k, row = some k → k = M) : OffM P M W w' :=
  ⟨hg.os.trans h.os, hg.tape.trans h.tape, hg.output.trans h.output, Nat.le_trans h.size hg.size, fun k hk h1 h2 => (hg.block k (Nat.lt_of_lt_of_le hk h.size) (fun e => h2 (hr k e.symm))).trans (h.block k hk h1)⟩
theorem SeenAt.aside {P M : Nat} {W w' : World} {ks : List ByteArray} (h : SeenAt W M ks) (ha : Aside P W w') (hne : M ≠ P) : SeenAt w' M ks := by
  obtain ⟨es, clock, h1, h2, h3, h4⟩ := h
  exact ⟨es, clock, (ha.block M (Array.getElem?_eq_some_iff.1 h1).1 hne).trans h1, h2, h3, h4⟩
theorem quotedJ_size {R R' : List UInt8} {s : ByteArray} (h : quotedJ R = .ok (s, R')) : s.size ≤ 16384 := by
  unfold quotedJ at h
  split at h
  · cases h
  · split at h
    · cases h
    · cases h
      show (_ : List UInt8).toArray.size ≤ _
      simp
      omega
/-- How key ends. -/
def KEnds (W : World) (P M : Nat) (t : ByteArray) (n : Nat) (ks : List ByteArray) (r : Except Bad (ByteArray × List UInt8)) (e : Ending) (w' : World) : Prop :=
  match r with
  | .ok (k, R') => e = .returned (.string k) ∧ k.size ≤ 16384 ∧ ∃ a', OffM P M W w' ∧ Rdr w' P t a' n ∧ rest t a' = R' ∧ SeenAt w' M (ks ++ [k])
  | .error b => Thrown W P t b e w'
theorem keyJ_none {ks : List ByteArray} {R : List UInt8} (h : Lib.hasPrefix (skipB R) [34] = false) : keyJ ks R = .error (30, (skipB R).length) := by
  unfold keyJ; rw [if_neg (by rw [h]; decide)]
theorem keyJ_err {ks : List ByteArray} {R : List UInt8} {b : Bad} (h : Lib.hasPrefix (skipB R) [34] = true) (hq : quotedJ (skipB R) = .error b) : keyJ ks R = .error b := by
  unfold keyJ; rw [if_pos h, hq]
theorem keyJ_twice {ks : List ByteArray} {R R' : List UInt8} {k : ByteArray} (h : Lib.hasPrefix (skipB R) [34] = true) (hq : quotedJ (skipB R) = .ok (k, R')) (hc : ks.contains k = true) : keyJ ks R = .error (2, (skipB R).length) := by
  unfold keyJ; rw [if_pos h, hq]; simp only; rw [if_pos hc]
theorem keyJ_ok {ks : List ByteArray} {R R' : List UInt8} {k : ByteArray} (h : Lib.hasPrefix (skipB R) [34] = true) (hq : quotedJ (skipB R) = .ok (k, R')) (hc : ks.contains k = false) : keyJ ks R = .ok (k, R') := by
  unfold keyJ; rw [if_pos h, hq]; simp only; rw [if_neg (by rw [hc]; decide)]
theorem head_pre {R : List UInt8} {q : UInt8} (hq : q ≠ 0) : ((headN R : Int) == (q.toNat : Int)) = Lib.hasPrefix R [q] := by
  cases R with
  | nil =>
    show (((0 : Nat) : Int) == (q.toNat : Int)) = false
    refine beq_eq_false_iff_ne.2 (fun e => hq (UInt8.toNat_inj.1 ?_))
    have : 0 = q.toNat := by omega
    exact this.symm
  | cons c r =>
    show ((c.toNat : Int) == (q.toNat : Int)) = (q == c && true)
    rw [Bool.and_true, Bool.eq_iff_iff, beq_iff_eq, beq_iff_eq]
    constructor
    · intro h; exact UInt8.toNat_inj.1 (by omega)
    · rintro rfl; rfl
theorem zero_unit (w : World) : (zeroValue 210).run Tryz.prog w = .ok (.agg #[]) w := by kernel_rfl
theorem seen_put {W : World} {M : Nat} {ks : List ByteArray} {k : ByteArray} (h : W.ownsMap (H := Unit) Tryz.prog 9 unitElem M (ks.length + 1) ((seenD ks).put (litOf k) (.agg []))) : SeenAt W M (ks ++ [k]) := by
  unfold SeenAt
  rw [List.length_append, List.length_singleton, seenD_snoc]
  exact h
theorem rdr_grown {W W' : World} {P a n : Nat} {t : ByteArray} (h : Rdr W P t a n) {row : Option Nat} (hg : W.grownBy W' row) (hr : ∀ k, row = some k → k ≠ P) : Rdr W' P t a n :=
  ⟨(hg.block P h.1.lt (fun e => hr P e.symm rfl)).trans h.1, h.2⟩
theorem thrown_at {W W1 : World} {P p : Nat} {t : ByteArray} {c : Int} {l : Nat} (ha : Aside P W W1) (hl : t.size - l = p) : Thrown W P t (c, l) (.panicked [{ v := .iface 34 (.pointer (some ⟨W1.heap.size, 0, none⟩)), recovered := false }]) (W1.alloc (.cells #[.int .i64 c, .string ⟨#[]⟩, .int .i64 (p : Int)] 56)) :=
  ⟨W1.heap.size, rfl, ha.size, by subst hl; exact Blk.new _ _ _, ha.trans (Aside.of (below_new0 _ _))⟩
set_option maxRecDepth 100000 in
set_option maxHeartbeats 4000000 in
theorem key_any {W : World} {P M a n : Nat} {t : ByteArray} {ks : List ByteArray} (h : Rdr W P t a n) (hR : ReadyJ W) (hP7 : 7 ≤ P) (hs : SeenAt W M ks) (hMP : M ≠ P) (hks : ks.length ≤ 10000) :
    Calls Tryz.prog 141 #[.pointer (some ⟨P, 0, none⟩), .map (some M)] W (KEnds W P M t n ks (keyJ ks (rest t a))) := by
  have HS := Lib.hid h
  have HR := Lib.hid hR
  have HB := Lib.hid (blanks_any h)
  have HM := Lib.hid hs
  have hh := head_pre (R := skipB (rest t a)) (q := 34) (by decide)
  clear h hR hs
  cases hq : Lib.hasPrefix (skipB (rest t a)) [34]
  · rw [hq] at hh
    have HX := Lib.hid (keyJ_none (ks := ks) hq)
    have hb : ((headN (skipB (rest t a)) : Int) == 34) = false := hh
    have hb2 : ((headN (skipB (rest t a)) : Int) != 34) = true := by simp only [bne, hb]; rfl
    obtain ⟨hd, hhd⟩ : ∃ hd, headN (skipB (rest t a)) = hd := ⟨_, rfl⟩
    rw [hhd] at hb hb2
    clear hq hh
    go_enter Tryz.func141, Tryz.ntmps141
    go_wp2_with fail
    go_at_call 68; refine HB.out.mono ?_; rintro e w1 ⟨rfl, c1, hw1, hc1⟩
    have HP1 := Lib.hid (peek_any hw1.2)
    rw [hc1, hhd] at HP1
    have k1 := hw1.2.1.cell 1
    have HW1 := Lib.hid hw1
    have HC1 := Lib.hid hc1
    clear hw1 hc1 hhd
    go_wp2_with (first | (go_at_call 101; refine HP1.out.mono ?_; rintro e w2 ⟨rfl, hb2⟩) | (go_at_call 66; refine (diag_any _ _ _).mono ?_; rintro e w3 ⟨rfl, rfl⟩))
    refine ⟨rfl, ?_⟩
    rw [HX.out]
    exact thrown_new (c := 30) (HW1.out.trans (HW1.out.2.stays hb2)) (l := (skipB (rest t a)).length) (by rw [← HC1.out]; exact rest_back HW1.out.2.2.1)
  · rw [hq] at hh
    have hb : ((headN (skipB (rest t a)) : Int) == 34) = true := hh
    have hb2 : ((headN (skipB (rest t a)) : Int) != 34) = false := by simp only [bne, hb]; rfl
    obtain ⟨hd, hhd⟩ : ∃ hd, headN (skipB (rest t a)) = hd := ⟨_, rfl⟩
    rw [hhd] at hb hb2
    obtain ⟨X, hX⟩ : ∃ X, quotedJ (skipB (rest t a)) = X := ⟨_, rfl⟩
    have HX := Lib.hid hX
    have HQ := Lib.hid hq
    clear hh hq hX
    go_enter Tryz.func141, Tryz.ntmps141
    go_wp2_with fail
    go_at_call 68; refine HB.out.mono ?_; rintro e w1 ⟨rfl, c1, hw1, hc1⟩
    have HP1 := Lib.hid (peek_any hw1.2)
    rw [hc1, hhd] at HP1
    have k1 := hw1.2.1.cell 1
    have HL : Hid (c1 < t.size) := Lib.hid (by
      have h1 := HQ.out
      rw [← hc1] at h1
      obtain ⟨r, hr⟩ := pre_head.1 h1
      have h2 := rest_length t c1
      rw [hr, List.length_cons] at h2
      omega)
    have HW1 := Lib.hid hw1
    have HC1 := Lib.hid hc1
    clear hw1 hc1 hhd
    go_wp2_with (go_at_call 101; refine HP1.out.mono ?_; rintro e w2 ⟨rfl, hbw⟩)
    have HW2 := Lib.hid (HW1.out.trans (HW1.out.2.stays hbw))
    clear hbw k1
    have hquo := quoted_any HW2.out.2 (HR.out.aside HW2.out.1 hP7) hP7 HL.out
    rw [HC1.out, HX.out] at hquo
    have HU := Lib.hid hquo
    have HP : Hid (t.size - (skipB (rest t a)).length = c1) := Lib.hid (by rw [← HC1.out]; exact rest_back (Nat.le_of_lt HL.out))
    clear hquo HP1 HB HS
    go_at_call 103; refine HU.out.mono ?_; clear HU
    cases X with
    | error b =>
      rintro e w3 ⟨D, rfl, h1, h2, h3⟩
      refine ⟨rfl, ?_⟩
      rw [keyJ_err HQ.out HX.out]
      exact Thrown.after ⟨D, rfl, h1, h2, h3⟩ HW2.out.1
    | ok y =>
      obtain ⟨k, R'⟩ := y
      rintro e w3 ⟨rfl, c3, hw3, hc3⟩
      have hk16 := quotedJ_size HX.out
      have HW3 := Lib.hid (HW2.out.trans hw3)
      have HC3 := Lib.hid hc3
      have HM3 := Lib.hid (HM.out.aside HW3.out.1 hMP)
      have hkey : keyOf Tryz.prog 9 (.string k) = some (litOf k) := keyOf_string_mk Tryz.underlying9 (by unfold maxLen; omega)
      clear hw3 hc3 HW1 HW2 HC1
      cases hc : ks.contains k
      · have hhas : Maps.has (seenD ks) (litOf k) = false := (has_seen ks k).trans hc
        have HH := Lib.hid hc
        clear hc
        go_wp2_with (first
          | (at_lookup; refine wpList_lookup_own_unit _ rfl _ _ 185 rfl 9 210 law_str Tryz.underlying185 (zero_unit _) M ks.length (seenD ks) rfl HM3.out _ (litOf k) rfl hkey ?_; rw [hhas])
          | (at_mapUpdate; refine wpList_mapUpdate_own _ rfl _ _ _ 185 rfl 9 210 law_str Tryz.underlying185 unitElem M ks.length (seenD ks) rfl (HM3.out.alloc _) (by unfold maxLen; omega) _ _ (litOf k) rfl rfl hkey (.agg []) [] unitElem_mk ?_; intro w4 hown4 hgrow4))
        go_ret
        rw [keyJ_ok HQ.out HX.out HH.out]
        have ha := HW3.out.1.trans (Aside.of ((Below.refl _ w3).alloc (Nat.le_refl _) (.cells #[] 210)))
        exact ⟨rfl, hk16, c3, OffM.of ha hgrow4 (fun j hj => by cases hj; rfl), rdr_grown (HW3.out.2.below ((Below.refl _ w3).alloc (Nat.le_refl _) _)) hgrow4 (fun j hj => by cases hj; exact hMP), HC3.out, seen_put hown4⟩
      · have hhas : Maps.has (seenD ks) (litOf k) = true := (has_seen ks k).trans hc
        have HH := Lib.hid hc
        clear hc
        go_wp2_with (first
          | (at_lookup; refine wpList_lookup_own_unit _ rfl _ _ 185 rfl 9 210 law_str Tryz.underlying185 (zero_unit _) M ks.length (seenD ks) rfl HM3.out _ (litOf k) rfl hkey ?_; rw [hhas])
          | (go_at_call 66; refine (diag_any _ _ _).mono ?_; rintro e w4 ⟨rfl, rfl⟩))
        refine ⟨rfl, ?_⟩
        rw [keyJ_twice HQ.out HX.out HH.out]
        have hT := thrown_at (c := 2) (HW3.out.1.trans (Aside.of ((Below.refl _ w3).alloc (Nat.le_refl _) (.cells #[] 210)))) HP.out
        have hs : (w3.alloc (.cells #[] 210)).heap.size = w3.heap.size + 1 := by simp
        rw [hs] at hT
        exact hT
end Go.Proofs.YtblldoniagiboaaGreatDoor
