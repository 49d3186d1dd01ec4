/- skipRemark and skipBetween. -/
import Derived.Test.YtpdepdigacpfiaaDoorLSpec
namespace Go.Proofs.YtpdepdigacpfiaaDoor
open Go.RowKit Go.Shelf
set_option linter.unusedVariables false

theorem ascii_of {l : List UInt8} (h : (l.all fun c => decide (c.toNat < 128)) = true) : AllAscii ⟨l.toArray⟩ := fun c hc => by
  have := List.all_eq_true.1 h c (by simpa using hc)
  simpa using this
theorem asc10 : AllAscii ⟨#[10]⟩ := ascii_of (l := [10]) (by decide)
theorem asc3 : AllAscii ⟨#[32, 9, 13]⟩ := ascii_of (l := [32, 9, 13]) (by decide)

set_option maxRecDepth 100000 in
set_option maxHeartbeats 2000000 in
theorem remark_line {W : World} {P a b : Nat} {t : ByteArray} (h : Scn W P t a) (h1 : (Lib.hasPrefix (rest t a) [35] || Lib.hasPrefix (rest t a) [47, 47]) = true) {R : List UInt8} (hR : (rest t a).dropWhile (notIn [10]) = R) (hb : b = t.size - R.length) : Calls Tryd.prog 22 #[.pointer (some ⟨P, 0, none⟩)] W fun e w' => e = .returned (.bool true) ∧ Went W w' P t b := by
  have HS := Lib.hid h
  have HA := Lib.hid (fun (w : World) (hs : Scn w P t a) => has_any hs ⟨#[35]⟩)
  have HB := Lib.hid (fun (w : World) (hs : Scn w P t a) => has_any hs ⟨#[47, 47]⟩)
  have HN := Lib.hid (fun w => noneOf_any asc10 (by decide) w)
  have HT := Lib.hid (fun (w : World) (hs : Scn w P t a) (g : Nat) (lb : Array Value) (hg : Says g lb (outP ⟨#[10]⟩) w) => take_to hs hg (R := R) (b := b) (by
    have := outP_bytes asc10 hs.2.1
    rw [← hR]
    exact this) hb)
  obtain ⟨v, hv⟩ : ∃ v, Lib.hasPrefix (rest t a) [35] = v := ⟨_, rfl⟩
  simp only [hv] at HA h1
  obtain ⟨v2, hv2⟩ : ∃ v, Lib.hasPrefix (rest t a) [47, 47] = v := ⟨_, rfl⟩
  simp only [hv2] at HB h1
  clear h hv hv2 hR hb
  cases v
  · obtain rfl : v2 = true := by simpa using h1
    go_enter Tryd.func22, Tryd.ntmps22
    go_wp2_with fail
    go_at_call 25; refine (HA.out _ HS.out).mono ?_; rintro e w1 ⟨rfl, hb1⟩
    have HS1 := Lib.hid (HS.out.below hb1)
    have HW1 := Lib.hid (HS.out.stays hb1)
    clear hb1
    go_wp2_with fail
    go_at_call 25; refine (HB.out _ HS1.out).mono ?_; rintro e w2 ⟨rfl, hb2⟩
    have HS2 := Lib.hid (HS1.out.below hb2)
    have HW2 := Lib.hid (HW1.out.trans (HS1.out.stays hb2))
    clear hb2
    go_wp2_with fail
    go_at_call 35; refine (HN.out _).mono ?_; rintro e w3 ⟨⟨lb, rfl, hsay⟩, hb3⟩
    have HS3 := Lib.hid (HS2.out.below hb3)
    have HW3 := Lib.hid (HW2.out.trans (HS2.out.stays hb3))
    have HSY := Lib.hid hsay
    clear hb3 hsay
    go_wp2_with fail
    go_at_call 20; refine (HT.out _ HS3.out _ _ HSY.out).mono ?_; rintro e w4 ⟨rfl, hw4⟩
    go_wp2
    go_ret
    exact ⟨rfl, HW3.out.trans hw4⟩
  · go_enter Tryd.func22, Tryd.ntmps22
    go_wp2_with fail
    go_at_call 25; refine (HA.out _ HS.out).mono ?_; rintro e w1 ⟨rfl, hb1⟩
    have HS1 := Lib.hid (HS.out.below hb1)
    have HW1 := Lib.hid (HS.out.stays hb1)
    clear hb1
    go_wp2_with fail
    go_at_call 35; refine (HN.out _).mono ?_; rintro e w3 ⟨⟨lb, rfl, hsay⟩, hb3⟩
    have HS3 := Lib.hid (HS1.out.below hb3)
    have HW3 := Lib.hid (HW1.out.trans (HS1.out.stays hb3))
    have HSY := Lib.hid hsay
    clear hb3 hsay
    go_wp2_with fail
    go_at_call 20; refine (HT.out _ HS3.out _ _ HSY.out).mono ?_; rintro e w4 ⟨rfl, hw4⟩
    go_wp2
    go_ret
    exact ⟨rfl, HW3.out.trans hw4⟩

/-- What the three looks are. -/
structure Looks (P a : Nat) (t : ByteArray) (v : Bool) : Prop where
  one : ∀ w, Scn w P t a → Calls Tryd.prog 25 #[.pointer (some ⟨P, 0, none⟩), .string ⟨#[35]⟩] w fun e w' => e = .returned (.bool false) ∧ Below w.heap.size w w'
  two : ∀ w, Scn w P t a → Calls Tryd.prog 25 #[.pointer (some ⟨P, 0, none⟩), .string ⟨#[47, 47]⟩] w fun e w' => e = .returned (.bool false) ∧ Below w.heap.size w w'
  three : ∀ w, Scn w P t a → Calls Tryd.prog 25 #[.pointer (some ⟨P, 0, none⟩), .string ⟨#[47, 42]⟩] w fun e w' => e = .returned (.bool v) ∧ Below w.heap.size w w'
theorem looks_of {P a : Nat} {t : ByteArray} {v : Bool} (h1 : Lib.hasPrefix (rest t a) [35] = false) (h2 : Lib.hasPrefix (rest t a) [47, 47] = false) (h3 : Lib.hasPrefix (rest t a) [47, 42] = v) : Looks P a t v where
  one w hs := by have := has_any hs ⟨#[35]⟩; simp only [h1] at this; exact this
  two w hs := by have := has_any hs ⟨#[47, 47]⟩; simp only [h2] at this; exact this
  three w hs := by have := has_any hs ⟨#[47, 42]⟩; simp only [h3] at this; exact this
set_option maxRecDepth 100000 in
set_option maxHeartbeats 2000000 in
theorem remark_not {W : World} {P a : Nat} {t : ByteArray} (h : Scn W P t a) (hl : Looks P a t false) : Calls Tryd.prog 22 #[.pointer (some ⟨P, 0, none⟩)] W fun e w' => e = .returned (.bool false) ∧ Below W.heap.size W w' := by
  have HS := Lib.hid h
  have HA := Lib.hid hl.one
  have HB := Lib.hid hl.two
  have HC := Lib.hid hl.three
  clear h hl
  go_enter Tryd.func22, Tryd.ntmps22
  go_wp2_with fail
  go_at_call 25; refine (HA.out _ HS.out).mono ?_; rintro e w1 ⟨rfl, hb1⟩
  have HS1 := Lib.hid (HS.out.below hb1)
  have HB1 := Lib.hid hb1
  clear hb1
  go_wp2_with fail
  go_at_call 25; refine (HB.out _ HS1.out).mono ?_; rintro e w2 ⟨rfl, hb2⟩
  have HS2 := Lib.hid (HS1.out.below hb2)
  have HB2 := Lib.hid (HB1.out.trans (hb2.mono HB1.out.size))
  clear hb2
  go_wp2_with fail
  go_at_call 25; refine (HC.out _ HS2.out).mono ?_; rintro e w3 ⟨rfl, hb3⟩
  have HB3 := Lib.hid (HB2.out.trans (hb3.mono HB2.out.size))
  clear hb3
  go_wp2
  go_ret
  exact ⟨rfl, HB3.out⟩
theorem cut_found {R : List UInt8} (h : 0 ≤ Lib.index R [42, 47]) : Lib.cut R [42, 47] = (R.take (Lib.index R [42, 47]).toNat, R.drop ((Lib.index R [42, 47]).toNat + 2), true) := by
  unfold Lib.cut; rw [if_pos h]; rfl
theorem cut_not {R : List UInt8} (h : ¬ 0 ≤ Lib.index R [42, 47]) : Lib.cut R [42, 47] = (R, [], false) := by
  unfold Lib.cut; rw [if_neg h]
set_option maxRecDepth 100000 in
set_option maxHeartbeats 2000000 in
theorem remark_block {W : World} {P a : Nat} {t : ByteArray} {m : Int} (h : Scn W P t a) (hl : Looks P a t true) (hm : W.cell? ⟨1, 0, none⟩ = some (.int .i64 m)) (hle : a + 2 ≤ t.size) : Calls Tryd.prog 22 #[.pointer (some ⟨P, 0, none⟩)] W fun e w' =>
    (0 ≤ Lib.index (rest t (a + 2)) [42, 47] → e = .returned (.bool true) ∧ Went W w' P t (t.size - ((rest t (a + 2)).drop ((Lib.index (rest t (a + 2)) [42, 47]).toNat + 2)).length)) ∧ (¬ 0 ≤ Lib.index (rest t (a + 2)) [42, 47] → e = .returned (.bool false) ∧ Below W.heap.size W w') := by
  have HS := Lib.hid h
  have HA := Lib.hid hl.one
  have HB := Lib.hid hl.two
  have HC := Lib.hid hl.three
  have hsz := h.2.2
  have HM := Lib.hid hm
  have HCut := Lib.hid (fun (w : World) (hm : w.cell? ⟨1, 0, none⟩ = some (.int .i64 m)) => Tryd.strings_Cut (t.extract (a + 2) t.size) ⟨#[42, 47]⟩ m w (by simp; omega) hm)
  rw [rest_extract] at HCut
  obtain ⟨x, hx⟩ : ∃ x, rest t (a + 2) = x := ⟨_, rfl⟩
  have hxl : x.length = t.size - (a + 2) := by rw [← hx, rest_length]
  rw [hx] at HCut ⊢
  have i0 : (0 : Int) ≤ (a : Int) := by omega
  have hwr : IntKind.i64.wrap ((a : Int) + 2) = (a : Int) + 2 := IntWalk.i64_in _ (by omega)
  have i1 : (0 : Int) ≤ (a : Int) + 2 := by omega
  have i2 : (a : Int) + 2 ≤ (t.size : Int) := by omega
  have htn : ((a : Int) + 2).toNat = a + 2 := by omega
  clear h hl hm hx
  by_cases hf : 0 ≤ Lib.index x [42, 47]
  · have HF := Lib.hid hf
    have hcf := cut_found hf
    simp only [show (⟨#[42, 47]⟩ : ByteArray).data.toList = [42, 47] from rfl, hcf] at HCut
    obtain ⟨y, hy⟩ : ∃ y, x.drop ((Lib.index x [42, 47]).toNat + 2) = y := ⟨_, rfl⟩
    have hyl : y.length ≤ x.length := by rw [← hy, List.length_drop]; omega
    rw [hy] at HCut ⊢
    obtain ⟨z, hz⟩ : ∃ z, x.take (Lib.index x [42, 47]).toNat = z := ⟨_, rfl⟩
    rw [hz] at HCut
    have hys : (⟨y.toArray⟩ : ByteArray).size = y.length := by simp [ByteArray.size]
    obtain ⟨ys, hyse⟩ : ∃ ys : ByteArray, ⟨y.toArray⟩ = ys := ⟨_, rfl⟩
    rw [hyse] at HCut hys
    have j1 : (ys.size : Int) ≤ (t.size : Int) := by omega
    have HYS := Lib.hid hys
    have hwr2 : IntKind.i64.wrap ((t.size : Int) - (ys.size : Int)) = ((t.size - y.length : Nat) : Int) := by rw [IntKind.wrap_i64]; omega
    have hwr3 : (t.size : Int) - (ys.size : Int) = ((t.size - y.length : Nat) : Int) := by omega
    clear hf hcf hy hz hyse hys
    go_enter Tryd.func22, Tryd.ntmps22
    go_wp2_with fail
    go_at_call 25; refine (HA.out _ HS.out).mono ?_; rintro e w1 ⟨rfl, hb1⟩
    have HS1 := Lib.hid (HS.out.below hb1)
    have HW1 := Lib.hid (HS.out.stays hb1)
    have hb1h := Lib.hid hb1
    clear hb1
    go_wp2_with fail
    go_at_call 25; refine (HB.out _ HS1.out).mono ?_; rintro e w2 ⟨rfl, hb2⟩
    have HS2 := Lib.hid (HS1.out.below hb2)
    have HW2 := Lib.hid (HW1.out.trans (HS1.out.stays hb2))
    have hb2h := Lib.hid hb2
    clear hb2
    go_wp2_with fail
    go_at_call 25; refine (HC.out _ HS2.out).mono ?_; rintro e w3 ⟨rfl, hb3⟩
    have HS3 := Lib.hid (HS2.out.below hb3)
    have HW3 := Lib.hid (HW2.out.trans (HS2.out.stays hb3))
    have hb3h := Lib.hid hb3
    clear hb3
  
    have HB3 := Lib.hid ((hb1h.out.trans (hb2h.out.mono hb1h.out.size)).trans (hb3h.out.mono (Nat.le_trans hb1h.out.size hb2h.out.size)))
    have hmc := cells_keep HB3.out HM.out
    have c0 := HS3.out.1.cell 0
    have c1 := HS3.out.1.cell 1
    clear hb1h hb2h hb3h HA HB HC HS1 HS2 HW1 HW2
    go_wp2_with fail
    go_quiet ((go_at_call 36; exact Calls.quiet_of (HCut.out _ hmc)))
    obtain ⟨W4, hW4⟩ : ∃ W4, w3.drewN nq = W4 := ⟨_, rfl⟩
    have hb4 : Below w3.heap.size w3 W4 := by rw [← hW4]; exact below_drewN _ _
    have HS4 := Lib.hid (HS3.out.below hb4)
    have HW4 := Lib.hid (HW3.out.trans (HS3.out.stays hb4))
    rw [hW4]
    clear hW4 hb4 c0 c1 hmc HCut
    have c0 := HS4.out.1.cell 0
    have c1 := HS4.out.1.cell 1
    have f1 := HS4.out.1.frozen 1
    go_wp2
    go_ret
    refine ⟨fun _ => ⟨rfl, HW4.out.trans ?_⟩, fun hn => by have := HF.out; omega⟩
    exact HS4.out.moves (by omega)
  · have HF := Lib.hid hf
    have hcf := cut_not hf
    simp only [hcf] at HCut
    clear hf hcf
    go_enter Tryd.func22, Tryd.ntmps22
    go_wp2_with fail
    go_at_call 25; refine (HA.out _ HS.out).mono ?_; rintro e w1 ⟨rfl, hb1⟩
    have HS1 := Lib.hid (HS.out.below hb1)
    have HW1 := Lib.hid (HS.out.stays hb1)
    have hb1h := Lib.hid hb1
    clear hb1
    go_wp2_with fail
    go_at_call 25; refine (HB.out _ HS1.out).mono ?_; rintro e w2 ⟨rfl, hb2⟩
    have HS2 := Lib.hid (HS1.out.below hb2)
    have HW2 := Lib.hid (HW1.out.trans (HS1.out.stays hb2))
    have hb2h := Lib.hid hb2
    clear hb2
    go_wp2_with fail
    go_at_call 25; refine (HC.out _ HS2.out).mono ?_; rintro e w3 ⟨rfl, hb3⟩
    have HS3 := Lib.hid (HS2.out.below hb3)
    have HW3 := Lib.hid (HW2.out.trans (HS2.out.stays hb3))
    have hb3h := Lib.hid hb3
    clear hb3
  
    have HB3 := Lib.hid ((hb1h.out.trans (hb2h.out.mono hb1h.out.size)).trans (hb3h.out.mono (Nat.le_trans hb1h.out.size hb2h.out.size)))
    have hmc := cells_keep HB3.out HM.out
    have c0 := HS3.out.1.cell 0
    have c1 := HS3.out.1.cell 1
    clear hb1h hb2h hb3h HA HB HC HS1 HS2 HW1 HW2
    go_wp2_with fail
    go_quiet ((go_at_call 36; exact Calls.quiet_of (HCut.out _ hmc)))
    obtain ⟨W4, hW4⟩ : ∃ W4, w3.drewN nq = W4 := ⟨_, rfl⟩
    have HB4 := Lib.hid (HB3.out.trans (show Below W.heap.size w3 W4 by rw [← hW4]; exact (below_drewN w3 nq).mono HB3.out.size))
    rw [hW4]
    clear hW4 c0 c1 hmc HCut
    go_wp2
    go_ret
    exact ⟨fun hn => by have := HF.out; omega, fun _ => ⟨rfl, HB4.out⟩⟩

theorem rest_back {t : ByteArray} {c : Nat} {R : List UInt8} (h : rest t c = R) : rest t (t.size - R.length) = R := by
  have hl := rest_length t c
  rw [h] at hl
  by_cases hc : c ≤ t.size
  · rw [show t.size - R.length = c by omega]; exact h
  · have h0 : R = [] := List.length_eq_zero_iff.1 (by omega)
    rw [h0]
    exact rest_nil (by simp)
/-- What skipRemark does. -/
def RemEnds (W : World) (P a : Nat) (t : ByteArray) (e : Ending) (w' : World) : Prop :=
  (∃ R' b, remarkL (rest t a) = some R' ∧ e = .returned (.bool true) ∧ Went W w' P t b ∧ rest t b = R') ∨ (remarkL (rest t a) = none ∧ e = .returned (.bool false) ∧ Below W.heap.size W w')
theorem remark_any {W : World} {P a : Nat} {t : ByteArray} {m : Int} (h : Scn W P t a) (hm : W.cell? ⟨1, 0, none⟩ = some (.int .i64 m)) : Calls Tryd.prog 22 #[.pointer (some ⟨P, 0, none⟩)] W (RemEnds W P a t) := by
  cases h1 : (Lib.hasPrefix (rest t a) [35] || Lib.hasPrefix (rest t a) [47, 47])
  · obtain ⟨h2, h3⟩ := Bool.or_eq_false_iff.1 h1
    cases h4 : Lib.hasPrefix (rest t a) [47, 42]
    · refine (remark_not h (looks_of h2 h3 h4)).mono ?_
      rintro e w' ⟨rfl, hb⟩
      exact .inr ⟨by unfold remarkL; rw [h1, h4]; rfl, rfl, hb⟩
    · have hle := prefix_drop h4
      rw [rest_length] at hle
      simp only [List.length_cons, List.length_nil] at hle
      refine (remark_block h (looks_of h2 h3 h4) hm (by omega)).mono ?_
      rintro e w' ⟨hy, hn⟩
      have e2 : (rest t a).drop 2 = rest t (a + 2) := rest_add t a 2
      by_cases hi : 0 ≤ Lib.index (rest t (a + 2)) [42, 47]
      · obtain ⟨rfl, hw⟩ := hy hi
        refine .inl ⟨_, _, ?_, rfl, hw, rest_back (rest_add t (a + 2) _).symm⟩
        unfold remarkL
        rw [h1, h4, e2, if_neg Bool.false_ne_true, if_pos rfl, if_pos hi]
      · obtain ⟨rfl, hw⟩ := hn hi
        refine .inr ⟨?_, rfl, hw⟩
        unfold remarkL
        rw [h1, h4, e2, if_neg Bool.false_ne_true, if_pos rfl, if_neg hi]
  · refine (remark_line h h1 rfl rfl).mono ?_
    rintro e w' ⟨rfl, hw⟩
    refine .inl ⟨_, _, ?_, rfl, hw, rest_back (outP_bytes asc10 h.2.1).1⟩
    unfold remarkL
    rw [h1, if_pos rfl]

/-! ### skipBetween -/
theorem below_env {W w1 : World} {P : Nat} {m : Int} {t : ByteArray} {b : Nat} (hP : 4 ≤ P) (hm : W.cell? ⟨1, 0, none⟩ = some (.int .i64 m)) (h : Went W w1 P t b) : w1.cell? ⟨1, 0, none⟩ = some (.int .i64 m) :=
  (World.cell?_of_block (w := W) (a := ⟨1, 0, none⟩) (h.1.block 1 (World.block_lt_of_cell? W _ hm) (by omega))).trans hm
set_option maxRecDepth 100000 in
set_option maxHeartbeats 4000000 in
theorem between_any {W : World} {P a b : Nat} {t : ByteArray} {m : Int} (h : Scn W P t a) (hP : 4 ≤ P) (hm : W.cell? ⟨1, 0, none⟩ = some (.int .i64 m)) (hb : b = t.size - (betweenA (rest t a)).length) : Calls Tryd.prog 16 #[.pointer (some ⟨P, 0, none⟩)] W fun e w' => e = .returned (.tuple #[]) ∧ Went W w' P t b ∧ rest t b = betweenA (rest t a) := by
  have HS := Lib.hid h
  have HM := Lib.hid hm
  have HA := Lib.hid (fun w => anyOf_any asc3 (by decide) w)
  have HT := Lib.hid (fun (w : World) (c : Nat) (hs : Scn w P t c) (g : Nat) (lb : Array Value) (hg : Says g lb (inP ⟨#[32, 9, 13]⟩) w) => take_to hs hg (inP_bytes asc3 hs.2.1) rfl)
  have HR := Lib.hid (fun (w : World) (c : Nat) (hs : Scn w P t c) (hm : w.cell? ⟨1, 0, none⟩ = some (.int .i64 m)) => remark_any hs hm)
  have HB := Lib.hid hb
  have hsz := h.2
  clear h hm hb
  go_enter Tryd.func16, Tryd.ntmps16
  go_wp2_with fail
  go_loopg [] t.size (fun gf wx => ∃ c : Nat, Hid (Went W wx P t c) ∧ Hid (betweenA (rest t c) = betweenA (rest t a)) ∧ t.size - c ≤ gf)
  case atStart => exact ⟨a, Lib.hid ⟨Aside.refl P W, HS.out⟩, Lib.hid rfl, by omega⟩
  case round =>
    obtain ⟨c, HW, HE, hc⟩ := hrel
    have HS1 := Lib.hid HW.out.2
    go_wp2_with fail
    go_at_call 21; refine (HA.out _).mono ?_; rintro e w1 ⟨⟨lb, rfl, hsay⟩, hb1⟩
    have HS2 := Lib.hid (HS1.out.below hb1)
    have HW2 := Lib.hid (HW.out.trans (HS1.out.stays hb1))
    have HSY := Lib.hid hsay
    clear hb1 hsay
    go_wp2_with fail
    have hcl := HS1.out.2.1
    have hdl := dropWhile_le (q := bytesIn [32, 9, 13]) (rest t c)
    have hrl := rest_length t c
    obtain ⟨D, hD⟩ : ∃ D, (rest t c).dropWhile (bytesIn [32, 9, 13]) = D := ⟨_, rfl⟩
    have hTk := HT.out _ c HS2.out _ _ HSY.out
    rw [show (rest t c).dropWhile (fun x => (⟨#[32, 9, 13]⟩ : ByteArray).data.toList.contains x) = D from hD] at hTk
    have hRD : rest t (t.size - D.length) = D := by
      have h1 := (inP_bytes asc3 hcl).1
      rw [show (rest t c).dropWhile (fun x => (⟨#[32, 9, 13]⟩ : ByteArray).data.toList.contains x) = D from hD] at h1
      exact rest_back h1
    rw [hD] at hdl
    obtain ⟨d, hd⟩ : ∃ d, t.size - D.length = d := ⟨_, rfl⟩
    rw [hd] at hTk hRD
    have hxs : (t.extract c d).size = d - c := by simp; omega
    obtain ⟨x, hx⟩ : ∃ x, t.extract c d = x := ⟨_, rfl⟩
    rw [hx] at hTk hxs
    have HTk := Lib.hid hTk
    have HRD := Lib.hid hRD
    have HD := Lib.hid hD
    have HDd := Lib.hid hd
    clear hx hTk hRD hD hd
    by_cases hlt : D.length < (rest t c).length
    · have hx1 : x.toList.isEmpty = false := by
        rw [ByteArray.toList_eq, List.isEmpty_eq_false_iff]
        intro e
        have h1 : x.data.toList.length = x.size := by simp
        rw [e] at h1
        have := HDd.out
        simp at h1
        omega
      obtain ⟨g', rfl⟩ : ∃ g', gk = g' + 1 := ⟨gk - 1, by omega⟩
      have hgd : t.size - d ≤ g' := by have := HDd.out; omega
      have HL := Lib.hid hlt
      clear hxs hlt hdl hrl
      go_at_call 20; refine HTk.out.mono ?_; rintro e w2 ⟨rfl, hw2⟩
      go_wp2_with fail
      go_roundg g'
      case measure => omega
      case rel => exact ⟨d, Lib.hid (HW2.out.trans hw2), Lib.hid (by
        rw [HRD.out, ← HE.out, betweenA_blank (R := rest t c) (by rw [HD.out]; exact HL.out), HD.out]), hgd⟩
    · have hx1 : x.toList.isEmpty = true := by
        rw [ByteArray.toList_eq, List.isEmpty_iff]
        apply List.length_eq_zero_iff.1
        have h1 : x.data.toList.length = x.size := by simp
        have := HDd.out
        omega
      have hdc : d = c := by have := HDd.out; omega
      subst hdc
      have HL : Hid (¬ ((rest t d).dropWhile (bytesIn [32, 9, 13])).length < (rest t d).length) := Lib.hid (by rw [HD.out]; exact hlt)
      clear hxs hlt hdl hrl
      go_at_call 20; refine HTk.out.mono ?_; rintro e w2 ⟨rfl, hw2⟩
      have HW3 := Lib.hid (HW2.out.trans hw2)
      clear hw2 HTk
      go_wp2_with fail
      go_at_call 22; refine (HR.out _ d HW3.out.2 (below_env hP HM.out HW3.out)).mono ?_; rintro e w3 hend
      rcases hend with ⟨R', b', hr, rfl, hw3, hrb⟩ | ⟨hr, rfl, hb3⟩
      · have hless := remark_less hr
        rw [← hrb, rest_length, rest_length] at hless
        obtain ⟨g', rfl⟩ : ∃ g', gk = g' + 1 := ⟨gk - 1, by omega⟩
        have HR3 := Lib.hid hr
        have HRB := Lib.hid hrb
        have HW4 := Lib.hid (HW3.out.trans hw3)
        clear hr hrb hw3
        go_wp2_with fail
        go_roundg g'
        case measure => omega
        case rel => exact ⟨b', HW4, Lib.hid (by rw [HRB.out, ← HE.out, betweenA_remark HL.out HR3.out]), by omega⟩
      · have HR3 := Lib.hid hr
        have HW4 := Lib.hid (HW3.out.trans (HW3.out.2.stays hb3))
        clear hr hb3
        go_wp2
        go_end0
        have h1 : betweenA (rest t a) = rest t d := by rw [← HE.out, betweenA_none HL.out HR3.out]
        have h2 : b = d := by rw [HB.out, h1, rest_length]; omega
        rw [h1, h2]
        exact ⟨rfl, HW4.out, rfl⟩
end Go.Proofs.YtpdepdigacpfiaaDoor
