/- skipRemark and skipBetween · skipEscape, skipTo, skipText, skipBraces -/
import Derived.Deep.RegionLaw
import Derived.Test.YtljgggohjigaoaaGreatDoorSy03
namespace Go.Proofs.YtljgggohjigaoaaGreatDoor
open Go.RowKit Go.Shelf
set_option linter.unusedVariables false
set_option linter.unusedSimpArgs false

theorem ascii_of {l : List UInt8} (h : (l.all fun c => decide (c.toNat < 128)) = true) : AllAscii ⟨l.toArray⟩ := fun c hc => by
  have := List.all_eq_true.1 h c (by simpa using hc)
  simpa using this
theorem asc10 : AllAscii ⟨#[10]⟩ := ascii_of (l := [10]) (by decide)
theorem asc3 : AllAscii ⟨#[32, 9, 13]⟩ := ascii_of (l := [32, 9, 13]) (by decide)

set_option maxRecDepth 100000 in
set_option maxHeartbeats 2000000 in
theorem remark_line {W : World} {P a b : Nat} {t : ByteArray} (h : Scn W P t a) (h1 : (Lib.hasPrefix (rest t a) [35] || Lib.hasPrefix (rest t a) [47, 47]) = true) {R : List UInt8} (hR : (rest t a).dropWhile (notIn [10]) = R) (hb : b = t.size - R.length) : Calls Tryz.prog 86 #[.pointer (some ⟨P, 0, none⟩)] W fun e w' => e = .returned (.bool true) ∧ Went W w' P t b := by
  have HS := Lib.hid h
  have HA := Lib.hid (fun (w : World) (hs : Scn w P t a) => has_any hs ⟨#[35]⟩)
  have HB := Lib.hid (fun (w : World) (hs : Scn w P t a) => has_any hs ⟨#[47, 47]⟩)
  have HN := Lib.hid (fun w => noneOf_any asc10 (by decide) w)
  have HT := Lib.hid (fun (w : World) (hs : Scn w P t a) (g : Nat) (lb : Array Value) (hg : Says g lb (outP ⟨#[10]⟩) w) => take_to hs hg (R := R) (b := b) (by
    have := outP_bytes asc10 hs.2.1
    rw [← hR]
    exact this) hb)
  obtain ⟨v, hv⟩ : ∃ v, Lib.hasPrefix (rest t a) [35] = v := ⟨_, rfl⟩
  simp only [hv] at HA h1
  obtain ⟨v2, hv2⟩ : ∃ v, Lib.hasPrefix (rest t a) [47, 47] = v := ⟨_, rfl⟩
  simp only [hv2] at HB h1
  clear h hv hv2 hR hb
  cases v
  · obtain rfl : v2 = true := by simpa using h1
    go_enter Tryz.func86, Tryz.ntmps86
    go_wp2_with fail
    go_at_call 89; refine (HA.out _ HS.out).mono ?_; rintro e w1 ⟨rfl, hb1⟩
    have HS1 := Lib.hid (HS.out.below hb1)
    have HW1 := Lib.hid (HS.out.stays hb1)
    clear hb1
    go_wp2_with fail
    go_at_call 89; refine (HB.out _ HS1.out).mono ?_; rintro e w2 ⟨rfl, hb2⟩
    have HS2 := Lib.hid (HS1.out.below hb2)
    have HW2 := Lib.hid (HW1.out.trans (HS1.out.stays hb2))
    clear hb2
    go_wp2_with fail
    go_at_call 110; refine (HN.out _).mono ?_; rintro e w3 ⟨⟨lb, rfl, hsay⟩, hb3⟩
    have HS3 := Lib.hid (HS2.out.below hb3)
    have HW3 := Lib.hid (HW2.out.trans (HS2.out.stays hb3))
    have HSY := Lib.hid hsay
    clear hb3 hsay
    go_wp2_with fail
    go_at_call 84; refine (HT.out _ HS3.out _ _ HSY.out).mono ?_; rintro e w4 ⟨rfl, hw4⟩
    go_wp2
    go_ret
    exact ⟨rfl, HW3.out.trans hw4⟩
  · go_enter Tryz.func86, Tryz.ntmps86
    go_wp2_with fail
    go_at_call 89; refine (HA.out _ HS.out).mono ?_; rintro e w1 ⟨rfl, hb1⟩
    have HS1 := Lib.hid (HS.out.below hb1)
    have HW1 := Lib.hid (HS.out.stays hb1)
    clear hb1
    go_wp2_with fail
    go_at_call 110; refine (HN.out _).mono ?_; rintro e w3 ⟨⟨lb, rfl, hsay⟩, hb3⟩
    have HS3 := Lib.hid (HS1.out.below hb3)
    have HW3 := Lib.hid (HW1.out.trans (HS1.out.stays hb3))
    have HSY := Lib.hid hsay
    clear hb3 hsay
    go_wp2_with fail
    go_at_call 84; refine (HT.out _ HS3.out _ _ HSY.out).mono ?_; rintro e w4 ⟨rfl, hw4⟩
    go_wp2
    go_ret
    exact ⟨rfl, HW3.out.trans hw4⟩

/-- What the three looks are. -/
structure Looks (P a : Nat) (t : ByteArray) (v : Bool) : Prop where
  one : ∀ w, Scn w P t a → Calls Tryz.prog 89 #[.pointer (some ⟨P, 0, none⟩), .string ⟨#[35]⟩] w fun e w' => e = .returned (.bool false) ∧ Below w.heap.size w w'
  two : ∀ w, Scn w P t a → Calls Tryz.prog 89 #[.pointer (some ⟨P, 0, none⟩), .string ⟨#[47, 47]⟩] w fun e w' => e = .returned (.bool false) ∧ Below w.heap.size w w'
  three : ∀ w, Scn w P t a → Calls Tryz.prog 89 #[.pointer (some ⟨P, 0, none⟩), .string ⟨#[47, 42]⟩] w fun e w' => e = .returned (.bool v) ∧ Below w.heap.size w w'
theorem looks_of {P a : Nat} {t : ByteArray} {v : Bool} (h1 : Lib.hasPrefix (rest t a) [35] = false) (h2 : Lib.hasPrefix (rest t a) [47, 47] = false) (h3 : Lib.hasPrefix (rest t a) [47, 42] = v) : Looks P a t v where
  one w hs := by have := has_any hs ⟨#[35]⟩; simp only [h1] at this; exact this
  two w hs := by have := has_any hs ⟨#[47, 47]⟩; simp only [h2] at this; exact this
  three w hs := by have := has_any hs ⟨#[47, 42]⟩; simp only [h3] at this; exact this
set_option maxRecDepth 100000 in
set_option maxHeartbeats 2000000 in
theorem remark_not {W : World} {P a : Nat} {t : ByteArray} (h : Scn W P t a) (hl : Looks P a t false) : Calls Tryz.prog 86 #[.pointer (some ⟨P, 0, none⟩)] W fun e w' => e = .returned (.bool false) ∧ Below W.heap.size W w' := by
  have HS := Lib.hid h
  have HA := Lib.hid hl.one
  have HB := Lib.hid hl.two
  have HC := Lib.hid hl.three
  clear h hl
  go_enter Tryz.func86, Tryz.ntmps86
  go_wp2_with fail
  go_at_call 89; refine (HA.out _ HS.out).mono ?_; rintro e w1 ⟨rfl, hb1⟩
  have HS1 := Lib.hid (HS.out.below hb1)
  have HB1 := Lib.hid hb1
  clear hb1
  go_wp2_with fail
  go_at_call 89; refine (HB.out _ HS1.out).mono ?_; rintro e w2 ⟨rfl, hb2⟩
  have HS2 := Lib.hid (HS1.out.below hb2)
  have HB2 := Lib.hid (HB1.out.trans (hb2.mono HB1.out.size))
  clear hb2
  go_wp2_with fail
  go_at_call 89; refine (HC.out _ HS2.out).mono ?_; rintro e w3 ⟨rfl, hb3⟩
  have HB3 := Lib.hid (HB2.out.trans (hb3.mono HB2.out.size))
  clear hb3
  go_wp2
  go_ret
  exact ⟨rfl, HB3.out⟩
theorem cut_found {R : List UInt8} (h : 0 ≤ Lib.index R [42, 47]) : Lib.cut R [42, 47] = (R.take (Lib.index R [42, 47]).toNat, R.drop ((Lib.index R [42, 47]).toNat + 2), true) := by
  unfold Lib.cut; rw [if_pos h]; rfl
theorem cut_not {R : List UInt8} (h : ¬ 0 ≤ Lib.index R [42, 47]) : Lib.cut R [42, 47] = (R, [], false) := by
  unfold Lib.cut; rw [if_neg h]
set_option maxRecDepth 100000 in
set_option maxHeartbeats 2000000 in
theorem remark_block {W : World} {P a : Nat} {t : ByteArray} {m : Int} (h : Scn W P t a) (hl : Looks P a t true) (hm : W.cell? ⟨2, 0, none⟩ = some (.int .i64 m)) (hle : a + 2 ≤ t.size) : Calls Tryz.prog 86 #[.pointer (some ⟨P, 0, none⟩)] W fun e w' =>
    (0 ≤ Lib.index (rest t (a + 2)) [42, 47] → e = .returned (.bool true) ∧ Went W w' P t (t.size - ((rest t (a + 2)).drop ((Lib.index (rest t (a + 2)) [42, 47]).toNat + 2)).length)) ∧ (¬ 0 ≤ Lib.index (rest t (a + 2)) [42, 47] → e = .returned (.bool false) ∧ Below W.heap.size W w') := by
  have HS := Lib.hid h
  have HA := Lib.hid hl.one
  have HB := Lib.hid hl.two
  have HC := Lib.hid hl.three
  have hsz := h.2.2
  have HM := Lib.hid hm
  have HCut := Lib.hid (fun (w : World) (hm : w.cell? ⟨2, 0, none⟩ = some (.int .i64 m)) => Tryz.strings_Cut (t.extract (a + 2) t.size) ⟨#[42, 47]⟩ m w (by simp; omega) hm)
  rw [rest_extract] at HCut
  obtain ⟨x, hx⟩ : ∃ x, rest t (a + 2) = x := ⟨_, rfl⟩
  have hxl : x.length = t.size - (a + 2) := by rw [← hx, rest_length]
  rw [hx] at HCut ⊢
  have i0 : (0 : Int) ≤ (a : Int) := by omega
  have hwr : IntKind.i64.wrap ((a : Int) + 2) = (a : Int) + 2 := IntWalk.i64_in _ (by omega)
  have i1 : (0 : Int) ≤ (a : Int) + 2 := by omega
  have i2 : (a : Int) + 2 ≤ (t.size : Int) := by omega
  have htn : ((a : Int) + 2).toNat = a + 2 := by omega
  clear h hl hm hx
  by_cases hf : 0 ≤ Lib.index x [42, 47]
  · have HF := Lib.hid hf
    have hcf := cut_found hf
    simp only [show (⟨#[42, 47]⟩ : ByteArray).data.toList = [42, 47] from rfl, hcf] at HCut
    obtain ⟨y, hy⟩ : ∃ y, x.drop ((Lib.index x [42, 47]).toNat + 2) = y := ⟨_, rfl⟩
    have hyl : y.length ≤ x.length := by rw [← hy, List.length_drop]; omega
    rw [hy] at HCut ⊢
    obtain ⟨z, hz⟩ : ∃ z, x.take (Lib.index x [42, 47]).toNat = z := ⟨_, rfl⟩
    rw [hz] at HCut
    have hys : (⟨y.toArray⟩ : ByteArray).size = y.length := by simp [ByteArray.size]
    obtain ⟨ys, hyse⟩ : ∃ ys : ByteArray, ⟨y.toArray⟩ = ys := ⟨_, rfl⟩
    rw [hyse] at HCut hys
    have j1 : (ys.size : Int) ≤ (t.size : Int) := by omega
    have HYS := Lib.hid hys
    have hwr2 : IntKind.i64.wrap ((t.size : Int) - (ys.size : Int)) = ((t.size - y.length : Nat) : Int) := by rw [IntKind.wrap_i64]; omega
    have hwr3 : (t.size : Int) - (ys.size : Int) = ((t.size - y.length : Nat) : Int) := by omega
    clear hf hcf hy hz hyse hys
    go_enter Tryz.func86, Tryz.ntmps86
    go_wp2_with fail
    go_at_call 89; refine (HA.out _ HS.out).mono ?_; rintro e w1 ⟨rfl, hb1⟩
    have HS1 := Lib.hid (HS.out.below hb1)
    have HW1 := Lib.hid (HS.out.stays hb1)
    have hb1h := Lib.hid hb1
    clear hb1
    go_wp2_with fail
    go_at_call 89; refine (HB.out _ HS1.out).mono ?_; rintro e w2 ⟨rfl, hb2⟩
    have HS2 := Lib.hid (HS1.out.below hb2)
    have HW2 := Lib.hid (HW1.out.trans (HS1.out.stays hb2))
    have hb2h := Lib.hid hb2
    clear hb2
    go_wp2_with fail
    go_at_call 89; refine (HC.out _ HS2.out).mono ?_; rintro e w3 ⟨rfl, hb3⟩
    have HS3 := Lib.hid (HS2.out.below hb3)
    have HW3 := Lib.hid (HW2.out.trans (HS2.out.stays hb3))
    have hb3h := Lib.hid hb3
    clear hb3
  
    have HB3 := Lib.hid ((hb1h.out.trans (hb2h.out.mono hb1h.out.size)).trans (hb3h.out.mono (Nat.le_trans hb1h.out.size hb2h.out.size)))
    have hmc := cells_keep HB3.out HM.out
    have c0 := HS3.out.1.cell 0
    have c1 := HS3.out.1.cell 1
    clear hb1h hb2h hb3h HA HB HC HS1 HS2 HW1 HW2
    go_wp2_with fail
    go_quiet ((go_at_call 111; exact Calls.quiet_of (HCut.out _ hmc)))
    obtain ⟨W4, hW4⟩ : ∃ W4, w3.drewN nq = W4 := ⟨_, rfl⟩
    have hb4 : Below w3.heap.size w3 W4 := by rw [← hW4]; exact below_drewN _ _
    have HS4 := Lib.hid (HS3.out.below hb4)
    have HW4 := Lib.hid (HW3.out.trans (HS3.out.stays hb4))
    rw [hW4]
    clear hW4 hb4 c0 c1 hmc HCut
    have c0 := HS4.out.1.cell 0
    have c1 := HS4.out.1.cell 1
    have f1 := HS4.out.1.frozen 1
    go_wp2
    go_ret
    refine ⟨fun _ => ⟨rfl, HW4.out.trans ?_⟩, fun hn => by have := HF.out; omega⟩
    exact HS4.out.moves (by omega)
  · have HF := Lib.hid hf
    have hcf := cut_not hf
    simp only [hcf] at HCut
    clear hf hcf
    go_enter Tryz.func86, Tryz.ntmps86
    go_wp2_with fail
    go_at_call 89; refine (HA.out _ HS.out).mono ?_; rintro e w1 ⟨rfl, hb1⟩
    have HS1 := Lib.hid (HS.out.below hb1)
    have HW1 := Lib.hid (HS.out.stays hb1)
    have hb1h := Lib.hid hb1
    clear hb1
    go_wp2_with fail
    go_at_call 89; refine (HB.out _ HS1.out).mono ?_; rintro e w2 ⟨rfl, hb2⟩
    have HS2 := Lib.hid (HS1.out.below hb2)
    have HW2 := Lib.hid (HW1.out.trans (HS1.out.stays hb2))
    have hb2h := Lib.hid hb2
    clear hb2
    go_wp2_with fail
    go_at_call 89; refine (HC.out _ HS2.out).mono ?_; rintro e w3 ⟨rfl, hb3⟩
    have HS3 := Lib.hid (HS2.out.below hb3)
    have HW3 := Lib.hid (HW2.out.trans (HS2.out.stays hb3))
    have hb3h := Lib.hid hb3
    clear hb3
  
    have HB3 := Lib.hid ((hb1h.out.trans (hb2h.out.mono hb1h.out.size)).trans (hb3h.out.mono (Nat.le_trans hb1h.out.size hb2h.out.size)))
    have hmc := cells_keep HB3.out HM.out
    have c0 := HS3.out.1.cell 0
    have c1 := HS3.out.1.cell 1
    clear hb1h hb2h hb3h HA HB HC HS1 HS2 HW1 HW2
    go_wp2_with fail
    go_quiet ((go_at_call 111; exact Calls.quiet_of (HCut.out _ hmc)))
    obtain ⟨W4, hW4⟩ : ∃ W4, w3.drewN nq = W4 := ⟨_, rfl⟩
    have HB4 := Lib.hid (HB3.out.trans (show Below W.heap.size w3 W4 by rw [← hW4]; exact (below_drewN w3 nq).mono HB3.out.size))
    rw [hW4]
    clear hW4 c0 c1 hmc HCut
    go_wp2
    go_ret
    exact ⟨fun hn => by have := HF.out; omega, fun _ => ⟨rfl, HB4.out⟩⟩

theorem rest_back {t : ByteArray} {c : Nat} {R : List UInt8} (h : rest t c = R) : rest t (t.size - R.length) = R := by
  have hl := rest_length t c
  rw [h] at hl
  by_cases hc : c ≤ t.size
  · rw [show t.size - R.length = c by omega]; exact h
  · have h0 : R = [] := List.length_eq_zero_iff.1 (by omega)
    rw [h0]
    exact rest_nil (by simp)
/-- What skipRemark does. -/
def RemEnds (W : World) (P a : Nat) (t : ByteArray) (e : Ending) (w' : World) : Prop :=
  (∃ R' b, remarkL (rest t a) = some R' ∧ e = .returned (.bool true) ∧ Went W w' P t b ∧ rest t b = R') ∨ (remarkL (rest t a) = none ∧ e = .returned (.bool false) ∧ Below W.heap.size W w')
theorem remark_any {W : World} {P a : Nat} {t : ByteArray} {m : Int} (h : Scn W P t a) (hm : W.cell? ⟨2, 0, none⟩ = some (.int .i64 m)) : Calls Tryz.prog 86 #[.pointer (some ⟨P, 0, none⟩)] W (RemEnds W P a t) := by
  cases h1 : (Lib.hasPrefix (rest t a) [35] || Lib.hasPrefix (rest t a) [47, 47])
  · obtain ⟨h2, h3⟩ := Bool.or_eq_false_iff.1 h1
    cases h4 : Lib.hasPrefix (rest t a) [47, 42]
    · refine (remark_not h (looks_of h2 h3 h4)).mono ?_
      rintro e w' ⟨rfl, hb⟩
      exact .inr ⟨by unfold remarkL; rw [h1, h4]; rfl, rfl, hb⟩
    · have hle := prefix_drop h4
      rw [rest_length] at hle
      simp only [List.length_cons, List.length_nil] at hle
      refine (remark_block h (looks_of h2 h3 h4) hm (by omega)).mono ?_
      rintro e w' ⟨hy, hn⟩
      have e2 : (rest t a).drop 2 = rest t (a + 2) := rest_add t a 2
      by_cases hi : 0 ≤ Lib.index (rest t (a + 2)) [42, 47]
      · obtain ⟨rfl, hw⟩ := hy hi
        refine .inl ⟨_, _, ?_, rfl, hw, rest_back (rest_add t (a + 2) _).symm⟩
        unfold remarkL
        rw [h1, h4, e2, if_neg Bool.false_ne_true, if_pos rfl, if_pos hi]
      · obtain ⟨rfl, hw⟩ := hn hi
        refine .inr ⟨?_, rfl, hw⟩
        unfold remarkL
        rw [h1, h4, e2, if_neg Bool.false_ne_true, if_pos rfl, if_neg hi]
  · refine (remark_line h h1 rfl rfl).mono ?_
    rintro e w' ⟨rfl, hw⟩
    refine .inl ⟨_, _, ?_, rfl, hw, rest_back (outP_bytes asc10 h.2.1).1⟩
    unfold remarkL
    rw [h1, if_pos rfl]

/-! ### skipBetween -/
theorem below_env {W w1 : World} {P : Nat} {m : Int} {t : ByteArray} {b : Nat} (hP : 4 ≤ P) (hm : W.cell? ⟨2, 0, none⟩ = some (.int .i64 m)) (h : Went W w1 P t b) : w1.cell? ⟨2, 0, none⟩ = some (.int .i64 m) :=
  (World.cell?_of_block (w := W) (a := ⟨2, 0, none⟩) (h.1.block 2 (World.block_lt_of_cell? W _ hm) (by omega))).trans hm
set_option maxRecDepth 100000 in
set_option maxHeartbeats 4000000 in
theorem between_any {W : World} {P a b : Nat} {t : ByteArray} {m : Int} (h : Scn W P t a) (hP : 4 ≤ P) (hm : W.cell? ⟨2, 0, none⟩ = some (.int .i64 m)) (hb : b = t.size - (betweenA (rest t a)).length) : Calls Tryz.prog 68 #[.pointer (some ⟨P, 0, none⟩)] W fun e w' => e = .returned (.tuple #[]) ∧ Went W w' P t b ∧ rest t b = betweenA (rest t a) := by
  have HS := Lib.hid h
  have HM := Lib.hid hm
  have HA := Lib.hid (fun w => anyOf_any asc3 (by decide) w)
  have HT := Lib.hid (fun (w : World) (c : Nat) (hs : Scn w P t c) (g : Nat) (lb : Array Value) (hg : Says g lb (inP ⟨#[32, 9, 13]⟩) w) => take_to hs hg (inP_bytes asc3 hs.2.1) rfl)
  have HR := Lib.hid (fun (w : World) (c : Nat) (hs : Scn w P t c) (hm : w.cell? ⟨2, 0, none⟩ = some (.int .i64 m)) => remark_any hs hm)
  have HB := Lib.hid hb
  have hsz := h.2
  clear h hm hb
  go_enter Tryz.func68, Tryz.ntmps68
  go_wp2_with fail
  go_loopg [] t.size (fun gf wx => ∃ c : Nat, Hid (Went W wx P t c) ∧ Hid (betweenA (rest t c) = betweenA (rest t a)) ∧ t.size - c ≤ gf)
  case atStart => exact ⟨a, Lib.hid ⟨Aside.refl P W, HS.out⟩, Lib.hid rfl, by omega⟩
  case round =>
    obtain ⟨c, HW, HE, hc⟩ := hrel
    have HS1 := Lib.hid HW.out.2
    go_wp2_with fail
    go_at_call 85; refine (HA.out _).mono ?_; rintro e w1 ⟨⟨lb, rfl, hsay⟩, hb1⟩
    have HS2 := Lib.hid (HS1.out.below hb1)
    have HW2 := Lib.hid (HW.out.trans (HS1.out.stays hb1))
    have HSY := Lib.hid hsay
    clear hb1 hsay
    go_wp2_with fail
    have hcl := HS1.out.2.1
    have hdl := dropWhile_le (q := bytesIn [32, 9, 13]) (rest t c)
    have hrl := rest_length t c
    obtain ⟨D, hD⟩ : ∃ D, (rest t c).dropWhile (bytesIn [32, 9, 13]) = D := ⟨_, rfl⟩
    have hTk := HT.out _ c HS2.out _ _ HSY.out
    rw [show (rest t c).dropWhile (fun x => (⟨#[32, 9, 13]⟩ : ByteArray).data.toList.contains x) = D from hD] at hTk
    have hRD : rest t (t.size - D.length) = D := by
      have h1 := (inP_bytes asc3 hcl).1
      rw [show (rest t c).dropWhile (fun x => (⟨#[32, 9, 13]⟩ : ByteArray).data.toList.contains x) = D from hD] at h1
      exact rest_back h1
    rw [hD] at hdl
    obtain ⟨d, hd⟩ : ∃ d, t.size - D.length = d := ⟨_, rfl⟩
    rw [hd] at hTk hRD
    have hxs : (t.extract c d).size = d - c := by simp; omega
    obtain ⟨x, hx⟩ : ∃ x, t.extract c d = x := ⟨_, rfl⟩
    rw [hx] at hTk hxs
    have HTk := Lib.hid hTk
    have HRD := Lib.hid hRD
    have HD := Lib.hid hD
    have HDd := Lib.hid hd
    clear hx hTk hRD hD hd
    by_cases hlt : D.length < (rest t c).length
    · have hx1 : x.toList.isEmpty = false := by
        rw [ByteArray.toList_eq, List.isEmpty_eq_false_iff]
        intro e
        have h1 : x.data.toList.length = x.size := by simp
        rw [e] at h1
        have := HDd.out
        simp at h1
        omega
      obtain ⟨g', rfl⟩ : ∃ g', gk = g' + 1 := ⟨gk - 1, by omega⟩
      have hgd : t.size - d ≤ g' := by have := HDd.out; omega
      have HL := Lib.hid hlt
      clear hxs hlt hdl hrl
      go_at_call 84; refine HTk.out.mono ?_; rintro e w2 ⟨rfl, hw2⟩
      go_wp2_with fail
      go_roundg g'
      case measure => omega
      case rel => exact ⟨d, Lib.hid (HW2.out.trans hw2), Lib.hid (by
        rw [HRD.out, ← HE.out, betweenA_blank (R := rest t c) (by rw [HD.out]; exact HL.out), HD.out]), hgd⟩
    · have hx1 : x.toList.isEmpty = true := by
        rw [ByteArray.toList_eq, List.isEmpty_iff]
        apply List.length_eq_zero_iff.1
        have h1 : x.data.toList.length = x.size := by simp
        have := HDd.out
        omega
      have hdc : d = c := by have := HDd.out; omega
      subst hdc
      have HL : Hid (¬ ((rest t d).dropWhile (bytesIn [32, 9, 13])).length < (rest t d).length) := Lib.hid (by rw [HD.out]; exact hlt)
      clear hxs hlt hdl hrl
      go_at_call 84; refine HTk.out.mono ?_; rintro e w2 ⟨rfl, hw2⟩
      have HW3 := Lib.hid (HW2.out.trans hw2)
      clear hw2 HTk
      go_wp2_with fail
      go_at_call 86; refine (HR.out _ d HW3.out.2 (below_env hP HM.out HW3.out)).mono ?_; rintro e w3 hend
      rcases hend with ⟨R', b', hr, rfl, hw3, hrb⟩ | ⟨hr, rfl, hb3⟩
      · have hless := remark_less hr
        rw [← hrb, rest_length, rest_length] at hless
        obtain ⟨g', rfl⟩ : ∃ g', gk = g' + 1 := ⟨gk - 1, by omega⟩
        have HR3 := Lib.hid hr
        have HRB := Lib.hid hrb
        have HW4 := Lib.hid (HW3.out.trans hw3)
        clear hr hrb hw3
        go_wp2_with fail
        go_roundg g'
        case measure => omega
        case rel => exact ⟨b', HW4, Lib.hid (by rw [HRB.out, ← HE.out, betweenA_remark HL.out HR3.out]), by omega⟩
      · have HR3 := Lib.hid hr
        have HW4 := Lib.hid (HW3.out.trans (HW3.out.2.stays hb3))
        clear hr hb3
        go_wp2
        go_end0
        have h1 : betweenA (rest t a) = rest t d := by rw [← HE.out, betweenA_none HL.out HR3.out]
        have h2 : b = d := by rw [HB.out, h1, rest_length]; omega
        rw [h1, h2]
        exact ⟨rfl, HW4.out, rfl⟩
end Go.Proofs.YtljgggohjigaoaaGreatDoor
namespace Go.Proofs.YtljgggohjigaoaaGreatDoor
open Go.RowKit Go.Shelf
set_option linter.unusedVariables false

/-- How a reader ends: behind what it read, or with what is wrong. -/
def REnds (W : World) (P : Nat) (t : ByteArray) (r : Left) (e : Ending) (w' : World) : Prop :=
  ∃ b, Went W w' P t b ∧ ((∃ R', r = .ok R' ∧ e = .returned (.int .i64 0) ∧ rest t b = R') ∨ (∃ c, r = .error c ∧ e = .returned (.int .i64 c)))
theorem REnds.isErr {W w' : World} {P : Nat} {t : ByteArray} {d : Int} {e : Ending} (h : REnds W P t (.error d) e w') : e = .returned (.int .i64 d) ∧ ∃ b, Went W w' P t b := by
  obtain ⟨b, h1, ⟨R', h2, -⟩ | ⟨c, h2, h3⟩⟩ := h
  · cases h2
  · cases h2; exact ⟨h3, b, h1⟩
theorem REnds.isOk {W w' : World} {P : Nat} {t : ByteArray} {R : List UInt8} {e : Ending} (h : REnds W P t (.ok R) e w') : e = .returned (.int .i64 0) ∧ ∃ b, Went W w' P t b ∧ rest t b = R := by
  obtain ⟨b, h1, ⟨R', h2, h3, h4⟩ | ⟨c, h2, -⟩⟩ := h
  · cases h2; exact ⟨h3, b, h1, h4⟩
  · cases h2

/-! ### skipEscape -/
theorem pre2 {R : List UInt8} {p q : UInt8} (h : Lib.hasPrefix R [p, q] = true) : R = p :: q :: R.drop 2 := by
  match R, h with
  | [], h => simp [Lib.hasPrefix] at h
  | [a], h => simp [Lib.hasPrefix, List.isPrefixOf] at h
  | a :: b :: r, h =>
    simp [Lib.hasPrefix, List.isPrefixOf] at h
    simp [h]
theorem escL_hit {R : List UInt8} {q : UInt8} (hq : [34, 92, 110, 116, 114, 36].contains q = true) (h : Lib.hasPrefix R [92, q] = true) : escL R = .ok (R.drop 2) := by
  obtain ⟨r, hr⟩ : ∃ r, R.drop 2 = r := ⟨_, rfl⟩
  have e := pre2 h
  rw [hr] at e ⊢
  rw [e]
  show (if [34, 92, 110, 116, 114, 36].contains q then Except.ok r else Except.error 40) = Except.ok r
  rw [if_pos hq]
theorem escL_miss {R : List UInt8} (h : ∀ q ∈ [34, 92, 110, 116, 114, 36], Lib.hasPrefix R [92, q] = false) : escL R = .error 40 := by
  unfold escL
  split
  · rename_i c r
    split
    · rename_i hc
      have := h c (List.contains_iff_mem.1 hc)
      simp [Lib.hasPrefix, List.isPrefixOf] at this
    · rfl
  · rfl
set_option maxRecDepth 100000 in
set_option maxHeartbeats 4000000 in
theorem escape_any {W : World} {P a : Nat} {t : ByteArray} (h : Scn W P t a) : Calls Tryz.prog 127 #[.pointer (some ⟨P, 0, none⟩)] W (REnds W P t (escL (rest t a))) := by
  have HS := Lib.hid h
  have hsz := h.2
  have hPlt := h.1.lt
  obtain ⟨s, hs⟩ : ∃ s : ByteArray, (⟨#[34, 92, 110, 116, 114, 36]⟩ : ByteArray) = s := ⟨_, rfl⟩
  have hs6 : s.size = 6 := by rw [← hs]; rfl
  have hsl : ∀ (i : Nat) (h : i < s.size), [34, 92, 110, 116, 114, 36].contains (s[i]'h) = true := by
    subst hs
    intro i h
    have h6 : i < 6 := h
    rcases (show i = 0 ∨ i = 1 ∨ i = 2 ∨ i = 3 ∨ i = 4 ∨ i = 5 by omega) with rfl | rfl | rfl | rfl | rfl | rfl <;> rfl
  have hall : ∀ q ∈ [34, 92, 110, 116, 114, 36], ∃ (i : Nat) (h : i < s.size), (s[i]'h) = q := by
    subst hs
    intro q hq
    simp only [List.mem_cons, List.mem_nil_iff, or_false] at hq
    rcases hq with rfl | rfl | rfl | rfl | rfl | rfl
    · exact ⟨0, by decide, rfl⟩
    · exact ⟨1, by decide, rfl⟩
    · exact ⟨2, by decide, rfl⟩
    · exact ⟨3, by decide, rfl⟩
    · exact ⟨4, by decide, rfl⟩
    · exact ⟨5, by decide, rfl⟩
  have HSL := Lib.hid hsl
  have HALL := Lib.hid hall
  have HS6 := Lib.hid hs6
  have HSE := Lib.hid hs
  clear h hsl hall hs6 hs
  go_enter Tryz.func127, Tryz.ntmps127
  go_wp2_with fail
  rw [HSE.out]
  go_loopg [] 6 (fun gf wx => ∃ pos : Nat, wx.heap[W.heap.size]? = some (.stringIter s pos) ∧ Hid (Below W.heap.size W wx) ∧ Hid (∀ i (h : i < s.size), i < pos → Lib.hasPrefix (rest t a) [92, s[i]'h] = false) ∧ 6 ≤ pos + gf)
  case atStart => exact ⟨0, World.iter_heap W s 0, Lib.hid ((Below.refl _ W).alloc (Nat.le_refl _) _), Lib.hid (fun i h h' => absurd h' (by omega)), by omega⟩
  case round =>
    obtain ⟨pos, hit, HB, HN, hfu⟩ := hrel
    by_cases hps : pos < s.size
    · obtain ⟨g', rfl⟩ : ∃ g', gk = g' + 1 := ⟨gk - 1, by have := HS6.out; omega⟩
      have hin := HSL.out pos hps
      have ha : (s[pos]'hps).toNat < 128 := by
        have h1 := List.contains_iff_mem.1 hin
        simp only [List.mem_cons, List.mem_nil_iff, or_false] at h1
        rcases h1 with h | h | h | h | h | h <;> rw [h] <;> decide
      have hnx : ∀ ty, (Instr.next (.pointer (some ⟨W.heap.size, 0, none⟩)) true ty).run Tryz.prog wr = _ := fun ty => Lib.run_next_ascii_at wr W.heap.size s pos ty hit hps ha
      have hit2 := Lib.iterAt_heap wr W.heap.size s pos (pos + 1) hit
      have hbw2 := Lib.below_iterAt HB.out (k := W.heap.size) (Nat.le_refl _) s (pos + 1)
      have HNX : ∀ v, Lib.hasPrefix (rest t a) [92, s[pos]'hps] = v → v = false → ∀ i (h : i < s.size), i < pos + 1 → Lib.hasPrefix (rest t a) [92, s[i]'h] = false := fun v hv hf i h hi => by
        rcases Nat.lt_or_ge i pos with h1 | h1
        · exact HN.out i h h1
        · obtain rfl : i = pos := by omega
          rw [hv]; exact hf
      obtain ⟨c, hc⟩ : ∃ c, s[pos]'hps = c := ⟨_, rfl⟩
      rw [hc] at hnx ha hin HNX
      obtain ⟨X, hWd⟩ : ∃ X, wr.iterAt W.heap.size s (pos + 1) = X := ⟨_, rfl⟩
      rw [hWd] at hnx hit2 hbw2
      have hltX : W.heap.size < X.heap.size := (Array.getElem?_eq_some_iff.1 hit2).1
      have he : Utf8.encode ((c.toNat : Nat) : Int) = ⟨#[c]⟩ := by
        have hv : Utf8.valid ((c.toNat : Nat) : Int) = true := by unfold Utf8.valid; simp; omega
        unfold Utf8.encode
        simp only [hv, if_true, Int.toNat_natCast]
        rw [if_pos (by omega)]
        simp
      have hcat : (⟨#[92]⟩ : ByteArray) ++ ⟨#[c]⟩ = ⟨#[92, c]⟩ := by
        apply ByteArray.ext
        simp
      have HSX := Lib.hid (HS.out.below hbw2)
      have HBX := Lib.hid hbw2
      have HIN := Lib.hid hin
      have HNN := Lib.hid HNX
      clear hbw2 hc hWd hin HNX
      cases hv : Lib.hasPrefix (rest t a) [92, c]
      · have HK := Lib.hid (skip_no HSX.out ⟨#[92, c]⟩ hv)
        have HV := Lib.hid hv
        clear hv
        go_wp2_with (go_at_call 112; refine HK.out.mono ?_; rintro e w2 ⟨rfl, hb2⟩)
        go_roundg g'
        case measure => omega
        case rel => exact ⟨pos + 1, (hb2.block _ hltX).trans hit2, Lib.hid (HBX.out.trans (hb2.mono HBX.out.size)), Lib.hid (HNN.out _ HV.out rfl), by omega⟩
      · have HK := Lib.hid (skip_yes HSX.out ⟨#[92, c]⟩ hv)
        have HV := Lib.hid hv
        clear hv
        go_wp2_with (go_at_call 112; refine HK.out.mono ?_; rintro e w2 ⟨rfl, hw2⟩)
        go_ret
        exact ⟨a + 2, (HS.out.stays HBX.out).trans hw2, .inl ⟨_, escL_hit HIN.out HV.out, rfl, (rest_add t a 2).symm⟩⟩
    · have hnx : ∀ ty, (Instr.next (.pointer (some ⟨W.heap.size, 0, none⟩)) true ty).run Tryz.prog wr = _ := fun ty => Lib.run_next_end_at wr W.heap.size s pos ty hit hps
      go_wp2
      go_ret
      refine ⟨a, HS.out.stays HB.out, .inr ⟨40, escL_miss (fun q hq => ?_), rfl⟩⟩
      obtain ⟨i, hi, hq'⟩ := HALL.out q hq
      rw [← hq']
      exact HN.out i hi (by omega)

/-! ### skipTo -/
/-- A function value that reads a part, wherever the scanner alone has gone on. -/
structure Reads (g : Nat) (lb : Array Value) (part : List UInt8 → Left) (W0 : World) (P : Nat) (t : ByteArray) : Prop where
  enters : ∀ args w, (callFunc g args).run Tryz.prog w = .ok (.enter g args) w
  reads : ∀ W c, Aside P W0 W → Scn W P t c → Calls Tryz.prog g lb W (REnds W P t (part (rest t c)))
set_option maxRecDepth 100000 in
set_option maxHeartbeats 4000000 in
theorem skipTo_any {W : World} {P a : Nat} {t : ByteArray} (h : Scn W P t a) {g : Nat} {lb : Array Value} {part : List UInt8 → Left} (hr : Reads g lb part W P t) (hp : GoesOn part) (q : UInt8) : Calls Tryz.prog 125 #[.pointer (some ⟨P, 0, none⟩), .string ⟨#[q]⟩, .func (.func g) #[] lb] W (REnds W P t (toEndA part q (rest t a))) := by
  have HS := Lib.hid h
  have eg := hr.enters
  have HR := Lib.hid hr.reads
  have HP := Lib.hid hp
  have hsz := h.2
  clear h hr hp
  go_enter Tryz.func125, Tryz.ntmps125
  go_wp2_with fail
  go_loopg [] t.size (fun gf wx => ∃ c : Nat, Hid (Went W wx P t c) ∧ Hid (toEndA part q (rest t c) = toEndA part q (rest t a)) ∧ t.size - c ≤ gf)
  case atStart => exact ⟨a, Lib.hid ⟨Aside.refl P W, HS.out⟩, Lib.hid rfl, by omega⟩
  case round =>
    obtain ⟨c, HW, HE, hc⟩ := hrel
    have hcs := HW.out.2.2
    cases hv : Lib.hasPrefix (rest t c) [q]
    · have HK := Lib.hid (skip_no HW.out.2 ⟨#[q]⟩ hv)
      have HV := Lib.hid hv
      clear hv
      go_wp2_with fail
      go_at_call 112; refine HK.out.mono ?_; rintro e w1 ⟨rfl, hb1⟩
      have HW1 := Lib.hid (HW.out.trans (HW.out.2.stays hb1))
      have hcon := HR.out w1 c HW1.out.1 HW1.out.2
      clear hb1 HK
      cases hpr : part (rest t c) with
      | ok R' =>
        have hless := (HP.out (rest t c)).1 R' hpr
        rw [rest_length] at hless
        obtain ⟨g', rfl⟩ : ∃ g', gk = g' + 1 := ⟨gk - 1, by omega⟩
        rw [hpr] at hcon
        have HPR := Lib.hid hpr
        clear hpr
        replace hcon := hcon.mono fun _ _ h => h.isOk
        go_wp2_with (go_at_fn g; refine hcon.mono ?_; rintro e w2 ⟨rfl, b, hw2, hrb⟩)
        have hbl : t.size - b = R'.length := by rw [← hrb, rest_length]
        have HRB := Lib.hid hrb
        have HW2 := Lib.hid (HW1.out.trans hw2)
        clear hrb hw2
        go_roundg g'
        case measure => omega
        case rel => exact ⟨b, HW2, Lib.hid (by rw [HRB.out, ← HE.out, toEndA_part HP.out HV.out HPR.out]), by omega⟩
      | error d =>
        have hd := (HP.out (rest t c)).2 d hpr
        rw [hpr] at hcon
        have HPR := Lib.hid hpr
        have hd0 : (d == 0) = false := beq_eq_false_iff_ne.2 (by omega)
        have hd1 : (d != 0) = true := by simp only [bne, hd0]; rfl
        clear hpr
        replace hcon := hcon.mono fun _ _ h => h.isErr
        go_wp2_with (go_at_fn g; refine hcon.mono ?_; rintro e w2 ⟨rfl, b, hw2⟩)
        go_ret
        exact ⟨b, HW1.out.trans hw2, .inr ⟨d, by rw [← HE.out, toEndA_err HV.out HPR.out], rfl⟩⟩
    · have HK := Lib.hid (skip_yes HW.out.2 ⟨#[q]⟩ hv)
      have HV := Lib.hid hv
      clear hv
      go_wp2_with fail
      go_at_call 112; refine HK.out.mono ?_; rintro e w1 ⟨rfl, hw1⟩
      go_wp2
      go_ret
      exact ⟨c + 1, HW.out.trans hw1, .inl ⟨_, by rw [← HE.out, toEndA_end HV.out], rfl, (rest_add t c 1).symm⟩⟩
end Go.Proofs.YtljgggohjigaoaaGreatDoor
