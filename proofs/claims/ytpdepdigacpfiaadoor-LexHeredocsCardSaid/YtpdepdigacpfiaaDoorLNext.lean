/- next: which token can begin here. -/
import Derived.Test.YtpdepdigacpfiaaDoorLHere
namespace Go.Proofs.YtpdepdigacpfiaaDoor
open Go.RowKit Go.Shelf
set_option linter.unusedVariables false

/-- The kind of the token that begins here, and what reading it tells. -/
def nextL (R : List UInt8) : Int × Except Int (List UInt8 × List UInt8) := match R with
  | [] => (4, .error 40)
  | c :: _ => if c = 10 then (5, .ok ([10], R.drop 1)) else if c = 34 then (3, quotedL R) else if Lib.hasPrefix R [60, 60] then (3, heredocL R) else if digB c then (2, numberL R) else if letB c then (1, nameL R) else (4, signL R)
/-- A reader of what stands at byte a. -/
structure Reader (f : Nat) (P a : Nat) (t : ByteArray) (r : Except Int (List UInt8 × List UInt8)) : Prop where
  enters : ∀ args w, (callFunc f args).run Tryd.prog w = .ok (.enter f args) w
  reads : ∀ W, Scn W P t a → Signs W → Calls Tryd.prog f #[.pointer (some ⟨P, 0, none⟩)] W (TEnds W P t r)
theorem hmf1 : ∀ (fn : Fn) (first cap : Array Value) (w : World), (Instr.makeFunc fn first cap).run Tryd.prog w = .ok (.func fn first cap) w := fun _ _ _ _ => rfl
theorem head_pre {R : List UInt8} {c : UInt8} {r : List UInt8} (h : R = c :: r) : Lib.hasPrefix R [c] = true := by subst h; simp [Lib.hasPrefix, List.isPrefixOf]

/-- What next answers. -/
def NextEnds (W : World) (P a : Nat) (t : ByteArray) (e : Ending) (w' : World) : Prop := (∃ f, e = .returned (.tuple #[.int .i64 (nextL (rest t a)).1, .func (.func f) #[.pointer (some ⟨P, 0, none⟩)] #[]]) ∧ Reader f P a t (nextL (rest t a)).2) ∧ Below W.heap.size W w'
theorem NextEnds.mk {W w' : World} {P a f : Nat} {t : ByteArray} {k : Int} {r : Except Int (List UInt8 × List UInt8)} (hn : nextL (rest t a) = (k, r)) (hr : Reader f P a t r) (hb : Below W.heap.size W w') : NextEnds W P a t (.returned (.tuple #[.int .i64 k, .func (.func f) #[.pointer (some ⟨P, 0, none⟩)] #[]])) w' := by
  unfold NextEnds
  rw [hn]
  exact ⟨⟨f, rfl, hr⟩, hb⟩
theorem byte_run {t : ByteArray} {a : Nat} {c : UInt8} (ha : a < t.size) (hc : t[a]'ha = c) (W : World) : (Instr.index 9 (.string t) (.int .i64 (a : Int))).run Tryd.prog W = .ok (.int .u8 (c.toNat : Int)) W := by
  have hu := Tryd.underlying9
  have h1 : (0 : Int) ≤ (a : Int) := by omega
  simp [Instr.index, run_underlying hu, asIntOf, go_sem, h1, getElem?_pos, ha, hc]
set_option maxRecDepth 100000 in
set_option maxHeartbeats 8000000 in
theorem next_any {W : World} {P a : Nat} {t : ByteArray} (h : Scn W P t a) (hP : 4 ≤ P) (ha : a < t.size) : Calls Tryd.prog 17 #[.pointer (some ⟨P, 0, none⟩)] W (NextEnds W P a t) := by
  have hmf := hmf1
  have hR := rest_cons ha
  obtain ⟨c, hc⟩ : ∃ c, t[a]'ha = c := ⟨_, rfl⟩
  rw [hc] at hR
  have HS := Lib.hid h
  have HA := Lib.hid (fun (w : World) (hs : Scn w P t a) => has_any hs ⟨#[60, 60]⟩)
  have c255 := c.toNat_lt
  have HD := Lib.hid (fun w => isDigit_any c.toNat (by omega) w)
  have HL := Lib.hid (fun w => isLetter_any c.toNat (by omega) w)
  have hpre := head_pre hR
  have k0 := h.1.cell 0
  have k1 := h.1.cell 1
  have i0 : (0 : Int) ≤ (a : Int) := by omega
  have i1 : (a : Int) < (t.size : Int) := by omega
  have i2 : IntKind.i32.wrap (c.toNat : Int) = (c.toNat : Int) := by
    unfold IntKind.wrap
    simp [IntKind.bits, IntKind.signed]
    omega
  have hix : ∀ W, (Instr.index 9 (.string t) (.int .i64 (a : Int))).run Tryd.prog W = .ok (.int .u8 (c.toNat : Int)) W := fun W => byte_run ha hc W
  by_cases h10 : c = 10
  · have hn : nextL (rest t a) = (5, .ok ([10], (rest t a).drop 1)) := by rw [hR]; unfold nextL; simp only; rw [if_pos h10]
    have hr : Reader 23 P a t (.ok ([10], (rest t a).drop 1)) := ⟨enters_of Tryd.func23 (by kernel_rfl) rfl, fun w hs _ => line_any hs (by rw [← h10]; exact hpre)⟩
    have e10 : ((c.toNat : Int) == 10) = true := by rw [h10]; rfl
    have HN := Lib.hid hn
    have HR := Lib.hid hr
    clear h hR hc HA HD HL hpre hn hr h10 ha
    go_enter Tryd.func17, Tryd.ntmps17
    go_wp2_with fail
    go_quiet (fail)
    go_wp2
    go_ret2
    exact NextEnds.mk HN.out HR.out (below_drewN _ _)
  · have e10 : ((c.toNat : Int) == 10) = false := beq_eq_false_iff_ne.2 (fun e => h10 (UInt8.toNat_inj.1 (by simpa using Int.ofNat.inj e)))
    by_cases h34 : c = 34
    · have hn : nextL (rest t a) = (3, quotedL (rest t a)) := by rw [hR]; unfold nextL; simp only; rw [if_neg h10, if_pos h34]
      have hr : Reader 24 P a t (quotedL (rest t a)) := ⟨enters_of Tryd.func24 (by kernel_rfl) rfl, fun w hs _ => quoted_any hs (by rw [← h34]; exact hpre)⟩
      have e34 : ((c.toNat : Int) == 34) = true := by rw [h34]; rfl
      have HN := Lib.hid hn
      have HR := Lib.hid hr
      clear h hR hc HA HD HL hpre hn hr h10 h34 ha
      go_enter Tryd.func17, Tryd.ntmps17
      go_wp2_with fail
      go_quiet (fail)
      go_wp2
      go_ret2
      exact NextEnds.mk HN.out HR.out (below_drewN _ _)
    · have e34 : ((c.toNat : Int) == 34) = false := beq_eq_false_iff_ne.2 (fun e => h34 (UInt8.toNat_inj.1 (by simpa using Int.ofNat.inj e)))
      cases h60 : Lib.hasPrefix (rest t a) [60, 60]
      · have hdg : digP c.toNat = digB c := rfl
        have hlt : letP c.toNat = letB c := rfl
        rw [hdg] at HD
        rw [hlt] at HL
        simp only [h60] at HA
        cases hd : digB c
        · cases hl : letB c
          · have hn : nextL (rest t a) = (4, signL (rest t a)) := by
              unfold nextL; rw [hR]; simp only; rw [← hR, if_neg h10, if_neg h34, h60, hd, hl]; rfl
            have hr : Reader 31 P a t (signL (rest t a)) := ⟨enters_of Tryd.func31 (by kernel_rfl) rfl, fun w hs hg => sign_any hs hP hg⟩
            have HN := Lib.hid hn
            have HR := Lib.hid hr
            rw [hd] at HD
            rw [hl] at HL
            clear h hR hc hpre hn hr h10 h34 ha h60 hdg hlt hd hl
            go_enter Tryd.func17, Tryd.ntmps17
            go_wp2_with fail
            go_quiet (fail)
            have HB0 := Lib.hid (below_drewN W nq)
            go_wp2_with fail
            go_at_call 25; refine (HA.out _ (HS.out.below HB0.out)).mono ?_; rintro e w1 ⟨rfl, hb1⟩
            have HB1 := Lib.hid (HB0.out.trans (hb1.mono HB0.out.size))
            clear hb1
            go_wp2_with (first | (go_at_call 27; refine (HD.out _).mono ?_; rintro e w2 ⟨rfl, rfl⟩) | (go_at_call 29; refine (HL.out _).mono ?_; rintro e w2 ⟨rfl, rfl⟩))
            go_ret2
            exact NextEnds.mk HN.out HR.out HB1.out
          · have hn : nextL (rest t a) = (1, nameL (rest t a)) := by
              unfold nextL; rw [hR]; simp only; rw [← hR, if_neg h10, if_neg h34, h60, hd, hl]; rfl
            have hr : Reader 30 P a t (nameL (rest t a)) := ⟨enters_of Tryd.func30 (by kernel_rfl) rfl, fun w hs hg => name_any hs⟩
            have HN := Lib.hid hn
            have HR := Lib.hid hr
            rw [hd] at HD
            rw [hl] at HL
            clear h hR hc hpre hn hr h10 h34 ha h60 hdg hlt hd hl
            go_enter Tryd.func17, Tryd.ntmps17
            go_wp2_with fail
            go_quiet (fail)
            have HB0 := Lib.hid (below_drewN W nq)
            go_wp2_with fail
            go_at_call 25; refine (HA.out _ (HS.out.below HB0.out)).mono ?_; rintro e w1 ⟨rfl, hb1⟩
            have HB1 := Lib.hid (HB0.out.trans (hb1.mono HB0.out.size))
            clear hb1
            go_wp2_with (first | (go_at_call 27; refine (HD.out _).mono ?_; rintro e w2 ⟨rfl, rfl⟩) | (go_at_call 29; refine (HL.out _).mono ?_; rintro e w2 ⟨rfl, rfl⟩))
            go_ret2
            exact NextEnds.mk HN.out HR.out HB1.out
        · have hn : nextL (rest t a) = (2, numberL (rest t a)) := by
            unfold nextL; rw [hR]; simp only; rw [← hR, if_neg h10, if_neg h34, h60, hd]; rfl
          have hr : Reader 28 P a t (numberL (rest t a)) := ⟨enters_of Tryd.func28 (by kernel_rfl) rfl, fun w hs hg => number_any hs (by
            rw [hR, List.dropWhile_cons_of_pos hd]
            have := dropWhile_le (q := digB) (rest t (a + 1))
            simp; omega)⟩
          have HN := Lib.hid hn
          have HR := Lib.hid hr
          rw [hd] at HD
          clear h hR hc hpre hn hr h10 h34 ha h60 hdg hlt hd HL
          go_enter Tryd.func17, Tryd.ntmps17
          go_wp2_with fail
          go_quiet (fail)
          have HB0 := Lib.hid (below_drewN W nq)
          go_wp2_with fail
          go_at_call 25; refine (HA.out _ (HS.out.below HB0.out)).mono ?_; rintro e w1 ⟨rfl, hb1⟩
          have HB1 := Lib.hid (HB0.out.trans (hb1.mono HB0.out.size))
          clear hb1
          go_wp2_with (go_at_call 27; refine (HD.out _).mono ?_; rintro e w2 ⟨rfl, rfl⟩)
          go_ret2
          exact NextEnds.mk HN.out HR.out HB1.out
      · have hn : nextL (rest t a) = (3, heredocL (rest t a)) := by
          unfold nextL; rw [hR]; simp only; rw [← hR, if_neg h10, if_neg h34, h60]; rfl
        have hr : Reader 26 P a t (heredocL (rest t a)) := ⟨enters_of Tryd.func26 (by kernel_rfl) rfl, fun w hs hg => heredoc_any hs h60⟩
        have HN := Lib.hid hn
        have HR := Lib.hid hr
        simp only [h60] at HA
        clear h hR hc hpre hn hr h10 h34 ha h60 HL HD
        go_enter Tryd.func17, Tryd.ntmps17
        go_wp2_with fail
        go_quiet (fail)
        have HB0 := Lib.hid (below_drewN W nq)
        go_wp2_with fail
        go_at_call 25; refine (HA.out _ (HS.out.below HB0.out)).mono ?_; rintro e w1 ⟨rfl, hb1⟩
        have HB1 := Lib.hid (HB0.out.trans (hb1.mono HB0.out.size))
        clear hb1
        go_wp2
        go_ret2
        exact NextEnds.mk HN.out HR.out HB1.out
end Go.Proofs.YtpdepdigacpfiaaDoor
