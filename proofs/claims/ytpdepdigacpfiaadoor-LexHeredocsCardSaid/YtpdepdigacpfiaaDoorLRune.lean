/- strings.IndexRune and ContainsRune of a rune that is no ASCII, in a text of ASCII: none. -/
import Derived.Test.YtpdepdigacpfiaaDoorLHas
import Derived.Laws.Runes
import Derived.Lib.OthersKept
import Derived.Deep.LoopGhost
import Derived.WalkMore
import Derived.Lib.IndexAny
namespace Go.Proofs.YtpdepdigacpfiaaDoor
open Go.RowKit
set_option linter.unusedVariables false

def AllAscii (s : ByteArray) : Prop := ∀ c ∈ s.data.toList, c.toNat < 128
theorem indexByte_none {l : List UInt8} {c : UInt8} (h : ∀ b ∈ l, b.toNat < 128) (hc : 128 ≤ c.toNat) : Lib.indexByte l c = -1 := by
  induction l with
  | nil => rfl
  | cons b l ih =>
    unfold Lib.indexByte
    have hb := h b List.mem_cons_self
    have hne : (b == c) = false := by rw [beq_eq_false_iff_ne]; intro e; subst e; omega
    rw [hne, ih (fun x hx => h x (List.mem_cons_of_mem _ hx))]
    rfl
theorem indexByte_contains (l : List UInt8) (c : UInt8) : decide (0 ≤ Lib.indexByte l c) = l.contains c := by
  induction l with
  | nil => rfl
  | cons b l ih =>
    unfold Lib.indexByte
    rw [List.contains_cons, ← ih]
    have hge := Lib.indexByte_ge l c
    by_cases h : b = c
    · subst h; simp
    · have h1 : (b == c) = false := beq_eq_false_iff_ne.2 h
      have h2 : (c == b) = false := beq_eq_false_iff_ne.2 (Ne.symm h)
      rw [h1, h2]
      by_cases h3 : Lib.indexByte l c = -1
      · rw [h3]; rfl
      · have h4 : (Lib.indexByte l c == -1) = false := beq_eq_false_iff_ne.2 h3
        rw [h4]
        simp only [Bool.false_eq_true, if_false, Bool.false_or]
        rw [decide_eq_decide]
        omega
theorem ascii_at {s : ByteArray} (hs : AllAscii s) {pos : Nat} (h : pos < s.size) : (s[pos]'h).toNat < 128 := hs _ (by
  have : s[pos]'h ∈ s.data := Array.getElem_mem h
  exact Array.mem_toList_iff.2 this)
set_option maxRecDepth 100000 in
set_option maxHeartbeats 2000000 in
theorem indexRune_err {s : ByteArray} (hs : AllAscii s) (hsz : s.size ≤ 100) (W : World) : Calls Tryd.prog 43 #[.string s, .int .i32 65533] W fun e w' => e = .returned (.int .i64 (-1)) ∧ Below W.heap.size W w' := by
  go_enter Tryd.func43, Tryd.ntmps43
  go_wp2_with fail
  go_wp2_with fail
  go_loopg [] s.size (fun gf wx => ∃ pos : Nat, wx.heap[W.heap.size]? = some (.stringIter s pos) ∧ Hid (Below W.heap.size W wx) ∧ s.size ≤ pos + gf)
  case atStart => exact ⟨0, World.iter_heap W s 0, Lib.hid ((Below.refl _ W).alloc (Nat.le_refl _) _), by omega⟩
  case round =>
    obtain ⟨pos, hit, hbw, hfu⟩ := hrel
    by_cases hps : pos < s.size
    · obtain ⟨g', rfl⟩ : ∃ g', gk = g' + 1 := ⟨gk - 1, by omega⟩
      have ha := ascii_at hs hps
      have hnx : ∀ ty, (Instr.next (.pointer (some ⟨W.heap.size, 0, none⟩)) true ty).run Tryd.prog wr = _ := fun ty => Lib.run_next_ascii_at wr W.heap.size s pos ty hit hps ha
      have hit2 := Lib.iterAt_heap wr W.heap.size s pos (pos + 1) hit
      have hbw2 := Lib.hid (Lib.below_iterAt hbw.out (k := W.heap.size) (Nat.le_refl _) s (pos + 1))
      obtain ⟨c, hc⟩ : ∃ c : Nat, (s[pos]'hps).toNat = c := ⟨_, rfl⟩
      rw [hc] at hnx ha
      have hne : ((c : Int) == 65533) = false := beq_eq_false_iff_ne.2 (by omega)
      obtain ⟨X, hWd⟩ : ∃ X, wr.iterAt W.heap.size s (pos + 1) = X := ⟨_, rfl⟩
      rw [hWd] at hnx hit2 hbw2
      clear hWd hc
      go_wp2
      go_roundg g'
      case measure => omega
      case rel => exact ⟨pos + 1, hit2, hbw2, by omega⟩
    · have hnx : ∀ ty, (Instr.next (.pointer (some ⟨W.heap.size, 0, none⟩)) true ty).run Tryd.prog wr = _ := fun ty => Lib.run_next_end_at wr W.heap.size s pos ty hit hps
      go_wp2
      go_ret
      exact ⟨rfl, hbw.out⟩
set_option maxRecDepth 100000 in
set_option maxHeartbeats 2000000 in
theorem indexRune_bad {s : ByteArray} {r : Int} (h0 : 128 ≤ r) (h1 : r ≤ 1114111) (hr : r ≠ 65533) (hv : Lib.validRune r = false) (W : World) : Calls Tryd.prog 43 #[.string s, .int .i32 r] W fun e w' => e = .returned (.int .i64 (-1)) ∧ Below W.heap.size W w' := by
  have HV := Lib.hid (fun w => Tryd.utf8_ValidRune r w)
  rw [hv] at HV
  have e1 : (r == 65533) = false := beq_eq_false_iff_ne.2 hr
  have i0 : ¬ r < 128 := by omega
  clear hv hr
  go_enter Tryd.func43, Tryd.ntmps43
  go_wp2_with fail
  go_wp2_with (go_at_call 58; refine (HV.out _).mono ?_; rintro e w' ⟨rfl, rfl⟩)
  go_ret
  exact ⟨rfl, Below.refl _ _⟩
set_option maxRecDepth 100000 in
set_option maxHeartbeats 4000000 in
theorem indexRune_good {s : ByteArray} {r : Int} (hs : AllAscii s) (hsz : s.size ≤ 100) (h0 : 128 ≤ r) (h1 : r ≤ 1114111) (hr : r ≠ 65533) (hv : Lib.validRune r = true) (W : World) : Calls Tryd.prog 43 #[.string s, .int .i32 r] W fun e w' => e = .returned (.int .i64 (-1)) ∧ Below W.heap.size W w' := by
  have HV := Lib.hid (fun w => Tryd.utf8_ValidRune r w)
  rw [hv] at HV
  have e1 : (r == 65533) = false := beq_eq_false_iff_ne.2 hr
  have i0 : ¬ r < 128 := by omega
  have hv2 : Utf8.valid r = true := by
    unfold Lib.validRune at hv
    unfold Utf8.valid
    simp at hv ⊢
    omega
  obtain ⟨z2, z4, zl⟩ := encode_facts r hv2 h0
  obtain ⟨rs, hrs⟩ : ∃ rs, Utf8.encode r = rs := ⟨_, rfl⟩
  rw [hrs] at z2 z4 zl
  have HRS := Lib.hid hrs
  have HZL := Lib.hid zl
  clear hv hr hv2 zl hrs
  go_enter Tryd.func43, Tryd.ntmps43
  go_wp2_with (go_at_call 58; refine (HV.out _).mono ?_; rintro e w' ⟨rfl, rfl⟩)
  have hrs := HRS.out
  obtain ⟨l, hl⟩ : ∃ l, rs.size = l + 1 := ⟨rs.size - 1, by omega⟩
  have hzl : ∀ h : l < rs.size, 128 ≤ (rs[l]'h).toNat := fun h => by
    have := HZL.out (by omega)
    simpa [hl] using this
  have hls : (rs.size : Int) - 1 = (l : Int) := by omega
  have hlr : l < rs.size := by omega
  have hz := hzl hlr
  have j0 : (0 : Int) ≤ (l : Int) := by omega
  have j1 : (l : Int) < (rs.size : Int) := by omega
  clear hzl HZL hl
  go_step3
  go_wp2_with fail
  refine wp_loop_rounds 1 ?_
  rw [rounds_succ]
  by_cases hlt : l < s.size
  · have j2 : (l : Int) < (s.size : Int) := by omega
    have ha := ascii_at hs hlt
    have hne : (((s[l]'hlt).toNat : Int) == ((rs[l]'hlr).toNat : Int)) = false := beq_eq_false_iff_ne.2 (by omega)
    have hwr : IntKind.i64.wrap ((l : Int) + 1) = (l : Int) + 1 := IntWalk.i64_in _ (by omega)
    have j3 : (0 : Int) ≤ (l : Int) + 1 := by omega
    have j4 : (l : Int) + 1 ≤ (s.size : Int) := by omega
    have htn : ((l : Int) + 1).toNat = l + 1 := by omega
    have HIB := Lib.hid (fun w => Tryd.strings_IndexByte (s.extract (l + 1) s.size) ((rs[l]'hlr).toNat : Int) w)
    rw [show Lib.indexByte (s.extract (l + 1) s.size).data.toList (((rs[l]'hlr).toNat : Int)).toNat.toUInt8 = -1 from indexByte_none (fun b hb => by
      rw [Lib.extract_to_end] at hb
      exact hs b (List.mem_of_mem_drop hb)) (by
      rw [Int.toNat_natCast]
      have := (rs[l]'hlr).toNat_lt
      simpa using hz)] at HIB
    clear ha hz hls hrs hs hsz z2 z4 h0 h1
    go_wp2_with fail
    go_step3
    go_wp2_with fail
    go_quiet (fail)
    go_wp2_with fail
    obtain ⟨W1, hW1⟩ : ∃ W1, w'.drewN nq = W1 := ⟨_, rfl⟩
    have HB1 := Lib.hid (show Below w'.heap.size w' W1 by rw [← hW1]; exact below_drewN _ _)
    rw [hW1]
    clear hW1
    go_quiet ((go_at_call 57; exact Calls.quiet_of_same (HIB.out _)))
    go_wp2_with fail
    rw [Exit.noGoto_ret]
    go_wp2_with fail
    rw [Exit.noGoto_ret]
    go_ret
    exact ⟨rfl, HB1.out.trans ((below_drewN W1 nq).mono HB1.out.size)⟩
  · go_wp2_with fail
    rw [Exit.noGoto_ret]
    go_ret
    exact ⟨rfl, Below.refl _ _⟩
/-- In a text of ASCII stands no rune that is none. -/
theorem contains_wide {s : ByteArray} {r : Int} (hs : AllAscii s) (hsz : s.size ≤ 100) (h0 : 128 ≤ r) (h1 : r ≤ 1114111) (W : World) : Calls Tryd.prog 34 #[.string s, .int .i32 r] W fun e w' => e = .returned (.bool false) ∧ Below W.heap.size W w' := by
  have HI : Hid (∀ w, Calls Tryd.prog 43 #[.string s, .int .i32 r] w fun e w' => e = .returned (.int .i64 (-1)) ∧ Below w.heap.size w w') := Lib.hid (fun w => by
    by_cases hr : r = 65533
    · subst hr; exact indexRune_err hs hsz w
    · cases hv : Lib.validRune r
      · exact indexRune_bad h0 h1 hr hv w
      · exact indexRune_good hs hsz h0 h1 hr hv w)
  clear hs hsz h0 h1
  go_enter Tryd.func34, Tryd.ntmps34
  go_wp2_with (go_at_call 43; refine (HI.out _).mono ?_; rintro e w1 ⟨rfl, hb⟩)
  go_ret
  exact ⟨rfl, hb⟩
/-- ContainsRune, for all runes. -/
theorem contains_any {s : ByteArray} (hs : AllAscii s) (hsz : s.size ≤ 100) (x : Nat) (hx : x ≤ 1114111) (W : World) : Calls Tryd.prog 34 #[.string s, .int .i32 (x : Int)] W fun e w' => e = .returned (.bool (decide (x < 128) && s.data.toList.contains x.toUInt8)) ∧ Below W.heap.size W w' := by
  by_cases h : x < 128
  · refine (Tryd.strings_ContainsRune_ascii s (x : Int) W (by omega) (by omega)).mono ?_
    rintro e w' ⟨rfl, rfl⟩
    rw [decide_eq_true h, Int.toNat_natCast, indexByte_contains]
    exact ⟨rfl, Below.refl _ _⟩
  · rw [decide_eq_false h]
    exact contains_wide hs hsz (by omega) (by omega) W
end Go.Proofs.YtpdepdigacpfiaaDoor
