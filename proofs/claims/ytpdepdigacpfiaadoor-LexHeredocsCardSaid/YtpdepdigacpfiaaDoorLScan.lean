/- Scan: the walk. -/
import Derived.Test.YtpdepdigacpfiaaDoorLUtf
namespace Go.Proofs.YtpdepdigacpfiaaDoor
open Go.RowKit Go.Shelf
set_option linter.unusedVariables false

/-- The tokens of a text, or what is wrong at which byte. -/
def scanL (t : ByteArray) : Except (Int × Nat) (List Tk) :=
  if 16384 < t.size then .error (3, 0) else if badFrom t t.size 0 < t.size then .error (31, badFrom t t.size 0) else tokL t.size (t.size + 1) (betweenA (rest t 0)) []
/-- What Scan answers. -/
def ScanEnd (W : World) (sz : Nat) (r : Except (Int × Nat) (List Tk)) (e : Ending) (w' : World) : Prop :=
  Below W.heap.size W w' ∧ ((∃ l v, r = .ok l ∧ e = .returned (.tuple #[v, .pointer none]) ∧ w'.ownsRow W.heap.size 32 3 v (l.length + 1) (tkCells (l ++ [⟨0, ⟨#[]⟩, sz⟩]))) ∨
    (∃ c p D, r = .error (c, p) ∧ e = .returned (.tuple #[.slice none 0 0, .pointer (some ⟨D, 0, none⟩)]) ∧ W.heap.size ≤ D ∧ Blk w' D #[.int .i64 c, .string ⟨#[]⟩, .int .i64 (p : Int)] 29))
theorem row_base {w : World} {B B' e size n : Nat} {v : Value} {xs : List Value} (h : w.ownsRow B e size v n xs) (hB : B' ≤ B) : w.ownsRow B' e size v n xs := by
  obtain ⟨h1, h2⟩ := h
  refine ⟨h1, ?_⟩
  rcases h2 with h2 | ⟨g, cap, cur, rfl, h3, h4, h5⟩
  · exact .inl h2
  · exact .inr ⟨g, cap, cur, rfl, by omega, h4, h5⟩
/-- What Scan reads of the program's own variables. -/
def Ready (W : World) : Prop := 4 ≤ W.heap.size ∧ Signs W ∧ ∃ m, W.cell? ⟨1, 0, none⟩ = some (.int .i64 m)
theorem Ready.below {W W' : World} (h : Ready W) (hb : Below W.heap.size W W') : Ready W' := by
  obtain ⟨h1, ⟨tg, fr, h0⟩, m, hm⟩ := h
  exact ⟨Nat.le_trans h1 hb.size, ⟨tg, fr, (hb.block 0 (Array.getElem?_eq_some_iff.1 h0).1).trans h0⟩, m, cells_keep hb hm⟩
theorem scn_new (W : World) (t : ByteArray) (ht : t.size ≤ 16384) : Scn (W.alloc (.cells #[.string t, .int .i64 0] 48)) W.heap.size t 0 := ⟨Blk.new _ _ _, Nat.zero_le _, ht⟩

set_option maxRecDepth 100000 in
set_option maxHeartbeats 4000000 in
theorem scan_any {W : World} (t : ByteArray) (hW : Ready W) : Calls Tryd.prog 8 #[.string t] W (ScanEnd W t.size (scanL t)) := by
  by_cases h1 : 16384 < t.size
  · have HX : Hid (scanL t = .error (3, 0)) := Lib.hid (by unfold scanL; rw [if_pos h1])
    have q1 : (16384 : Int) < (t.size : Int) := by omega
    clear h1
    go_enter Tryd.func8, Tryd.ntmps8
    go_wp2
    go_ret2
    rw [HX.out]
    exact ⟨below_new _ _, .inr ⟨3, 0, _, rfl, rfl, Nat.le_refl _, Blk.new _ _ _⟩⟩
  · have hb := Lib.hid (bad_any (s := t) (by omega) W)
    have q1 : ¬ (16384 : Int) < (t.size : Int) := by omega
    by_cases h2 : badFrom t t.size 0 < t.size
    · have HX : Hid (scanL t = .error (31, badFrom t t.size 0)) := Lib.hid (by unfold scanL; rw [if_neg h1, if_pos h2])
      obtain ⟨b, hbb⟩ : ∃ b, badFrom t t.size 0 = b := ⟨_, rfl⟩
      rw [hbb] at HX h2 hb
      have q2 : (b : Int) < (t.size : Int) := by omega
      clear h1 h2 hbb
      go_enter Tryd.func8, Tryd.ntmps8
      go_wp2_with (go_at_call 13; refine hb.out.mono ?_; rintro e w1 ⟨rfl, hb1⟩)
      go_ret2
      rw [HX.out]
      exact ⟨hb1.trans ((Below.refl _ _).alloc (by have := hb1.size; omega) _), .inr ⟨31, b, _, rfl, rfl, hb1.size, Blk.new _ _ _⟩⟩
    · have HX : Hid (scanL t = tokL t.size (t.size + 1) (betweenA (rest t 0)) []) := Lib.hid (by unfold scanL; rw [if_neg h1, if_neg h2])
      obtain ⟨b, hbb⟩ : ∃ b, badFrom t t.size 0 = b := ⟨_, rfl⟩
      rw [hbb] at h2 hb
      have q2 : ¬ (b : Int) < (t.size : Int) := by omega
      have HW := Lib.hid hW
      have HS := Lib.hid (fun w => scn_new w t (by omega))
      clear h1 h2 hbb hW
      go_enter Tryd.func8, Tryd.ntmps8
      go_wp2_with fail
      go_at_call 13; refine hb.out.mono ?_; rintro e w1 ⟨rfl, hb1⟩
      have hW2 := (HW.out.below hb1).below (below_new w1 (.cells #[.string t, .int .i64 0] 48))
      have hW1 := HW.out.below hb1
      obtain ⟨-, hg, m, hm⟩ := hW2
      have HT := Lib.hid (tokens_any (HS.out w1) hW1.1 hm hg)
      have HB1 := Lib.hid hb1
      clear hb hb1 hW1 hg hm
      have HA1 := Lib.hid (HB1.out.alloc HB1.out.size (.cells #[.string t, .int .i64 0] 48))
      go_wp2_with fail
      go_at_call 14; refine HT.out.mono ?_; rintro e w2 ⟨ha, ⟨l, v, hr, rfl, ho⟩ | ⟨c, p, D, hr, rfl, hD, hbl⟩⟩
      · have HE := Lib.hid (show ScanEnd W t.size (scanL t) (.returned (.tuple #[v, .pointer none])) w2 from ⟨HA1.out.trans (ha.below HA1.out.size HB1.out.size), .inl ⟨l, v, HX.out.trans hr, rfl, row_base ho HA1.out.size⟩⟩)
        clear hr ho ha
        go_wp2_with fail
        go_ret2
        exact HE.out
      · have HE := Lib.hid (show ScanEnd W t.size (scanL t) (.returned (.tuple #[.slice none 0 0, .pointer (some ⟨D, 0, none⟩)])) w2 from ⟨HA1.out.trans (ha.below HA1.out.size HB1.out.size), .inr ⟨c, p, D, HX.out.trans hr, rfl, Nat.le_trans HA1.out.size hD, hbl⟩⟩)
        clear hr hbl hD ha
        go_wp2_with fail
        go_ret2
        exact HE.out
end Go.Proofs.YtpdepdigacpfiaaDoor
