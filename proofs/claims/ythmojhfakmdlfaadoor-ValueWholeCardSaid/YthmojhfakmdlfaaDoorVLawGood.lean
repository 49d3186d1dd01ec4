/- ValueGood: its walk. -/
import Derived.Test.YthmojhfakmdlfaaDoorVRefGood
import Derived.Test.YthmojhfakmdlfaaDoorVAwake2
import Derived.Deep.RegionHeld3
namespace Go.Proofs.YthmojhfakmdlfaaDoor
open Go.RowKit
set_option linter.unusedVariables false

/-- A value stands boxed at the head of what is new, and below nothing has turned. -/
theorem box_keep {W w1 w2 : World} {cs : Array Value} {t : TypeId} {c0 c1 c2 c3 c4 : Option Value} (h : Hid (Below W.heap.size W w1 ∧ Blk w1 W.heap.size cs t) ∧ w1.cell? ⟨W.heap.size, 0, none⟩ = c0 ∧ w1.cell? ⟨W.heap.size, 1, none⟩ = c1 ∧ w1.cell? ⟨W.heap.size, 2, none⟩ = c2 ∧ w1.cell? ⟨W.heap.size, 3, none⟩ = c3 ∧ w1.cell? ⟨W.heap.size, 4, none⟩ = c4) (hb : Below w1.heap.size w1 w2) :
    Hid (Below W.heap.size W w2 ∧ Blk w2 W.heap.size cs t) ∧ w2.cell? ⟨W.heap.size, 0, none⟩ = c0 ∧ w2.cell? ⟨W.heap.size, 1, none⟩ = c1 ∧ w2.cell? ⟨W.heap.size, 2, none⟩ = c2 ∧ w2.cell? ⟨W.heap.size, 3, none⟩ = c3 ∧ w2.cell? ⟨W.heap.size, 4, none⟩ = c4 := by
  obtain ⟨h0, h1, h2, h3, h4, h5⟩ := h
  have hl := h0.out.2.lt
  have c := fun j => hb.cell (p := ⟨W.heap.size, j, none⟩) hl
  exact ⟨Lib.hid ⟨h0.out.1.trans (hb.mono h0.out.1.size), h0.out.2.below hb⟩, (c 0).trans h1, (c 1).trans h2, (c 2).trans h3, (c 3).trans h4, (c 4).trans h5⟩

theorem box_start {W w1 : World} {x0 x1 x2 x3 x4 : Value} {t : TypeId} (h : Hid (Below W.heap.size W w1 ∧ Blk w1 W.heap.size #[x0, x1, x2, x3, x4] t)) :
    Hid (Below W.heap.size W w1.drew ∧ Blk w1.drew W.heap.size #[x0, x1, x2, x3, x4] t) ∧ w1.drew.cell? ⟨W.heap.size, 0, none⟩ = some x0 ∧ w1.drew.cell? ⟨W.heap.size, 1, none⟩ = some x1 ∧ w1.drew.cell? ⟨W.heap.size, 2, none⟩ = some x2 ∧ w1.drew.cell? ⟨W.heap.size, 3, none⟩ = some x3 ∧ w1.drew.cell? ⟨W.heap.size, 4, none⟩ = some x4 := by
  obtain ⟨hb, hk⟩ := h.out
  have hb' : Below W.heap.size W w1.drew := ⟨hb.os, hb.tape, hb.output, hb.size, hb.block⟩
  have hk' : Blk w1.drew W.heap.size #[x0, x1, x2, x3, x4] t := hk
  exact ⟨Lib.hid ⟨hb', hk'⟩, hk'.cell 0, hk'.cell 1, hk'.cell 2, hk'.cell 3, hk'.cell 4⟩

set_option maxRecDepth 100000 in
set_option maxHeartbeats 2000000 in
theorem goodLaw_any {B : Nat} {w : World} {v : Value} {T : VT} (h : Is B w v T) (W : World) (hb : Below B w W) (hBW : B ≤ W.heap.size) : Calls Tryd.prog 3 #[v] W fun e w' => e = .returned (.bool true) ∧ Below W.heap.size W w' := by
  have HV := Lib.hid (fun W' (hb' : Below W.heap.size W W') => vGood_any h W' (hb.trans (hb'.mono hBW)) (Nat.le_trans hBW hb'.size))
  have HR := Lib.hid (fun W' (hb' : Below W.heap.size W W') => rGood_any h W' (hb.trans (hb'.mono hBW)) (Nat.le_trans hBW hb'.size))
  have HA := Lib.hid (fun W' => awake_any W')
  simp only [← goodT_within] at HV
  obtain ⟨k, b, t, ad, n, cap, adk, nk, capk, rfl⟩ := h.shape
  obtain ⟨g, hg⟩ : ∃ g, goodT T = g := ⟨_, rfl⟩
  rw [hg] at HV HR
  clear hg h hb hBW
  have hb0 := below_new W (.cells #[.int .i64 k, .bool b, .string t, .slice ad n cap, .slice adk nk capk] 26)
  have hk0 := Blk.new W #[.int .i64 k, .bool b, .string t, .slice ad n cap, .slice adk nk capk] 26
  have HB0 : Hid (_ ∧ _) := Lib.hid ⟨hb0, hk0⟩
  clear hb0 hk0
  go_enter Tryd.func3, Tryd.ntmps3
  go_wp2_with fail
  go_region_held3 (fun w' => Hid (Below W.heap.size W w' ∧ Blk w' W.heap.size #[.int .i64 k, .bool b, .string t, .slice ad n cap, .slice adk nk capk] 26) ∧ w'.cell? ⟨W.heap.size, 0, none⟩ = some (.int .i64 k) ∧ w'.cell? ⟨W.heap.size, 1, none⟩ = some (.bool b) ∧ w'.cell? ⟨W.heap.size, 2, none⟩ = some (.string t) ∧ w'.cell? ⟨W.heap.size, 3, none⟩ = some (.slice ad n cap) ∧ w'.cell? ⟨W.heap.size, 4, none⟩ = some (.slice adk nk capk))
    (first | exact box_keep (by assumption) (by assumption) | exact box_start HB0 | go_keep)
    (first
      | (go_at_call 6; refine (HA.out _).mono ?_; rintro e w1 ⟨rfl, hb1⟩)
      | (go_at_call 7; refine (HV.out _ (by have := ‹Hid (_ ∧ _) ∧ _›.1.out.1; exact this)).mono ?_; rintro e w1 ⟨rfl, hb1⟩)
      | (go_at_call 8; refine (HR.out _ (by have := ‹Hid (_ ∧ _) ∧ _›.1.out.1; exact this)).mono ?_; rintro e w1 ⟨rfl, hb1⟩))
  go_wp2_with fail
  go_ret
  rename_i hS
  refine ⟨?_, hS.1.out.1⟩
  cases g <;> rfl
end Go.Proofs.YthmojhfakmdlfaaDoor
