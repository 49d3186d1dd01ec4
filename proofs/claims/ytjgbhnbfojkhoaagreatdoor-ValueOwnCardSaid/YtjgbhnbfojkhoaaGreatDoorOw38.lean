/- What value.Drop hands to Concat -/
import Derived.Test.YtjgbhnbfojkhoaaGreatDoorOw35
namespace Go.Proofs.YtjgbhnbfojkhoaaGreatDoor
open Go.RowKit
set_option linter.unusedVariables false

/-- What Concat is handed: two slices in a row. -/
def Duo (Wc : World) (S : Nat) (a c : Value) : Prop := S < Wc.heap.size ∧ Wc.cell? ⟨S, 0, none⟩ = some a ∧ Wc.cell? ⟨S, 1, none⟩ = some c
set_option maxHeartbeats 1000000 in
theorem dropKeys {B : Nat} {w w1 : World} {adk : Option Addr} {n capk p q : Nat} {km : List ByteArray} (hS : StrsAt B w (.slice adk n capk) km) (hpq : p ≤ q) (hq : q ≤ n) (hn : n ≤ 900000) (h1 : Below B w w1) (hBw : B ≤ w1.heap.size)
    (Wc : World) (S : Nat) (hwc : Below w1.heap.size w1 Wc) (ht : Duo Wc S (.slice adk p capk) (.slice (if capk = q then adk else adk.map (·.add (q * 1))) (n - q) (capk - q))) :
    Calls Tryz.prog 53 #[.slice (some ⟨S, 0, none⟩) 2 2] Wc fun e w' => (∃ ad cap, e = .returned (.slice ad (p + (n - q)) cap) ∧ w'.ownsRow w1.heap.size 9 1 (.slice ad (p + (n - q)) cap) (p + (n - q)) ((km.take p ++ km.drop q).map Value.string)) ∧ Below Wc.heap.size Wc w' ∧ Below w1.heap.size w1 w' := by
  obtain ⟨hS', c0, c1⟩ := ht
  have hbc : Below B w Wc := h1.trans (hwc.mono hBw)
  have hBc : B ≤ Wc.heap.size := Nat.le_trans hBw hwc.size
  have pa := part_head (hS.below hbc) hBc (Nat.le_trans hpq hq)
  have pc := part_tail (hS.below hbc) hBc hq
  have := concatS_any (W := Wc) (S := S) [⟨_, _, _⟩, ⟨_, _, _⟩] (fun x hx => by
    simp only [List.mem_cons, List.mem_nil_iff, or_false] at hx
    rcases hx with rfl | rfl
    · exact pa
    · exact pc) (by simp) (by simp [sumM]; omega) hS' (fun j hj => by
    have hj3 : j < 2 := hj
    rcases (show j = 0 ∨ j = 1 by omega) with rfl | rfl
    · exact c0
    · exact c1) Wc (Below.refl _ _)
  refine this.mono ?_
  rintro e w' ⟨⟨v', rfl, hrow⟩, hb⟩
  have hm : sumM [⟨(Value.slice adk p capk), ((km.take p).map Value.string), p⟩, ⟨(.slice (if capk = q then adk else adk.map (·.add (q * 1))) (n - q) (capk - q)), ((km.drop q).map Value.string), n - q⟩] = p + (n - q) := by simp [sumM]
  rw [hm] at hrow
  obtain ⟨ad, cap, rfl⟩ := row_shape hrow
  refine ⟨⟨ad, cap, rfl, ?_⟩, hb, hwc.trans (hb.mono hwc.size)⟩
  have := row_mono hrow hwc.size
  simpa using this
set_option maxHeartbeats 1000000 in
theorem dropItems {B : Nat} {w w1 : World} {adi : Option Addr} {n capi p q : Nat} {ym : List It} (hI : ItemsAt B w (.slice adi n capi) ym) (hsm : ∀ e ∈ ym, smallT e.T) (hpq : p ≤ q) (hq : q ≤ n) (hn : n ≤ 900000) (h1 : Below B w w1) (hBw : B ≤ w1.heap.size)
    (w5 Wc : World) (S : Nat) (hwc : Below w1.heap.size w1 Wc) (h5 : Below w5.heap.size w5 Wc) (ht : Duo Wc S (.slice adi p capi) (.slice (if capi = q then adi else adi.map (·.add (q * 5))) (n - q) (capi - q))) :
    Calls Tryz.prog 55 #[.slice (some ⟨S, 0, none⟩) 2 2] Wc fun e w' => (∃ ad cap, e = .returned (.slice ad (p + (n - q)) cap) ∧ ∀ W2, Below w'.heap.size w' W2 → Calls Tryz.prog 54 #[.slice ad (p + (n - q)) cap] W2 (ClonesAll ((ym.map It.T).take p ++ (ym.map It.T).drop q) W2)) ∧ Below w5.heap.size w5 w' ∧ Below w1.heap.size w1 w' := by
  obtain ⟨hS', c0, c1⟩ := ht
  have hbc : Below B w Wc := h1.trans (hwc.mono hBw)
  have hBc : B ≤ Wc.heap.size := Nat.le_trans hBw hwc.size
  have hlen : ym.length = n := by obtain ⟨_, _, e, -⟩ := hI; cases e; rfl
  have hok : ∀ e ∈ ym, e.Ok B w := by obtain ⟨_, _, _, _, _, _, h⟩ := hI; exact h
  have pa := vpart_head (hI.below hbc) hBc (Nat.le_trans hpq hq)
  have pc := vpart_tail (hI.below hbc) hBc hq
  have := concatV_any (W := Wc) (S := S) [⟨(Value.slice adi p capi), ((ym.take p).flatMap It.cells), p⟩, ⟨(.slice (if capi = q then adi else adi.map (·.add (q * 5))) (n - q) (capi - q)), ((ym.drop q).flatMap It.cells), n - q⟩] (fun x hx => by
    simp only [List.mem_cons, List.mem_nil_iff, or_false] at hx
    rcases hx with rfl | rfl
    · exact pa
    · exact pc) (by simp) (by simp [sumM]; omega) hS' (fun j hj => by
    have hj3 : j < 2 := hj
    rcases (show j = 0 ∨ j = 1 by omega) with rfl | rfl
    · exact c0
    · exact c1) Wc (Below.refl _ _)
  refine this.mono ?_
  rintro e w' ⟨⟨v', rfl, hrow⟩, hb⟩
  have hm : sumM [⟨(Value.slice adi p capi), ((ym.take p).flatMap It.cells), p⟩, ⟨(.slice (if capi = q then adi else adi.map (·.add (q * 5))) (n - q) (capi - q)), ((ym.drop q).flatMap It.cells), n - q⟩] = p + (n - q) := by simp [sumM]
  rw [hm] at hrow
  have hzl : (ym.take p ++ ym.drop q).length = p + (n - q) := by simp; omega
  have hmem : ∀ e ∈ ym.take p ++ ym.drop q, e.Ok B w ∧ smallT e.T := fun e he => by
    rcases List.mem_append.1 he with he | he
    · exact ⟨hok e (List.mem_of_mem_take he), hsm e (List.mem_of_mem_take he)⟩
    · exact ⟨hok e (List.mem_of_mem_drop he), hsm e (List.mem_of_mem_drop he)⟩
  have hrow' : w'.ownsRow Wc.heap.size 26 5 v' (ym.take p ++ ym.drop q).length ((ym.take p ++ ym.drop q).flatMap It.cells) := by
    rw [hzl]; simpa using hrow
  have hit := items_of_row hrow' (by omega) (fun e he => ((hmem e he).1.later (hbc.trans (hb.mono hBc))).wide (Nat.le_trans hBc hb.size))
  obtain ⟨ad, cap, rfl⟩ := row_shape hrow
  refine ⟨⟨ad, cap, rfl, fun W2 hb2 => ?_⟩, h5.trans (hb.mono h5.size), hwc.trans (hb.mono hwc.size)⟩
  have := cloneItems hit (fun e he => (hmem e he).2) (by omega) W2 hb2 hb2.size
  simpa [List.map_take, List.map_drop] using this
end Go.Proofs.YtjgbhnbfojkhoaaGreatDoor
