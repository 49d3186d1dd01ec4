/- purlinlaw02.awake: the document's examples. -/
import Derived.Test.YthmojhfakmdlfaaDoorVObject2
import Derived.Test.YthmojhfakmdlfaaDoorVGet
import Derived.Test.YthmojhfakmdlfaaDoorVCmp1
namespace Go.Proofs.YthmojhfakmdlfaaDoor
open Go.RowKit Go.Sort Go.Shelf
set_option linter.unusedVariables false

def kA : ByteArray := ⟨#[97]⟩
def kB : ByteArray := ⟨#[98]⟩
def ks0 : List ByteArray := [kB, kA]
def xs0 : List (Int × Bool × ByteArray) := [(3, false, str 1), (3, false, str 2)]
theorem sorted_ba (hI : Inhabited (Fin ks0.length)) (d' : Array (Fin ks0.length)) (hp : PermIn 0 ks0.length (List.finRange ks0.length).toArray d') (hs : SortedIn (ltOf (byKey ks0)) 0 ks0.length d') : d'.toList.map (encFin ks0.length) = [.int .i64 1, .int .i64 0] := by
  obtain ⟨l⟩ := d'
  have h1 : l.length = 2 := hp.1
  match l, h1 with
  | [x, y], _ =>
    have hxy : [x, y].Perm (List.finRange 2) := hp.2.2
    have hnd : [x, y].Nodup := hxy.nodup_iff.2 (List.nodup_finRange _)
    have hne : x ≠ y := by
      intro e; subst e; simp at hnd
    have h3 : ltOf (byKey ks0) y x = false := hs 0 1 (by omega) (by omega) (by show (1 : Nat) < 2; omega)
    have hb : bLt kA kB = true := by decide
    obtain ⟨x, hx⟩ := x
    obtain ⟨y, hy⟩ := y
    have hx2 : x < 2 := hx
    have hy2 : y < 2 := hy
    rcases (show (x = 0 ∧ y = 1) ∨ (x = 1 ∧ y = 0) by
      have : x ≠ y := fun e => hne (by subst e; rfl)
      omega) with ⟨rfl, rfl⟩ | ⟨rfl, rfl⟩
    · rw [byKey_lt] at h3
      have : bLt kA kB = false := h3
      rw [hb] at this; cases this
    · rfl

theorem places_ba {w : World} {kv : Value} (hk : StrsAt w.heap.size w kv ks0) : Calls Tryd.prog 29 #[kv] w fun e w' => e = .returned (.slice (some ⟨w.heap.size + 1, 0, none⟩) ks0.length ks0.length) ∧ Below w.heap.size w w' ∧ w.heap.size + 1 < w'.heap.size ∧ ∀ j, j < ks0.length → w'.cell? ⟨w.heap.size + 1, j, none⟩ = some (.int .i64 (([1, 0].getD j 0 : Nat) : Int)) := by
  refine places_loop hk (by decide) (by decide) _ (fun W hb hr hc => ?_)
  refine (sort_small (by decide) (by decide) hk hb hr hc).mono ?_
  rintro e w' ⟨rfl, hI, d', hp, hs, hb2, ho⟩
  rw [sorted_ba hI d' hp hs] at ho
  refine ⟨rfl, rfl, hb2, (World.ownsRow.lt ho _ rfl).2, fun j hj => ?_⟩
  have hj2 : j < 2 := hj
  have h0 := World.ownsRow.cells ho (g := w.heap.size + 1) rfl j (.int .i64 (([1, 0].getD j 0 : Nat) : Int)) (by
    rcases (show j = 0 ∨ j = 1 by omega) with rfl | rfl <;> rfl)
  rw [Lib.add_plain, Nat.zero_add] at h0
  exact h0
end Go.Proofs.YthmojhfakmdlfaaDoor
