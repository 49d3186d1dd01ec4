/- A list of strings that came in, opened. -/
import Derived.Test.YtpdepdigacpfiaaDoorLHerKit
import Derived.ChangeArms
import Derived.ChangeShapes
import Derived.SizedLaws
import Derived.KernelRfl
namespace Go.Proofs.YtpdepdigacpfiaaDoor
open Go.RowKit
set_option linter.unusedVariables false

theorem cellsS : Tryd.prog.cellsOf 9 = 1 := by kernel_rfl
theorem bytesS : Tryd.prog.bytesOf 9 = 16 := by kernel_rfl
theorem laidOutL : laidOutB Tryd.prog = true := by kernel_rfl
theorem add_none (g o j : Nat) : (⟨g, o, none⟩ : Addr).add j = ⟨g, o + j, none⟩ := by
  unfold Addr.add
  split
  · next h => subst h; rfl
  · rfl
theorem open_trod {H : Type} {enc : TypeId × Value → H} {w : World} {base : Nat} {sp : Nat → Bool} {hd : Bool} {fuel : Nat} {c : Value} {x : DataW H × List MemPlace} (h : DataW.trod enc Tryd.prog w base sp hd fuel 34 [c] = some x) (hw : ∀ n ∈ x.1.weights Tryd.prog 34, n ≤ reachBytes) : ∃ ks, StrsIn w c ks := by
  rcases DataW.trod_slice Tryd.underlying34 h with ⟨hc, rfl⟩ | ⟨a, len, cap, elems, rest, n, rfl, hc, rfl, -, hle, -, hel, hat, -, -⟩
  · obtain rfl : c = .slice none 0 0 := by simpa using hc
    exact ⟨[], none, 0, rfl, by simp, fun h => absurd h (by simp)⟩
  · obtain rfl : c = .slice (some a) len cap := by simpa using hc
    have hlen : len ≤ 140737488355328 := by
      have := hw ((elems.length + rest.length) * 16) (by simp [DataW.weights, Tryd.underlying34, bytesS])
      unfold reachBytes at this
      omega
    have hall : ∀ i, ∃ s : ByteArray, i < len → w.cell? (a.add i) = some (.string s) ∧ s.size ≤ maxLen := fun i => by
      by_cases hi : i < len
      · have h1 := hat i hi
        rw [cellsS, Nat.mul_one, List.getElem?_eq_getElem (by omega)] at h1
        obtain ⟨cs, h2, h3⟩ := Option.bind_eq_some_iff.1 h1
        obtain ⟨-, hl, hcell⟩ := World.cells?_some h2
        obtain ⟨s, hs, -, hm⟩ := DataW.trod_string Tryd.underlying9 h3
        subst hs
        exact ⟨s, fun _ => ⟨by have := hcell 0 (by simp); simpa [Addr.add] using this, hm⟩⟩
      · exact ⟨⟨#[]⟩, fun h => absurd h hi⟩
    obtain ⟨f, hf⟩ := Classical.skolem.1 hall
    have hl : ((List.range len).map f).length = len := by simp
    refine ⟨(List.range len).map f, some a, cap, by rw [hl], by omega, fun hp => ?_⟩
    rw [hl] at hp
    obtain ⟨g, o, spot⟩ := a
    have hspot : spot = none := by simpa [Addr.add] using World.cell?_spot (hf 0 hp).1
    subst hspot
    refine ⟨g, o, rfl, fun j hj => ?_⟩
    rw [hl] at hj
    have := hf j hj
    rw [add_none] at this
    simpa using this
theorem open_keys {H : Type} {enc : TypeId × Value → H} {w : World} {base b0 : Nat} {r : Reach} {sp : Nat → Bool} {hd : Bool} {c : Value} {d : DataW H} {ps : List MemPlace} (hval : Value.okWide Tryd.prog w r b0 34 c) (h : DataW.Trod enc Tryd.prog w base sp hd 34 c d ps) (hw : ∀ n ∈ d.weights Tryd.prog 34, n ≤ reachBytes) : ∃ ks, StrsIn w c ks := by
  obtain ⟨a, len, cap, rfl⟩ := WideShapes.okWide_slice Tryd.underlying34 hval
  obtain ⟨fuel, hf⟩ := h
  exact open_trod (show DataW.trod enc Tryd.prog w base sp hd fuel 34 [.slice a len cap] = some (d, ps) from hf) hw
end Go.Proofs.YtpdepdigacpfiaaDoor
