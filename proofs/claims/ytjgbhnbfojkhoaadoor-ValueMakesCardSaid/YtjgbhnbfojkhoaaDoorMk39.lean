/- A value that came in, opened: whatever reads as an api.Value is a tree · Lists of texts and of values that came in, opened -/
import Derived.ChangeArms
import Derived.ChangeShapes
import Derived.SizedLaws
import Derived.KernelRfl
import Derived.WideShapes
import Derived.Test.YtjgbhnbfojkhoaaDoorMk10
import Derived.Test.YtjgbhnbfojkhoaaDoorMk16
namespace Go.Proofs.YtjgbhnbfojkhoaaDoor
open Go.RowKit
set_option linter.unusedVariables false

theorem cellsV : Tryd.prog.cellsOf 26 = 5 := by kernel_rfl
theorem cellsK : Tryd.prog.cellsOf 22 = 1 := by kernel_rfl
theorem cellsB : Tryd.prog.cellsOf 4 = 1 := by kernel_rfl
theorem cellsS : Tryd.prog.cellsOf 9 = 1 := by kernel_rfl
theorem cellsL : Tryd.prog.cellsOf 23 = 1 := by kernel_rfl
theorem cellsN : Tryd.prog.cellsOf 24 = 1 := by kernel_rfl
theorem bytesV : Tryd.prog.bytesOf 26 = 80 := by kernel_rfl
theorem bytesS : Tryd.prog.bytesOf 9 = 16 := by kernel_rfl
theorem len5 {α : Type} {l : List α} (h : l.length = 5) : ∃ a b c d e, l = [a, b, c, d, e] := by
  match l, h with
  | [a, b, c, d, e], _ => exact ⟨a, b, c, d, e, rfl⟩
theorem len1 {α : Type} {l : List α} (h : l.length = 1) : ∃ a, l = [a] := by
  match l, h with
  | [a], _ => exact ⟨a, rfl⟩

theorem add_none (g o j : Nat) : (⟨g, o, none⟩ : Addr).add j = ⟨g, o + j, none⟩ := by
  unfold Addr.add
  split
  · next h => subst h; rfl
  · rfl
section
variable {H : Type} {enc : TypeId × Value → H} {w : World} {base : Nat} {sp : Nat → Bool} {hd : Bool}

theorem weightsAll_at {e : TypeId} : ∀ {l : List (DataW H)} {d : DataW H}, d ∈ l → ∀ n ∈ d.weights Tryd.prog e, n ∈ DataW.weightsAll Tryd.prog e l
  | x :: l, d, hm, n, hn => by
    simp only [DataW.weightsAll, List.mem_append]
    rcases List.mem_cons.1 hm with rfl | h
    · exact .inl hn
    · exact .inr (weightsAll_at h n hn)

/-- A list of strings that came in. -/
theorem open_strs {fuel : Nat} {c : Value} {x : DataW H × List MemPlace} (h : DataW.trod enc Tryd.prog w base sp hd fuel 24 [c] = some x) (hw : ∀ n ∈ x.1.weights Tryd.prog 24, n ≤ reachBytes) : ∃ ks, StrsAt w.heap.size w c ks := by
  rcases DataW.trod_slice Tryd.underlying24 h with ⟨hc, rfl⟩ | ⟨a, len, cap, elems, rest, n, rfl, hc, rfl, -, hle, -, hel, hat, -, -⟩
  · obtain rfl : c = .slice none 0 0 := by simpa using hc
    exact ⟨[], none, 0, rfl, by simp, by simp, fun h => absurd h (by simp)⟩
  · obtain rfl : c = .slice (some a) len cap := by simpa using hc
    have hlen : len ≤ 140737488355328 := by
      have := hw ((elems.length + rest.length) * 16) (by simp [DataW.weights, Tryd.underlying24, bytesS])
      unfold reachBytes at this
      omega
    have hall : ∀ i, ∃ s, i < len → w.cell? (a.add i) = some (.string s) := fun i => by
      by_cases hi : i < len
      · have h1 := hat i hi
        rw [cellsS, Nat.mul_one, List.getElem?_eq_getElem (by omega)] at h1
        obtain ⟨cs, h2, h3⟩ := Option.bind_eq_some_iff.1 h1
        obtain ⟨-, hl, hcell⟩ := World.cells?_some h2
        obtain ⟨c', rfl⟩ := len1 hl
        obtain ⟨s, hs, -⟩ := DataW.trod_string Tryd.underlying9 h3
        obtain rfl : c' = .string s := by simpa using hs
        exact ⟨s, fun _ => by have := hcell 0 (by omega); simpa [Addr.add] using this⟩
      · exact ⟨⟨#[]⟩, fun h => absurd h hi⟩
    obtain ⟨f, hf⟩ := Classical.skolem.1 hall
    have hl : ((List.range len).map f).length = len := by simp
    refine ⟨(List.range len).map f, some a, cap, by rw [hl], by omega, by omega, fun hp => ?_⟩
    rw [hl] at hp
    obtain ⟨g, o, spot⟩ := a
    have hspot : spot = none := by simpa [Addr.add] using World.cell?_spot (hf 0 hp)
    subst hspot
    refine ⟨g, o, rfl, World.block_lt_of_cell? w _ (hf 0 hp), fun j hj => ?_⟩
    rw [hl] at hj
    have := hf j hj
    rw [add_none] at this
    simpa using this

/-- What one item is. -/
def ItemAt (w : World) (g o j : Nat) (p : Int × Bool × ByteArray × Value × Value × VT) : Prop :=
  Five w g (o + j * 5) (.int .i64 p.1) (.bool p.2.1) (.string p.2.2.1) p.2.2.2.1 p.2.2.2.2.1 ∧ Is w.heap.size w (.agg #[.int .i64 p.1, .bool p.2.1, .string p.2.2.1, p.2.2.2.1, p.2.2.2.2.1]) p.2.2.2.2.2

set_option maxRecDepth 10000 in
theorem open_vt : ∀ (fuel : Nat) (cs : List Value) (x : DataW H × List MemPlace), DataW.trod enc Tryd.prog w base sp hd fuel 26 cs = some x → (∀ n ∈ x.1.weights Tryd.prog 26, n ≤ reachBytes) → ∃ T, Is w.heap.size w (.agg cs.toArray) T := by
  intro fuel
  induction fuel using Nat.strongRecOn with
  | _ fuel ih =>
    intro cs x h hw
    obtain ⟨xs, n, rfl, rfl, hcl, hxl, hf⟩ := DataW.trod_struct Tryd.underlying26 h
    rw [cellsV] at hcl
    obtain ⟨c0, c1, c2, c3, c4, rfl⟩ := len5 hcl
    obtain ⟨x0, x1, x2, x3, x4, rfl⟩ := len5 (show xs.length = 5 from hxl)
    have f0 : DataW.trod enc Tryd.prog w base sp hd n 22 (([c0, c1, c2, c3, c4].drop 0).take (Tryd.prog.cellsOf 22)) = [x0, x1, x2, x3, x4][0]? := hf 0 _ rfl
    rw [cellsK] at f0
    replace f0 : DataW.trod enc Tryd.prog w base sp hd n 22 [c0] = some x0 := f0
    have f1 : DataW.trod enc Tryd.prog w base sp hd n 4 (([c0, c1, c2, c3, c4].drop 1).take (Tryd.prog.cellsOf 4)) = [x0, x1, x2, x3, x4][1]? := hf 1 _ rfl
    rw [cellsB] at f1
    replace f1 : DataW.trod enc Tryd.prog w base sp hd n 4 [c1] = some x1 := f1
    have f2 : DataW.trod enc Tryd.prog w base sp hd n 9 (([c0, c1, c2, c3, c4].drop 2).take (Tryd.prog.cellsOf 9)) = [x0, x1, x2, x3, x4][2]? := hf 2 _ rfl
    rw [cellsS] at f2
    replace f2 : DataW.trod enc Tryd.prog w base sp hd n 9 [c2] = some x2 := f2
    have f3 : DataW.trod enc Tryd.prog w base sp hd n 23 (([c0, c1, c2, c3, c4].drop 3).take (Tryd.prog.cellsOf 23)) = [x0, x1, x2, x3, x4][3]? := hf 3 _ rfl
    rw [cellsL] at f3
    replace f3 : DataW.trod enc Tryd.prog w base sp hd n 23 [c3] = some x3 := f3
    have f4 : DataW.trod enc Tryd.prog w base sp hd n 24 (([c0, c1, c2, c3, c4].drop 4).take (Tryd.prog.cellsOf 24)) = [x0, x1, x2, x3, x4][4]? := hf 4 _ rfl
    rw [cellsN] at f4
    replace f4 : DataW.trod enc Tryd.prog w base sp hd n 24 [c4] = some x4 := f4
    obtain ⟨k, hk, rfl, -⟩ := DataW.trod_int Tryd.underlying22 f0
    obtain rfl : c0 = .int .i64 k := by simpa using hk
    obtain ⟨b, hb, rfl⟩ := DataW.trod_bool Tryd.underlying4 f1
    obtain rfl : c1 = .bool b := by simpa using hb
    obtain ⟨t, ht, rfl, -⟩ := DataW.trod_string Tryd.underlying9 f2
    obtain rfl : c2 = .string t := by simpa using ht
    have hw3 : ∀ n ∈ x3.1.weights Tryd.prog 23, n ≤ reachBytes := fun n hn => hw n (by simp [DataW.weights, DataW.weightsEach, Tryd.underlying26, hn])
    have hw4 : ∀ n ∈ x4.1.weights Tryd.prog 24, n ≤ reachBytes := fun n hn => hw n (by simp [DataW.weights, DataW.weightsEach, Tryd.underlying26, hn])
    obtain ⟨ks, hks⟩ := open_strs f4 hw4
    rcases DataW.trod_slice Tryd.underlying23 f3 with ⟨hc, rfl⟩ | ⟨a, len, cap, elems, rest, m, rfl, hc, rfl, -, hle, -, hel, hat, -, -⟩
    · obtain rfl : c3 = .slice none 0 0 := by simpa using hc
      exact ⟨_, Is.mk k b t [] ks none 0 c4 0 0 (fun _ => 0) (fun _ => false) (fun _ => ⟨#[]⟩) (fun _ => undef) (fun _ => undef) hks (by simp) (by simp) (fun h => absurd h (by simp)) (fun j h => absurd h (by simp)) (fun j h => absurd h (by simp))⟩
    · obtain rfl : c3 = .slice (some a) len cap := by simpa using hc
      have hlen : len ≤ 140737488355328 := by
        have := hw3 ((elems.length + rest.length) * 80) (by simp [DataW.weights, Tryd.underlying23, bytesV])
        unfold reachBytes at this
        omega
      have hs0 : 0 < len → a.spot = none := fun hp => by
        have h1 := hat 0 hp
        rw [cellsV, List.getElem?_eq_getElem (by omega)] at h1
        obtain ⟨cs, h2, -⟩ := Option.bind_eq_some_iff.1 h1
        obtain ⟨-, hl, hcell⟩ := World.cells?_some h2
        have g0 := hcell 0 (by omega)
        rw [List.getElem?_eq_getElem (by omega)] at g0
        simpa [Addr.add] using World.cell?_spot g0
      have hall : ∀ i, ∃ p, i < len → (a.spot = none ∧ a.block < w.heap.size ∧ ItemAt w a.block a.off i p) := fun i => by
        by_cases hi : i < len
        · have h1 := hat i hi
          rw [cellsV, List.getElem?_eq_getElem (by omega)] at h1
          obtain ⟨cs, h2, h3⟩ := Option.bind_eq_some_iff.1 h1
          obtain ⟨-, hl, hcell⟩ := World.cells?_some h2
          obtain ⟨T, hT⟩ := ih m (by omega) cs _ h3 (fun n hn => hw3 n (by
            simp only [DataW.weights, Tryd.underlying23, List.mem_cons, List.mem_append]
            exact .inr (.inl (weightsAll_at (List.mem_map.2 ⟨elems[i], List.getElem_mem (by omega), rfl⟩) n hn))))
          obtain ⟨d0, d1, d2, d3, d4, rfl⟩ := len5 hl
          obtain ⟨k', b', t', ad', n', cap', adk', nk', capk', e⟩ := hT.shape
          simp only [Value.agg.injEq, Array.mk.injEq, List.cons.injEq, and_true] at e
          obtain ⟨rfl, rfl, rfl, rfl, rfl⟩ := e
          have g0 := hcell 0 (by omega)
          have g1 := hcell 1 (by omega)
          have g2 := hcell 2 (by omega)
          have g3 := hcell 3 (by omega)
          have g4 := hcell 4 (by omega)
          obtain ⟨g, o, spot⟩ := a
          obtain rfl : spot = none := hs0 (by omega)
          rw [add_none, add_none] at g0 g1 g2 g3 g4
          refine ⟨(k', b', t', _, _, T), fun _ => ⟨rfl, World.block_lt_of_cell? w ⟨g, o + i * 5 + 0, none⟩ g0, ⟨?_, ?_, ?_, ?_, ?_⟩, hT⟩⟩
          · exact g0
          · exact g1
          · exact g2
          · exact g3
          · exact g4
        · exact ⟨(0, false, ⟨#[]⟩, undef, undef, .node 0 false ⟨#[]⟩ [] []), fun h => absurd h hi⟩
      obtain ⟨f, hF⟩ := Classical.skolem.1 hall
      have hl : ((List.range len).map fun i => (f i).2.2.2.2.2).length = len := by simp
      have hmk := Is.mk (B := w.heap.size) (W := w) k b t ((List.range len).map fun i => (f i).2.2.2.2.2) ks (some a) cap c4 a.block a.off (fun i => (f i).1) (fun i => (f i).2.1) (fun i => (f i).2.2.1) (fun i => (f i).2.2.2.1) (fun i => (f i).2.2.2.2.1) hks (by omega) (by omega)
        (fun hp => by
          rw [hl] at hp
          obtain ⟨h1, h2, -⟩ := hF 0 hp
          obtain ⟨g, o, spot⟩ := a
          obtain rfl : spot = none := h1
          exact ⟨rfl, h2⟩)
        (fun j hj => by rw [hl] at hj; exact (hF j hj).2.2.1)
        (fun j hj => by
          have hj' := hj
          rw [hl] at hj'
          have := (hF j hj').2.2.2
          simpa using this)
      rw [hl] at hmk
      exact ⟨_, hmk⟩

theorem open_value {v : Value} {d : DataW H} {ps : List MemPlace} (h : DataW.Trod enc Tryd.prog w base sp hd 26 v d ps) (hw : ∀ n ∈ d.weights Tryd.prog 26, n ≤ reachBytes) : ∃ T, Is w.heap.size w v T := by
  obtain ⟨fuel, hf⟩ := h
  obtain ⟨T, hT⟩ := open_vt fuel _ _ hf hw
  have hv : v = .agg v.cells.toList.toArray := by
    cases v with
    | agg cs => simp [Value.cells]
    | _ =>
      obtain ⟨_, _, _, _, hcl, _⟩ := DataW.trod_struct Tryd.underlying26 hf
      rw [cellsV] at hcl
      simp [Value.cells] at hcl
  rw [← hv] at hT
  exact ⟨T, hT⟩
end
theorem laidOut : laidOutB Tryd.prog = true := by kernel_rfl
end Go.Proofs.YtjgbhnbfojkhoaaDoor
namespace Go.Proofs.YtjgbhnbfojkhoaaDoor
open Go.RowKit
set_option linter.unusedVariables false

section
variable {H : Type} {enc : TypeId × Value → H} {w : World} {base : Nat} {sp : Nat → Bool} {hd : Bool}
theorem open_keys {v : Value} {d : DataW H} {ps : List MemPlace} (hv : ∃ a n c, v = .slice a n c) (h : DataW.Trod enc Tryd.prog w base sp hd 24 v d ps) (hw : ∀ n ∈ d.weights Tryd.prog 24, n ≤ reachBytes) : ∃ ks, StrsAt w.heap.size w v ks := by
  obtain ⟨a, n, c, rfl⟩ := hv
  obtain ⟨fuel, hf⟩ := h
  exact open_strs (x := (d, ps)) hf hw
set_option maxRecDepth 10000 in
theorem open_values {v : Value} {d : DataW H} {ps : List MemPlace} (hv : ∃ a n c, v = .slice a n c) (h : DataW.Trod enc Tryd.prog w base sp hd 23 v d ps) (hw : ∀ n ∈ d.weights Tryd.prog 23, n ≤ reachBytes) : ∃ ys, ItemsAt w.heap.size w v ys := by
  obtain ⟨a0, n0, c0, rfl⟩ := hv
  obtain ⟨fuel, hf⟩ := h
  have f3 : DataW.trod enc Tryd.prog w base sp hd fuel 23 [.slice a0 n0 c0] = some (d, ps) := hf
  rcases DataW.trod_slice Tryd.underlying23 f3 with ⟨hc, hx⟩ | ⟨a, len, cap, elems, rest, m, hfu, hc, hx, -, hle, -, hel, hat, -, -⟩
  · cases hc
    exact ⟨[], none, 0, rfl, by simp, by simp, fun h => absurd h (by simp), fun e he => by cases he⟩
  · obtain ⟨e1, e2, e3⟩ : a0 = some a ∧ n0 = len ∧ c0 = cap := by simpa using hc
    subst e1
    obtain rfl : len = n0 := e2.symm
    obtain rfl : cap = c0 := e3.symm
    have hd1 : d = (.slice (elems.map (·.1)) (rest.map (·.1)) : DataW H) := congrArg Prod.fst hx
    subst hd1
    have hlen : len ≤ 140737488355328 := by
      have := hw ((elems.length + rest.length) * 80) (by simp [DataW.weights, Tryd.underlying23, bytesV])
      unfold reachBytes at this
      omega
    have hs0 : 0 < len → a.spot = none := fun hp => by
      have h1 := hat 0 hp
      rw [cellsV, List.getElem?_eq_getElem (by omega)] at h1
      obtain ⟨cs, h2, -⟩ := Option.bind_eq_some_iff.1 h1
      obtain ⟨-, hl, hcell⟩ := World.cells?_some h2
      have g0 := hcell 0 (by omega)
      rw [List.getElem?_eq_getElem (by omega)] at g0
      simpa [Addr.add] using World.cell?_spot g0
    have hall : ∀ i, ∃ p : Int × Bool × ByteArray × Value × Value × VT, i < len → (a.spot = none ∧ a.block < w.heap.size ∧ ItemAt w a.block a.off i p) := fun i => by
      by_cases hi : i < len
      · have h1 := hat i hi
        rw [cellsV, List.getElem?_eq_getElem (by omega)] at h1
        obtain ⟨cs, h2, h3⟩ := Option.bind_eq_some_iff.1 h1
        obtain ⟨-, hl, hcell⟩ := World.cells?_some h2
        obtain ⟨T, hT⟩ := open_vt m cs _ h3 (fun n hn => hw n (by
          simp only [DataW.weights, Tryd.underlying23, List.mem_cons, List.mem_append]
          exact .inr (.inl (weightsAll_at (List.mem_map.2 ⟨elems[i], List.getElem_mem (by omega), rfl⟩) n hn))))
        obtain ⟨d0, d1, d2, d3, d4, rfl⟩ := len5 hl
        obtain ⟨k', b', t', ad', n', cap', adk', nk', capk', e⟩ := hT.shape
        simp only [Value.agg.injEq, Array.mk.injEq, List.cons.injEq, and_true] at e
        obtain ⟨rfl, rfl, rfl, rfl, rfl⟩ := e
        have g0 := hcell 0 (by omega)
        have g1 := hcell 1 (by omega)
        have g2 := hcell 2 (by omega)
        have g3 := hcell 3 (by omega)
        have g4 := hcell 4 (by omega)
        obtain ⟨g, o, spot⟩ := a
        obtain rfl : spot = none := hs0 (by omega)
        rw [add_none, add_none] at g0 g1 g2 g3 g4
        exact ⟨(k', b', t', _, _, T), fun _ => ⟨rfl, World.block_lt_of_cell? w ⟨g, o + i * 5 + 0, none⟩ g0, ⟨g0, g1, g2, g3, g4⟩, hT⟩⟩
      · exact ⟨(0, false, ⟨#[]⟩, undef, undef, .node 0 false ⟨#[]⟩ [] []), fun h => absurd h hi⟩
    obtain ⟨f, hF⟩ := Classical.skolem.1 hall
    have hl : ((List.range len).map fun i => It.mk (f i).1 (f i).2.1 (f i).2.2.1 (f i).2.2.2.1 (f i).2.2.2.2.1 (f i).2.2.2.2.2).length = len := by simp
    refine ⟨(List.range len).map fun i => It.mk (f i).1 (f i).2.1 (f i).2.2.1 (f i).2.2.2.1 (f i).2.2.2.2.1 (f i).2.2.2.2.2, some a, cap, by rw [hl], by omega, by omega, fun hp => ?_, fun e he => ?_⟩
    · rw [hl] at hp
      obtain ⟨h1, h2, -⟩ := hF 0 hp
      obtain ⟨g, o, spot⟩ := a
      obtain rfl : spot = none := h1
      refine ⟨g, o, rfl, h2, fun j hj => ?_⟩
      rw [hl] at hj
      have := (hF j hj).2.2.1
      simpa using this
    · obtain ⟨i, hi, rfl⟩ := List.mem_map.1 he
      have := (hF i (List.mem_range.1 hi)).2.2.2
      exact this
end
end Go.Proofs.YtjgbhnbfojkhoaaDoor
