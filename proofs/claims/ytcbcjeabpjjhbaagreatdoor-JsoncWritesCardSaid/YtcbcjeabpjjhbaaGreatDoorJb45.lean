/- A value that came in, opened: whatever reads as an api.Value is a tree · JsoncBack at any arguments is true: nothing that was there is written; from the tables of the program's own text -/
import Derived.ChangeArms
import Derived.ChangeShapes
import Derived.SizedLaws
import Derived.KernelRfl
import Derived.Test.YtcbcjeabpjjhbaaGreatDoorCards
import Derived.Test.YtcbcjeabpjjhbaaGreatDoorTie
import Derived.WalkKit
import Derived.Carry
import Derived.ShutString
import Derived.SevenTiedAt
import Derived.Stop.Joined
import Derived.Test.YtcbcjeabpjjhbaaGreatDoorJb04
import Derived.Test.YtcbcjeabpjjhbaaGreatDoorJb44
namespace Go.Proofs.YtcbcjeabpjjhbaaGreatDoor
open Go.RowKit
set_option linter.unusedVariables false

theorem cellsV : Tryz.prog.cellsOf 26 = 5 := by kernel_rfl
theorem cellsK : Tryz.prog.cellsOf 22 = 1 := by kernel_rfl
theorem cellsB : Tryz.prog.cellsOf 4 = 1 := by kernel_rfl
theorem cellsS : Tryz.prog.cellsOf 9 = 1 := by kernel_rfl
theorem cellsL : Tryz.prog.cellsOf 23 = 1 := by kernel_rfl
theorem cellsN : Tryz.prog.cellsOf 24 = 1 := by kernel_rfl
theorem bytesV : Tryz.prog.bytesOf 26 = 80 := by kernel_rfl
theorem bytesS : Tryz.prog.bytesOf 9 = 16 := by kernel_rfl
theorem len5 {α : Type} {l : List α} (h : l.length = 5) : ∃ a b c d e, l = [a, b, c, d, e] := by
  match l, h with
  | [a, b, c, d, e], _ => exact ⟨a, b, c, d, e, rfl⟩
theorem len1 {α : Type} {l : List α} (h : l.length = 1) : ∃ a, l = [a] := by
  match l, h with
  | [a], _ => exact ⟨a, rfl⟩

theorem add_none (g o j : Nat) : (⟨g, o, none⟩ : Addr).add j = ⟨g, o + j, none⟩ := by
  unfold Addr.add
  split
  · next h => subst h; rfl
  · rfl
section
variable {H : Type} {enc : TypeId × Value → H} {w : World} {base : Nat} {sp : Nat → Bool} {hd : Bool}

theorem weightsAll_at {e : TypeId} : ∀ {l : List (DataW H)} {d : DataW H}, d ∈ l → ∀ n ∈ d.weights Tryz.prog e, n ∈ DataW.weightsAll Tryz.prog e l
  | x :: l, d, hm, n, hn => by
    simp only [DataW.weightsAll, List.mem_append]
    rcases List.mem_cons.1 hm with rfl | h
    · exact .inl hn
    · exact .inr (weightsAll_at h n hn)

/-- A list of strings that came in. -/
theorem open_strs {fuel : Nat} {c : Value} {x : DataW H × List MemPlace} (h : DataW.trod enc Tryz.prog w base sp hd fuel 24 [c] = some x) (hw : ∀ n ∈ x.1.weights Tryz.prog 24, n ≤ reachBytes) : ∃ ks, StrsAt w.heap.size w c ks := by
  rcases DataW.trod_slice Tryz.underlying24 h with ⟨hc, rfl⟩ | ⟨a, len, cap, elems, rest, n, rfl, hc, rfl, -, hle, -, hel, hat, -, -⟩
  · obtain rfl : c = .slice none 0 0 := by simpa using hc
    exact ⟨[], none, 0, rfl, by simp, by simp, fun h => absurd h (by simp)⟩
  · obtain rfl : c = .slice (some a) len cap := by simpa using hc
    have hlen : len ≤ 140737488355328 := by
      have := hw ((elems.length + rest.length) * 16) (by simp [DataW.weights, Tryz.underlying24, bytesS])
      unfold reachBytes at this
      omega
    have hall : ∀ i, ∃ s, i < len → w.cell? (a.add i) = some (.string s) := fun i => by
      by_cases hi : i < len
      · have h1 := hat i hi
        rw [cellsS, Nat.mul_one, List.getElem?_eq_getElem (by omega)] at h1
        obtain ⟨cs, h2, h3⟩ := Option.bind_eq_some_iff.1 h1
        obtain ⟨-, hl, hcell⟩ := World.cells?_some h2
        obtain ⟨c', rfl⟩ := len1 hl
        obtain ⟨s, hs, -⟩ := DataW.trod_string Tryz.underlying9 h3
        obtain rfl : c' = .string s := by simpa using hs
        exact ⟨s, fun _ => by have := hcell 0 (by omega); simpa [Addr.add] using this⟩
      · exact ⟨⟨#[]⟩, fun h => absurd h hi⟩
    obtain ⟨f, hf⟩ := Classical.skolem.1 hall
    have hl : ((List.range len).map f).length = len := by simp
    refine ⟨(List.range len).map f, some a, cap, by rw [hl], by omega, by omega, fun hp => ?_⟩
    rw [hl] at hp
    obtain ⟨g, o, spot⟩ := a
    have hspot : spot = none := by simpa [Addr.add] using World.cell?_spot (hf 0 hp)
    subst hspot
    refine ⟨g, o, rfl, World.block_lt_of_cell? w _ (hf 0 hp), fun j hj => ?_⟩
    rw [hl] at hj
    have := hf j hj
    rw [add_none] at this
    simpa using this

/-- What one item is. -/
def ItemAt (w : World) (g o j : Nat) (p : Int × Bool × ByteArray × Value × Value × VT) : Prop :=
  Five w g (o + j * 5) (.int .i64 p.1) (.bool p.2.1) (.string p.2.2.1) p.2.2.2.1 p.2.2.2.2.1 ∧ Is w.heap.size w (.agg #[.int .i64 p.1, .bool p.2.1, .string p.2.2.1, p.2.2.2.1, p.2.2.2.2.1]) p.2.2.2.2.2

set_option maxRecDepth 10000 in
theorem open_vt : ∀ (fuel : Nat) (cs : List Value) (x : DataW H × List MemPlace), DataW.trod enc Tryz.prog w base sp hd fuel 26 cs = some x → (∀ n ∈ x.1.weights Tryz.prog 26, n ≤ reachBytes) → ∃ T, Is w.heap.size w (.agg cs.toArray) T := by
  intro fuel
  induction fuel using Nat.strongRecOn with
  | _ fuel ih =>
    intro cs x h hw
    obtain ⟨xs, n, rfl, rfl, hcl, hxl, hf⟩ := DataW.trod_struct Tryz.underlying26 h
    rw [cellsV] at hcl
    obtain ⟨c0, c1, c2, c3, c4, rfl⟩ := len5 hcl
    obtain ⟨x0, x1, x2, x3, x4, rfl⟩ := len5 (show xs.length = 5 from hxl)
    have f0 : DataW.trod enc Tryz.prog w base sp hd n 22 (([c0, c1, c2, c3, c4].drop 0).take (Tryz.prog.cellsOf 22)) = [x0, x1, x2, x3, x4][0]? := hf 0 _ rfl
    rw [cellsK] at f0
    replace f0 : DataW.trod enc Tryz.prog w base sp hd n 22 [c0] = some x0 := f0
    have f1 : DataW.trod enc Tryz.prog w base sp hd n 4 (([c0, c1, c2, c3, c4].drop 1).take (Tryz.prog.cellsOf 4)) = [x0, x1, x2, x3, x4][1]? := hf 1 _ rfl
    rw [cellsB] at f1
    replace f1 : DataW.trod enc Tryz.prog w base sp hd n 4 [c1] = some x1 := f1
    have f2 : DataW.trod enc Tryz.prog w base sp hd n 9 (([c0, c1, c2, c3, c4].drop 2).take (Tryz.prog.cellsOf 9)) = [x0, x1, x2, x3, x4][2]? := hf 2 _ rfl
    rw [cellsS] at f2
    replace f2 : DataW.trod enc Tryz.prog w base sp hd n 9 [c2] = some x2 := f2
    have f3 : DataW.trod enc Tryz.prog w base sp hd n 23 (([c0, c1, c2, c3, c4].drop 3).take (Tryz.prog.cellsOf 23)) = [x0, x1, x2, x3, x4][3]? := hf 3 _ rfl
    rw [cellsL] at f3
    replace f3 : DataW.trod enc Tryz.prog w base sp hd n 23 [c3] = some x3 := f3
    have f4 : DataW.trod enc Tryz.prog w base sp hd n 24 (([c0, c1, c2, c3, c4].drop 4).take (Tryz.prog.cellsOf 24)) = [x0, x1, x2, x3, x4][4]? := hf 4 _ rfl
    rw [cellsN] at f4
    replace f4 : DataW.trod enc Tryz.prog w base sp hd n 24 [c4] = some x4 := f4
    obtain ⟨k, hk, rfl, -⟩ := DataW.trod_int Tryz.underlying22 f0
    obtain rfl : c0 = .int .i64 k := by simpa using hk
    obtain ⟨b, hb, rfl⟩ := DataW.trod_bool Tryz.underlying4 f1
    obtain rfl : c1 = .bool b := by simpa using hb
    obtain ⟨t, ht, rfl, -⟩ := DataW.trod_string Tryz.underlying9 f2
    obtain rfl : c2 = .string t := by simpa using ht
    have hw3 : ∀ n ∈ x3.1.weights Tryz.prog 23, n ≤ reachBytes := fun n hn => hw n (by simp [DataW.weights, DataW.weightsEach, Tryz.underlying26, hn])
    have hw4 : ∀ n ∈ x4.1.weights Tryz.prog 24, n ≤ reachBytes := fun n hn => hw n (by simp [DataW.weights, DataW.weightsEach, Tryz.underlying26, hn])
    obtain ⟨ks, hks⟩ := open_strs f4 hw4
    rcases DataW.trod_slice Tryz.underlying23 f3 with ⟨hc, rfl⟩ | ⟨a, len, cap, elems, rest, m, rfl, hc, rfl, -, hle, -, hel, hat, -, -⟩
    · obtain rfl : c3 = .slice none 0 0 := by simpa using hc
      exact ⟨_, Is.mk k b t [] ks none 0 c4 0 0 (fun _ => 0) (fun _ => false) (fun _ => ⟨#[]⟩) (fun _ => undef) (fun _ => undef) hks (by simp) (by simp) (fun h => absurd h (by simp)) (fun j h => absurd h (by simp)) (fun j h => absurd h (by simp))⟩
    · obtain rfl : c3 = .slice (some a) len cap := by simpa using hc
      have hlen : len ≤ 140737488355328 := by
        have := hw3 ((elems.length + rest.length) * 80) (by simp [DataW.weights, Tryz.underlying23, bytesV])
        unfold reachBytes at this
        omega
      have hs0 : 0 < len → a.spot = none := fun hp => by
        have h1 := hat 0 hp
        rw [cellsV, List.getElem?_eq_getElem (by omega)] at h1
        obtain ⟨cs, h2, -⟩ := Option.bind_eq_some_iff.1 h1
        obtain ⟨-, hl, hcell⟩ := World.cells?_some h2
        have g0 := hcell 0 (by omega)
        rw [List.getElem?_eq_getElem (by omega)] at g0
        simpa [Addr.add] using World.cell?_spot g0
      have hall : ∀ i, ∃ p, i < len → (a.spot = none ∧ a.block < w.heap.size ∧ ItemAt w a.block a.off i p) := fun i => by
        by_cases hi : i < len
        · have h1 := hat i hi
          rw [cellsV, List.getElem?_eq_getElem (by omega)] at h1
          obtain ⟨cs, h2, h3⟩ := Option.bind_eq_some_iff.1 h1
          obtain ⟨-, hl, hcell⟩ := World.cells?_some h2
          obtain ⟨T, hT⟩ := ih m (by omega) cs _ h3 (fun n hn => hw3 n (by
            simp only [DataW.weights, Tryz.underlying23, List.mem_cons, List.mem_append]
            exact .inr (.inl (weightsAll_at (List.mem_map.2 ⟨elems[i], List.getElem_mem (by omega), rfl⟩) n hn))))
          obtain ⟨d0, d1, d2, d3, d4, rfl⟩ := len5 hl
          obtain ⟨k', b', t', ad', n', cap', adk', nk', capk', e⟩ := hT.shape
          simp only [Value.agg.injEq, Array.mk.injEq, List.cons.injEq, and_true] at e
          obtain ⟨rfl, rfl, rfl, rfl, rfl⟩ := e
          have g0 := hcell 0 (by omega)
          have g1 := hcell 1 (by omega)
          have g2 := hcell 2 (by omega)
          have g3 := hcell 3 (by omega)
          have g4 := hcell 4 (by omega)
          obtain ⟨g, o, spot⟩ := a
          obtain rfl : spot = none := hs0 (by omega)
          rw [add_none, add_none] at g0 g1 g2 g3 g4
          refine ⟨(k', b', t', _, _, T), fun _ => ⟨rfl, World.block_lt_of_cell? w ⟨g, o + i * 5 + 0, none⟩ g0, ⟨?_, ?_, ?_, ?_, ?_⟩, hT⟩⟩
          · exact g0
          · exact g1
          · exact g2
          · exact g3
          · exact g4
        · exact ⟨(0, false, ⟨#[]⟩, undef, undef, .node 0 false ⟨#[]⟩ [] []), fun h => absurd h hi⟩
      obtain ⟨f, hF⟩ := Classical.skolem.1 hall
      have hl : ((List.range len).map fun i => (f i).2.2.2.2.2).length = len := by simp
      have hmk := Is.mk (B := w.heap.size) (W := w) k b t ((List.range len).map fun i => (f i).2.2.2.2.2) ks (some a) cap c4 a.block a.off (fun i => (f i).1) (fun i => (f i).2.1) (fun i => (f i).2.2.1) (fun i => (f i).2.2.2.1) (fun i => (f i).2.2.2.2.1) hks (by omega) (by omega)
        (fun hp => by
          rw [hl] at hp
          obtain ⟨h1, h2, -⟩ := hF 0 hp
          obtain ⟨g, o, spot⟩ := a
          obtain rfl : spot = none := h1
          exact ⟨rfl, h2⟩)
        (fun j hj => by rw [hl] at hj; exact (hF j hj).2.2.1)
        (fun j hj => by
          have hj' := hj
          rw [hl] at hj'
          have := (hF j hj').2.2.2
          simpa using this)
      rw [hl] at hmk
      exact ⟨_, hmk⟩

theorem open_value {v : Value} {d : DataW H} {ps : List MemPlace} (h : DataW.Trod enc Tryz.prog w base sp hd 26 v d ps) (hw : ∀ n ∈ d.weights Tryz.prog 26, n ≤ reachBytes) : ∃ T, Is w.heap.size w v T := by
  obtain ⟨fuel, hf⟩ := h
  obtain ⟨T, hT⟩ := open_vt fuel _ _ hf hw
  have hv : v = .agg v.cells.toList.toArray := by
    cases v with
    | agg cs => simp [Value.cells]
    | _ =>
      obtain ⟨_, _, _, _, hcl, _⟩ := DataW.trod_struct Tryz.underlying26 hf
      rw [cellsV] at hcl
      simp [Value.cells] at hcl
  rw [← hv] at hT
  exact ⟨T, hT⟩
end
theorem laidOut : laidOutB Tryz.prog = true := by kernel_rfl
end Go.Proofs.YtcbcjeabpjjhbaaGreatDoor
namespace Go.Proofs.YtcbcjeabpjjhbaaGreatDoor
open Go.ChangeShapes Go.WideShapes Go.ChangeAt Go.RowKit
open Go.ChangeMaps (open_string shut_string)

set_option maxRecDepth 100000 in
theorem back_lifted (os : Os) (started : os.Started) (H : Type) (enc : TypeId × Value → H) :
    ReturnsInHanded {} Tryz.checked os 5 .any (fun w args => (Rows.jsoncBackSpec.pre enc Tryz.prog Tryz.f5 [] false w args ∧ laidMetH Tryz.prog laidJ w) ∧ sizedMet enc Tryz.prog Tryz.f5 (OpenSpec.ofChange Rows.jsoncBackSpec) false w args)
      (Rows.jsoncBackSpec.post enc Tryz.prog Tryz.f5 false true false false) := by
  refine returns_of (C := Tryz.checked) (X := fun w => laidMetH Tryz.prog laidJ w) (fun _ _ hh h => h.of_heap hh) ownJ started (by kernel_rfl) Tryz.func5
    (ChangeSpec.witness_shaped (enc := enc) (C := Tryz.checked) (os := os) (X := fun w _ => laidMetH Tryz.prog laidJ w) false (World.laidAll Tryz.prog os laidJ) #[.agg #[.int .i64 0, .bool false, .string ByteArray.empty, .slice none 0 0, .slice none 0 0], .string ByteArray.empty] 8 (World.laidAll_os _ _ _)
      (World.shaped_of_ZipB (by kernel_rfl) (by kernel_rfl)) (by kernel_rfl) (by kernel_rfl) (by kernel_rfl)
      (by rw [MakeChecks.laidMetH_plain _ _ _ (by kernel_rfl)]; exact laidMet_laidAll _ (by kernel_rfl) (by kernel_rfl))) ?_
  intro W base args ds gs before hval0 hW hsz hL hsh
  have hval : ∀ (j : Nat) t v, Tryz.f5.params[j]? = some t → args[j]? = some v → Value.okWide Tryz.prog W .any base t v := hval0
  have hW' := hW
  obtain ⟨p, q, hA0, hV, rfl, hfz, hnd⟩ := hW
  have hA : DataW.TrodAll enc Tryz.prog W 0 (fun _ => true) true Tryz.f5.params.toList args.toList ds p := hA0
  have hsz' : (DataW.weightsEach Tryz.prog (Tryz.f5.params.toList ++ Rows.jsoncBackSpec.plain.varTypes Tryz.prog) (ds ++ gs)).all (· ≤ reachBytes) = true := hsz
  rw [Tryz.params5 ] at hA hval hsz'
  obtain ⟨v0, vs0, d0, ds0, p0, q0, hargs, rfl, rfl, h0, r0⟩ := trodAll_cons hA
  obtain ⟨v1, vs1, d1, ds1, p1, q1, rfl, rfl, rfl, h1, r1⟩ := trodAll_cons r0
  obtain ⟨rfl, rfl, rfl⟩ := trodAll_nil r1
  obtain rfl : args = #[v0, v1] := by cases args; simp_all
  obtain ⟨rfl, rfl⟩ := trodVars_none hV
  have hlt0 : ∀ x ∈ p0, x.block < W.heap.size := fun x hx => by have := hW'.lt x (by simp [hx]); exact this
  have hw0 : ∀ n ∈ d0.weights Tryz.prog 26, n ≤ reachBytes := fun n hn => by
    have := List.all_eq_true.1 hsz' n (DataW.weights_mem_each (j := 0) (t := 26) (d := d0) rfl rfl n hn)
    simpa using this
  obtain ⟨L0, hL0⟩ := open_value h0 hw0
  obtain ⟨a1, rfl, rfl, rfl, w1⟩ := open_string Tryz.underlying9 (hval 1 9 v1 rfl rfl) h1
  clear hA0 hval0
  simp only [List.append_nil] at hW'
  refine (back_law hL0 a1 (ready_ofJ hL hsh)).mono fun e W' ⟨he, hb⟩ => ?_
  subst he
  exact ⟨_, rfl, _, _, _, [], p0 ++ ([] ++ []), [], hW', trodAll_cons_mk (shut_bool Tryz.underlying4 _) trodAll_mk0, (trodAll_cons_mk (Below.trod laidOut (by kernel_rfl) (of_decide_eq_true (by kernel_rfl)) h0 hb hlt0) (trodAll_cons_mk (shut_string Tryz.underlying9 w1) trodAll_mk0)), rfl, World.keptBut_mono (fun p hp => ⟨hp, Or.inr (Or.inl (by simpa using hp))⟩) (hb.frame _), fun h => by cases h⟩

theorem back_said : Rows.JsoncBackSaid :=
  OpenClaim.holds_of_wide 5 Tryz.f5 rfl rfl rfl rfl rfl rfl rfl ⟨rfl, rfl, rfl, rfl, rfl⟩ rfl rfl rfl rfl rfl (by kernel_rfl) Tryz.func5 back_closed
    (of_decide_eq_true (by kernel_rfl)) (by unfold Func.isWrapper; first | (rw [if_pos (by decide +kernel)]; kernel_rfl) | (rw [if_neg (by decide +kernel)]; exact ⟨rfl, rfl⟩))
    (fun os started H enc _ => back_lifted os started H enc)

theorem back_card : Rows.JsoncBackCardSaid :=
  Claim7.holds_tied_plain_at .later [] [.data, .data, .data, .data, .sentinel, .sentinel, .pinned] true (true, "cf3b7274eaf5270765a3c7938d70ddc5a0b74894f149046d031ff9af93e0bde6") true
    back_said (fun _ h => by cases h) back_w (fun _ h => by cases h) jsoncBack_row_tie rfl ⟨rfl, rfl⟩ (by kernel_rfl) rfl
    (fun f fn hf hfn => by
      obtain rfl : f = 5 := Option.some.inj ((show Tryz.prog.funcNamed "purlin/purlinlaw03.JsoncBack" = some 5 by kernel_rfl).symm.trans hf) |>.symm
      obtain rfl : fn = Tryz.f5 := (Option.some.inj (Tryz.func5.symm.trans hfn)).symm
      exact ⟨back_lk, fun j t ht => by
        rw [Tryz.params5 ] at ht
        have hm : t ∈ [ 26, 9 ] := by simpa using Array.mem_of_getElem? ht
        have hall : ([ 26, 9 ].all fun u => !Tryz.prog.wantsStandIn u) = true := by kernel_rfl
        exact (show Tryz.prog.wantsStandIn t = false by simpa using List.all_eq_true.1 hall t hm)⟩)
    back_g
#print axioms back_card
end Go.Proofs.YtcbcjeabpjjhbaaGreatDoor
