/- What the rows' condition on the listed tables, and the world's shape, give the walks -/
import Derived.Test.YtljgggohjigaoaaGreatDoorRows
import Derived.Shelf.Vars
import Derived.ProofKit
import Derived.LaidMore
import Derived.OpenShut
import Derived.Lay
import Derived.Test.YtljgggohjigaoaaGreatDoorSy39
namespace Go.Proofs.YtljgggohjigaoaaGreatDoor
open Go.ChangeShapes Go.WideShapes Go.ChangeAt Go.WideMaps Go.WideElems Go.RowKit

/-- The four tables that the rows list. -/
def laidS : List (String × DataW Unit) := [("unicode/utf8.acceptRanges", Rows.laid_unicode_utf8_acceptRanges), ("purlin/lex.signs", Rows.laid_purlin_lex_signs), ("purlin/syntax.levels", Rows.laid_purlin_syntax_levels), ("unicode/utf8.first", Rows.laid_unicode_utf8_first)]
theorem own : ownKnob Tryz.prog.godebug = none := by kernel_rfl
theorem gSigns : Tryz.prog.globalNamed "purlin/lex.signs" = some 0 := by kernel_rfl
theorem tySigns : (Tryz.prog.globals[ 0 ]?).map (·.type) = some 147 := by kernel_rfl
theorem signs_datum : (Rows.laid_purlin_lex_signs : DataW Unit) = .agg (signsB.map fun s => .lit (.string s.data.toList)) := rfl

set_option maxRecDepth 100000 in
theorem signs_of_laid {W : World} (h : laidMetH Tryz.prog laidS W) : Signs W := by
  rw [MakeChecks.laidMetH_plain _ _ _ (by kernel_rfl)] at h
  obtain ⟨ps, ⟨g0, t0, cs0, f0, p0, q0, hg0, ht0, hv0, hd0, ⟨g1, t1, cs, f1, p1, q1, hg1, ht1, hv1, hd1, _, _⟩, _⟩, _⟩ := h
  obtain rfl := Option.some.inj (gSigns.symm.trans hg1)
  obtain rfl := Option.some.inj (tySigns.symm.trans ht1)
  rw [signs_datum] at hd1
  obtain ⟨xs, m, _, ex, hlen, hl, hel⟩ := DataW.trod_array Tryz.underlying147 hd1
  have c1 : Tryz.prog.cellsOf 9 = 1 := by kernel_rfl
  have c25 : Tryz.prog.cellsOf 147 = 25 := by kernel_rfl
  rw [c25] at hlen
  have e3 : signsB.map (fun s => (.lit (.string s.data.toList) : DataW Unit)) = xs.map (·.1) := DataW.agg.inj (Prod.mk.inj ex).1
  have hcs : cs.toList = signsB.map Value.string := by
    refine List.ext_getElem (by rw [hlen]; rfl) fun i h1 h2 => ?_
    have hi : i < 25 := by rw [hlen] at h1; exact h1
    have hE := hel i hi
    rw [c1, Nat.mul_one, List.getElem?_eq_getElem (by omega)] at hE
    obtain ⟨s, e1, e2, _⟩ := DataW.trod_string Tryz.underlying9 hE
    have h25 : i < signsB.length := hi
    have e4 : (signsB.map (fun s => (.lit (.string s.data.toList) : DataW Unit)))[i]? = (xs.map (·.1))[i]? := by rw [e3]
    rw [List.getElem?_map, List.getElem?_map, List.getElem?_eq_getElem (by omega : i < xs.length), List.getElem?_eq_getElem h25, e2] at e4
    simp only [Option.map_some, Option.some.injEq, DataW.lit.injEq, Lit.string.injEq] at e4
    have e5 : cs.toList[i] = .string s := by
      have h0 : ((cs.toList.drop i).take 1)[0]? = some (.string s) := by rw [e1]; rfl
      simp at h0
      have h0' : cs.toList[i]? = some (.string s) := by simpa using h0
      rw [List.getElem?_eq_getElem h1] at h0'
      exact Option.some.inj h0'
    rw [e5, List.getElem_map]
    congr 1
    exact ByteArray.ext (Array.toList_inj.1 e4.symm)
  unfold World.var? at hv1
  rw [gSigns] at hv1
  simp only [Option.bind_some] at hv1
  split at hv1
  · rename_i c t fr hh
    obtain rfl := Option.some.inj hv1
    refine ⟨t, fr, hh.trans ?_⟩
    rw [← hcs]
  · cases hv1
theorem gLevels : Tryz.prog.globalNamed "purlin/syntax.levels" = some 1 := by kernel_rfl
theorem tyLevels : (Tryz.prog.globals[ 1 ]?).map (·.type) = some 151 := by kernel_rfl
def levD : List (List Int) := [[27, 27], [26, 26], [20, 21], [22, 25], [15, 16], [17, 19]]
theorem lev_datum : (Rows.laid_purlin_syntax_levels : DataW Unit) = .agg (levD.map fun r => .agg (r.map fun n => .lit (.int .i64 n))) := rfl
set_option maxRecDepth 100000 in
theorem levels_of_laid {W : World} (h : laidMetH Tryz.prog laidS W) : LevAt W := by
  rw [MakeChecks.laidMetH_plain _ _ _ (by kernel_rfl)] at h
  obtain ⟨ps, ⟨g0, t0, cs0, f0, p0, q0, hg0, ht0, hv0, hd0, ⟨g9, t9, cs9, f9, p9, q9, hg9, ht9, hv9, hd9, ⟨g1, t1, cs, f1, p1, q1, hg1, ht1, hv1, hd1, _, _⟩, _⟩, _⟩, _⟩ := h
  obtain rfl := Option.some.inj (gLevels.symm.trans hg1)
  obtain rfl := Option.some.inj (tyLevels.symm.trans ht1)
  rw [lev_datum] at hd1
  obtain ⟨xs, m, _, ex, hlen, hl, hel⟩ := DataW.trod_array Tryz.underlying151 hd1
  have c1 : Tryz.prog.cellsOf 35 = 1 := by kernel_rfl
  have c2 : Tryz.prog.cellsOf 150 = 2 := by kernel_rfl
  have c12 : Tryz.prog.cellsOf 151 = 12 := by kernel_rfl
  rw [c12] at hlen
  have e3 : levD.map (fun r => (.agg (r.map fun n => .lit (.int .i64 n)) : DataW Unit)) = xs.map (·.1) := DataW.agg.inj (Prod.mk.inj ex).1
  have hcell : ∀ i j n, i < 6 → j < 2 → (levD[i]?.bind (·[j]?)) = some n → cs.toList[i * 2 + j]? = some (.int .i64 n) := by
    intro i j n hi hj hn
    have hE := hel i hi
    rw [c2, List.getElem?_eq_getElem (by omega : i < xs.length)] at hE
    obtain ⟨ys, m', _, ex', hlen', hl', hel'⟩ := DataW.trod_array Tryz.underlying150 hE
    have hF := hel' j hj
    rw [c1, Nat.mul_one, List.getElem?_eq_getElem (by omega : j < ys.length)] at hF
    obtain ⟨n', e1, e2, _⟩ := DataW.trod_int Tryz.underlying35 hF
    have h6 : i < levD.length := hi
    have e4 : (levD.map (fun r => (.agg (r.map fun n => .lit (.int .i64 n)) : DataW Unit)))[i]? = (xs.map (·.1))[i]? := by rw [e3]
    rw [List.getElem?_map, List.getElem?_map, List.getElem?_eq_getElem (by omega : i < xs.length), List.getElem?_eq_getElem h6, ex'] at e4
    simp only [Option.map_some, Option.some.injEq, DataW.agg.injEq] at e4
    rw [List.getElem?_eq_getElem h6] at hn
    simp only [Option.bind_some] at hn
    have e5 : (levD[i].map (fun n => (.lit (.int .i64 n) : DataW Unit)))[j]? = (ys.map (·.1))[j]? := by rw [e4]
    rw [List.getElem?_map, List.getElem?_map, List.getElem?_eq_getElem (by omega : j < ys.length), hn, e2] at e5
    simp only [Option.map_some, Option.some.injEq, DataW.lit.injEq, Lit.int.injEq] at e5
    have h0 : ((((cs.toList.drop (i * 2)).take 2).drop j).take 1)[0]? = some (.int .i64 n') := by rw [e1]; rfl
    rw [List.getElem?_take, if_pos (by omega), List.getElem?_drop, List.getElem?_take, if_pos (by omega), List.getElem?_drop] at h0
    rw [e5.2]
    simpa using h0
  have q0 := hcell 0 0 27 (by omega) (by omega) rfl
  have q1 := hcell 0 1 27 (by omega) (by omega) rfl
  have q2 := hcell 1 0 26 (by omega) (by omega) rfl
  have q3 := hcell 1 1 26 (by omega) (by omega) rfl
  have q4 := hcell 2 0 20 (by omega) (by omega) rfl
  have q5 := hcell 2 1 21 (by omega) (by omega) rfl
  have q6 := hcell 3 0 22 (by omega) (by omega) rfl
  have q7 := hcell 3 1 25 (by omega) (by omega) rfl
  have q8 := hcell 4 0 15 (by omega) (by omega) rfl
  have q9 := hcell 4 1 16 (by omega) (by omega) rfl
  have q10 := hcell 5 0 17 (by omega) (by omega) rfl
  have q11 := hcell 5 1 19 (by omega) (by omega) rfl
  have hcs : cs.toList = levC.toList := by
    refine List.ext_getElem? fun i => ?_
    by_cases hi : i < 12
    · obtain rfl | rfl | rfl | rfl | rfl | rfl | rfl | rfl | rfl | rfl | rfl | rfl : i = 0 ∨ i = 1 ∨ i = 2 ∨ i = 3 ∨ i = 4 ∨ i = 5 ∨ i = 6 ∨ i = 7 ∨ i = 8 ∨ i = 9 ∨ i = 10 ∨ i = 11 := by omega
      · exact q0
      · exact q1
      · exact q2
      · exact q3
      · exact q4
      · exact q5
      · exact q6
      · exact q7
      · exact q8
      · exact q9
      · exact q10
      · exact q11
    · rw [List.getElem?_eq_none (by omega), List.getElem?_eq_none (by show 12 ≤ i; omega)]
  unfold World.var? at hv1
  rw [gLevels] at hv1
  simp only [Option.bind_some] at hv1
  split at hv1
  · rename_i c t fr hh
    obtain rfl := Option.some.inj hv1
    refine ⟨t, fr, hh.trans ?_⟩
    rw [show c = levC from Array.toList_inj.1 hcs]
  · cases hv1
theorem size_of_shape {P : Program} {w : World} {g : Nat} {t : TypeId} {zero : Array Value} (h : w.ShapedOpen P) (hg : g < P.globals.size)
    (h0 : ((begin P (fun _ _ => 0) default).world.heap[g]?).bind Obj.row? = some (zero, t)) : g < w.heap.size := by
  obtain ⟨cs, hh, _⟩ := h.1 g zero t hg h0
  exact (Array.getElem?_eq_some_iff.1 hh).1
theorem ready_of {W : World} (h : laidMetH Tryz.prog laidS W) (hs : W.ShapedOpen Tryz.prog) : Ready W :=
  ⟨size_of_shape (g := 3) (zero := ((begin Tryz.prog (fun _ _ => 0) default).world.heap[3]?.bind Obj.row?).get!.1) (t := ((begin Tryz.prog (fun _ _ => 0) default).world.heap[3]?.bind Obj.row?).get!.2) hs (of_decide_eq_true (by kernel_rfl)) (by kernel_rfl), signs_of_laid h, cell_of_shapedOpen_int (g := 2) (zero := #[.int .i64 0]) (t := 3) hs (of_decide_eq_true (by kernel_rfl)) (by kernel_rfl) rfl (by kernel_rfl) (by kernel_rfl) Tryz.underlying3⟩

theorem readyP_of {W : World} (h : laidMetH Tryz.prog laidS W) (hs : W.ShapedOpen Tryz.prog) : ReadyP W := ⟨ready_of h hs, levels_of_laid h⟩
/-- The wrap that keeps both a condition on the memory and the world's shape. -/
theorem returns_of {H : Type} {enc : TypeId × Value → H} {a : Assume} {C : Checked} {os : Os} {f : FuncId} {fn : Func} {s : ChangeSpec} {X : World → Prop} (hX : ∀ w w' : World, w.heap = w'.heap → X w → X w')
    (own : ownKnob C.prog.godebug = none) (started : os.Started) (noInit : C.prog.inits.idxOf? f = none) (hfn : C.prog.funcs[f]? = some fn)
    (witness : ∃ (w : World) (tape : Tape) (i : Input), w.os = os ∧ (w.forCall tape i).Shaped C.prog ∧ i.vars = [] ∧ Input.okWide C.prog (w.forCall tape i) .any w.heap.size f i ∧
      ((s.pre enc C.prog fn [] false (w.forCall tape i).memory i.args ∧ X (w.forCall tape i).memory) ∧ sizedMet enc C.prog fn (OpenSpec.ofChange s) false (w.forCall tape i).memory i.args) ∧ a.holds C.prog (lone (Frame.enter C.prog f i.args .normal) [] (w.forCall tape i)))
    (contract : ∀ (W : World) (base : Nat) (args : Array Value) (ds gs : List (DataW H)) (before : List MemPlace), (∀ (j : Nat) t v, fn.params[j]? = some t → args[j]? = some v → Value.okWide C.prog W .any base t v) →
      DataW.Whole enc C.prog fn.params.toList s.vars false W args.toList ds gs before → (DataW.weightsEach C.prog (fn.params.toList ++ s.plain.varTypes C.prog) (ds ++ gs)).all (· ≤ reachBytes) = true → X W → W.ShapedOpen C.prog →
      Calls C.prog f args W fun e W' => ∃ v, e = .returned v ∧ s.post enc C.prog fn false true false false W args v W') :
    ReturnsInHanded a C os f .any (fun w args => (s.pre enc C.prog fn [] false w args ∧ X w) ∧ sizedMet enc C.prog fn (OpenSpec.ofChange s) false w args) (s.post enc C.prog fn false true false false) :=
  returnsInHanded_of_calls own started noInit witness fun w tape i _ hsh _ hok hpre _ => by
    obtain ⟨_, _, _, fn', hfn', _, _, _, _, hval⟩ := hok
    obtain rfl : fn' = fn := Option.some.inj (hfn'.symm.trans hfn)
    obtain ⟨⟨⟨ds, gs, before, hw, _⟩, hx⟩, hz⟩ := hpre
    refine (contract _ w.heap.size i.args ds gs before hval (DataW.Whole.of_heap (w' := w.forCall tape i) (by rfl) hw) (hz.weights hw) (hX _ _ (by rfl) hx) hsh).mono ?_
    rintro e W' ⟨v, rfl, hp⟩
    exact ChangeSpec.post_blind hp
end Go.Proofs.YtljgggohjigaoaaGreatDoor
