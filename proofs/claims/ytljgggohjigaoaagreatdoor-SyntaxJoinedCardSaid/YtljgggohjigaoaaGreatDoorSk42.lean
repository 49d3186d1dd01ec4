/- . -/
import Derived.Test.YtljgggohjigaoaaGreatDoorRows
import Derived.Shelf.Vars
import Derived.ProofKit
import Derived.LaidMore
import Derived.OpenShut
import Derived.Lay
import Derived.Deep.AppendLies
import Derived.Test.YtljgggohjigaoaaGreatDoorSk33
import Derived.Test.YtljgggohjigaoaaGreatDoorSk36
import Derived.Test.YtljgggohjigaoaaGreatDoorSk37
import Derived.Test.YtljgggohjigaoaaGreatDoorSk38
import Derived.Test.YtljgggohjigaoaaGreatDoorSk41
namespace Go.Proofs.YtljgggohjigaoaaGreatDoor
open Go.ChangeShapes Go.WideShapes Go.ChangeAt Go.WideMaps Go.WideElems Go.RowKit

def laidS : List (String × DataW Unit) := [("unicode/utf8.acceptRanges", Rows.laid_unicode_utf8_acceptRanges), ("purlin/lex.signs", Rows.laid_purlin_lex_signs), ("purlin/syntax.levels", Rows.laid_purlin_syntax_levels), ("unicode/utf8.first", Rows.laid_unicode_utf8_first)]
theorem own : ownKnob Tryz.prog.godebug = none := by kernel_rfl
theorem gSigns : Tryz.prog.globalNamed "purlin/lex.signs" = some 0 := by kernel_rfl
theorem tySigns : (Tryz.prog.globals[ 0 ]?).map (·.type) = some 147 := by kernel_rfl
theorem signs_datum : (Rows.laid_purlin_lex_signs : DataW Unit) = .agg (signsB.map fun s => .lit (.string s.data.toList)) := rfl

set_option maxRecDepth 100000 in
theorem signs_of_laid {W : World} (h : laidMetH Tryz.prog laidS W) : Signs W := by
 rw [MakeChecks.laidMetH_plain _ _ _ (by kernel_rfl)] at h
 obtain ⟨ps, ⟨g0, t0, cs0, f0, p0, q0, hg0, ht0, hv0, hd0, ⟨g1, t1, cs, f1, p1, q1, hg1, ht1, hv1, hd1, _, _⟩, _⟩, _⟩ := h
 obtain rfl := Option.some.inj (gSigns.symm.trans hg1)
 obtain rfl := Option.some.inj (tySigns.symm.trans ht1)
 rw [signs_datum] at hd1
 obtain ⟨xs, m, _, ex, hlen, hl, hel⟩ := DataW.trod_array Tryz.underlying147 hd1
 have c1 : Tryz.prog.cellsOf 9 = 1 := by kernel_rfl
 have c25 : Tryz.prog.cellsOf 147 = 25 := by kernel_rfl
 rw [c25] at hlen
 have e3 : signsB.map (fun s => (.lit (.string s.data.toList) : DataW Unit)) = xs.map (·.1) := DataW.agg.inj (Prod.mk.inj ex).1
 have hcs : cs.toList = signsB.map Value.string := by
  refine List.ext_getElem (by rw [hlen]; rfl) fun i h1 h2 => ?_
  have hi : i < 25 := by rw [hlen] at h1; exact h1
  have hE := hel i hi
  rw [c1, Nat.mul_one, List.getElem?_eq_getElem (by omega)] at hE
  obtain ⟨s, e1, e2, _⟩ := DataW.trod_string Tryz.underlying9 hE
  have h25 : i < signsB.length := hi
  have e4 : (signsB.map (fun s => (.lit (.string s.data.toList) : DataW Unit)))[i]? = (xs.map (·.1))[i]? := by rw [e3]
  rw [List.getElem?_map, List.getElem?_map, List.getElem?_eq_getElem (by omega : i < xs.length), List.getElem?_eq_getElem h25, e2] at e4
  simp only [Option.map_some, Option.some.injEq, DataW.lit.injEq, Lit.string.injEq] at e4
  have e5 : cs.toList[i] = .string s := by
   have h0 : ((cs.toList.drop i).take 1)[0]? = some (.string s) := by rw [e1]; rfl
   simp at h0
   have h0' : cs.toList[i]? = some (.string s) := by simpa using h0
   rw [List.getElem?_eq_getElem h1] at h0'
   exact Option.some.inj h0'
  rw [e5, List.getElem_map]
  congr 1
  exact ByteArray.ext (Array.toList_inj.1 e4.symm)
 unfold World.var? at hv1
 rw [gSigns] at hv1
 simp only [Option.bind_some] at hv1
 split at hv1
 ·rename_i c t fr hh
  obtain rfl := Option.some.inj hv1
  refine ⟨t, fr, hh.trans ?_⟩
  rw [← hcs]
 ·cases hv1
theorem gLevels : Tryz.prog.globalNamed "purlin/syntax.levels" = some 1 := by kernel_rfl
theorem tyLevels : (Tryz.prog.globals[ 1 ]?).map (·.type) = some 151 := by kernel_rfl
def levD : List (List Int) := [[27, 27], [26, 26], [20, 21], [22, 25], [15, 16], [17, 19]]
theorem lev_datum : (Rows.laid_purlin_syntax_levels : DataW Unit) = .agg (levD.map fun r => .agg (r.map fun n => .lit (.int .i64 n))) := rfl
set_option maxRecDepth 100000 in
theorem levels_of_laid {W : World} (h : laidMetH Tryz.prog laidS W) : LevAt W := by
 rw [MakeChecks.laidMetH_plain _ _ _ (by kernel_rfl)] at h
 obtain ⟨ps, ⟨g0, t0, cs0, f0, p0, q0, hg0, ht0, hv0, hd0, ⟨g9, t9, cs9, f9, p9, q9, hg9, ht9, hv9, hd9, ⟨g1, t1, cs, f1, p1, q1, hg1, ht1, hv1, hd1, _, _⟩, _⟩, _⟩, _⟩ := h
 obtain rfl := Option.some.inj (gLevels.symm.trans hg1)
 obtain rfl := Option.some.inj (tyLevels.symm.trans ht1)
 rw [lev_datum] at hd1
 obtain ⟨xs, m, _, ex, hlen, hl, hel⟩ := DataW.trod_array Tryz.underlying151 hd1
 have c1 : Tryz.prog.cellsOf 35 = 1 := by kernel_rfl
 have c2 : Tryz.prog.cellsOf 150 = 2 := by kernel_rfl
 have c12 : Tryz.prog.cellsOf 151 = 12 := by kernel_rfl
 rw [c12] at hlen
 have e3 : levD.map (fun r => (.agg (r.map fun n => .lit (.int .i64 n)) : DataW Unit)) = xs.map (·.1) := DataW.agg.inj (Prod.mk.inj ex).1
 have hcell : ∀ i j n, i < 6 → j < 2 → (levD[i]?.bind (·[j]?)) = some n → cs.toList[i * 2 + j]? = some (.int .i64 n) := by
  intro i j n hi hj hn
  have hE := hel i hi
  rw [c2, List.getElem?_eq_getElem (by omega : i < xs.length)] at hE
  obtain ⟨ys, m', _, ex', hlen', hl', hel'⟩ := DataW.trod_array Tryz.underlying150 hE
  have hF := hel' j hj
  rw [c1, Nat.mul_one, List.getElem?_eq_getElem (by omega : j < ys.length)] at hF
  obtain ⟨n', e1, e2, _⟩ := DataW.trod_int Tryz.underlying35 hF
  have h6 : i < levD.length := hi
  have e4 : (levD.map (fun r => (.agg (r.map fun n => .lit (.int .i64 n)) : DataW Unit)))[i]? = (xs.map (·.1))[i]? := by rw [e3]
  rw [List.getElem?_map, List.getElem?_map, List.getElem?_eq_getElem (by omega : i < xs.length), List.getElem?_eq_getElem h6, ex'] at e4
  simp only [Option.map_some, Option.some.injEq, DataW.agg.injEq] at e4
  rw [List.getElem?_eq_getElem h6] at hn
  simp only [Option.bind_some] at hn
  have e5 : (levD[i].map (fun n => (.lit (.int .i64 n) : DataW Unit)))[j]? = (ys.map (·.1))[j]? := by rw [e4]
  rw [List.getElem?_map, List.getElem?_map, List.getElem?_eq_getElem (by omega : j < ys.length), hn, e2] at e5
  simp only [Option.map_some, Option.some.injEq, DataW.lit.injEq, Lit.int.injEq] at e5
  have h0 : ((((cs.toList.drop (i * 2)).take 2).drop j).take 1)[0]? = some (.int .i64 n') := by rw [e1]; rfl
  rw [List.getElem?_take, if_pos (by omega), List.getElem?_drop, List.getElem?_take, if_pos (by omega), List.getElem?_drop] at h0
  rw [e5.2]
  simpa using h0
 have q0 := hcell 0 0 27 (by omega) (by omega) rfl
 have q1 := hcell 0 1 27 (by omega) (by omega) rfl
 have q2 := hcell 1 0 26 (by omega) (by omega) rfl
 have q3 := hcell 1 1 26 (by omega) (by omega) rfl
 have q4 := hcell 2 0 20 (by omega) (by omega) rfl
 have q5 := hcell 2 1 21 (by omega) (by omega) rfl
 have q6 := hcell 3 0 22 (by omega) (by omega) rfl
 have q7 := hcell 3 1 25 (by omega) (by omega) rfl
 have q8 := hcell 4 0 15 (by omega) (by omega) rfl
 have q9 := hcell 4 1 16 (by omega) (by omega) rfl
 have q10 := hcell 5 0 17 (by omega) (by omega) rfl
 have q11 := hcell 5 1 19 (by omega) (by omega) rfl
 have hcs : cs.toList = levC.toList := by
  refine List.ext_getElem? fun i => ?_
  by_cases hi : i < 12
  ·obtain rfl | rfl | rfl | rfl | rfl | rfl | rfl | rfl | rfl | rfl | rfl | rfl : i = 0 ∨ i = 1 ∨ i = 2 ∨ i = 3 ∨ i = 4 ∨ i = 5 ∨ i = 6 ∨ i = 7 ∨ i = 8 ∨ i = 9 ∨ i = 10 ∨ i = 11 := by omega
   ·exact q0
   ·exact q1
   ·exact q2
   ·exact q3
   ·exact q4
   ·exact q5
   ·exact q6
   ·exact q7
   ·exact q8
   ·exact q9
   ·exact q10
   ·exact q11
  ·rw [List.getElem?_eq_none (by omega), List.getElem?_eq_none (by show 12 ≤ i; omega)]
 unfold World.var? at hv1
 rw [gLevels] at hv1
 simp only [Option.bind_some] at hv1
 split at hv1
 ·rename_i c t fr hh
  obtain rfl := Option.some.inj hv1
  refine ⟨t, fr, hh.trans ?_⟩
  rw [show c = levC from Array.toList_inj.1 hcs]
 ·cases hv1
theorem size_of_shape {P : Program} {w : World} {g : Nat} {t : TypeId} {zero : Array Value} (h : w.ShapedOpen P) (hg : g < P.globals.size)
  (h0 : ((begin P (fun _ _ => 0) default).world.heap[g]?).bind Obj.row? = some (zero, t)) : g < w.heap.size := by
 obtain ⟨cs, hh, _⟩ := h.1 g zero t hg h0
 exact (Array.getElem?_eq_some_iff.1 hh).1
theorem ready_of {W : World} (h : laidMetH Tryz.prog laidS W) (hs : W.ShapedOpen Tryz.prog) : Ready W :=
 ⟨size_of_shape (g := 3) (zero := ((begin Tryz.prog (fun _ _ => 0) default).world.heap[3]?.bind Obj.row?).get!.1) (t := ((begin Tryz.prog (fun _ _ => 0) default).world.heap[3]?.bind Obj.row?).get!.2) hs (of_decide_eq_true (by kernel_rfl)) (by kernel_rfl), signs_of_laid h, cell_of_shapedOpen_int (g := 2) (zero := #[.int .i64 0]) (t := 3) hs (of_decide_eq_true (by kernel_rfl)) (by kernel_rfl) rfl (by kernel_rfl) (by kernel_rfl) Tryz.underlying3⟩

theorem readyP_of {W : World} (h : laidMetH Tryz.prog laidS W) (hs : W.ShapedOpen Tryz.prog) : ReadyP W := ⟨ready_of h hs, levels_of_laid h⟩
theorem returns_of {H : Type} {enc : TypeId × Value → H} {a : Assume} {C : Checked} {os : Os} {f : FuncId} {fn : Func} {s : ChangeSpec} {X : World → Prop} (hX : ∀ w w' : World, w.heap = w'.heap → X w → X w')
  (own : ownKnob C.prog.godebug = none) (started : os.Started) (noInit : C.prog.inits.idxOf? f = none) (hfn : C.prog.funcs[f]? = some fn)
  (witness : ∃ (w : World) (tape : Tape) (i : Input), w.os = os ∧ (w.forCall tape i).Shaped C.prog ∧ i.vars = [] ∧ Input.okWide C.prog (w.forCall tape i) .any w.heap.size f i ∧
   ((s.pre enc C.prog fn [] false (w.forCall tape i).memory i.args ∧ X (w.forCall tape i).memory) ∧ sizedMet enc C.prog fn (OpenSpec.ofChange s) false (w.forCall tape i).memory i.args) ∧ a.holds C.prog (lone (Frame.enter C.prog f i.args .normal) [] (w.forCall tape i)))
  (contract : ∀ (W : World) (base : Nat) (args : Array Value) (ds gs : List (DataW H)) (before : List MemPlace), (∀ (j : Nat) t v, fn.params[j]? = some t → args[j]? = some v → Value.okWide C.prog W .any base t v) →
   DataW.Whole enc C.prog fn.params.toList s.vars false W args.toList ds gs before → (DataW.weightsEach C.prog (fn.params.toList ++ s.plain.varTypes C.prog) (ds ++ gs)).all (· ≤ reachBytes) = true → X W → W.ShapedOpen C.prog →
   Calls C.prog f args W fun e W' => ∃ v, e = .returned v ∧ s.post enc C.prog fn false true false false W args v W') :
  ReturnsInHanded a C os f .any (fun w args => (s.pre enc C.prog fn [] false w args ∧ X w) ∧ sizedMet enc C.prog fn (OpenSpec.ofChange s) false w args) (s.post enc C.prog fn false true false false) :=
 returnsInHanded_of_calls own started noInit witness fun w tape i _ hsh _ hok hpre _ => by
  obtain ⟨_, _, _, fn', hfn', _, _, _, _, hval⟩ := hok
  obtain rfl : fn' = fn := Option.some.inj (hfn'.symm.trans hfn)
  obtain ⟨⟨⟨ds, gs, before, hw, _⟩, hx⟩, hz⟩ := hpre
  refine (contract _ w.heap.size i.args ds gs before hval (DataW.Whole.of_heap (w' := w.forCall tape i) (by rfl) hw) (hz.weights hw) (hX _ _ (by rfl) hx) hsh).mono ?_
  rintro e W' ⟨v, rfl, hp⟩
  exact ChangeSpec.post_blind hp
end Go.Proofs.YtljgggohjigaoaaGreatDoor
namespace Go.Proofs.YtljgggohjigaoaaGreatDoor
open Go.RowKit Go.Shelf
set_option linter.unusedVariables false

section
variable (p : Nat) (f0 : Fi)
def midN (n k : Nat) (l : List Nat) : List Nat := l.mapIdx fun j a => if j < k then a else a + n
def midA (n k : Nat) (l : List AtS) : List AtS := l.mapIdx fun j a => ⟨a.n, if j < k then a.e else a.e + n, a.at_ + p⟩
def exE (k : Nat) (e : Ex) : Ex := ⟨e.k, e.x, midN f0.exprs.length k e.args, e.keys, e.at_ + p⟩
def exB (ka kb : Nat) (b : Bl) : Bl := ⟨b.t, b.labels, midA p f0.exprs.length ka b.attrs, midN f0.blocks.length kb b.blocks, b.at_ + p⟩
def stE (i k j : Nat) (e : Ex) : Ex := if j < i then exE p f0 e.args.length e else if j = i then exE p f0 k e else exE p f0 0 e
def stB (i ka kb j : Nat) (b : Bl) : Bl := if j < i then exB p f0 b.attrs.length b.blocks.length b else if j = i then exB p f0 ka kb b else exB p f0 0 0 b
def lsE (fb : Fi) (i k : Nat) : List Ex := f0.exprs ++ fb.exprs.mapIdx (stE p f0 i k)
def lsB (fb : Fi) (i ka kb : Nat) : List Bl := f0.blocks ++ fb.blocks.mapIdx (stB p f0 i ka kb)
end
section
variable {p : Nat} {f0 fb : Fi} {n k : Nat}
theorem midN_zero (l : List Nat) : midN n 0 l = l.map (· + n) := by
 unfold midN
 refine List.ext_getElem? fun j => ?_
 rw [List.getElem?_mapIdx, List.getElem?_map]
 cases l[j]? <;> simp
theorem midN_all (l : List Nat) : midN n l.length l = l := by
 unfold midN
 refine List.ext_getElem? fun j => ?_
 rw [List.getElem?_mapIdx]
 cases h : l[j]? with
 | none => rfl
 | some a =>
  have := (List.getElem?_eq_some_iff.1 h).1
  simp [this]
theorem midN_len (l : List Nat) : (midN n k l).length = l.length := by unfold midN; simp
theorem midN_at {l : List Nat} {a : Nat} (h : l[k]? = some a) : (midN n k l)[k]? = some (a + n) := by
 unfold midN
 rw [List.getElem?_mapIdx, h]
 simp
theorem midN_step {l : List Nat} {a : Nat} (h : l[k]? = some a) : (midN n k l).set k a = midN n (k + 1) l := by
 refine List.ext_getElem? fun j => ?_
 have hk := (List.getElem?_eq_some_iff.1 h).1
 rw [List.getElem?_set]
 unfold midN
 simp only [List.length_mapIdx, List.getElem?_mapIdx]
 by_cases e : k = j
 ·subst e
  rw [if_pos rfl, if_pos hk, h]
  simp
 ·rw [if_neg e]
  cases l[j]? with
  | none => rfl
  | some b =>
   simp only [Option.map_some]
   congr 1
   by_cases e2 : j < k
   ·rw [if_pos e2, if_pos (by omega)]
   ·rw [if_neg e2, if_neg (by omega)]
theorem midA_zero (l : List AtS) : midA p f0.exprs.length 0 l = l.map (shA p f0) := by
 unfold midA
 refine List.ext_getElem? fun j => ?_
 rw [List.getElem?_mapIdx, List.getElem?_map]
 cases l[j]? <;> simp [shA]
theorem midA_len (l : List AtS) : (midA p n k l).length = l.length := by unfold midA; simp
theorem midA_at {l : List AtS} {a : AtS} (h : l[k]? = some a) : (midA p n k l)[k]? = some ⟨a.n, a.e + n, a.at_ + p⟩ := by
 unfold midA
 rw [List.getElem?_mapIdx, h]
 simp
theorem midA_step {l : List AtS} {a : AtS} (h : l[k]? = some a) : (midA p n k l).set k ⟨a.n, a.e, a.at_ + p⟩ = midA p n (k + 1) l := by
 refine List.ext_getElem? fun j => ?_
 have hk := (List.getElem?_eq_some_iff.1 h).1
 rw [List.getElem?_set]
 unfold midA
 simp only [List.length_mapIdx, List.getElem?_mapIdx]
 by_cases e : k = j
 ·subst e
  rw [if_pos rfl, if_pos hk, h]
  simp
 ·rw [if_neg e]
  cases l[j]? with
  | none => rfl
  | some b =>
   simp only [Option.map_some]
   congr 2
   by_cases e2 : j < k
   ·rw [if_pos e2, if_pos (by omega)]
   ·rw [if_neg e2, if_neg (by omega)]
theorem exE_zero (e : Ex) : exE p f0 0 e = shE p f0 e := by unfold exE shE; rw [midN_zero]
theorem exB_zero (b : Bl) : exB p f0 0 0 b = shB p f0 b := by unfold exB shB; rw [midN_zero, midA_zero]
theorem lsE_start : lsE p f0 fb 0 0 = f0.exprs ++ fb.exprs.map (shE p f0) := by
 unfold lsE
 congr 1
 refine List.ext_getElem? fun j => ?_
 rw [List.getElem?_mapIdx, List.getElem?_map]
 cases fb.exprs[j]? with
 | none => rfl
 | some e => simp only [Option.map_some]; unfold stE; simp [exE_zero]
theorem lsB_start : lsB p f0 fb 0 0 0 = f0.blocks ++ fb.blocks.map (shB p f0) := by
 unfold lsB
 congr 1
 refine List.ext_getElem? fun j => ?_
 rw [List.getElem?_mapIdx, List.getElem?_map]
 cases fb.blocks[j]? with
 | none => rfl
 | some e => simp only [Option.map_some]; unfold stB; simp [exB_zero]
theorem lsE_at {i j : Nat} {e : Ex} (h : fb.exprs[j]? = some e) : (lsE p f0 fb i k)[f0.exprs.length + j]? = some (stE p f0 i k j e) := by
 unfold lsE
 rw [List.getElem?_append_right (by omega), show f0.exprs.length + j - f0.exprs.length = j by omega, List.getElem?_mapIdx, h]
 rfl
theorem lsB_at {i ka kb j : Nat} {e : Bl} (h : fb.blocks[j]? = some e) : (lsB p f0 fb i ka kb)[f0.blocks.length + j]? = some (stB p f0 i ka kb j e) := by
 unfold lsB
 rw [List.getElem?_append_right (by omega), show f0.blocks.length + j - f0.blocks.length = j by omega, List.getElem?_mapIdx, h]
 rfl
theorem stE_at {i : Nat} {e : Ex} : stE p f0 i k i e = exE p f0 k e := by unfold stE; simp
theorem stB_at {i ka kb : Nat} {e : Bl} : stB p f0 i ka kb i e = exB p f0 ka kb e := by unfold stB; simp
theorem set_map {α β : Type} (g g' : Nat → α → β) {l : List α} {i : Nat} {x : α} (h : l[i]? = some x) (hg : ∀ j y, j ≠ i → g j y = g' j y) (pre : List β) : (pre ++ l.mapIdx g).set (pre.length + i) (g' i x) = pre ++ l.mapIdx g' := by
 rw [List.set_append_right _ _ (by omega), show pre.length + i - pre.length = i by omega]
 congr 1
 refine List.ext_getElem? fun j => ?_
 have hi := (List.getElem?_eq_some_iff.1 h).1
 rw [List.getElem?_set, List.getElem?_mapIdx, List.getElem?_mapIdx, List.length_mapIdx]
 by_cases e : i = j
 ·subst e
  rw [if_pos rfl, if_pos hi, h]
  rfl
 ·rw [if_neg e]
  cases l[j]? with
  | none => rfl
  | some y => simp only [Option.map_some]; rw [hg j y (fun e2 => e e2.symm)]
theorem lsE_step {i a : Nat} {e : Ex} (h : fb.exprs[i]? = some e) (ha : e.args[k]? = some a) : (lsE p f0 fb i k).set (f0.exprs.length + i) { exE p f0 k e with args := (exE p f0 k e).args.set k a } = lsE p f0 fb i (k + 1) := by
 have h1 : ({ exE p f0 k e with args := (exE p f0 k e).args.set k a } : Ex) = stE p f0 i (k + 1) i e := by
  rw [stE_at]
  unfold exE
  simp only [midN_step ha]
 rw [h1]
 refine set_map (stE p f0 i k) (stE p f0 i (k + 1)) h (fun j y hj => ?_) f0.exprs
 unfold stE
 rw [if_neg hj, if_neg hj]
theorem lsB_stepA {i kb : Nat} {b : Bl} {a : AtS} (h : fb.blocks[i]? = some b) (ha : b.attrs[k]? = some a) : (lsB p f0 fb i k kb).set (f0.blocks.length + i) { exB p f0 k kb b with attrs := (exB p f0 k kb b).attrs.set k ⟨a.n, a.e, a.at_ + p⟩ } = lsB p f0 fb i (k + 1) kb := by
 have h1 : ({ exB p f0 k kb b with attrs := (exB p f0 k kb b).attrs.set k ⟨a.n, a.e, a.at_ + p⟩ } : Bl) = stB p f0 i (k + 1) kb i b := by
  rw [stB_at]
  unfold exB
  simp only [midA_step ha]
 rw [h1]
 refine set_map (stB p f0 i k kb) (stB p f0 i (k + 1) kb) h (fun j y hj => ?_) f0.blocks
 unfold stB
 rw [if_neg hj, if_neg hj]
theorem lsB_stepB {i ka a : Nat} {b : Bl} (h : fb.blocks[i]? = some b) (ha : b.blocks[k]? = some a) : (lsB p f0 fb i ka k).set (f0.blocks.length + i) { exB p f0 ka k b with blocks := (exB p f0 ka k b).blocks.set k a } = lsB p f0 fb i ka (k + 1) := by
 have h1 : ({ exB p f0 ka k b with blocks := (exB p f0 ka k b).blocks.set k a } : Bl) = stB p f0 i ka (k + 1) i b := by
  rw [stB_at]
  unfold exB
  simp only [midN_step ha]
 rw [h1]
 refine set_map (stB p f0 i ka k) (stB p f0 i ka (k + 1)) h (fun j y hj => ?_) f0.blocks
 unfold stB
 rw [if_neg hj, if_neg hj]
theorem ls_next {α β : Type} (g g' : Nat → α → β) {l : List α} (h : ∀ j y, l[j]? = some y → g j y = g' j y) (pre : List β) : pre ++ l.mapIdx g = pre ++ l.mapIdx g' := by
 congr 1
 refine List.ext_getElem? fun j => ?_
 rw [List.getElem?_mapIdx, List.getElem?_mapIdx]
 cases hl : l[j]? with
 | none => rfl
 | some y => simp only [Option.map_some]; rw [h j y hl]
theorem lsE_next {i : Nat} {e : Ex} (h : fb.exprs[i]? = some e) : lsE p f0 fb i e.args.length = lsE p f0 fb (i + 1) 0 := by
 refine ls_next _ _ (fun j y hy => ?_) f0.exprs
 unfold stE
 by_cases e1 : j < i
 ·rw [if_pos e1, if_pos (by omega)]
 ·by_cases e2 : j = i
  ·subst e2
   rw [h] at hy
   cases hy
   rw [if_neg (by omega), if_pos rfl, if_pos (by omega)]
  ·rw [if_neg e1, if_neg e2, if_neg (by omega)]
   by_cases e3 : j = i + 1
   ·rw [if_pos e3]
   ·rw [if_neg e3]
theorem lsB_next {i : Nat} {b : Bl} (h : fb.blocks[i]? = some b) : lsB p f0 fb i b.attrs.length b.blocks.length = lsB p f0 fb (i + 1) 0 0 := by
 refine ls_next _ _ (fun j y hy => ?_) f0.blocks
 unfold stB
 by_cases e1 : j < i
 ·rw [if_pos e1, if_pos (by omega)]
 ·by_cases e2 : j = i
  ·subst e2
   rw [h] at hy
   cases hy
   rw [if_neg (by omega), if_pos rfl, if_pos (by omega)]
  ·rw [if_neg e1, if_neg e2, if_neg (by omega)]
   by_cases e3 : j = i + 1
   ·rw [if_pos e3]
   ·rw [if_neg e3]
end
end Go.Proofs.YtljgggohjigaoaaGreatDoor
namespace Go.Proofs.YtljgggohjigaoaaGreatDoor
open Go.RowKit Go.Shelf
set_option linter.unusedVariables false

section
variable {W W' : World} {F lo : Nat} {m : FileM} {f : Fi}
theorem FileOk.exm (h : FileOk W F lo m f) {i : Nat} {x : ExM} (hx : m.ms[i]? = some x) : ∃ g cap, m.ev = .slice (some ⟨g, 0, none⟩) f.exprs.length cap ∧ f.exprs.length ≤ cap ∧ ExR W g i x.e x.av x.kv := by
 have hl : m.ms.length = f.exprs.length := by rw [← h.es, List.length_map]
 have hpos : i < m.ms.length := (List.getElem?_eq_some_iff.1 hx).1
 rcases (row_read h.exprs).2 with h0 | ⟨g, cap, e0, h2, h3, h4⟩
 ·omega
 ·have hc : ∀ j u, j < 5 → x.cells[j]? = some u → W.cell? ⟨g, i * 5 + j, none⟩ = some u := fun j u hj hu => h4 _ _ ((flat_at ExM.cells 5 (fun a => rfl) _ i j x hx hj).trans hu)
  have ho := h.eok x (List.mem_of_getElem? hx)
  exact ⟨g, cap, by rw [e0, hl], by omega, hc 0 _ (by omega) rfl, hc 1 _ (by omega) rfl, hc 2 _ (by omega) rfl, hc 3 _ (by omega) rfl, hc 4 _ (by omega) rfl, row_read ho.args, row_read ho.keys⟩
theorem FileOk.blm (h : FileOk W F lo m f) {i : Nat} {x : BlM} (hx : m.ns[i]? = some x) : ∃ g cap, m.bv = .slice (some ⟨g, 0, none⟩) f.blocks.length cap ∧ f.blocks.length ≤ cap ∧ BlR W g i x.b x.lv x.av x.bv := by
 have hl : m.ns.length = f.blocks.length := by rw [← h.bs, List.length_map]
 have hpos : i < m.ns.length := (List.getElem?_eq_some_iff.1 hx).1
 rcases (row_read h.blocks).2 with h0 | ⟨g, cap, e0, h2, h3, h4⟩
 ·omega
 ·have hc : ∀ j u, j < 5 → x.cells[j]? = some u → W.cell? ⟨g, i * 5 + j, none⟩ = some u := fun j u hj hu => h4 _ _ ((flat_at BlM.cells 5 (fun a => rfl) _ i j x hx hj).trans hu)
  have ho := h.bok x (List.mem_of_getElem? hx)
  exact ⟨g, cap, by rw [e0, hl], by omega, hc 0 _ (by omega) rfl, hc 1 _ (by omega) rfl, hc 2 _ (by omega) rfl, hc 3 _ (by omega) rfl, hc 4 _ (by omega) rfl, row_read ho.labels, row_read ho.attrs, row_read ho.blocks⟩
theorem FileOk.ms_at (h : FileOk W F lo m f) {i : Nat} {e : Ex} (he : f.exprs[i]? = some e) : ∃ x, m.ms[i]? = some x ∧ x.e = e := by
 rw [← h.es, List.getElem?_map] at he
 cases hx : m.ms[i]? with
 | none => rw [hx] at he; cases he
 | some x => rw [hx] at he; exact ⟨x, rfl, by simpa using he⟩
theorem FileOk.ns_at (h : FileOk W F lo m f) {i : Nat} {b : Bl} (he : f.blocks[i]? = some b) : ∃ x, m.ns[i]? = some x ∧ x.b = b := by
 rw [← h.bs, List.getElem?_map] at he
 cases hx : m.ns[i]? with
 | none => rw [hx] at he; cases he
 | some x => rw [hx] at he; exact ⟨x, rfl, by simpa using he⟩
end
theorem cellsE_inj {x y : ExM} (h : x.cells = y.cells) : x.av = y.av ∧ x.kv = y.kv := by
 unfold ExM.cells at h
 simp only [List.cons.injEq] at h
 exact ⟨h.2.2.1, h.2.2.2.1⟩
theorem cellsB_inj {x y : BlM} (h : x.cells = y.cells) : x.lv = y.lv ∧ x.av = y.av ∧ x.bv = y.bv := by
 unfold BlM.cells at h
 simp only [List.cons.injEq] at h
 exact ⟨h.2.1, h.2.2.1, h.2.2.2.1⟩
theorem map_at {α β : Type} {g : α → β} {l l' : List α} (h : l.map g = l'.map g) {i : Nat} {x y : α} (hx : l[i]? = some x) (hy : l'[i]? = some y) : g x = g y := by
 have := congrArg (fun z => z[i]?) h
 simp only [List.getElem?_map, hx, hy, Option.map_some, Option.some.injEq] at this
 exact this
def Now (w : World) (F lo N0 N1 : Nat) (m0 : FileM) (f : Fi) : Prop := ∃ m, FileOk w F lo m f ∧ m.ev = m0.ev ∧ m.bv = m0.bv ∧ m.tv = m0.tv ∧ m.ms.map ExM.cells = m0.ms.map ExM.cells ∧ m.ns.map BlM.cells = m0.ns.map BlM.cells ∧ ∀ g ∈ m.foot F, N0 ≤ g ∧ g < N1
structure Jst (w0 w : World) (F lo N1 Bz Bh L : Nat) (m0 : FileM) (f : Fi) (hE hB hT : Value) (nE nB nT : Nat) (cE cB cT : List Value) : Prop where
 below : Below w0.heap.size w0 w
 file : Now w F lo w0.heap.size N1 m0 f
 bz : Blk w Bz #[m0.ev, m0.bv, m0.tv] 28
 bh : Blk w Bh #[hE, hB, hT] 28
 oE : w.ownsRow L 38 5 hE nE cE
 oB : w.ownsRow L 41 5 hB nB cB
 oT : w.ownsRow L 3 1 hT nT cT
 nod : (ownB hE ++ (ownB hB ++ ownB hT)).Nodup
 p0 : w0.heap.size ≤ N1
 p1 : N1 ≤ Bz
 p2 : Bz < Bh
 p3 : Bh < L
 p4 : L ≤ w.heap.size
section
variable {w0 w w' : World} {F lo N1 Bz Bh L : Nat} {m0 : FileM} {f : Fi} {hE hB hT : Value} {nE nB nT : Nat} {cE cB cT : List Value}
theorem row_below {B e size n : Nat} {v : Value} {xs : List Value} (h : w.ownsRow B e size v n xs) (hb : Below w.heap.size w w') : w'.ownsRow B e size v n xs := row_same h fun g hg => hb.block g (row_lt h hg).2
theorem Now.same {N0 : Nat} (h : Now w F lo N0 N1 m0 f) (hs : ∀ k, N0 ≤ k → k < N1 → w'.heap[k]? = w.heap[k]?) : Now w' F lo N0 N1 m0 f := by
 obtain ⟨m, h1, h2, h3, h4, h5, h6, h7⟩ := h
 exact ⟨m, h1.keep fun g hg => hs g (h7 g hg).1 (h7 g hg).2, h2, h3, h4, h5, h6, h7⟩
theorem Jst.more (h : Jst w0 w F lo N1 Bz Bh L m0 f hE hB hT nE nB nT cE cB cT) (hb : Below w.heap.size w w') : Jst w0 w' F lo N1 Bz Bh L m0 f hE hB hT nE nB nT cE cB cT :=
 ⟨h.below.trans (hb.mono h.below.size), h.file.same fun k _ hk => hb.block k (by have := h.p1; have := h.p2; have := h.p3; have := h.p4; omega), h.bz.below hb, h.bh.below hb, row_below h.oE hb, row_below h.oB hb, row_below h.oT hb, h.nod, h.p0, h.p1, h.p2, h.p3, Nat.le_trans h.p4 hb.size⟩
theorem Jst.put (h : Jst w0 w F lo N1 Bz Bh L m0 f hE hB hT nE nB nT cE cB cT) {g c : Nat} (h0 : w0.heap.size ≤ g) (h1 : g < N1) (u : Value) {f' : Fi} (hn : Now (w.setCell ⟨g, c, none⟩ u) F lo w0.heap.size N1 m0 f') :
  Jst w0 (w.setCell ⟨g, c, none⟩ u) F lo N1 Bz Bh L m0 f' hE hB hT nE nB nT cE cB cT := by
 have q1 := h.p1
 have q2 := h.p2
 have q3 := h.p3
 have hr : ∀ {B e size n : Nat} {v : Value} {xs : List Value}, w.ownsRow B e size v n xs → L ≤ B → (w.setCell ⟨g, c, none⟩ u).ownsRow B e size v n xs := fun {B e size n v xs} ho hB => row_off ho (fun e => by have := (row_lt ho e).1; omega) _
 exact ⟨h.below.setCell (by exact h0) _, hn, h.bz.other (by show _ ≠ g; omega) _, h.bh.other (by show _ ≠ g; omega) _, hr h.oE (Nat.le_refl _), hr h.oB (Nat.le_refl _), hr h.oT (Nat.le_refl _), h.nod, h.p0, h.p1, h.p2, h.p3, by simpa using h.p4⟩
theorem Now.arg {N0 : Nat} (h : Now w F lo N0 N1 m0 f) {i k g len cap : Nat} {x0 : ExM} {e : Ex} (hx : m0.ms[i]? = some x0) (hav : x0.av = .slice (some ⟨g, 0, none⟩) len cap) (he : f.exprs[i]? = some e) (hk : k < e.args.length) (v : Nat) :
  Now (w.setCell ⟨g, k, none⟩ (.int .i64 (v : Int))) F lo N0 N1 m0 { f with exprs := f.exprs.set i { e with args := e.args.set k v } } ∧ N0 ≤ g ∧ g < N1 ∧ w.frozen? ⟨g, k, none⟩ = false := by
 obtain ⟨m, h1, h2, h3, h4, h5, h6, h7⟩ := h
 obtain ⟨x, hx1, rfl⟩ := h1.ms_at he
 have hc := map_at h5 hx1 hx
 have hav1 : x.av = .slice (some ⟨g, 0, none⟩) len cap := (cellsE_inj hc).1.trans hav
 have hgf : g ∈ m.foot F := mem_foot.2 (.inr (.inr (.inr (.inr (.inr ⟨x, List.mem_of_getElem? hx1, List.mem_append.2 (.inl (mem_ownB.2 (by rw [hav1]; rfl)))⟩)))))
 obtain ⟨a, b, hs1, hs2⟩ := set_split hx1
 have e1 : (m.setE i { x with e := { x.e with args := x.e.args.set k v } }).ms = a ++ { x with e := { x.e with args := x.e.args.set k v } } :: b := hs2 _
 refine ⟨⟨_, h1.setArg hx1 hav1 hk v, h2, h3, h4, ?_, h6, ?_⟩, (h7 g hgf).1, (h7 g hgf).2, ?_⟩
 ·rw [← h5, e1, hs1]
  simp only [List.map_append, List.map_cons]
  rfl
 ·have : (m.setE i { x with e := { x.e with args := x.e.args.set k v } }).foot F = m.foot F := by
   unfold FileM.foot FileM.rest
   rw [e1, hs1]
   simp only [List.flatMap_append, List.flatMap_cons]
   rfl
  rw [this]; exact h7
 ·have ho := (h1.eok x (List.mem_of_getElem? hx1)).args
  rw [hav1] at ho
  obtain ⟨-, ⟨e0, -⟩ | ⟨g', cap', cur, e0, -, h8, -⟩⟩ := ho
  ·cases e0
  ·cases e0
   exact Blk.frozen h8 k
theorem Now.attr {N0 : Nat} (h : Now w F lo N0 N1 m0 f) {i k g len cap : Nat} {x0 : BlM} {b : Bl} {at_ : AtS} (hx : m0.ns[i]? = some x0) (hav : x0.av = .slice (some ⟨g, 0, none⟩) len cap) (he : f.blocks[i]? = some b) (hk : b.attrs[k]? = some at_) (v : Nat) :
  Now (w.setCell ⟨g, k * 3 + 1, none⟩ (.int .i64 (v : Int))) F lo N0 N1 m0 { f with blocks := f.blocks.set i { b with attrs := b.attrs.set k { at_ with e := v } } } ∧ N0 ≤ g ∧ g < N1 ∧ w.frozen? ⟨g, k * 3 + 1, none⟩ = false := by
 obtain ⟨m, h1, h2, h3, h4, h5, h6, h7⟩ := h
 obtain ⟨x, hx1, rfl⟩ := h1.ns_at he
 have hc := map_at h6 hx1 hx
 have hav1 : x.av = .slice (some ⟨g, 0, none⟩) len cap := (cellsB_inj hc).2.1.trans hav
 have hgf : g ∈ m.foot F := mem_foot.2 (.inr (.inr (.inr (.inr (.inl ⟨x, List.mem_of_getElem? hx1, List.mem_append.2 (.inr (List.mem_append.2 (.inl (mem_ownB.2 (by rw [hav1]; rfl)))))⟩)))))
 obtain ⟨a, c, hs1, hs2⟩ := set_split hx1
 have e1 : (m.setB i { x with b := { x.b with attrs := x.b.attrs.set k { at_ with e := v } } }).ns = a ++ { x with b := { x.b with attrs := x.b.attrs.set k { at_ with e := v } } } :: c := hs2 _
 refine ⟨⟨_, h1.setAttr hx1 hav1 hk v, h2, h3, h4, h5, ?_, ?_⟩, (h7 g hgf).1, (h7 g hgf).2, ?_⟩
 ·rw [← h6, e1, hs1]
  simp only [List.map_append, List.map_cons]
  rfl
 ·have : (m.setB i { x with b := { x.b with attrs := x.b.attrs.set k { at_ with e := v } } }).foot F = m.foot F := by
   unfold FileM.foot FileM.rest
   rw [e1, hs1]
   simp only [List.flatMap_append, List.flatMap_cons]
   rfl
  rw [this]; exact h7
 ·have ho := (h1.bok x (List.mem_of_getElem? hx1)).attrs
  rw [hav1] at ho
  obtain ⟨-, ⟨e0, -⟩ | ⟨g', cap', cur, e0, -, h8, -⟩⟩ := ho
  ·cases e0
  ·cases e0
   exact Blk.frozen h8 _
theorem Now.kid {N0 : Nat} (h : Now w F lo N0 N1 m0 f) {i k g len cap : Nat} {x0 : BlM} {b : Bl} (hx : m0.ns[i]? = some x0) (hbv : x0.bv = .slice (some ⟨g, 0, none⟩) len cap) (he : f.blocks[i]? = some b) (hk : k < b.blocks.length) (v : Nat) :
  Now (w.setCell ⟨g, k, none⟩ (.int .i64 (v : Int))) F lo N0 N1 m0 { f with blocks := f.blocks.set i { b with blocks := b.blocks.set k v } } ∧ N0 ≤ g ∧ g < N1 ∧ w.frozen? ⟨g, k, none⟩ = false := by
 obtain ⟨m, h1, h2, h3, h4, h5, h6, h7⟩ := h
 obtain ⟨x, hx1, rfl⟩ := h1.ns_at he
 have hc := map_at h6 hx1 hx
 have hav1 : x.bv = .slice (some ⟨g, 0, none⟩) len cap := (cellsB_inj hc).2.2.trans hbv
 have hgf : g ∈ m.foot F := mem_foot.2 (.inr (.inr (.inr (.inr (.inl ⟨x, List.mem_of_getElem? hx1, List.mem_append.2 (.inr (List.mem_append.2 (.inr (mem_ownB.2 (by rw [hav1]; rfl)))))⟩)))))
 obtain ⟨a, c, hs1, hs2⟩ := set_split hx1
 have e1 : (m.setB i { x with b := { x.b with blocks := x.b.blocks.set k v } }).ns = a ++ { x with b := { x.b with blocks := x.b.blocks.set k v } } :: c := hs2 _
 refine ⟨⟨_, h1.setKid hx1 hav1 hk v, h2, h3, h4, h5, ?_, ?_⟩, (h7 g hgf).1, (h7 g hgf).2, ?_⟩
 ·rw [← h6, e1, hs1]
  simp only [List.map_append, List.map_cons]
  rfl
 ·have : (m.setB i { x with b := { x.b with blocks := x.b.blocks.set k v } }).foot F = m.foot F := by
   unfold FileM.foot FileM.rest
   rw [e1, hs1]
   simp only [List.flatMap_append, List.flatMap_cons]
   rfl
  rw [this]; exact h7
 ·have ho := (h1.bok x (List.mem_of_getElem? hx1)).blocks
  rw [hav1] at ho
  obtain ⟨-, ⟨e0, -⟩ | ⟨g', cap', cur, e0, -, h8, -⟩⟩ := ho
  ·cases e0
  ·cases e0
   exact Blk.frozen h8 _
theorem Now.ex {N0 : Nat} (h : Now w F lo N0 N1 m0 f) {i : Nat} {x0 : ExM} {e : Ex} (hx : m0.ms[i]? = some x0) (he : f.exprs[i]? = some e) :
  ∃ g cap, m0.ev = .slice (some ⟨g, 0, none⟩) f.exprs.length cap ∧ f.exprs.length ≤ cap ∧ ExR w g i e x0.av x0.kv := by
 obtain ⟨m, h1, h2, h3, h4, h5, h6, h7⟩ := h
 obtain ⟨x, hx1, rfl⟩ := h1.ms_at he
 obtain ⟨g, cap, h8, h9, h10⟩ := h1.exm hx1
 obtain ⟨e1, e2⟩ := cellsE_inj (map_at h5 hx1 hx)
 rw [h2] at h8
 rw [e1, e2] at h10
 exact ⟨g, cap, h8, h9, h10⟩
theorem Now.bl {N0 : Nat} (h : Now w F lo N0 N1 m0 f) {i : Nat} {x0 : BlM} {b : Bl} (hx : m0.ns[i]? = some x0) (he : f.blocks[i]? = some b) :
  ∃ g cap, m0.bv = .slice (some ⟨g, 0, none⟩) f.blocks.length cap ∧ f.blocks.length ≤ cap ∧ BlR w g i b x0.lv x0.av x0.bv := by
 obtain ⟨m, h1, h2, h3, h4, h5, h6, h7⟩ := h
 obtain ⟨x, hx1, rfl⟩ := h1.ns_at he
 obtain ⟨g, cap, h8, h9, h10⟩ := h1.blm hx1
 obtain ⟨e1, e2, e3⟩ := cellsB_inj (map_at h6 hx1 hx)
 rw [h3] at h8
 rw [e1, e2, e3] at h10
 exact ⟨g, cap, h8, h9, h10⟩
theorem Now.cellsE {N0 : Nat} (h : Now w F lo N0 N1 m0 f) {i : Nat} {x0 : ExM} {e : Ex} (hx : m0.ms[i]? = some x0) (he : f.exprs[i]? = some e) : x0.cells = [.int .i64 e.k, .string e.x, x0.av, x0.kv, .int .i64 (e.at_ : Int)] := by
 obtain ⟨m, h1, h2, h3, h4, h5, h6, h7⟩ := h
 obtain ⟨x, hx1, rfl⟩ := h1.ms_at he
 have hc := map_at h5 hx1 hx
 obtain ⟨e1, e2⟩ := cellsE_inj hc
 rw [← hc, ← e1, ← e2]
 rfl
theorem Now.cellsB {N0 : Nat} (h : Now w F lo N0 N1 m0 f) {i : Nat} {x0 : BlM} {b : Bl} (hx : m0.ns[i]? = some x0) (he : f.blocks[i]? = some b) : x0.cells = [.string b.t, x0.lv, x0.av, x0.bv, .int .i64 (b.at_ : Int)] := by
 obtain ⟨m, h1, h2, h3, h4, h5, h6, h7⟩ := h
 obtain ⟨x, hx1, rfl⟩ := h1.ns_at he
 have hc := map_at h6 hx1 hx
 obtain ⟨e1, e2, e3⟩ := cellsB_inj hc
 rw [← hc, ← e1, ← e2, ← e3]
 rfl
end
end Go.Proofs.YtljgggohjigaoaaGreatDoor
