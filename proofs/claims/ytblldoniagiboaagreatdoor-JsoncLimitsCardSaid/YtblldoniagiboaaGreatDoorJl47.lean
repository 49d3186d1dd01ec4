/- What the rows' condition on the listed variables gives the walks · The closed facts of JsoncLimits' row, one by one -/
import Derived.Test.YtblldoniagiboaaGreatDoorRows
import Derived.Lib.LaidU8T
import Derived.Shelf.Vars
import Derived.ProofKit
import Derived.LaidMore
import Derived.OpenShut
import Derived.Lay
import Derived.LaidLaws
import Derived.JoinedOf
import Derived.Test.YtblldoniagiboaaGreatDoorCards
import Derived.Test.YtblldoniagiboaaGreatDoorTie
import Derived.SevenTiedAt
import Derived.Stop.Joined
import Derived.Test.YtblldoniagiboaaGreatDoorJl44
namespace Go.Proofs.YtblldoniagiboaaGreatDoor
open Go.ChangeShapes Go.WideShapes Go.ChangeAt Go.WideMaps Go.WideElems Go.RowKit Go.Lib

/-- The seven variables that the rows list. -/
def laidJ : List (String × DataW Unit) := [("math/bits.deBruijn32tab", Rows.laid_math_bits_deBruijn32tab), ("math/bits.deBruijn64tab", Rows.laid_math_bits_deBruijn64tab), ("internal/strconv.uint64pow10", Rows.laid_internal_strconv_uint64pow10), ("unicode/utf8.acceptRanges", Rows.laid_unicode_utf8_acceptRanges), ("strconv.ErrRange", Rows.laid_strconv_ErrRange), ("strconv.ErrSyntax", Rows.laid_strconv_ErrSyntax), ("unicode/utf8.first", Rows.laid_unicode_utf8_first)]
theorem ownJ : ownKnob Tryz.prog.godebug = none := by kernel_rfl
theorem readsJ {W : World} (h : laidMetH Tryz.prog laidJ W) {n : String} {d : DataW Unit} (hm : (n, d) ∈ laidJ) : VarReads Tryz.prog W n d := by
  rw [MakeChecks.laidMetH_plain _ _ _ (by kernel_rfl)] at h
  exact laidMet.reads h hm
set_option maxRecDepth 100000 in
theorem firstJ : (Rows.laid_unicode_utf8_first : DataW Unit) = firstData := by kernel_rfl
set_option maxRecDepth 100000 in
theorem acceptJ : (Rows.laid_unicode_utf8_acceptRanges : DataW Unit) = acceptData := by kernel_rfl
theorem tabsJ {W : World} (h : laidMetH Tryz.prog laidJ W) : Lib.Utf8Tabs 0 1 W := by
  have h3 := readsJ h (n := "unicode/utf8.first") (d := Rows.laid_unicode_utf8_first) (by simp [laidJ])
  have h4 := readsJ h (n := "unicode/utf8.acceptRanges") (d := Rows.laid_unicode_utf8_acceptRanges) (by simp [laidJ])
  rw [firstJ] at h3
  rw [acceptJ] at h4
  exact utf8Tabs_of_readsT (U8Types.of196 Tryz.lays196) ⟨by kernel_rfl, by kernel_rfl, by kernel_rfl, by kernel_rfl, by kernel_rfl, by kernel_rfl, by kernel_rfl⟩ h3 h4
theorem gRangeJ : Tryz.prog.globalNamed "strconv.ErrRange" = some 6 := by kernel_rfl
theorem gSynJ : Tryz.prog.globalNamed "strconv.ErrSyntax" = some 5 := by kernel_rfl
theorem tyRangeJ : (Tryz.prog.globals[ 6 ]?).map (·.type) = some 248 := by kernel_rfl
theorem tySynJ : (Tryz.prog.globals[ 5 ]?).map (·.type) = some 248 := by kernel_rfl
theorem cell_of_var {W : World} {n : String} {g : Nat} {c : Value} (hg : Tryz.prog.globalNamed n = some g) (hv : W.var? Tryz.prog n = some #[c]) : W.cell? ⟨g, 0, none⟩ = some c := by
  unfold World.var? at hv
  rw [hg] at hv
  simp only [Option.bind_some] at hv
  split at hv
  · rename_i cc t fr hh
    obtain rfl := Option.some.inj hv
    simp [World.cell?, hh]
  · cases hv
theorem size_of_shapeJ {P : Program} {w : World} {g : Nat} {t : TypeId} {zero : Array Value} (h : w.ShapedOpen P) (hg : g < P.globals.size)
    (h0 : ((begin P (fun _ _ => 0) default).world.heap[g]?).bind Obj.row? = some (zero, t)) : g < w.heap.size := by
  obtain ⟨cs, hh, _⟩ := h.1 g zero t hg h0
  exact (Array.getElem?_eq_some_iff.1 hh).1
theorem ready_ofJ {W : World} (h : laidMetH Tryz.prog laidJ W) (hs : W.ShapedOpen Tryz.prog) : ReadyJ W := by
  refine ⟨tabsJ h, ?_, ?_, ?_⟩
  · obtain ⟨g, t, cs, fuel, p, hg, hty, hvar, hd⟩ := readsJ h (n := "strconv.ErrSyntax") (d := Rows.laid_strconv_ErrSyntax) (by simp [laidJ])
    obtain rfl := Option.some.inj (gSynJ.symm.trans hg)
    obtain rfl := Option.some.inj (tySynJ.symm.trans hty)
    obtain ⟨f', u, v, hc, -, -⟩ := iface_of_trod Tryz.underlying248 hd
    exact ⟨.iface u v, cell_of_var gSynJ (by rw [hvar]; exact congrArg some (Array.ext' hc)), .inr ⟨u, v, rfl⟩⟩
  · obtain ⟨g, t, cs, fuel, p, hg, hty, hvar, hd⟩ := readsJ h (n := "strconv.ErrRange") (d := Rows.laid_strconv_ErrRange) (by simp [laidJ])
    obtain rfl := Option.some.inj (gRangeJ.symm.trans hg)
    obtain rfl := Option.some.inj (tyRangeJ.symm.trans hty)
    obtain ⟨f', u, v, hc, -, -⟩ := iface_of_trod Tryz.underlying248 hd
    exact ⟨.iface u v, cell_of_var gRangeJ (by rw [hvar]; exact congrArg some (Array.ext' hc)), .inr ⟨u, v, rfl⟩⟩
  · exact size_of_shapeJ (g := 6) (zero := ((begin Tryz.prog (fun _ _ => 0) default).world.heap[6]?.bind Obj.row?).get!.1) (t := ((begin Tryz.prog (fun _ _ => 0) default).world.heap[6]?.bind Obj.row?).get!.2) hs (of_decide_eq_true (by kernel_rfl)) (by kernel_rfl)
/-- The wrap that keeps both a condition on the memory and the world's shape. -/
theorem returns_of {H : Type} {enc : TypeId × Value → H} {a : Assume} {C : Checked} {os : Os} {f : FuncId} {fn : Func} {s : ChangeSpec} {X : World → Prop} (hX : ∀ w w' : World, w.heap = w'.heap → X w → X w')
    (own : ownKnob C.prog.godebug = none) (started : os.Started) (noInit : C.prog.inits.idxOf? f = none) (hfn : C.prog.funcs[f]? = some fn)
    (witness : ∃ (w : World) (tape : Tape) (i : Input), w.os = os ∧ (w.forCall tape i).Shaped C.prog ∧ i.vars = [] ∧ Input.okWide C.prog (w.forCall tape i) .any w.heap.size f i ∧
      ((s.pre enc C.prog fn [] false (w.forCall tape i).memory i.args ∧ X (w.forCall tape i).memory) ∧ sizedMet enc C.prog fn (OpenSpec.ofChange s) false (w.forCall tape i).memory i.args) ∧ a.holds C.prog (lone (Frame.enter C.prog f i.args .normal) [] (w.forCall tape i)))
    (contract : ∀ (W : World) (base : Nat) (args : Array Value) (ds gs : List (DataW H)) (before : List MemPlace), (∀ (j : Nat) t v, fn.params[j]? = some t → args[j]? = some v → Value.okWide C.prog W .any base t v) →
      DataW.Whole enc C.prog fn.params.toList s.vars false W args.toList ds gs before → (DataW.weightsEach C.prog (fn.params.toList ++ s.plain.varTypes C.prog) (ds ++ gs)).all (· ≤ reachBytes) = true → X W → W.ShapedOpen C.prog →
      Calls C.prog f args W fun e W' => ∃ v, e = .returned v ∧ s.post enc C.prog fn false true false false W args v W') :
    ReturnsInHanded a C os f .any (fun w args => (s.pre enc C.prog fn [] false w args ∧ X w) ∧ sizedMet enc C.prog fn (OpenSpec.ofChange s) false w args) (s.post enc C.prog fn false true false false) :=
  returnsInHanded_of_calls own started noInit witness fun w tape i _ hsh _ hok hpre _ => by
    obtain ⟨_, _, _, fn', hfn', _, _, _, _, hval⟩ := hok
    obtain rfl : fn' = fn := Option.some.inj (hfn'.symm.trans hfn)
    obtain ⟨⟨⟨ds, gs, before, hw, _⟩, hx⟩, hz⟩ := hpre
    refine (contract _ w.heap.size i.args ds gs before hval (DataW.Whole.of_heap (w' := w.forCall tape i) (by rfl) hw) (hz.weights hw) (hX _ _ (by rfl) hx) hsh).mono ?_
    rintro e W' ⟨v, rfl, hp⟩
    exact ChangeSpec.post_blind hp
end Go.Proofs.YtblldoniagiboaaGreatDoor
namespace Go.Proofs.YtblldoniagiboaaGreatDoor
set_option maxRecDepth 100000 in
set_option maxHeartbeats 100000000 in
theorem limits_closed : joinedFacts Tryz.prog 6 Tryz.f6 Rows.jsoncLimitsSpec Rows.jsoncLimitsRow = true := by
  unfold joinedFacts
  repeat' (with_reducible refine Bool.and_eq_true_iff.2 ⟨?_, ?_⟩)
  all_goals (as_aux_lemma => kernel_rfl)
#print axioms limits_closed
theorem limits_w : Rows.jsoncLimitsRow.wfByText (OpenSpec.ofChange Rows.jsoncLimitsSpec) = true := by kernel_rfl
#print axioms limits_w
theorem limits_g : false = Rows.jsoncLimitsRow.goesBy Tryz.prog := by kernel_rfl
#print axioms limits_g
theorem limits_lk : true = Tryz.prog.looks [] := by kernel_rfl
#print axioms limits_lk
end Go.Proofs.YtblldoniagiboaaGreatDoor
