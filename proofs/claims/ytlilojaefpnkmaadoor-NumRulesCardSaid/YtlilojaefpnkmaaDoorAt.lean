/- Contracts from one world on. -/
import Derived.Test.YtlilojaefpnkmaaDoorAwake
namespace Go.Proofs.YtlilojaefpnkmaaDoor
open Go.RowKit

/-- From w on, whatever has been allotted since: the call answers v, and nothing older is written. -/
def At (w : World) (F : Nat) (args : Array Value) (v : Value) : Prop := ∀ W, Below w.heap.size w W → Calls Tryd.prog F args W fun e w' => e = .returned v ∧ Below w.heap.size w w'

section
variable {w : World}
theorem At.of {F : Nat} {args : Array Value} {v : Value} (h : ∀ W, Below w.heap.size w W → Calls Tryd.prog F args W fun e w' => e = .returned v ∧ Below W.heap.size W w') : At w F args v :=
  fun W hb => (h W hb).mono fun _ _ ⟨h1, h2⟩ => ⟨h1, hb.trans (h2.mono hb.size)⟩
theorem At.two {F : Nat} {op : Int → Int → Int} (h : Two F op) (ht : Tab w.heap.size w) {a b : Int} (ha : Fits a) (hb : Fits b) (hf : Fits (op a b)) : At w F #[.string (str a), .string (str b)] (.tuple #[.string (str (op a b)), .int .i64 0]) :=
  At.of fun W hW => by
    have := h.2 a b W ha hb (ht.on hW)
    rw [if_pos hf, if_pos hf] at this
    exact this
theorem At.long {F : Nat} {op : Int → Int → Int} (h : Two F op) (ht : Tab w.heap.size w) {a b : Int} (ha : Fits a) (hb : Fits b) (hf : ¬ Fits (op a b)) : At w F #[.string (str a), .string (str b)] (.tuple #[.string ⟨#[]⟩, .int .i64 3]) :=
  At.of fun W hW => by
    have := h.2 a b W ha hb (ht.on hW)
    rw [if_neg hf, if_neg hf] at this
    exact this
theorem At.bad {F : Nat} {op : Int → Int → Int} (h : Two F op) {s t : ByteArray} (hf : goodB s.data.toList = false ∨ goodB t.data.toList = false) : At w F #[.string s, .string t] (.tuple #[.string ⟨#[]⟩, .int .i64 6]) :=
  At.of fun W _ => h.1 s t W hf
theorem At.good (s : ByteArray) : At w 13 #[.string s] (.bool (goodB s.data.toList)) :=
  fun W hW => (Good_any s W).mono fun _ _ ⟨h1, h2⟩ => ⟨h1, h2 ▸ hW⟩
theorem At.awake (ht : Tab w.heap.size w) : At w 10 #[] (.bool true) := At.of fun _ hW => awake_any (ht.on hW)
theorem At.div (ht : Tab w.heap.size w) {a b : Int} (ha : Fits a) (hb : Fits b) (hb0 : b ≠ 0) : At w 20 #[.string (str a), .string (str b)] (.tuple #[.string (str (a.tdiv b)), .string (str (a.tmod b)), .int .i64 0]) := At.of fun _ hW => Div_good ha hb hb0 (ht.on hW)
theorem At.divZero {a : Int} (ha : Fits a) : At w 20 #[.string (str a), .string ⟨#[48]⟩] (.tuple #[.string ⟨#[]⟩, .string ⟨#[]⟩, .int .i64 10]) := At.of fun _ _ => Div_zero ha
theorem At.divBad {s t : ByteArray} (h : goodB s.data.toList = false ∨ goodB t.data.toList = false) : At w 20 #[.string s, .string t] (.tuple #[.string ⟨#[]⟩, .string ⟨#[]⟩, .int .i64 6]) := At.of fun _ _ => Div_bad h
theorem At.cmp {a b : Int} (ha : Fits a) (hb : Fits b) : At w 21 #[.string (str a), .string (str b)] (.int .i64 (sgnI a b)) := At.of fun _ _ => Cmp_good ha hb
theorem At.cmpBad {s t : ByteArray} (h : goodB s.data.toList = false ∨ goodB t.data.toList = false) : At w 21 #[.string s, .string t] (.int .i64 0) := At.of fun _ _ => Cmp_bad h
end
theorem s0 : (⟨#[48]⟩ : ByteArray) = str 0 := str_zero.symm
theorem Fits.neg {a : Int} (h : Fits a) : Fits (-a) := by unfold Fits at *; omega
theorem str_eq0 {b : Int} (h : b ≠ 0) : ((str b).toList == [48]) = false := by
  rw [beq_eq_false_iff_ne]
  intro h'
  rw [ByteArray.toList_eq, str_list, ← itoa_zero] at h'
  exact h (itoa_inj h')
end Go.Proofs.YtlilojaefpnkmaaDoor
