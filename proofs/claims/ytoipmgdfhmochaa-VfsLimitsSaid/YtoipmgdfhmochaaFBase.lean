/- A file system in memory: what it has, and how it lies. -/
import Derived.Test.YtoipmgdfhmochaaLBase
import Derived.Test.YtoipmgdfhmochaaShelf
import Derived.Handy
import Derived.StringKeys
import Derived.Deep.LoopGhost
import Derived.Laws.AppendOwn
import Derived.OwnWalk
import Derived.Deep.AppendLies
import Derived.Deep.RegionWith
import Derived.Deep.RegionHeld
import Derived.Deep.RegionHeld3
import Derived.Deep.QuietTactic
import Derived.BigQuiet
import Derived.Deep.DeepCutAuto
import Derived.Maps.OwnSet
import Derived.Maps.OwnOps
import Derived.Laws.Tables
namespace Go.Proofs.Ytoipmgdfhmochaa
open Go.RowKit Go.Shelf
set_option linter.unusedVariables false
set_option linter.unusedSimpArgs false

/-- A file: its bytes, what outlives, whether anything does. -/
structure FV where
  data : List UInt8
  safe : List UInt8
  ok : Bool
/-- A file system. -/
structure FS where
  C : List UInt8 → Option FV
  n : Nat
  steps : Nat
  armed : Bool
  ahead : Nat
  dead : Bool
def FS.put (s : FS) (x : List UInt8) (f : FV) : FS := { s with C := fun y => if y = x then some f else s.C y, n := if (s.C x).isSome then s.n else s.n + 1 }
def FS.del (s : FS) (x : List UInt8) : FS := { s with C := fun y => if y = x then none else s.C y, n := if (s.C x).isSome then s.n - 1 else s.n }
abbrev numsOf (L : List UInt8) : List Int := L.map fun b => (b.toNat : Int)
/-- A slice of bytes that is read. -/
def BR (w : World) (v : Value) (L : List UInt8) : Prop := ∃ a c, v = .slice a L.length c ∧ L.length ≤ 140737488355328 ∧ L.length ≤ c ∧ ((a = none ∧ L = []) ∨ ∃ ad, a = some ad ∧ ad.block < w.heap.size ∧ ∀ i, i < L.length → w.cell? (ad.add i) = some (.int .u8 ((numsOf L).getD i 0)))
theorem add_block (a : Addr) (i : Nat) : (a.add i).block = a.block := by
  unfold Addr.add
  split <;> rfl
theorem BR.below {w w' : World} {v : Value} {L : List UInt8} (h : BR w v L) (hb : Below w.heap.size w w') : BR w' v L := by
  obtain ⟨a, c, h1, h2, h3, h4⟩ := h
  refine ⟨a, c, h1, h2, h3, ?_⟩
  rcases h4 with h4 | ⟨ad, h4, h5, h6⟩
  · exact .inl h4
  · exact .inr ⟨ad, h4, Nat.lt_of_lt_of_le h5 hb.size, fun i hi => cells_keep hb (h6 i hi)⟩
theorem BR.nil (w : World) : BR w (.slice none 0 0) [] := ⟨none, 0, rfl, by simp, by simp, .inl ⟨rfl, rfl⟩⟩
/-- All bytes that were read are read still. -/
def KB (w w' : World) : Prop := ∀ v L, BR w v L → BR w' v L
theorem KB.trans {a b c : World} (h : KB a b) (k : KB b c) : KB a c := fun v L hv => k v L (h v L hv)
theorem KB.of {w w' : World} (hb : Below w.heap.size w w') : KB w w' := fun v L hv => hv.below hb
def FileIs (w : World) (v : Value) (f : FV) : Prop := ∃ dv sv, v = .agg #[dv, sv, .bool f.ok] ∧ BR w dv f.data ∧ BR w sv f.safe
theorem FileIs.below {w w' : World} {v : Value} {f : FV} (h : FileIs w v f) (hb : Below w.heap.size w w') : FileIs w' v f := by
  obtain ⟨dv, sv, h1, h2, h3⟩ := h
  exact ⟨dv, sv, h1, h2.below hb, h3.below hb⟩
def Rf (v : Value) : Option (DataW Value × List MemPlace) := some (.held v, [])
theorem FileIs.kb {w w' : World} {v : Value} {f : FV} (h : FileIs w v f) (hb : KB w w') : FileIs w' v f := by
  obtain ⟨dv, sv, h1, h2, h3⟩ := h
  exact ⟨dv, sv, h1, hb _ _ h2, hb _ _ h3⟩
structure MapAt (w : World) (b : Nat) (C : List UInt8 → Option FV) (n : Nat) (D : DataW Value) : Prop where
  own : w.ownsMap Try.prog 9 Rf b n D
  size : Maps.size D = n
  has : ∀ x, Maps.has D (.string x) = (C x).isSome
  file : ∀ x f, C x = some f → ∃ v, (∀ z, D.atKey (.string x) z = .held v) ∧ FileIs w v f
  short : ∀ x, (C x).isSome = true → x.length ≤ 1000000
structure FsAt (w : World) (lo p : Nat) (s : FS) : Prop where
  lop : lo ≤ p
  is : ∃ b D, lo ≤ b ∧ Blk w p #[.map (some b), .int .i64 (s.steps : Int), .bool s.armed, .int .i64 (s.ahead : Int), .bool s.dead] 64 ∧ MapAt w b s.C s.n D
section
variable {w w' : World} {lo p b n : Nat} {s : FS} {C : List UInt8 → Option FV} {D : DataW Value}
theorem own_keep {k : TypeId} (h : w.ownsMap Try.prog k Rf b n D) (hb : w'.heap[b]? = w.heap[b]?) : w'.ownsMap Try.prog k Rf b n D := by
  obtain ⟨es, clock, h1, h2⟩ := h
  exact ⟨es, clock, hb.trans h1, h2⟩
theorem own_tight {k : TypeId} (h : w.ownsMap Try.prog k Rf b n D) : w.ownsMap Try.prog k Rf b (Maps.size D) D := by
  obtain ⟨es, clock, h1, h2, h3, rfl⟩ := h
  exact ⟨es, clock, h1, h2, by simp [Maps.size, length_sorted], rfl⟩
theorem MapAt.below (h : MapAt w b C n D) (hb : Below w.heap.size w w') : MapAt w' b C n D :=
  ⟨own_keep h.own (hb.block b h.own.lt), h.size, h.has, fun x f hx => by
    obtain ⟨v, h1, h2⟩ := h.file x f hx
    exact ⟨v, h1, h2.below hb⟩, h.short⟩
theorem FsAt.below (h : FsAt w lo p s) (hb : Below w.heap.size w w') : FsAt w' lo p s := by
  obtain ⟨h0, b, D, h1, h2, h3⟩ := h
  exact ⟨h0, b, D, h1, h2.below hb, h3.below hb⟩
theorem FsAt.mono (h : FsAt w lo p s) {lo' : Nat} (hl : lo' ≤ lo) : FsAt w lo' p s := by
  obtain ⟨h0, b, D, h1, h2, h3⟩ := h
  exact ⟨by omega, b, D, by omega, h2, h3⟩
end
theorem keyed : Maps.Keyed Try.prog 9 := Maps.string_keyed Try.underlying9
theorem key_of {s : ByteArray} (h : s.size ≤ 9223372036854775807) : keyOf Try.prog 9 (.string s) = some (.string s.data.toList) := Go.WideMaps.keyOf_string_mk Try.underlying9 (by unfold maxLen; omega)
abbrev file0 : Value := .agg #[.slice none 0 0, .slice none 0 0, .bool false]
theorem zero_file0 : (Try.prog.info? 72).bind (·.zero) = some file0 := by kernel_rfl
theorem zero_file (w : World) : (zeroValue 72).run Try.prog w = .ok file0 w := by
  have h := zero_file0
  cases hi : Try.prog.info? 72 with
  | none => rw [hi] at h; cases h
  | some i =>
    rw [hi] at h
    have hz : i.zero = some file0 := h
    simp [zeroValue, typeInfo, hi, hz]
theorem file_is0 (w : World) : FileIs w file0 ⟨[], [], false⟩ := ⟨_, _, rfl, BR.nil w, BR.nil w⟩
end Go.Proofs.Ytoipmgdfhmochaa
