/- Whether a file is there; a file is put. -/
import Derived.Test.YtoipmgdfhmochaaFPath
namespace Go.Proofs.Ytoipmgdfhmochaa
open Go.RowKit Go.Shelf
set_option linter.unusedVariables false
set_option linter.unusedSimpArgs false

/-- A file is looked up. -/
theorem MapAt.look {w : World} {b n : Nat} {C : List UInt8 → Option FV} {D : DataW Value} (h : MapAt w b C n D) {s : ByteArray} (hs : s.size ≤ 9223372036854775807) :
    ∃ dn dl dc sn sl sc ok, (Instr.lookup 62 (.map (some b)) (.string s) true).run Try.prog w = .ok (.tuple #[.agg #[.slice dn dl dc, .slice sn sl sc, .bool ok], .bool (C s.data.toList).isSome]) w ∧
      (Instr.lookup 62 (.map (some b)) (.string s) false).run Try.prog w = .ok (.agg #[.slice dn dl dc, .slice sn sl sc, .bool ok]) w ∧
      FileIs w (.agg #[.slice dn dl dc, .slice sn sl sc, .bool ok]) ((C s.data.toList).getD ⟨[], [], false⟩) := by
  obtain ⟨v, ps, hr, hv⟩ := h.own.look_ok keyed Try.underlying62 (zero_file w) (zd := .held file0) (zp := []) rfl (key_of hs)
  obtain ⟨v', ps', hr', hv'⟩ := h.own.lookup keyed Try.underlying62 (zero_file w) (zd := .held file0) (zp := []) rfl (key_of hs)
  have e1 : DataW.held v = D.atKey (.string s.data.toList) (.held file0) := by
    exact congrArg Prod.fst (Option.some.inj hv)
  have e2 : DataW.held v' = D.atKey (.string s.data.toList) (.held file0) := by
    exact congrArg Prod.fst (Option.some.inj hv')
  have e3 : v' = v := DataW.held.inj (e2.trans e1.symm)
  subst e3
  have hf : FileIs w v' ((C s.data.toList).getD ⟨[], [], false⟩) := by
    cases hc : C s.data.toList with
    | none =>
      have hn := h.has s.data.toList
      rw [hc] at hn
      rw [Maps.atKey_of_not_has hn] at e1
      obtain rfl := DataW.held.inj e1
      exact file_is0 w
    | some f =>
      obtain ⟨v2, h1, h2⟩ := h.file _ f hc
      rw [h1] at e1
      obtain rfl := DataW.held.inj e1
      exact h2
  rw [h.has] at hr
  obtain ⟨dv, sv, rfl, ⟨a1, c1, rfl, h1⟩, ⟨a2, c2, rfl, h2⟩⟩ := id hf
  exact ⟨_, _, _, _, _, _, _, hr, hr', hf⟩
set_option maxRecDepth 100000 in
theorem has_any {W : World} {lo p : Nat} {s : FS} (h : FsAt W lo p s) (x : ByteArray) (hx : x.size ≤ 1000000) : Calls Try.prog 48 #[.pointer (some ⟨p, 0, none⟩), .string x] W fun e w' => e = .returned (.bool (s.C x.data.toList).isSome) ∧ Below W.heap.size W w' := by
  obtain ⟨h0, b, D, h1, hb, hm⟩ := h
  obtain ⟨dn, dl, dc, sn, sl, sc, ok, hlk, -, -⟩ := hm.look (s := x) (by omega)
  have k0 := hb.cell 0
  go_enter Try.func48, Try.ntmps48
  go_wp2_with fail
  go_ret
  refine ⟨rfl, ?_⟩
  exact below_new _ _
end Go.Proofs.Ytoipmgdfhmochaa
