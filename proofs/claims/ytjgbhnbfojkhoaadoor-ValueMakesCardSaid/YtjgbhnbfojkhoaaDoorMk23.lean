/- Places of any number of keys, sorted -/
import Derived.Shelf.SlSortCmp.Whole1
import Derived.Test.YtjgbhnbfojkhoaaDoorMk09
import Derived.Test.YtjgbhnbfojkhoaaDoorMk22
namespace Go.Proofs.YtjgbhnbfojkhoaaDoor
open Go.RowKit Go.Sort Go.Shelf
set_option linter.unusedVariables false

theorem below_grow (W : World) (os : Array Obj) : Below W.heap.size W (grow W os) := ⟨rfl, rfl, rfl, by simp, fun g h => heap_grow_old W os h⟩
set_option maxHeartbeats 1000000 in
theorem sort_any {w W : World} {kv : Value} {ks : List ByteArray} (h0 : 0 < ks.length) (hn : ks.length ≤ 1000000) (hk : StrsAt w.heap.size w kv ks) (hb : Below w.heap.size w W)
    (hr : W.ownsRow w.heap.size 3 1 (.slice (some ⟨w.heap.size + 1, 0, none⟩) ks.length ks.length) ks.length (counted ks.length ks.length)) (hc : W.cell? ⟨w.heap.size, 0, none⟩ = some kv) :
    Calls Tryd.prog 47 #[.slice (some ⟨w.heap.size + 1, 0, none⟩) ks.length ks.length, .func (.func 48) #[] #[.pointer (some ⟨w.heap.size, 0, none⟩)] ] W fun e w' => e = .returned (.tuple #[]) ∧ SortedAt w ks w' := by
  letI hI : Inhabited (Fin ks.length) := ⟨⟨0, h0⟩⟩
  have eg : ∀ args w, (callFunc 48 args).run Tryd.prog w = .ok (.enter 48 args) w := enters_of Tryd.func48 (by kernel_rfl) rfl
  rw [counted_fin] at hr
  obtain ⟨g, cap, e1, -, hg, -, -, -, hH⟩ := Lib.holds_of_ownsRow hr (by intro h; cases h)
  cases e1
  have hcm : CmpReads Tryd.prog 48 #[.pointer (some ⟨w.heap.size, 0, none⟩)] (encFin ks.length) (byKey ks) (w.heap.size + 1) 0 (List.finRange ks.length).toArray.size W := fun m os dk hs x y =>
    closure_any (B := w.heap.size) (C := w.heap.size) x y ((hk.below hb).sorts _ _ _ _ _ _ (by omega) hb.size) ((sortWorld_other _ W _ _ _ _ _ ⟨w.heap.size, 0, none⟩ (by show w.heap.size ≠ w.heap.size + 1; omega) (by show w.heap.size < W.heap.size; omega)).trans hc)
  have hsz : (List.finRange ks.length).toArray.size = ks.length := by simp
  have hcon := Any.slices_SortFunc Tryd.laysSlF6_f47 (encFin ks.length) (fun _ => rfl) (byKey ks) (byKey_swo ks) 48 #[.pointer (some ⟨w.heap.size, 0, none⟩)] (w.heap.size + 1) 0 ks.length (List.finRange ks.length).toArray W eg hcm.lays hH hg (by rw [hsz]; omega)
  rw [hsz] at hcon
  refine Calls.mono hcon ?_
  rintro e w' ⟨rfl, d', n, os, hp, hso, rfl⟩
  have hbA : Below w.heap.size w (Sort.ahead W n) := ⟨hb.os, hb.tape, hb.output, hb.size, hb.block⟩
  have hrA : (Sort.ahead W n).ownsRow w.heap.size 3 1 (.slice (some ⟨w.heap.size + 1, 0, none⟩) ks.length ks.length) ks.length ((List.finRange ks.length).map (encFin ks.length)) := hr
  have hq := Lib.below_putRow (enc := encFin ks.length) (g := w.heap.size + 1) (q := 0) (d := d') hbA (by omega)
  have hl : d'.toList.length = ks.length := by rw [Array.length_toList, hp.1, hsz]
  have ho := Lib.ownsRow_putRow (q := 0) (ys := d'.toList) hrA hl (Nat.le_refl _)
  rw [List.take_of_length_le (by omega)] at ho
  have hgr := below_grow (putRow (encFin ks.length) (Sort.ahead W n) (w.heap.size + 1) 0 d') os
  exact ⟨rfl, hI, d', hp, hso, hq.trans (hgr.mono hq.size), row_below ho hgr⟩

/-- The places of a sorted row. -/
theorem places_of {ks : List ByteArray} (hI : Inhabited (Fin ks.length)) {d' : Array (Fin ks.length)} (hp : PermIn 0 ks.length (List.finRange ks.length).toArray d') (hs : SortedIn (ltOf (byKey ks)) 0 ks.length d') : PlacesOk ks (d'.toList.map Fin.val) := by
  have hsz : d'.size = ks.length := by rw [hp.1]; simp
  have hpm : d'.toList.Perm (List.finRange ks.length) := by
    have h := hp.2.2
    simp at h
    rwa [List.take_of_length_le (by rw [Array.length_toList]; omega), List.take_of_length_le (by simp)] at h
  refine ⟨?_, fun i j hij hj => ?_⟩
  · have h1 := hpm.map Fin.val
    have h2 : (List.finRange ks.length).map Fin.val = List.range ks.length := by
      apply List.ext_getElem
      · simp
      · intro i h1 h2; simp
    rwa [h2] at h1
  · have hjl : j < d'.size := by simpa using hj
    have h3 : ltOf (byKey ks) d'[j]! d'[i]! = false := hs i j (by omega) hij (by omega)
    rw [byKey_lt] at h3
    rw [getElem!_pos d' j hjl, getElem!_pos d' i (by omega)] at h3
    have e1 : (d'.toList.map Fin.val).getD j 0 = (d'[j]).val := by simp [List.getD, hjl]
    have e2 : (d'.toList.map Fin.val).getD i 0 = (d'[i]'(by omega)).val := by simp [List.getD, show i < d'.size by omega]
    rw [e1, e2]
    have f1 : ks.getD (d'[j]).val ⟨#[]⟩ = ks[(d'[j]).val] := by simp [List.getD]
    have f2 : ks.getD (d'[i]'(by omega)).val ⟨#[]⟩ = ks[(d'[i]'(by omega)).val] := by simp [List.getD]
    rw [f1, f2]
    exact h3
theorem places_any {w : World} {kv : Value} {ks : List ByteArray} (h0 : 0 < ks.length) (hn : ks.length ≤ 1000000) (hk : StrsAt w.heap.size w kv ks) : Calls Tryd.prog 29 #[kv] w fun e w' => ∃ ps, PlacesOk ks ps ∧ e = .returned (.slice (some ⟨w.heap.size + 1, 0, none⟩) ks.length ks.length) ∧ Below w.heap.size w w' ∧ w.heap.size + 1 < w'.heap.size ∧ ∀ j, j < ks.length → w'.cell? ⟨w.heap.size + 1, j, none⟩ = some (.int .i64 ((ps.getD j 0 : Nat) : Int)) := by
  refine places_loop hk h0 hn _ (fun W hb hr hc => ?_)
  refine (sort_any h0 hn hk hb hr hc).mono ?_
  rintro e w' ⟨rfl, hI, d', hp, hs, hb2, ho⟩
  have hsz : d'.size = ks.length := by rw [hp.1]; simp
  refine ⟨rfl, _, places_of hI hp hs, rfl, hb2, (World.ownsRow.lt ho _ rfl).2, fun j hj => ?_⟩
  have h1 := World.ownsRow.cells ho (g := w.heap.size + 1) rfl j (.int .i64 (((d'.toList.map Fin.val).getD j 0 : Nat) : Int)) (by
    rw [List.getElem?_map, List.getElem?_eq_getElem (by simp; omega)]
    simp [encFin, List.getD, show j < d'.size by omega])
  rw [Lib.add_plain, Nat.zero_add] at h1
  exact h1
/-- value.Object of as many items as keys, at least one. -/
theorem object_any {w : World} {kv iv : Value} {ks : List ByteArray} {xs : List It} (hk : StrsAt w.heap.size w kv ks) (hx : ItemsAt w.heap.size w iv xs) (hsm : ∀ e ∈ xs, smallT e.T) (hl : xs.length = ks.length) (h0 : 0 < ks.length) (hbig : ks.length ≤ 1000000) :
    Calls Tryd.prog 9 #[kv, iv] w fun e w' => ObjectEnds w ks (xs.map It.T) (PlacesOk ks) e w' := by
  refine object_gen (fun ps h => ?_) hk hx hsm hl h0 hbig (Lib.hid (fun W hb => places_any h0 hbig ((hk.below hb).mono hb.size)))
  have hlen : ps.length = ks.length := by rw [h.1.length_eq, List.length_range]
  refine ⟨hlen, fun k hk => ?_⟩
  have : ps.getD k 0 ∈ ps := by rw [show ps.getD k 0 = ps[k] by simp [List.getD, hk]]; exact List.getElem_mem hk
  exact List.mem_range.1 (h.1.mem_iff.1 this)
end Go.Proofs.YtjgbhnbfojkhoaaDoor
