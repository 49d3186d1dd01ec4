/- placesInOrder: the closure; the places of keys, sorted. -/
import Derived.Test.YthmojhfakmdlfaaDoorVSearch
import Derived.Test.YthmojhfakmdlfaaDoorShelf
import Derived.Deep.QuietTactic
import Derived.BigQuiet
namespace Go.Proofs.YthmojhfakmdlfaaDoor
open Go.RowKit Go.Sort Go.Shelf
set_option linter.unusedVariables false

/-- How places are compared: by their keys. -/
def byKey (ks : List ByteArray) (x y : Fin ks.length) : Int := Lib.compareBytes ks[x].data.toList ks[y].data.toList

set_option maxRecDepth 100000 in
set_option maxHeartbeats 1000000 in
/-- The closure: in whatever world the variable holds the keys. -/
theorem closure_any {B C : Nat} {W : World} {kv : Value} {ks : List ByteArray} (x y : Fin ks.length) (hk : StrsAt B W kv ks) (hc : W.cell? ⟨C, 0, none⟩ = some kv) :
    Calls Tryd.prog 48 #[.int .i64 (x.val : Int), .int .i64 (y.val : Int), .pointer (some ⟨C, 0, none⟩)] W fun e w' => e = .returned (.int .i64 (byKey ks x y)) ∧ ∃ q, w' = W.drewN q := by
  obtain ⟨ad, cap, rfl, hnc, hcap, hs⟩ := hk
  obtain ⟨x, hx⟩ := x
  obtain ⟨y, hy⟩ := y
  obtain ⟨g, o, rfl, -, hcs⟩ := hs (by omega)
  have hcx := hcs x hx
  have hcy := hcs y hy
  have HB := Lib.hid (fun W => Tryd.strings_Compare ks[x] ks[y] W)
  have e : byKey ks ⟨x, hx⟩ ⟨y, hy⟩ = Lib.compareBytes ks[x].data.toList ks[y].data.toList := rfl
  rw [e]
  obtain ⟨kx, hkx⟩ : ∃ k, ks[x] = k := ⟨_, rfl⟩
  obtain ⟨ky, hky⟩ : ∃ k, ks[y] = k := ⟨_, rfl⟩
  rw [hkx] at hcx
  rw [hky] at hcy
  rw [hkx, hky] at HB
  simp only [hkx, hky]
  generalize Lib.compareBytes kx.data.toList ky.data.toList = z at HB ⊢
  obtain ⟨n, hn⟩ : ∃ n, ks.length = n := ⟨_, rfl⟩
  simp only [hn] at hx hy hnc hc ⊢
  have b1 : (0 : Int) ≤ (x : Int) := by omega
  have b2 : (x : Int) < (n : Int) := by omega
  have b3 : (0 : Int) ≤ (y : Int) := by omega
  have b4 : (y : Int) < (n : Int) := by omega
  clear hs hcs e hkx hky
  go_enter Tryd.func48, Tryd.ntmps48
  go_wp2_with fail
  go_quiet ((go_at_call 42; refine Calls.quiet_of_same (HB.out _)))
  go_wp2
  go_ret
  exact ⟨rfl, _, rfl⟩

theorem Tryd.infoI64 : (Tryd.prog.info? 3).map (fun i => (i.zero, i.size, i.bytes)) = some (some (.int .i64 0), 1, 8) := by kernel_rfl
/-- Places counted, k of n. -/
def counted (n k : Nat) : List Value := (List.range k).map (fun j : Nat => Value.int .i64 (j : Int)) ++ List.replicate (n - k) (.int .i64 0)
theorem counted_length {n k : Nat} (h : k ≤ n) : (counted n k).length = n := by simp [counted]; omega
theorem counted_zero (n : Nat) : counted n 0 = List.replicate n (.int .i64 0) := by simp [counted]
theorem counted_step {n k : Nat} (h : k < n) : (counted n k).set k (.int .i64 (k : Int)) = counted n (k + 1) := by
  apply List.ext_getElem
  · rw [List.length_set, counted_length (by omega), counted_length (by omega)]
  · intro i h1 h2
    rw [List.getElem_set]
    simp only [counted, List.getElem_append, List.length_map, List.length_range, List.getElem_map, List.getElem_range, List.getElem_replicate]
    split
    · rename_i he; subst he; simp
    · split <;> split <;> first | rfl | omega
theorem counted_full (n : Nat) : counted n n = (List.range n).map (fun j : Nat => Value.int .i64 (j : Int)) := by simp [counted]

set_option maxRecDepth 100000 in
set_option maxHeartbeats 2000000 in
theorem places_loop {w : World} {kv : Value} {ks : List ByteArray} (hk : StrsAt w.heap.size w kv ks) (h0 : 0 < ks.length) (hn : ks.length ≤ 1000000) (Q : Ending → World → Prop)
    (hs : ∀ W, Below w.heap.size w W → W.ownsRow w.heap.size 3 1 (.slice (some ⟨w.heap.size + 1, 0, none⟩) ks.length ks.length) ks.length (counted ks.length ks.length) → W.cell? ⟨w.heap.size, 0, none⟩ = some kv →
      Calls Tryd.prog 47 #[.slice (some ⟨w.heap.size + 1, 0, none⟩) ks.length ks.length, .func (.func 48) #[] #[.pointer (some ⟨w.heap.size, 0, none⟩)] ] W fun e w' => e = .returned (.tuple #[]) ∧ Q (.returned (.slice (some ⟨w.heap.size + 1, 0, none⟩) ks.length ks.length)) w') :
    Calls Tryd.prog 29 #[kv] w Q := by
  obtain ⟨i0, hi, hz0, hz1, hz2⟩ := info_parts Tryd.infoI64
  obtain ⟨ad, cap, rfl, hnc, hcap, hc⟩ := hk
  have HS := Lib.hid hs
  obtain ⟨n, hnn⟩ : ∃ n, ks.length = n := ⟨_, rfl⟩
  rw [hnn] at HS h0 hn hnc ⊢
  clear hs hc hnn
  have HK0 := Blk.new w #[.slice ad n cap] 24
  have HB0 := below_new w (.cells #[.slice ad n cap] 24)
  go_enter Tryd.func29, Tryd.ntmps29
  go_wp2_with (at_make; refine wpList_make_full _ rfl _ _ 50 rfl w.heap.size 3 i0 (.int .i64 0) 1 Tryd.underlying50 hi hz0 hz1 .i64 .i64 n n n rfl rfl rfl rfl (by rw [hz2]; omega) (by unfold maxLen; omega) (by simp) ?_; intro w1 hown1 hgrow1; have hb1 := (Below.refl (w.alloc (.cells #[.slice ad n cap] 24)).heap.size (w.alloc (.cells #[.slice ad n cap] 24))).grown hgrow1 (Nat.le_refl _) (fun k hk => by cases hk); have hk1 := HK0.below hb1; have hc0 := hk1.cell 0)
  rw [show (w.alloc (.cells #[.slice ad n cap] 24)).heap.size = w.heap.size + 1 by simp, Nat.mul_one] at hown1
  have hrow1 : w1.ownsRow w.heap.size 3 1 (.slice (some ⟨w.heap.size + 1, 0, none⟩) n n) n (counted n 0) := by
    rw [counted_zero]
    have e := toList_madeCells_one (.int .i64 0) n
    rw [← e]
    exact hown1
  have HB1 : Hid (Below w.heap.size w w1) := Lib.hid (HB0.trans (hb1.mono HB0.size))
  clear hgrow1 hb1 hown1
  go_loopw [4, 10] (fun _ iv wr => ∃ k : Nat, iv = .int .i64 k ∧ k ≤ n ∧ Hid (wr.ownsRow w.heap.size 3 1 (.slice (some ⟨w.heap.size + 1, 0, none⟩) n n) n (counted n k)) ∧ Hid (Below w.heap.size w wr) ∧ Hid (Blk wr w.heap.size #[.slice ad n cap] 24)) (fun _ iv _ => n - (intOf iv).toNat)
  case atStart => exact ⟨0, rfl, by omega, Lib.hid hrow1, HB1, Lib.hid hk1⟩
  case round =>
    obtain ⟨k, rfl, hk, HR, HB, HK⟩ := hrel
    clear hrow1 hk1 hc0
    by_cases hlt : k < n
    · have hfr := World.ownsRow.frozenAt HR.out k
      have hcell : wr.cell? ⟨w.heap.size + 1, k, none⟩ = some ((counted n k)[k]'(by rw [counted_length (by omega)]; exact hlt)) := by
        have := World.ownsRow.cells HR.out (g := w.heap.size + 1) rfl k _ (List.getElem?_eq_getElem (by rw [counted_length (by omega)]; exact hlt))
        rwa [Lib.add_plain, Nat.zero_add] at this
      generalize (counted n k)[k]'(by rw [counted_length (by omega)]; exact hlt) = old at hcell
      go_wp2
      go_roundw
      case rel =>
        refine ⟨k + 1, by go_num, by omega, Lib.hid ?_, Lib.hid (HB.out.setCell (p := ⟨w.heap.size + 1, k, none⟩) (by simp) _), Lib.hid (HK.out.other (p := ⟨w.heap.size + 1, k, none⟩) (by simp) _)⟩
        have h1 := (World.ownsRow.stored HR.out k (.int .i64 (k : Int))).1
        rw [counted_step hlt] at h1
        exact h1
      case measure => simp [intOf]; omega
    · obtain rfl : k = n := by omega
      have hc1 := HK.out.cell 0
      have HC := HS.out wr HB.out HR.out hc1
      have HCH := Lib.hid HC
      clear HC
      go_wp2_with (go_at_call 47; refine HCH.out.mono ?_; rintro e w2 ⟨rfl, hq⟩)
      exact hq
end Go.Proofs.YthmojhfakmdlfaaDoor
