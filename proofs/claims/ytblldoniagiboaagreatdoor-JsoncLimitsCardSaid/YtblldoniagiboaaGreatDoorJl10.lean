/- placesInOrder: the closure; the places of keys, sorted · Places of at most 12 keys, sorted -/
import Derived.Deep.QuietTactic
import Derived.BigQuiet
import Derived.Lib.OwnBridge
import Derived.Test.YtblldoniagiboaaGreatDoorJl04
import Derived.Test.YtblldoniagiboaaGreatDoorJl05
namespace Go.Proofs.YtblldoniagiboaaGreatDoor
open Go.RowKit Go.Sort Go.Shelf
set_option linter.unusedVariables false

/-- How places are compared: by their keys. -/
def byKey (ks : List ByteArray) (x y : Fin ks.length) : Int := Lib.compareBytes ks[x].data.toList ks[y].data.toList

set_option maxRecDepth 100000 in
set_option maxHeartbeats 1000000 in
/-- The closure: in whatever world the variable holds the keys. -/
theorem closure_any {B C : Nat} {W : World} {kv : Value} {ks : List ByteArray} (x y : Fin ks.length) (hk : StrsAt B W kv ks) (hc : W.cell? ⟨C, 0, none⟩ = some kv) :
    Calls Tryz.prog 206 #[.int .i64 (x.val : Int), .int .i64 (y.val : Int), .pointer (some ⟨C, 0, none⟩)] W fun e w' => e = .returned (.int .i64 (byKey ks x y)) ∧ ∃ q, w' = W.drewN q := by
  obtain ⟨ad, cap, rfl, hnc, hcap, hs⟩ := hk
  obtain ⟨x, hx⟩ := x
  obtain ⟨y, hy⟩ := y
  obtain ⟨g, o, rfl, -, hcs⟩ := hs (by omega)
  have hcx := hcs x hx
  have hcy := hcs y hy
  have HB := Lib.hid (fun W => Tryz.strings_Compare ks[x] ks[y] W)
  have e : byKey ks ⟨x, hx⟩ ⟨y, hy⟩ = Lib.compareBytes ks[x].data.toList ks[y].data.toList := rfl
  rw [e]
  obtain ⟨kx, hkx⟩ : ∃ k, ks[x] = k := ⟨_, rfl⟩
  obtain ⟨ky, hky⟩ : ∃ k, ks[y] = k := ⟨_, rfl⟩
  rw [hkx] at hcx
  rw [hky] at hcy
  rw [hkx, hky] at HB
  simp only [hkx, hky]
  generalize Lib.compareBytes kx.data.toList ky.data.toList = z at HB ⊢
  obtain ⟨n, hn⟩ : ∃ n, ks.length = n := ⟨_, rfl⟩
  simp only [hn] at hx hy hnc hc ⊢
  have b1 : (0 : Int) ≤ (x : Int) := by omega
  have b2 : (x : Int) < (n : Int) := by omega
  have b3 : (0 : Int) ≤ (y : Int) := by omega
  have b4 : (y : Int) < (n : Int) := by omega
  clear hs hcs e hkx hky
  go_enter Tryz.func206, Tryz.ntmps206
  go_wp2_with fail
  go_quiet ((go_at_call 207; refine Calls.quiet_of_same (HB.out _)))
  go_wp2
  go_ret
  exact ⟨rfl, _, rfl⟩

theorem Tryz.infoI64 : (Tryz.prog.info? 3).map (fun i => (i.zero, i.size, i.bytes)) = some (some (.int .i64 0), 1, 8) := by kernel_rfl
/-- Places counted, k of n. -/
def counted (n k : Nat) : List Value := (List.range k).map (fun j : Nat => Value.int .i64 (j : Int)) ++ List.replicate (n - k) (.int .i64 0)
theorem counted_length {n k : Nat} (h : k ≤ n) : (counted n k).length = n := by simp [counted]; omega
theorem counted_zero (n : Nat) : counted n 0 = List.replicate n (.int .i64 0) := by simp [counted]
theorem counted_step {n k : Nat} (h : k < n) : (counted n k).set k (.int .i64 (k : Int)) = counted n (k + 1) := by
  apply List.ext_getElem
  · rw [List.length_set, counted_length (by omega), counted_length (by omega)]
  · intro i h1 h2
    rw [List.getElem_set]
    simp only [counted, List.getElem_append, List.length_map, List.length_range, List.getElem_map, List.getElem_range, List.getElem_replicate]
    split
    · rename_i he; subst he; simp
    · split <;> split <;> first | rfl | omega
theorem counted_full (n : Nat) : counted n n = (List.range n).map (fun j : Nat => Value.int .i64 (j : Int)) := by simp [counted]

set_option maxRecDepth 100000 in
set_option maxHeartbeats 2000000 in
theorem places_loop {w : World} {kv : Value} {ks : List ByteArray} (hk : StrsAt w.heap.size w kv ks) (h0 : 0 < ks.length) (hn : ks.length ≤ 1000000) (Q : Ending → World → Prop)
    (hs : ∀ W, Below w.heap.size w W → W.ownsRow w.heap.size 3 1 (.slice (some ⟨w.heap.size + 1, 0, none⟩) ks.length ks.length) ks.length (counted ks.length ks.length) → W.cell? ⟨w.heap.size, 0, none⟩ = some kv →
      Calls Tryz.prog 205 #[.slice (some ⟨w.heap.size + 1, 0, none⟩) ks.length ks.length, .func (.func 206) #[] #[.pointer (some ⟨w.heap.size, 0, none⟩)] ] W fun e w' => e = .returned (.tuple #[]) ∧ Q (.returned (.slice (some ⟨w.heap.size + 1, 0, none⟩) ks.length ks.length)) w') :
    Calls Tryz.prog 174 #[kv] w Q := by
  obtain ⟨i0, hi, hz0, hz1, hz2⟩ := info_parts Tryz.infoI64
  obtain ⟨ad, cap, rfl, hnc, hcap, hc⟩ := hk
  have HS := Lib.hid hs
  obtain ⟨n, hnn⟩ : ∃ n, ks.length = n := ⟨_, rfl⟩
  rw [hnn] at HS h0 hn hnc ⊢
  clear hs hc hnn
  have HK0 := Blk.new w #[.slice ad n cap] 24
  have HB0 := below_new w (.cells #[.slice ad n cap] 24)
  go_enter Tryz.func174, Tryz.ntmps174
  go_wp2_with (at_make; refine wpList_make_full _ rfl _ _ 46 rfl w.heap.size 3 i0 (.int .i64 0) 1 Tryz.underlying46 hi hz0 hz1 .i64 .i64 n n n rfl rfl rfl rfl (by rw [hz2]; omega) (by unfold maxLen; omega) (by simp) ?_; intro w1 hown1 hgrow1; have hb1 := (Below.refl (w.alloc (.cells #[.slice ad n cap] 24)).heap.size (w.alloc (.cells #[.slice ad n cap] 24))).grown hgrow1 (Nat.le_refl _) (fun k hk => by cases hk); have hk1 := HK0.below hb1; have hc0 := hk1.cell 0)
  rw [show (w.alloc (.cells #[.slice ad n cap] 24)).heap.size = w.heap.size + 1 by simp, Nat.mul_one] at hown1
  have hrow1 : w1.ownsRow w.heap.size 3 1 (.slice (some ⟨w.heap.size + 1, 0, none⟩) n n) n (counted n 0) := by
    rw [counted_zero]
    have e := toList_madeCells_one (.int .i64 0) n
    rw [← e]
    exact hown1
  have HB1 : Hid (Below w.heap.size w w1) := Lib.hid (HB0.trans (hb1.mono HB0.size))
  clear hgrow1 hb1 hown1
  go_loopw [4, 10] (fun _ iv wr => ∃ k : Nat, iv = .int .i64 k ∧ k ≤ n ∧ Hid (wr.ownsRow w.heap.size 3 1 (.slice (some ⟨w.heap.size + 1, 0, none⟩) n n) n (counted n k)) ∧ Hid (Below w.heap.size w wr) ∧ Hid (Blk wr w.heap.size #[.slice ad n cap] 24)) (fun _ iv _ => n - (intOf iv).toNat)
  case atStart => exact ⟨0, rfl, by omega, Lib.hid hrow1, HB1, Lib.hid hk1⟩
  case round =>
    obtain ⟨k, rfl, hk, HR, HB, HK⟩ := hrel
    clear hrow1 hk1 hc0
    by_cases hlt : k < n
    · have hfr := World.ownsRow.frozenAt HR.out k
      have hcell : wr.cell? ⟨w.heap.size + 1, k, none⟩ = some ((counted n k)[k]'(by rw [counted_length (by omega)]; exact hlt)) := by
        have := World.ownsRow.cells HR.out (g := w.heap.size + 1) rfl k _ (List.getElem?_eq_getElem (by rw [counted_length (by omega)]; exact hlt))
        rwa [Lib.add_plain, Nat.zero_add] at this
      generalize (counted n k)[k]'(by rw [counted_length (by omega)]; exact hlt) = old at hcell
      go_wp2
      go_roundw
      case rel =>
        refine ⟨k + 1, by go_num, by omega, Lib.hid ?_, Lib.hid (HB.out.setCell (p := ⟨w.heap.size + 1, k, none⟩) (by simp) _), Lib.hid (HK.out.other (p := ⟨w.heap.size + 1, k, none⟩) (by simp) _)⟩
        have h1 := (World.ownsRow.stored HR.out k (.int .i64 (k : Int))).1
        rw [counted_step hlt] at h1
        exact h1
      case measure => simp [intOf]; omega
    · obtain rfl : k = n := by omega
      have hc1 := HK.out.cell 0
      have HC := HS.out wr HB.out HR.out hc1
      have HCH := Lib.hid HC
      clear HC
      go_wp2_with (go_at_call 205; refine HCH.out.mono ?_; rintro e w2 ⟨rfl, hq⟩)
      exact hq
end Go.Proofs.YtblldoniagiboaaGreatDoor
namespace Go.Proofs.YtblldoniagiboaaGreatDoor
open Go.RowKit Go.Sort Go.Shelf
set_option linter.unusedVariables false

def encFin (n : Nat) (i : Fin n) : Value := .int .i64 (i.val : Int)
theorem counted_fin (n : Nat) : counted n n = (List.finRange n).map (encFin n) := by
  rw [counted_full]
  apply List.ext_getElem
  · simp
  · intro i h1 h2
    simp [encFin]

/-- In a world that the sort passes through, other blocks are as they were. -/
theorem sortWorld_other {α : Type} [Inhabited α] (enc : α → Value) (W : World) (blk off m : Nat) (dk : Array α) (os : Array Obj) (a : Addr) (h1 : a.block ≠ blk) (h2 : a.block < W.heap.size) : (sortWorld enc W blk off m dk os).cell? a = W.cell? a := by
  unfold sortWorld
  rw [cell?_grow _ _ _ (by rw [size_putRow]; exact h2), cell?_putRow_other enc _ blk off dk a (Or.inl h1)]
  rfl
theorem StrsAt.sorts {α : Type} [Inhabited α] {B : Nat} {W : World} {v : Value} {ks : List ByteArray} (h : StrsAt B W v ks) (enc : α → Value) (blk off m : Nat) (dk : Array α) (os : Array Obj) (hb : B ≤ blk) (hW : B ≤ W.heap.size) : StrsAt B (sortWorld enc W blk off m dk os) v ks := by
  obtain ⟨ad, cap, h1, h2, h3, h4⟩ := h
  refine ⟨ad, cap, h1, h2, h3, fun hp => ?_⟩
  obtain ⟨g, o, h5, h6, h7⟩ := h4 hp
  exact ⟨g, o, h5, h6, fun j hj => (sortWorld_other enc W blk off m dk os ⟨g, o + j, none⟩ (by show g ≠ blk; omega) (by show g < W.heap.size; omega)).trans (h7 j hj)⟩

theorem compareBytes_neg : ∀ a b : List UInt8, Lib.compareBytes a b < 0 ↔ a < b
  | [], [] => by simp [Lib.compareBytes]
  | [], _ :: _ => by simp [Lib.compareBytes]
  | _ :: _, [] => by simp [Lib.compareBytes]
  | x :: a, y :: b => by
    unfold Lib.compareBytes
    rw [List.cons_lt_cons_iff]
    have ih := compareBytes_neg a b
    by_cases h : x < y
    · rw [if_pos h]; simp [h]
    · rw [if_neg h]
      by_cases h' : y < x
      · rw [if_pos h']
        have hne : x ≠ y := fun e => by subst e; exact absurd h' h
        simp [h, hne]
      · rw [if_neg h']
        have he : x = y := by
          have h1 : ¬ x.toNat < y.toNat := h
          have h2 : ¬ y.toNat < x.toNat := h'
          exact UInt8.toNat_inj.1 (by omega)
        subst he
        rw [ih]
        simp
theorem byKey_lt (ks : List ByteArray) (x y : Fin ks.length) : ltOf (byKey ks) x y = bLt ks[x] ks[y] := by
  unfold ltOf byKey bLt
  rw [Bool.eq_iff_iff, decide_eq_true_iff, decide_eq_true_iff]
  exact compareBytes_neg _ _
theorem bLt_irrefl (a : ByteArray) : bLt a a = false := by
  unfold bLt
  rw [decide_eq_false_iff_not]
  exact List.lt_irrefl _
theorem byKey_swo (ks : List ByteArray) : SWO (ltOf (byKey ks)) where
  irrefl x := by rw [byKey_lt]; exact bLt_irrefl _
  trans x y z h1 h2 := by rw [byKey_lt] at *; exact bLt_trans h1 h2
  ntrans x y z h1 h2 := by
    rw [byKey_lt] at *
    unfold bLt at *
    simp only [decide_eq_false_iff_not, List.not_lt] at *
    exact List.le_trans h2 h1

/-- What a sort leaves: a row of places, sorted by their keys. -/
def SortedAt (w0 : World) (ks : List ByteArray) (w' : World) : Prop := ∃ (hI : Inhabited (Fin ks.length)) (d' : Array (Fin ks.length)), PermIn 0 ks.length (List.finRange ks.length).toArray d' ∧ SortedIn (ltOf (byKey ks)) 0 ks.length d' ∧ Below w0.heap.size w0 w' ∧ w'.ownsRow w0.heap.size 3 1 (.slice (some ⟨w0.heap.size + 1, 0, none⟩) ks.length ks.length) ks.length (d'.toList.map (encFin ks.length))

set_option maxHeartbeats 1000000 in
theorem sort_small {w W : World} {kv : Value} {ks : List ByteArray} (h0 : 0 < ks.length) (h12 : ks.length ≤ 12) (hk : StrsAt w.heap.size w kv ks) (hb : Below w.heap.size w W)
    (hr : W.ownsRow w.heap.size 3 1 (.slice (some ⟨w.heap.size + 1, 0, none⟩) ks.length ks.length) ks.length (counted ks.length ks.length)) (hc : W.cell? ⟨w.heap.size, 0, none⟩ = some kv) :
    Calls Tryz.prog 205 #[.slice (some ⟨w.heap.size + 1, 0, none⟩) ks.length ks.length, .func (.func 206) #[] #[.pointer (some ⟨w.heap.size, 0, none⟩)] ] W fun e w' => e = .returned (.tuple #[]) ∧ SortedAt w ks w' := by
  letI hI : Inhabited (Fin ks.length) := ⟨⟨0, h0⟩⟩
  have eg : ∀ args w, (callFunc 206 args).run Tryz.prog w = .ok (.enter 206 args) w := enters_of Tryz.func206 (by kernel_rfl) rfl
  rw [counted_fin] at hr
  obtain ⟨g, cap, e1, -, hg, -, -, -, hH⟩ := Lib.holds_of_ownsRow hr (by intro h; cases h)
  cases e1
  have hcm : CmpReads Tryz.prog 206 #[.pointer (some ⟨w.heap.size, 0, none⟩)] (encFin ks.length) (byKey ks) (w.heap.size + 1) 0 (List.finRange ks.length).toArray.size W := fun m os dk hs x y =>
    closure_any (B := w.heap.size) (C := w.heap.size) x y ((hk.below hb).sorts _ _ _ _ _ _ (by omega) hb.size) ((sortWorld_other _ W _ _ _ _ _ ⟨w.heap.size, 0, none⟩ (by show w.heap.size ≠ w.heap.size + 1; omega) (by show w.heap.size < W.heap.size; omega)).trans hc)
  have hsz : (List.finRange ks.length).toArray.size = ks.length := by simp
  have hcon := Tryz.slices_SortFunc_small_sorted (encFin ks.length) (fun _ => rfl) (byKey ks) (byKey_swo ks) 206 #[.pointer (some ⟨w.heap.size, 0, none⟩)] (w.heap.size + 1) 0 ks.length (List.finRange ks.length).toArray W eg hcm hH (by rw [hsz]; exact h12) (fun n W' hn => (Tryz.bits_Len n W' (by omega) (by omega)).mono fun _ _ ⟨he, hw⟩ => ⟨⟨_, he⟩, hw⟩)
  rw [hsz] at hcon
  refine Calls.mono hcon ?_
  rintro e w' ⟨rfl, d', n, hp, hso, rfl⟩
  have hq := Lib.below_putRow (enc := encFin ks.length) (g := w.heap.size + 1) (q := 0) (d := d') hb (by omega)
  have hl : d'.toList.length = ks.length := by rw [Array.length_toList, hp.1, hsz]
  have ho := Lib.ownsRow_putRow (q := 0) (ys := d'.toList) hr hl (Nat.le_refl _)
  rw [List.take_of_length_le (by omega)] at ho
  exact ⟨rfl, hI, d', hp, hso, ⟨hq.os, hq.tape, hq.output, hq.size, hq.block⟩, ho⟩
end Go.Proofs.YtblldoniagiboaaGreatDoor
