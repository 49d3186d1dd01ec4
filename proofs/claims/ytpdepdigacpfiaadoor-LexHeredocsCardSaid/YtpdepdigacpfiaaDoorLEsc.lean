/- escape: what would stand between quotes. -/
import Derived.Test.YtpdepdigacpfiaaDoorLNames
import Derived.Lib.RuneBytes
import Derived.OwnWalk
import Derived.Laws.BytesArg
import Derived.Laws.AppendOwn
namespace Go.Proofs.YtpdepdigacpfiaaDoor
open Go.RowKit Go.Shelf
set_option linter.unusedVariables false

theorem infoU8 : (Tryd.prog.info? 5).map (fun i => (i.zero, i.size, i.bytes)) = some (some (.int .u8 0), 1, 1) := by kernel_rfl
def eSet : List UInt8 := [34, 92, 10, 9, 13, 36]
def eLet : List UInt8 := [34, 92, 110, 116, 114, 36]
/-- Where a rune stands among those that want a backslash. -/
def ePlace (r : Nat) : Int := if r < 128 then Lib.indexByte eSet r.toUInt8 else -1
def escRune (r : Nat) : List UInt8 := if 0 ≤ ePlace r then [92, eLet.getD (ePlace r).toNat 0] else Lib.encodeRune (r : Int)
def escFrom (s : ByteArray) : Nat → Nat → List UInt8
  | 0, _ => []
  | n + 1, pos => if pos < s.size then escRune (Utf8.decode s pos).1 ++ escFrom s n (pos + (Utf8.decode s pos).2) else []
theorem ascE : AllAscii ⟨#[34, 92, 10, 9, 13, 36]⟩ := ascii_of (l := [34, 92, 10, 9, 13, 36]) (by decide)
theorem place_any (x : Nat) (hx : x ≤ 1114111) (W : World) : Calls Tryd.prog 43 #[.string ⟨#[34, 92, 10, 9, 13, 36]⟩, .int .i32 (x : Int)] W fun e w' => e = .returned (.int .i64 (ePlace x)) ∧ Below W.heap.size W w' := by
  unfold ePlace
  by_cases h : x < 128
  · rw [if_pos h]
    refine (Tryd.strings_IndexRune_ascii ⟨#[34, 92, 10, 9, 13, 36]⟩ (x : Int) W (by omega) (by omega)).mono ?_
    rintro e w' ⟨rfl, rfl⟩
    rw [Int.toNat_natCast]
    exact ⟨rfl, Below.refl _ _⟩
  · rw [if_neg h]
    by_cases hr : x = 65533
    · subst hr; exact indexRune_err ascE (by decide) W
    · cases hv : Lib.validRune (x : Int)
      · exact indexRune_bad (by omega) (by omega) (by omega) hv W
      · exact indexRune_good ascE (by decide) (by omega) (by omega) (by omega) hv W
theorem ePlace_lt (r : Nat) : ePlace r < 6 := by
  unfold ePlace
  split
  · generalize r.toUInt8 = c
    unfold eSet
    simp only [Lib.indexByte]
    repeat' split
    all_goals omega
  · omega
theorem escRune_le (r : Nat) : 1 ≤ (escRune r).length ∧ (escRune r).length ≤ 4 := by
  unfold escRune
  split
  · simp
  · have := Lib.runeCells_le (r : Int)
    rw [Lib.runeCells_length] at this
    exact this
theorem byteCells_app (a b : List UInt8) : Lib.byteCells (a ++ b) = Lib.byteCells a ++ Lib.byteCells b := by unfold Lib.byteCells; rw [List.map_append]

theorem own_iterAt {w : World} {B e size n : Nat} {v : Value} {xs : List Value} {k : Nat} {s : ByteArray} {pos : Nat} (h : w.ownsRow B e size v n xs) (hk : w.heap[k]? = some (.stringIter s pos)) (pos' : Nat) : (w.iterAt k s pos').ownsRow B e size v n xs := by
  obtain ⟨h1, h2⟩ := h
  refine ⟨h1, ?_⟩
  rcases h2 with h2 | ⟨g, cap, cur, rfl, h3, h4, h5⟩
  · exact .inl h2
  · refine .inr ⟨g, cap, cur, rfl, h3, ?_, h5⟩
    rw [iterAt_other w (fun e => by subst e; rw [hk] at h4; cases h4) s pos']
    exact h4

theorem row_below' {w w' : World} {B e size n : Nat} {v : Value} {xs : List Value} (h : w.ownsRow B e size v n xs) (hb : Below w.heap.size w w') : w'.ownsRow B e size v n xs := by
  obtain ⟨h1, h2⟩ := h
  refine ⟨h1, ?_⟩
  rcases h2 with h2 | ⟨g, cap, cur, rfl, h3, h4, h5⟩
  · exact .inl h2
  · exact .inr ⟨g, cap, cur, rfl, h3, (hb.block g (Array.getElem?_eq_some_iff.1 h4).1).trans h4, h5⟩
theorem own_ne_iter {w : World} {B e size n : Nat} {v : Value} {xs : List Value} {k : Nat} {s : ByteArray} {pos : Nat} (h : w.ownsRow B e size v n xs) (hk : w.heap[k]? = some (.stringIter s pos)) : some k ≠ v.ownBlock := by
  intro hb
  rcases h.2 with ⟨rfl, -⟩ | ⟨g, cap, cur, rfl, h3, h4, h5⟩
  · cases hb
  · obtain rfl : k = g := by simpa [Value.ownBlock] using hb
    rw [hk] at h4; cases h4
theorem own_base {w : World} {B e size n : Nat} {v : Value} {xs : List Value} (h : w.ownsRow B e size v n xs) : ∀ k, v.ownBlock = some k → B ≤ k := by
  intro k hb
  rcases h.2 with ⟨rfl, -⟩ | ⟨g, cap, cur, rfl, h3, h4, h5⟩
  · cases hb
  · obtain rfl : g = k := by simpa [Value.ownBlock] using hb
    exact h3
theorem cell_two (w : World) (x y : Value) (t : TypeId) : ∀ j u, [x, y][j]? = some u → (w.alloc (.cells #[x, y] t)).cell? ((⟨w.heap.size, 0, none⟩ : Addr).add j) = some u := by
  intro j u hj
  match j, hj with
  | 0, hj => simp at hj; subst hj; simp [Addr.add]
  | 1, hj => simp at hj; subst hj; simp [Addr.add]
  | (j + 2), hj => simp at hj
theorem let_run (k : Nat) (h : k < 6) (W : World) : (Instr.index 9 (.string ⟨#[34, 92, 110, 116, 114, 36]⟩) (.int .i64 (k : Int))).run Tryd.prog W = .ok (.int .u8 ((eLet.getD k 0).toNat : Int)) W := by
  rcases (show k = 0 ∨ k = 1 ∨ k = 2 ∨ k = 3 ∨ k = 4 ∨ k = 5 by omega) with rfl | rfl | rfl | rfl | rfl | rfl <;> kernel_rfl

set_option maxRecDepth 100000 in
set_option maxHeartbeats 8000000 in
theorem escape_text {s : ByteArray} (hs : s.size ≤ 100000) (W : World) : Calls Tryd.prog 41 #[.string s] W fun e w' => e = .returned (.string ⟨(escFrom s s.size 0).toArray⟩) ∧ Below W.heap.size W w' := by
  obtain ⟨i0, hi, hz0, hz1, hz2⟩ := info_parts infoU8
  obtain ⟨X, hX⟩ : ∃ X, escFrom s s.size 0 = X := ⟨_, rfl⟩
  rw [hX]
  have HX := Lib.hid hX
  have HP := Lib.hid (fun (x : Nat) (hx : x ≤ 1114111) (w : World) => place_any x hx w)
  have HAR := Lib.hid (fun (v : Value) (n : Nat) (xs : List Value) (r : Nat) (hr : r ≤ 1114111) (w : World) (hown : w.ownsRow (W.heap.size + 1) 5 1 v n xs) (hlen : n + 4 ≤ 140737488355328) (hBw : W.heap.size + 1 ≤ w.heap.size) => Tryd.utf8_AppendRune_plain (W.heap.size + 1) v n xs (r : Int) (by omega) (by omega) w hown hlen hBw)
  clear hX
  go_enter Tryd.func41, Tryd.ntmps41
  go_wp2_with fail
  go_loopg [3] s.size (fun gf s3 wx => ∃ (pos : Nat) (acc : List UInt8), wx.heap[W.heap.size]? = some (.stringIter s pos) ∧ Hid (Below W.heap.size W wx) ∧ Hid (wx.ownsRow (W.heap.size + 1) 5 1 s3 acc.length (Lib.byteCells acc)) ∧ Hid (acc ++ escFrom s gf pos = X) ∧ s.size ≤ pos + gf ∧ acc.length + 4 * gf ≤ 4 * s.size)
  case atStart => exact ⟨0, [], World.iter_heap W s 0, Lib.hid ((Below.refl _ W).alloc (Nat.le_refl _) _), Lib.hid ⟨rfl, .inl ⟨rfl, rfl⟩⟩, HX, by omega, by simp⟩
  case round =>
    obtain ⟨pos, acc, hit, HB, HO, HE, hfu, hal⟩ := hrel
    by_cases hps : pos < s.size
    · obtain ⟨g', rfl⟩ : ∃ g', gk = g' + 1 := ⟨gk - 1, by omega⟩
      have hnx : ∀ ty, (Instr.next (.pointer (some ⟨W.heap.size, 0, none⟩)) true ty).run Tryd.prog wr = _ := fun ty => Lib.run_next_any_at wr W.heap.size s pos ty hit hps
      have hwd := Lib.width_pos s pos
      obtain ⟨R, hR⟩ : ∃ R, (Utf8.decode s pos).1 = R := ⟨_, rfl⟩
      obtain ⟨K, hK⟩ : ∃ K, (Utf8.decode s pos).2 = K := ⟨_, rfl⟩
      have HE2 : Hid ((acc ++ escRune R) ++ escFrom s g' (pos + K) = X) := Lib.hid (by
        have := HE.out
        conv at this => lhs; unfold escFrom
        rw [if_pos hps, hR, hK] at this
        rw [List.append_assoc]
        exact this)
      have hRle : R ≤ 1114111 := by rw [← hR]; exact Lib.rune_le s pos
      rw [hR, hK] at hnx
      rw [hK] at hwd
      have hit2 := Lib.iterAt_heap wr W.heap.size s pos (pos + K) hit
      have HB2 := Lib.hid (Lib.below_iterAt HB.out (k := W.heap.size) (Nat.le_refl _) s (pos + K))
      have HO2 := Lib.hid (own_iterAt HO.out hit (pos + K))
      obtain ⟨Y, hWd⟩ : ∃ Y, wr.iterAt W.heap.size s (pos + K) = Y := ⟨_, rfl⟩
      rw [hWd] at hnx hit2 HB2 HO2
      have hltY : W.heap.size < Y.heap.size := (Array.getElem?_eq_some_iff.1 hit2).1
      have hP1 := HP.out R hRle Y
      have hel := escRune_le R
      clear hR hK hWd
      have HIT := Lib.hid hit2
      by_cases hpl : 0 ≤ ePlace R
      · have hp6 := ePlace_lt R
        obtain ⟨k, hk⟩ : ∃ k : Nat, ePlace R = (k : Int) := ⟨(ePlace R).toNat, by omega⟩
        have hk6 : k < 6 := by omega
        have hesc : escRune R = [92, eLet.getD k 0] := by unfold escRune; rw [if_pos hpl, hk, Int.toNat_natCast]
        rw [hk] at hP1
        rw [hesc] at HE2
        obtain ⟨c, hc⟩ : ∃ c, eLet.getD k 0 = c := ⟨_, rfl⟩
        have hix := fun W => let_run k hk6 W
        simp only [hc] at hix
        rw [hc] at HE2
        have hge : (0 : Int) ≤ (k : Int) := by omega
        clear hpl hp6 hk hesc hc hit2
        go_wp2_with fail
        go_at_call 43; refine hP1.mono ?_; rintro e w1 ⟨rfl, hb1⟩
        have HB1 := Lib.hid (HB2.out.trans (hb1.mono HB2.out.size))
        have HIT1 := Lib.hid ((hb1.block _ hltY).trans HIT.out)
        have hrow1 := (row_below' HO2.out hb1).alloc (.cells #[.int .u8 92, .int .u8 (c.toNat : Int)] 5)
        have hlt1 : W.heap.size < w1.heap.size := Nat.lt_of_lt_of_le hltY hb1.size
        clear hb1 hP1 hnx
        go_wp2_with (at_builtin; refine wpList_append_own _ rfl _ _ 35 rfl (W.heap.size + 1) 5 i0 (.int .u8 0) 1 1 Tryd.underlying35 hi hz0 hz1 hz2 rfl (by decide) _ _ _ rfl hrow1 ⟨w1.heap.size, 0, none⟩ 2 2 [.int .u8 92, .int .u8 (c.toNat : Int)] rfl rfl (cell_two _ _ _ _) (by intro u hu; simp at hu; rcases hu with rfl | rfl <;> rfl) (by unfold maxLen; omega) (by omega) (by simp; omega) ?_; intro v' w2 hown' hgrow _)
        have HRow := Lib.hid hown'
        have HGr := Lib.hid hgrow
        have HB3 := Lib.hid ((HB1.out.alloc (by omega) (.cells #[.int .u8 92, .int .u8 (c.toNat : Int)] 5)).grown hgrow (by simp; omega) (fun q hq => by have := own_base hrow1 q hq; omega))
        have HIT2 := Lib.hid ((hgrow.block W.heap.size (by simp; omega) (own_ne_iter hrow1 ((Below.heap_alloc w1 _ _ hlt1).trans HIT1.out))).trans ((Below.heap_alloc w1 _ _ hlt1).trans HIT1.out))
        clear hown' hgrow hrow1
        go_roundg g'
        case measure => omega
        case rel => exact ⟨pos + K, acc ++ [92, c], HIT2.out, HB3, Lib.hid (by
          have := HRow.out
          rw [byteCells_app, List.length_append]
          exact this), HE2, by omega, by simp; omega⟩
      · have hesc : escRune R = Lib.encodeRune (R : Int) := by unfold escRune; rw [if_neg hpl]
        rw [hesc] at HE2 hel
        have hn : ¬ 0 ≤ ePlace R := hpl
        obtain ⟨z, hz⟩ : ∃ z, ePlace R = z := ⟨_, rfl⟩
        rw [hz] at hP1 hn
        obtain ⟨E, hE⟩ : ∃ E, Lib.encodeRune (R : Int) = E := ⟨_, rfl⟩
        have hcells : Lib.runeCells (R : Int) = Lib.byteCells E := by rw [← hE, Lib.byteCells_encodeRune]
        rw [hE] at HE2 hel
        have HC := Lib.hid hcells
        clear hpl hz hesc hit2 hE hcells
        go_wp2_with fail
        go_at_call 43; refine hP1.mono ?_; rintro e w1 ⟨rfl, hb1⟩
        have HB1 := Lib.hid (HB2.out.trans (hb1.mono HB2.out.size))
        have HIT1 := Lib.hid ((hb1.block _ hltY).trans HIT.out)
        have HRow1 := Lib.hid (row_below' HO2.out hb1)
        have hlt1 : W.heap.size < w1.heap.size := Nat.lt_of_lt_of_le hltY hb1.size
        clear hb1 hP1 hnx
        have hcon := HAR.out u3 acc.length (Lib.byteCells acc) R hRle w1 HRow1.out (by omega) (by omega)
        have HCon := Lib.hid hcon
        clear hcon
        go_wp2_with fail
        go_at_call 55; refine HCon.out.mono ?_; rintro e w2 ⟨v', rfl, hown', o, hgrow⟩
        have hlo : W.heap.size < (w1.alloc o).heap.size := by simp; omega
        have HRow := Lib.hid hown'
        have HB3 := Lib.hid ((HB1.out.alloc (by omega) o).grown hgrow (by simp; omega) (fun q hq => by have := own_base HRow1.out q hq; omega))
        have HIT2 := Lib.hid ((hgrow.block W.heap.size hlo (own_ne_iter HRow1.out HIT1.out)).trans ((Below.heap_alloc w1 _ _ hlt1).trans HIT1.out))
        clear hown' hgrow hlo
        go_wp2_with fail
        go_roundg g'
        case measure => omega
        case rel => exact ⟨pos + K, acc ++ E, HIT2.out, HB3, Lib.hid (by
          have := HRow.out
          rw [HC.out, Lib.byteCells_length] at this
          rw [byteCells_app, List.length_append]
          exact this), HE2, by omega, by simp; omega⟩
    · have hnx : ∀ ty, (Instr.next (.pointer (some ⟨W.heap.size, 0, none⟩)) true ty).run Tryd.prog wr = _ := fun ty => Lib.run_next_end_at wr W.heap.size s pos ty hit hps
      have hacc : acc = X := by
        have := HE.out
        rw [show escFrom s gk pos = [] by cases gk with
          | zero => rfl
          | succ n => unfold escFrom; rw [if_neg hps]] at this
        simpa using this
      subst hacc
      have hrow := HO.out
      have hcv : (convert 35 9 u3).run Tryd.prog wr = .ok (.string ⟨acc.toArray⟩) wr := by
        rcases hrow.2 with ⟨rfl, h2⟩ | ⟨g, cap, cur, rfl, h3, h4, h5, h6, h7, h8⟩
        · obtain rfl : acc = [] := List.length_eq_zero_iff.1 h2
          exact run_convert_bytes_nil (P := Tryd.prog) wr 35 5 Tryd.underlying35 Tryd.underlying5 0 0 9 Tryd.underlying9
        · refine run_convert_bytes_back (P := Tryd.prog) wr 35 9 5 ⟨g, 0, none⟩ cap acc Tryd.underlying35 Tryd.underlying5 Tryd.underlying9 (fun j hj => ?_)
          have := World.ownsRow.cells hrow (g := g) rfl j (.int .u8 (acc[j].toNat : Int)) (by simp [Lib.byteCells, hj])
          exact this
      clear hrow
      go_wp2
      go_ret
      exact ⟨rfl, HB.out⟩
end Go.Proofs.YtpdepdigacpfiaaDoor
