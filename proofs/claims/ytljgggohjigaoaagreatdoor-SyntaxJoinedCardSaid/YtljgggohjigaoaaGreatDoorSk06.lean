/- escape: what would stand between quotes · heredoc · next: which token can begin here -/
import Derived.Lib.RuneBytes
import Derived.OwnWalk
import Derived.Laws.BytesArg
import Derived.Laws.AppendOwn
import Derived.Shelf.Strings.SlTrimAscii
import Derived.Test.YtljgggohjigaoaaGreatDoorSk05
namespace Go.Proofs.YtljgggohjigaoaaGreatDoor
open Go.RowKit Go.Shelf
set_option linter.unusedVariables false

theorem infoU8 : (Tryz.prog.info? 5).map (fun i => (i.zero, i.size, i.bytes)) = some (some (.int .u8 0), 1, 1) := by kernel_rfl
def eSet : List UInt8 := [34, 92, 10, 9, 13, 36]
def eLet : List UInt8 := [34, 92, 110, 116, 114, 36]
/-- Where a rune stands among those that want a backslash. -/
def ePlace (r : Nat) : Int := if r < 128 then Lib.indexByte eSet r.toUInt8 else -1
def escRune (r : Nat) : List UInt8 := if 0 ≤ ePlace r then [92, eLet.getD (ePlace r).toNat 0] else Lib.encodeRune (r : Int)
def escFrom (s : ByteArray) : Nat → Nat → List UInt8
 | 0, _ => []
 | n + 1, pos => if pos < s.size then escRune (Utf8.decode s pos).1 ++ escFrom s n (pos + (Utf8.decode s pos).2) else []
theorem ascE : AllAscii ⟨#[34, 92, 10, 9, 13, 36]⟩ := ascii_of (l := [34, 92, 10, 9, 13, 36]) (by decide)
theorem place_any (x : Nat) (hx : x ≤ 1114111) (W : World) : Calls Tryz.prog 122 #[.string ⟨#[34, 92, 10, 9, 13, 36]⟩, .int .i32 (x : Int)] W fun e w' => e = .returned (.int .i64 (ePlace x)) ∧ Below W.heap.size W w' := by
 unfold ePlace
 by_cases h : x < 128
 ·rw [if_pos h]
  refine (Tryz.strings_IndexRune_ascii ⟨#[34, 92, 10, 9, 13, 36]⟩ (x : Int) W (by omega) (by omega)).mono ?_
  rintro e w' ⟨rfl, rfl⟩
  rw [Int.toNat_natCast]
  exact ⟨rfl, Below.refl _ _⟩
 ·rw [if_neg h]
  by_cases hr : x = 65533
  ·subst hr; exact indexRune_err ascE (by decide) W
  ·cases hv : Lib.validRune (x : Int)
   ·exact indexRune_bad (by omega) (by omega) (by omega) hv W
   ·exact indexRune_good ascE (by decide) (by omega) (by omega) (by omega) hv W
theorem ePlace_lt (r : Nat) : ePlace r < 6 := by
 unfold ePlace
 split
 ·generalize r.toUInt8 = c
  unfold eSet
  simp only [Lib.indexByte]
  repeat' split
  all_goals omega
 ·omega
theorem escRune_le (r : Nat) : 1 ≤ (escRune r).length ∧ (escRune r).length ≤ 4 := by
 unfold escRune
 split
 ·simp
 ·have := Lib.runeCells_le (r : Int)
  rw [Lib.runeCells_length] at this
  exact this
theorem byteCells_app (a b : List UInt8) : Lib.byteCells (a ++ b) = Lib.byteCells a ++ Lib.byteCells b := by unfold Lib.byteCells; rw [List.map_append]

theorem own_iterAt {w : World} {B e size n : Nat} {v : Value} {xs : List Value} {k : Nat} {s : ByteArray} {pos : Nat} (h : w.ownsRow B e size v n xs) (hk : w.heap[k]? = some (.stringIter s pos)) (pos' : Nat) : (w.iterAt k s pos').ownsRow B e size v n xs := by
 obtain ⟨h1, h2⟩ := h
 refine ⟨h1, ?_⟩
 rcases h2 with h2 | ⟨g, cap, cur, rfl, h3, h4, h5⟩
 ·exact .inl h2
 ·refine .inr ⟨g, cap, cur, rfl, h3, ?_, h5⟩
  rw [iterAt_other w (fun e => by subst e; rw [hk] at h4; cases h4) s pos']
  exact h4

theorem row_below' {w w' : World} {B e size n : Nat} {v : Value} {xs : List Value} (h : w.ownsRow B e size v n xs) (hb : Below w.heap.size w w') : w'.ownsRow B e size v n xs := by
 obtain ⟨h1, h2⟩ := h
 refine ⟨h1, ?_⟩
 rcases h2 with h2 | ⟨g, cap, cur, rfl, h3, h4, h5⟩
 ·exact .inl h2
 ·exact .inr ⟨g, cap, cur, rfl, h3, (hb.block g (Array.getElem?_eq_some_iff.1 h4).1).trans h4, h5⟩
theorem own_ne_iter {w : World} {B e size n : Nat} {v : Value} {xs : List Value} {k : Nat} {s : ByteArray} {pos : Nat} (h : w.ownsRow B e size v n xs) (hk : w.heap[k]? = some (.stringIter s pos)) : some k ≠ v.ownBlock := by
 intro hb
 rcases h.2 with ⟨rfl, -⟩ | ⟨g, cap, cur, rfl, h3, h4, h5⟩
 ·cases hb
 ·obtain rfl : k = g := by simpa [Value.ownBlock] using hb
  rw [hk] at h4; cases h4
theorem own_base {w : World} {B e size n : Nat} {v : Value} {xs : List Value} (h : w.ownsRow B e size v n xs) : ∀ k, v.ownBlock = some k → B ≤ k := by
 intro k hb
 rcases h.2 with ⟨rfl, -⟩ | ⟨g, cap, cur, rfl, h3, h4, h5⟩
 ·cases hb
 ·obtain rfl : g = k := by simpa [Value.ownBlock] using hb
  exact h3
theorem cell_two (w : World) (x y : Value) (t : TypeId) : ∀ j u, [x, y][j]? = some u → (w.alloc (.cells #[x, y] t)).cell? ((⟨w.heap.size, 0, none⟩ : Addr).add j) = some u := by
 intro j u hj
 match j, hj with
 | 0, hj => simp at hj; subst hj; simp [Addr.add]
 | 1, hj => simp at hj; subst hj; simp [Addr.add]
 | (j + 2), hj => simp at hj
theorem let_run (k : Nat) (h : k < 6) (W : World) : (Instr.index 9 (.string ⟨#[34, 92, 110, 116, 114, 36]⟩) (.int .i64 (k : Int))).run Tryz.prog W = .ok (.int .u8 ((eLet.getD k 0).toNat : Int)) W := by
 rcases (show k = 0 ∨ k = 1 ∨ k = 2 ∨ k = 3 ∨ k = 4 ∨ k = 5 by omega) with rfl | rfl | rfl | rfl | rfl | rfl <;> kernel_rfl

set_option maxRecDepth 100000 in
set_option maxHeartbeats 8000000 in
theorem escape_text {s : ByteArray} (hs : s.size ≤ 100000) (W : World) : Calls Tryz.prog 116 #[.string s] W fun e w' => e = .returned (.string ⟨(escFrom s s.size 0).toArray⟩) ∧ Below W.heap.size W w' := by
 obtain ⟨i0, hi, hz0, hz1, hz2⟩ := info_parts infoU8
 obtain ⟨X, hX⟩ : ∃ X, escFrom s s.size 0 = X := ⟨_, rfl⟩
 rw [hX]
 have HX := Lib.hid hX
 have HP := Lib.hid (fun (x : Nat) (hx : x ≤ 1114111) (w : World) => place_any x hx w)
 have HAR := Lib.hid (fun (v : Value) (n : Nat) (xs : List Value) (r : Nat) (hr : r ≤ 1114111) (w : World) (hown : w.ownsRow (W.heap.size + 1) 5 1 v n xs) (hlen : n + 4 ≤ 140737488355328) (hBw : W.heap.size + 1 ≤ w.heap.size) => Tryz.utf8_AppendRune_plain (W.heap.size + 1) v n xs (r : Int) (by omega) (by omega) w hown hlen hBw)
 clear hX
 go_enter Tryz.func116, Tryz.ntmps116
 go_wp2_with fail
 go_loopg [3] s.size (fun gf s3 wx => ∃ (pos : Nat) (acc : List UInt8), wx.heap[W.heap.size]? = some (.stringIter s pos) ∧ Hid (Below W.heap.size W wx) ∧ Hid (wx.ownsRow (W.heap.size + 1) 5 1 s3 acc.length (Lib.byteCells acc)) ∧ Hid (acc ++ escFrom s gf pos = X) ∧ s.size ≤ pos + gf ∧ acc.length + 4 * gf ≤ 4 * s.size)
 case atStart => exact ⟨0, [], World.iter_heap W s 0, Lib.hid ((Below.refl _ W).alloc (Nat.le_refl _) _), Lib.hid ⟨rfl, .inl ⟨rfl, rfl⟩⟩, HX, by omega, by simp⟩
 case round =>
  obtain ⟨pos, acc, hit, HB, HO, HE, hfu, hal⟩ := hrel
  by_cases hps : pos < s.size
  ·obtain ⟨g', rfl⟩ : ∃ g', gk = g' + 1 := ⟨gk - 1, by omega⟩
   have hnx : ∀ ty, (Instr.next (.pointer (some ⟨W.heap.size, 0, none⟩)) true ty).run Tryz.prog wr = _ := fun ty => Lib.run_next_any_at wr W.heap.size s pos ty hit hps
   have hwd := Lib.width_pos s pos
   obtain ⟨R, hR⟩ : ∃ R, (Utf8.decode s pos).1 = R := ⟨_, rfl⟩
   obtain ⟨K, hK⟩ : ∃ K, (Utf8.decode s pos).2 = K := ⟨_, rfl⟩
   have HE2 : Hid ((acc ++ escRune R) ++ escFrom s g' (pos + K) = X) := Lib.hid (by
    have := HE.out
    conv at this => lhs; unfold escFrom
    rw [if_pos hps, hR, hK] at this
    rw [List.append_assoc]
    exact this)
   have hRle : R ≤ 1114111 := by rw [← hR]; exact Lib.rune_le s pos
   rw [hR, hK] at hnx
   rw [hK] at hwd
   have hit2 := Lib.iterAt_heap wr W.heap.size s pos (pos + K) hit
   have HB2 := Lib.hid (Lib.below_iterAt HB.out (k := W.heap.size) (Nat.le_refl _) s (pos + K))
   have HO2 := Lib.hid (own_iterAt HO.out hit (pos + K))
   obtain ⟨Y, hWd⟩ : ∃ Y, wr.iterAt W.heap.size s (pos + K) = Y := ⟨_, rfl⟩
   rw [hWd] at hnx hit2 HB2 HO2
   have hltY : W.heap.size < Y.heap.size := (Array.getElem?_eq_some_iff.1 hit2).1
   have hP1 := HP.out R hRle Y
   have hel := escRune_le R
   clear hR hK hWd
   have HIT := Lib.hid hit2
   by_cases hpl : 0 ≤ ePlace R
   ·have hp6 := ePlace_lt R
    obtain ⟨k, hk⟩ : ∃ k : Nat, ePlace R = (k : Int) := ⟨(ePlace R).toNat, by omega⟩
    have hk6 : k < 6 := by omega
    have hesc : escRune R = [92, eLet.getD k 0] := by unfold escRune; rw [if_pos hpl, hk, Int.toNat_natCast]
    rw [hk] at hP1
    rw [hesc] at HE2
    obtain ⟨c, hc⟩ : ∃ c, eLet.getD k 0 = c := ⟨_, rfl⟩
    have hix := fun W => let_run k hk6 W
    simp only [hc] at hix
    rw [hc] at HE2
    have hge : (0 : Int) ≤ (k : Int) := by omega
    clear hpl hp6 hk hesc hc hit2
    go_wp2_with fail
    go_at_call 122; refine hP1.mono ?_; rintro e w1 ⟨rfl, hb1⟩
    have HB1 := Lib.hid (HB2.out.trans (hb1.mono HB2.out.size))
    have HIT1 := Lib.hid ((hb1.block _ hltY).trans HIT.out)
    have hrow1 := (row_below' HO2.out hb1).alloc (.cells #[.int .u8 92, .int .u8 (c.toNat : Int)] 5)
    have hlt1 : W.heap.size < w1.heap.size := Nat.lt_of_lt_of_le hltY hb1.size
    clear hb1 hP1 hnx
    go_wp2_with (at_builtin; refine wpList_append_own _ rfl _ _ 56 rfl (W.heap.size + 1) 5 i0 (.int .u8 0) 1 1 Tryz.underlying56 hi hz0 hz1 hz2 rfl (by decide) _ _ _ rfl hrow1 ⟨w1.heap.size, 0, none⟩ 2 2 [.int .u8 92, .int .u8 (c.toNat : Int)] rfl rfl (cell_two _ _ _ _) (by intro u hu; simp at hu; rcases hu with rfl | rfl <;> rfl) (by unfold maxLen; omega) (by omega) (by simp; omega) ?_; intro v' w2 hown' hgrow _)
    have HRow := Lib.hid hown'
    have HGr := Lib.hid hgrow
    have HB3 := Lib.hid ((HB1.out.alloc (by omega) (.cells #[.int .u8 92, .int .u8 (c.toNat : Int)] 5)).grown hgrow (by simp; omega) (fun q hq => by have := own_base hrow1 q hq; omega))
    have HIT2 := Lib.hid ((hgrow.block W.heap.size (by simp; omega) (own_ne_iter hrow1 ((Below.heap_alloc w1 _ _ hlt1).trans HIT1.out))).trans ((Below.heap_alloc w1 _ _ hlt1).trans HIT1.out))
    clear hown' hgrow hrow1
    go_roundg g'
    case measure => omega
    case rel => exact ⟨pos + K, acc ++ [92, c], HIT2.out, HB3, Lib.hid (by
     have := HRow.out
     rw [byteCells_app, List.length_append]
     exact this), HE2, by omega, by simp; omega⟩
   ·have hesc : escRune R = Lib.encodeRune (R : Int) := by unfold escRune; rw [if_neg hpl]
    rw [hesc] at HE2 hel
    have hn : ¬ 0 ≤ ePlace R := hpl
    obtain ⟨z, hz⟩ : ∃ z, ePlace R = z := ⟨_, rfl⟩
    rw [hz] at hP1 hn
    obtain ⟨E, hE⟩ : ∃ E, Lib.encodeRune (R : Int) = E := ⟨_, rfl⟩
    have hcells : Lib.runeCells (R : Int) = Lib.byteCells E := by rw [← hE, Lib.byteCells_encodeRune]
    rw [hE] at HE2 hel
    have HC := Lib.hid hcells
    clear hpl hz hesc hit2 hE hcells
    go_wp2_with fail
    go_at_call 122; refine hP1.mono ?_; rintro e w1 ⟨rfl, hb1⟩
    have HB1 := Lib.hid (HB2.out.trans (hb1.mono HB2.out.size))
    have HIT1 := Lib.hid ((hb1.block _ hltY).trans HIT.out)
    have HRow1 := Lib.hid (row_below' HO2.out hb1)
    have hlt1 : W.heap.size < w1.heap.size := Nat.lt_of_lt_of_le hltY hb1.size
    clear hb1 hP1 hnx
    have hcon := HAR.out u3 acc.length (Lib.byteCells acc) R hRle w1 HRow1.out (by omega) (by omega)
    have HCon := Lib.hid hcon
    clear hcon
    go_wp2_with fail
    go_at_call 134; refine HCon.out.mono ?_; rintro e w2 ⟨v', rfl, hown', o, hgrow⟩
    have hlo : W.heap.size < (w1.alloc o).heap.size := by simp; omega
    have HRow := Lib.hid hown'
    have HB3 := Lib.hid ((HB1.out.alloc (by omega) o).grown hgrow (by simp; omega) (fun q hq => by have := own_base HRow1.out q hq; omega))
    have HIT2 := Lib.hid ((hgrow.block W.heap.size hlo (own_ne_iter HRow1.out HIT1.out)).trans ((Below.heap_alloc w1 _ _ hlt1).trans HIT1.out))
    clear hown' hgrow hlo
    go_wp2_with fail
    go_roundg g'
    case measure => omega
    case rel => exact ⟨pos + K, acc ++ E, HIT2.out, HB3, Lib.hid (by
     have := HRow.out
     rw [HC.out, Lib.byteCells_length] at this
     rw [byteCells_app, List.length_append]
     exact this), HE2, by omega, by simp; omega⟩
  ·have hnx : ∀ ty, (Instr.next (.pointer (some ⟨W.heap.size, 0, none⟩)) true ty).run Tryz.prog wr = _ := fun ty => Lib.run_next_end_at wr W.heap.size s pos ty hit hps
   have hacc : acc = X := by
    have := HE.out
    rw [show escFrom s gk pos = [] by cases gk with
     | zero => rfl
     | succ n => unfold escFrom; rw [if_neg hps]] at this
    simpa using this
   subst hacc
   have hrow := HO.out
   have hcv : (convert 56 9 u3).run Tryz.prog wr = .ok (.string ⟨acc.toArray⟩) wr := by
    rcases hrow.2 with ⟨rfl, h2⟩ | ⟨g, cap, cur, rfl, h3, h4, h5, h6, h7, h8⟩
    ·obtain rfl : acc = [] := List.length_eq_zero_iff.1 h2
     exact run_convert_bytes_nil (P := Tryz.prog) wr 56 5 Tryz.underlying56 Tryz.underlying5 0 0 9 Tryz.underlying9
    ·refine run_convert_bytes_back (P := Tryz.prog) wr 56 9 5 ⟨g, 0, none⟩ cap acc Tryz.underlying56 Tryz.underlying5 Tryz.underlying9 (fun j hj => ?_)
     have := World.ownsRow.cells hrow (g := g) rfl j (.int .u8 (acc[j].toNat : Int)) (by simp [Lib.byteCells, hj])
     exact this
   clear hrow
   go_wp2
   go_ret
   exact ⟨rfl, HB.out⟩
end Go.Proofs.YtljgggohjigaoaaGreatDoor
namespace Go.Proofs.YtljgggohjigaoaaGreatDoor
open Go.RowKit Go.Shelf
set_option linter.unusedVariables false

def escB (l : List UInt8) : List UInt8 := escFrom ⟨l.toArray⟩ l.length 0
def hereL : Nat → List UInt8 → List UInt8 → List UInt8 → Except Int (List UInt8 × List UInt8)
 | 0, _, _, _ => .error 40
 | n + 1, nm, B, R => if Lib.hasPrefix R [10] then
   (if (Lib.trimLeftS (tookL (R.drop 1) ((R.drop 1).dropWhile (notIn [10]))) [32, 9] == nm) then .ok (escB (tookL B (R.drop 1)), (R.drop 1).dropWhile (notIn [10]))
    else hereL n nm B ((R.drop 1).dropWhile (notIn [10])))
  else .error 40
def heredocL (R : List UInt8) : Except Int (List UInt8 × List UInt8) :=
 if (wordL (R.drop 2)).length < (R.drop 2).length then hereL ((wordL (R.drop 2)).length + 1) (tookL (R.drop 2) (wordL (R.drop 2))) ((wordL (R.drop 2)).drop 1) (wordL (R.drop 2)) else .error 40
theorem hereL_more {nm B : List UInt8} : ∀ {n m : Nat} {R : List UInt8}, R.length < n → R.length < m → hereL n nm B R = hereL m nm B R
 | 0, m, R, h, _ => by omega
 | n + 1, 0, R, _, h => by omega
 | n + 1, m + 1, R, h1, h2 => by
  unfold hereL
  split
  ·rename_i hp
   split
   ·rfl
   ·have h3 := prefix_drop hp
    simp at h3
    have h4 := dropWhile_le (q := notIn [10]) (R.drop 1)
    simp at h4
    exact hereL_more (by simp; omega) (by simp; omega)
  ·rfl
theorem hereL_step {nm B R : List UInt8} (h : Lib.hasPrefix R [10] = true) : hereL (R.length + 1) nm B R = if (Lib.trimLeftS (tookL (R.drop 1) ((R.drop 1).dropWhile (notIn [10]))) [32, 9] == nm) then .ok (escB (tookL B (R.drop 1)), (R.drop 1).dropWhile (notIn [10])) else hereL (((R.drop 1).dropWhile (notIn [10])).length + 1) nm B ((R.drop 1).dropWhile (notIn [10])) := by
 conv => lhs; unfold hereL
 rw [if_pos h]
 split
 ·rfl
 ·have h3 := prefix_drop h
  simp at h3
  have h4 := dropWhile_le (q := notIn [10]) (R.drop 1)
  simp at h4
  exact hereL_more (by simp; omega) (by omega)
theorem str_of_list {s : ByteArray} {l : List UInt8} (h : s.data.toList = l) : s = ⟨l.toArray⟩ := by
 subst h
 rfl
theorem info256 : (Tryz.prog.info? 156).map (fun i => (i.zero, i.size)) = some (some (.agg (Array.replicate 256 (.bool false))), 256) := by kernel_rfl
set_option maxRecDepth 100000 in
theorem trim_any2 (s : ByteArray) (w : World) : Calls Tryz.prog 115 #[.string s, .string ⟨#[32, 9]⟩] w fun e w' => e = .returned (.string ⟨(Lib.trimLeftS s.data.toList [32, 9]).toArray⟩) ∧ Below w.heap.size w w' :=
 Any.strings_TrimLeft_laid Tryz.lays161 info256 s ⟨#[32, 9]⟩ w (by decide) (Go.Proofs.ascii_of_all (l := [32, 9]) (by decide))
/-- A line taken: its bytes. -/
theorem take_line {W : World} {P a : Nat} {t : ByteArray} (h : Scn W P t a) {g : Nat} {lb : Array Value} (hg : Says g lb (outP ⟨#[10]⟩) W) : Calls Tryz.prog 84 #[.pointer (some ⟨P, 0, none⟩), .func (.func g) #[] lb] W fun e w' =>
  ∃ x b, e = .returned (.string x) ∧ Went W w' P t b ∧ rest t b = (rest t a).dropWhile (notIn [10]) ∧ x.data.toList = tookL (rest t a) ((rest t a).dropWhile (notIn [10])) := by
 have hb := outP_bytes asc10 h.2.1
 rw [show (rest t a).dropWhile (fun c => !(⟨#[10]⟩ : ByteArray).data.toList.contains c) = (rest t a).dropWhile (notIn [10]) from rfl] at hb
 refine (take_any h hg rfl hb.2.2 hb.2.1).mono ?_
 rintro e w' ⟨rfl, hw⟩
 exact ⟨_, _, rfl, hw, hb.1, took_list h.2.1 hb.2.1 hb.2.2 hb.1⟩
theorem beq_toList (a b : ByteArray) : (a.toList == b.toList) = (a.data.toList == b.data.toList) := by rw [ByteArray.toList_eq, ByteArray.toList_eq]
set_option maxRecDepth 100000 in
set_option maxHeartbeats 8000000 in
theorem heredoc_any {W : World} {P a : Nat} {t : ByteArray} (h : Scn W P t a) (h1 : Lib.hasPrefix (rest t a) [60, 60] = true) : Calls Tryz.prog 90 #[.pointer (some ⟨P, 0, none⟩)] W (TEnds W P t (heredocL (rest t a))) := by
 have hle := prefix_drop h1
 rw [rest_length] at hle
 simp only [List.length_cons, List.length_nil] at hle
 have hsz := h.2
 have HK := Lib.hid (skip_yes h ⟨#[60, 60]⟩ h1)
 have hw := wordTo_bytes (t := t) (a := a + 2) (by omega)
 obtain ⟨c, hc⟩ : ∃ c, wordTo letP wordP t (a + 2) = c := ⟨_, rfl⟩
 rw [hc] at hw
 have HW := Lib.hid (fun (w : World) (hs : Scn w P t (a + 2)) => word_any hs hc)
 have hl := took_list (by omega) hw.2.1 hw.2.2 hw.1
 have hemp := extract_empty (t := t) (a := a + 2) hw.2.2
 have hrl : (wordL (rest t (a + 2))).length < (rest t (a + 2)).length ↔ a + 2 < c := by
  rw [← hw.1, rest_length, rest_length]; have := hw.2.2; omega
 have hunf : heredocL (rest t a) = if a + 2 < c then hereL ((rest t c).length + 1) (tookL (rest t (a + 2)) (rest t c)) (rest t (c + 1)) (rest t c) else .error 40 := by
  unfold heredocL
  rw [rest_add, ← hw.1, rest_add]
  rw [← hw.1] at hrl
  by_cases hx : a + 2 < c
  ·rw [if_pos hx, if_pos (hrl.2 hx)]
  ·rw [if_neg hx, if_neg (fun h => hx (hrl.1 h))]
 rw [← hw.1] at hl
 obtain ⟨nm, hnm⟩ : ∃ nm, t.extract (a + 2) c = nm := ⟨_, rfl⟩
 rw [hnm] at HW hl hemp
 rw [← hl] at hunf
 by_cases hx : a + 2 < c
 ·rw [if_pos hx] at hunf
  have hne : nm.toList.isEmpty = false := by rw [hemp]; simp; omega
  have HU := Lib.hid hunf
  have hcs := hw.2.2
  clear h h1 hle hw hc hl hemp hrl hunf hnm
  have HN := Lib.hid (fun w => noneOf_any asc10 (by decide) w)
  have HT := Lib.hid (fun (w : World) (d : Nat) (hs : Scn w P t d) (g : Nat) (lb : Array Value) (hg : Says g lb (outP ⟨#[10]⟩) w) => take_line hs hg)
  have HTL := Lib.hid (fun (x : ByteArray) (w : World) => trim_any2 x w)
  go_enter Tryz.func90, Tryz.ntmps90
  go_wp2_with fail
  go_at_call 112; refine HK.out.mono ?_; rintro e w1 ⟨rfl, hw1⟩
  have HW1 := Lib.hid hw1
  clear hw1 HK
  go_wp2_with fail
  go_at_call 114; refine (HW.out _ HW1.out.2).mono ?_; rintro e w2 ⟨rfl, hw2⟩
  have HW2 := Lib.hid (HW1.out.trans hw2)
  have c1 := HW2.out.2.1.cell 1
  clear hw2 HW HW1
  have i0 : (c : Int) + 1 ≤ 16385 := by omega
  go_wp2_with fail
  go_loopg [] t.size (fun gf wx => ∃ d : Nat, Hid (Went W wx P t d) ∧ Hid (hereL ((rest t d).length + 1) nm.data.toList (rest t (c + 1)) (rest t d) = heredocL (rest t a)) ∧ c ≤ d ∧ t.size - d ≤ gf)
  case atStart => exact ⟨c, HW2, Lib.hid HU.out.symm, by omega, by omega⟩
  case round =>
   obtain ⟨d, HWd, HE, hcd, hfu⟩ := hrel
   have hds := HWd.out.2.2.1
   cases hv : Lib.hasPrefix (rest t d) [10]
   ·have HK := Lib.hid (skip_no HWd.out.2 ⟨#[10]⟩ hv)
    have HV := Lib.hid hv
    clear hv
    go_wp2_with (go_at_call 112; refine HK.out.mono ?_; rintro e w3 ⟨rfl, hb3⟩)
    go_ret2
    rw [← HE.out]
    unfold hereL
    rw [HV.out, if_neg Bool.false_ne_true]
    exact TEnds.errAt (HWd.out.trans (HWd.out.2.stays hb3))
   ·have HK := Lib.hid (skip_yes HWd.out.2 ⟨#[10]⟩ hv)
    have HV := Lib.hid hv
    have hd1 := prefix_drop hv
    rw [rest_length] at hd1
    simp only [List.length_cons, List.length_nil] at hd1
    clear hv
    go_wp2_with fail
    go_at_call 112; refine HK.out.mono ?_; rintro e w3 ⟨rfl, hw3⟩
    have HW3 := Lib.hid (HWd.out.trans hw3)
    have k1 := HW3.out.2.1.cell 1
    clear hw3 HK
    go_wp2_with fail
    go_at_call 110; refine (HN.out _).mono ?_; rintro e w4 ⟨⟨lb, rfl, hsay⟩, hb4⟩
    have HW4 := Lib.hid (HW3.out.trans (HW3.out.2.stays hb4))
    have HSY := Lib.hid hsay
    clear hb4 hsay k1
    go_wp2_with fail
    go_at_call 84; refine (HT.out _ _ HW4.out.2 _ _ HSY.out).mono ?_; rintro e w5 ⟨x, b5, rfl, hw5, hr5, hx5⟩
    have HW5 := Lib.hid (HW4.out.trans hw5)
    have HR5 := Lib.hid hr5
    have HX5 := Lib.hid hx5
    clear hw5 hr5 hx5
    go_wp2_with fail
    go_at_call 115; refine (HTL.out _ _).mono ?_; rintro e w6 ⟨rfl, hb6⟩
    have HW6 := Lib.hid (HW5.out.trans (HW5.out.2.stays hb6))
    clear hb6
    obtain ⟨y, hy⟩ : ∃ y : ByteArray, (⟨(Lib.trimLeftS x.data.toList [32, 9]).toArray⟩ : ByteArray) = y := ⟨_, rfl⟩
    rw [hy]
    have hyl : y.data.toList = Lib.trimLeftS x.data.toList [32, 9] := by rw [← hy]
    have HYL := Lib.hid hyl
    clear hy hyl
    cases hq : (y.toList == nm.toList)
    ·have HQ : Hid ((Lib.trimLeftS x.data.toList [32, 9] == nm.data.toList) = false) := Lib.hid (by rw [← HYL.out, ← beq_toList]; exact hq)
     have hb5l : t.size - b5 ≤ t.size - (d + 1) := by
      have h1 := dropWhile_le (q := notIn [10]) (rest t (d + 1))
      have h2 := HR5.out
      simp only [show (⟨#[10]⟩ : ByteArray).size = 1 from rfl] at h2
      rw [← h2, rest_length, rest_length] at h1
      exact h1
     have hb5s := HW6.out.2.2.1
     obtain ⟨g', rfl⟩ : ∃ g', gk = g' + 1 := ⟨gk - 1, by omega⟩
     go_wp2_with fail
     go_roundg g'
     case measure => omega
     case rel => exact ⟨b5, HW6, Lib.hid (by
      have h2 := HR5.out
      have h3 := HX5.out
      simp only [show (⟨#[10]⟩ : ByteArray).size = 1 from rfl] at h2 h3
      rw [← HE.out, hereL_step HV.out, rest_add, ← h3, ← h2, HQ.out, if_neg Bool.false_ne_true]), by omega, by omega⟩
    ·have HQ : Hid ((Lib.trimLeftS x.data.toList [32, 9] == nm.data.toList) = true) := Lib.hid (by rw [← HYL.out, ← beq_toList]; exact hq)
     have k0 := HW6.out.2.1.cell 0
     have i1 : (0 : Int) ≤ (c : Int) + 1 := by omega
     have i2 : (c : Int) + 1 ≤ (d : Int) + 1 := by omega
     have i3 : (d : Int) + 1 ≤ (t.size : Int) := by omega
     have i4 : ((c : Int) + 1).toNat = c + 1 := by omega
     have i5 : ((d : Int) + 1).toNat = d + 1 := by omega
     have hes := escape_text (s := t.extract (c + 1) (d + 1)) (by simp; omega)
     have hsl := took_list (t := t) (a := c + 1) (b := d + 1) (by omega) (by omega) (by omega) rfl
     rw [show escFrom (t.extract (c + 1) (d + 1)) (t.extract (c + 1) (d + 1)).size 0 = escB (tookL (rest t (c + 1)) (rest t (d + 1))) by
      unfold escB
      rw [← hsl, ← str_of_list rfl]
      rfl] at hes
     have HES := Lib.hid hes
     clear hes hsl
     go_wp2_with fail
     go_at_call 116; refine (HES.out _).mono ?_; rintro e w7 ⟨rfl, hb7⟩
     clear i1 i2 i3 i4 i5 k0
     go_wp2
     go_ret2
     have h2 := HR5.out
     have h3 := HX5.out
     simp only [show (⟨#[10]⟩ : ByteArray).size = 1 from rfl] at h2 h3
     rw [← HE.out, hereL_step HV.out, rest_add, ← h3, ← h2, HQ.out, if_pos rfl]
     exact TEnds.okAt (HW6.out.trans (HW6.out.2.stays hb7)) rfl rfl
 ·rw [if_neg hx] at hunf
  have hne : nm.toList.isEmpty = true := by rw [hemp]; simp; omega
  have HU := Lib.hid hunf
  clear h h1 hle hw hc hl hemp hrl hunf hnm
  go_enter Tryz.func90, Tryz.ntmps90
  go_wp2_with fail
  go_at_call 112; refine HK.out.mono ?_; rintro e w1 ⟨rfl, hw1⟩
  have HW1 := Lib.hid hw1
  clear hw1 HK
  go_wp2_with fail
  go_at_call 114; refine (HW.out _ HW1.out.2).mono ?_; rintro e w2 ⟨rfl, hw2⟩
  go_wp2
  go_ret2
  rw [HU.out]
  exact TEnds.errAt (HW1.out.trans hw2)
end Go.Proofs.YtljgggohjigaoaaGreatDoor
namespace Go.Proofs.YtljgggohjigaoaaGreatDoor
open Go.RowKit Go.Shelf
set_option linter.unusedVariables false

/-- The kind of the token that begins here, and what reading it tells. -/
def nextL (R : List UInt8) : Int × Except Int (List UInt8 × List UInt8) := match R with
 | [] => (4, .error 40)
 | c :: _ => if c = 10 then (5, .ok ([10], R.drop 1)) else if c = 34 then (3, quotedL R) else if Lib.hasPrefix R [60, 60] then (3, heredocL R) else if digB c then (2, numberL R) else if letB c then (1, nameL R) else (4, signL R)
/-- A reader of what stands at byte a. -/
structure Reader (f : Nat) (P a : Nat) (t : ByteArray) (r : Except Int (List UInt8 × List UInt8)) : Prop where
 enters : ∀ args w, (callFunc f args).run Tryz.prog w = .ok (.enter f args) w
 reads : ∀ W, Scn W P t a → Signs W → Calls Tryz.prog f #[.pointer (some ⟨P, 0, none⟩)] W (TEnds W P t r)
theorem hmf1 : ∀ (fn : Fn) (first cap : Array Value) (w : World), (Instr.makeFunc fn first cap).run Tryz.prog w = .ok (.func fn first cap) w := fun _ _ _ _ => rfl
theorem head_pre {R : List UInt8} {c : UInt8} {r : List UInt8} (h : R = c :: r) : Lib.hasPrefix R [c] = true := by subst h; simp [Lib.hasPrefix, List.isPrefixOf]

/-- What next answers. -/
def NextEnds (W : World) (P a : Nat) (t : ByteArray) (e : Ending) (w' : World) : Prop := (∃ f, e = .returned (.tuple #[.int .i64 (nextL (rest t a)).1, .func (.func f) #[.pointer (some ⟨P, 0, none⟩)] #[]]) ∧ Reader f P a t (nextL (rest t a)).2) ∧ Below W.heap.size W w'
theorem NextEnds.mk {W w' : World} {P a f : Nat} {t : ByteArray} {k : Int} {r : Except Int (List UInt8 × List UInt8)} (hn : nextL (rest t a) = (k, r)) (hr : Reader f P a t r) (hb : Below W.heap.size W w') : NextEnds W P a t (.returned (.tuple #[.int .i64 k, .func (.func f) #[.pointer (some ⟨P, 0, none⟩)] #[]])) w' := by
 unfold NextEnds
 rw [hn]
 exact ⟨⟨f, rfl, hr⟩, hb⟩
theorem byte_run {t : ByteArray} {a : Nat} {c : UInt8} (ha : a < t.size) (hc : t[a]'ha = c) (W : World) : (Instr.index 9 (.string t) (.int .i64 (a : Int))).run Tryz.prog W = .ok (.int .u8 (c.toNat : Int)) W := by
 have hu := Tryz.underlying9
 have h1 : (0 : Int) ≤ (a : Int) := by omega
 simp [Instr.index, run_underlying hu, asIntOf, go_sem, h1, getElem?_pos, ha, hc]
set_option maxRecDepth 100000 in
set_option maxHeartbeats 8000000 in
theorem next_any {W : World} {P a : Nat} {t : ByteArray} (h : Scn W P t a) (hP : 4 ≤ P) (ha : a < t.size) : Calls Tryz.prog 69 #[.pointer (some ⟨P, 0, none⟩)] W (NextEnds W P a t) := by
 have hmf := hmf1
 have hR := rest_cons ha
 obtain ⟨c, hc⟩ : ∃ c, t[a]'ha = c := ⟨_, rfl⟩
 rw [hc] at hR
 have HS := Lib.hid h
 have HA := Lib.hid (fun (w : World) (hs : Scn w P t a) => has_any hs ⟨#[60, 60]⟩)
 have c255 := c.toNat_lt
 have HD := Lib.hid (fun w => isDigit_any c.toNat (by omega) w)
 have HL := Lib.hid (fun w => isLetter_any c.toNat (by omega) w)
 have hpre := head_pre hR
 have k0 := h.1.cell 0
 have k1 := h.1.cell 1
 have i0 : (0 : Int) ≤ (a : Int) := by omega
 have i1 : (a : Int) < (t.size : Int) := by omega
 have i2 : IntKind.i32.wrap (c.toNat : Int) = (c.toNat : Int) := by
  unfold IntKind.wrap
  simp [IntKind.bits, IntKind.signed]
  omega
 have hix : ∀ W, (Instr.index 9 (.string t) (.int .i64 (a : Int))).run Tryz.prog W = .ok (.int .u8 (c.toNat : Int)) W := fun W => byte_run ha hc W
 by_cases h10 : c = 10
 ·have hn : nextL (rest t a) = (5, .ok ([10], (rest t a).drop 1)) := by rw [hR]; unfold nextL; simp only; rw [if_pos h10]
  have hr : Reader 87 P a t (.ok ([10], (rest t a).drop 1)) := ⟨enters_of Tryz.func87 (by kernel_rfl) rfl, fun w hs _ => line_any hs (by rw [← h10]; exact hpre)⟩
  have e10 : ((c.toNat : Int) == 10) = true := by rw [h10]; rfl
  have HN := Lib.hid hn
  have HR := Lib.hid hr
  clear h hR hc HA HD HL hpre hn hr h10 ha
  go_enter Tryz.func69, Tryz.ntmps69
  go_wp2_with fail
  go_quiet (fail)
  go_wp2
  go_ret2
  exact NextEnds.mk HN.out HR.out (below_drewN _ _)
 ·have e10 : ((c.toNat : Int) == 10) = false := beq_eq_false_iff_ne.2 (fun e => h10 (UInt8.toNat_inj.1 (by simpa using Int.ofNat.inj e)))
  by_cases h34 : c = 34
  ·have hn : nextL (rest t a) = (3, quotedL (rest t a)) := by rw [hR]; unfold nextL; simp only; rw [if_neg h10, if_pos h34]
   have hr : Reader 88 P a t (quotedL (rest t a)) := ⟨enters_of Tryz.func88 (by kernel_rfl) rfl, fun w hs _ => quoted_any hs (by rw [← h34]; exact hpre)⟩
   have e34 : ((c.toNat : Int) == 34) = true := by rw [h34]; rfl
   have HN := Lib.hid hn
   have HR := Lib.hid hr
   clear h hR hc HA HD HL hpre hn hr h10 h34 ha
   go_enter Tryz.func69, Tryz.ntmps69
   go_wp2_with fail
   go_quiet (fail)
   go_wp2
   go_ret2
   exact NextEnds.mk HN.out HR.out (below_drewN _ _)
  ·have e34 : ((c.toNat : Int) == 34) = false := beq_eq_false_iff_ne.2 (fun e => h34 (UInt8.toNat_inj.1 (by simpa using Int.ofNat.inj e)))
   cases h60 : Lib.hasPrefix (rest t a) [60, 60]
   ·have hdg : digP c.toNat = digB c := rfl
    have hlt : letP c.toNat = letB c := rfl
    rw [hdg] at HD
    rw [hlt] at HL
    simp only [h60] at HA
    cases hd : digB c
    ·cases hl : letB c
     ·have hn : nextL (rest t a) = (4, signL (rest t a)) := by
       unfold nextL; rw [hR]; simp only; rw [← hR, if_neg h10, if_neg h34, h60, hd, hl]; rfl
      have hr : Reader 95 P a t (signL (rest t a)) := ⟨enters_of Tryz.func95 (by kernel_rfl) rfl, fun w hs hg => sign_any hs hP hg⟩
      have HN := Lib.hid hn
      have HR := Lib.hid hr
      rw [hd] at HD
      rw [hl] at HL
      clear h hR hc hpre hn hr h10 h34 ha h60 hdg hlt hd hl
      go_enter Tryz.func69, Tryz.ntmps69
      go_wp2_with fail
      go_quiet (fail)
      have HB0 := Lib.hid (below_drewN W nq)
      go_wp2_with fail
      go_at_call 89; refine (HA.out _ (HS.out.below HB0.out)).mono ?_; rintro e w1 ⟨rfl, hb1⟩
      have HB1 := Lib.hid (HB0.out.trans (hb1.mono HB0.out.size))
      clear hb1
      go_wp2_with (first | (go_at_call 91; refine (HD.out _).mono ?_; rintro e w2 ⟨rfl, rfl⟩) | (go_at_call 93; refine (HL.out _).mono ?_; rintro e w2 ⟨rfl, rfl⟩))
      go_ret2
      exact NextEnds.mk HN.out HR.out HB1.out
     ·have hn : nextL (rest t a) = (1, nameL (rest t a)) := by
       unfold nextL; rw [hR]; simp only; rw [← hR, if_neg h10, if_neg h34, h60, hd, hl]; rfl
      have hr : Reader 94 P a t (nameL (rest t a)) := ⟨enters_of Tryz.func94 (by kernel_rfl) rfl, fun w hs hg => name_any hs⟩
      have HN := Lib.hid hn
      have HR := Lib.hid hr
      rw [hd] at HD
      rw [hl] at HL
      clear h hR hc hpre hn hr h10 h34 ha h60 hdg hlt hd hl
      go_enter Tryz.func69, Tryz.ntmps69
      go_wp2_with fail
      go_quiet (fail)
      have HB0 := Lib.hid (below_drewN W nq)
      go_wp2_with fail
      go_at_call 89; refine (HA.out _ (HS.out.below HB0.out)).mono ?_; rintro e w1 ⟨rfl, hb1⟩
      have HB1 := Lib.hid (HB0.out.trans (hb1.mono HB0.out.size))
      clear hb1
      go_wp2_with (first | (go_at_call 91; refine (HD.out _).mono ?_; rintro e w2 ⟨rfl, rfl⟩) | (go_at_call 93; refine (HL.out _).mono ?_; rintro e w2 ⟨rfl, rfl⟩))
      go_ret2
      exact NextEnds.mk HN.out HR.out HB1.out
    ·have hn : nextL (rest t a) = (2, numberL (rest t a)) := by
      unfold nextL; rw [hR]; simp only; rw [← hR, if_neg h10, if_neg h34, h60, hd]; rfl
     have hr : Reader 92 P a t (numberL (rest t a)) := ⟨enters_of Tryz.func92 (by kernel_rfl) rfl, fun w hs hg => number_any hs (by
      rw [hR, List.dropWhile_cons_of_pos hd]
      have := dropWhile_le (q := digB) (rest t (a + 1))
      simp; omega)⟩
     have HN := Lib.hid hn
     have HR := Lib.hid hr
     rw [hd] at HD
     clear h hR hc hpre hn hr h10 h34 ha h60 hdg hlt hd HL
     go_enter Tryz.func69, Tryz.ntmps69
     go_wp2_with fail
     go_quiet (fail)
     have HB0 := Lib.hid (below_drewN W nq)
     go_wp2_with fail
     go_at_call 89; refine (HA.out _ (HS.out.below HB0.out)).mono ?_; rintro e w1 ⟨rfl, hb1⟩
     have HB1 := Lib.hid (HB0.out.trans (hb1.mono HB0.out.size))
     clear hb1
     go_wp2_with (go_at_call 91; refine (HD.out _).mono ?_; rintro e w2 ⟨rfl, rfl⟩)
     go_ret2
     exact NextEnds.mk HN.out HR.out HB1.out
   ·have hn : nextL (rest t a) = (3, heredocL (rest t a)) := by
     unfold nextL; rw [hR]; simp only; rw [← hR, if_neg h10, if_neg h34, h60]; rfl
    have hr : Reader 90 P a t (heredocL (rest t a)) := ⟨enters_of Tryz.func90 (by kernel_rfl) rfl, fun w hs hg => heredoc_any hs h60⟩
    have HN := Lib.hid hn
    have HR := Lib.hid hr
    simp only [h60] at HA
    clear h hR hc hpre hn hr h10 h34 ha h60 HL HD
    go_enter Tryz.func69, Tryz.ntmps69
    go_wp2_with fail
    go_quiet (fail)
    have HB0 := Lib.hid (below_drewN W nq)
    go_wp2_with fail
    go_at_call 89; refine (HA.out _ (HS.out.below HB0.out)).mono ?_; rintro e w1 ⟨rfl, hb1⟩
    have HB1 := Lib.hid (HB0.out.trans (hb1.mono HB0.out.size))
    clear hb1
    go_wp2
    go_ret2
    exact NextEnds.mk HN.out HR.out HB1.out
end Go.Proofs.YtljgggohjigaoaaGreatDoor
