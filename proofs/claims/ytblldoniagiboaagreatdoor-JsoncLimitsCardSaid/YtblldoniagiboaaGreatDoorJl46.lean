/- JsoncLimits: the walk -/
import Derived.OwnWalk
import Derived.Laws.IdiomStrings
import Derived.Test.YtblldoniagiboaaGreatDoorJl45
namespace Go.Proofs.YtblldoniagiboaaGreatDoor
open Go.RowKit Go.Shelf
set_option linter.unusedVariables false

set_option maxRecDepth 100000 in
theorem is_same {W : World} {D : Nat} {c p : Int} (h : Blk W D #[.int .i64 c, .string ⟨#[]⟩, .int .i64 p] 56) (hc : c ≠ 0) : Calls Tryz.prog 19 #[.pointer (some ⟨D, 0, none⟩), .int .i64 c, .int .i64 p] W fun e w' => e = .returned (.bool true) ∧ Below W.heap.size W w' := by
  have c0 := h.cell 0
  have c1 := h.cell 1
  have c2 := h.cell 2
  have q0 : (c == 0) = false := beq_eq_false_iff_ne.2 hc
  have q1 : (c == c) = true := beq_self_eq_true c
  have q2 : (p == p) = true := beq_self_eq_true p
  clear hc h
  go_enter Tryz.func19, Tryz.ntmps19
  go_wp2
  go_ret
  exact ⟨rfl, Below.refl _ _⟩
def opnB : Nat → ByteArray
  | 0 => ⟨#[]⟩
  | k + 1 => opnB k ++ ⟨#[91]⟩
def shtB : Nat → ByteArray
  | 0 => ⟨#[]⟩
  | k + 1 => shtB k ++ ⟨#[93]⟩
theorem app_list (a b : ByteArray) : (a ++ b).data.toList = a.data.toList ++ b.data.toList := by rw [ByteArray.data_append]; simp
theorem opn_list : ∀ k, (opnB k).data.toList = List.replicate k 91
  | 0 => rfl
  | k + 1 => by unfold opnB; rw [app_list, opn_list k, List.replicate_succ']
theorem sht_list : ∀ k, (shtB k).data.toList = List.replicate k 93
  | 0 => rfl
  | k + 1 => by unfold shtB; rw [app_list, sht_list k, List.replicate_succ']
theorem opn_size (k : Nat) : (opnB k).size = k := by rw [Lib.size_eq, opn_list]; simp
theorem sht_size (k : Nat) : (shtB k).size = k := by rw [Lib.size_eq, sht_list]; simp
theorem nest_eq (k : Nat) : opnB k ++ shtB k = nest k := str_eq (by rw [app_list, opn_list, sht_list])
theorem nest_size (k : Nat) : (nest k).size = 2 * k := by rw [← nest_eq, ByteArray.size_append, opn_size, sht_size]; omega
theorem nest_ok {n : Nat} (h : n < 40) (h1 : 1 ≤ n) (h2 : n ≤ 24) : ∃ T, wholeJ (nest n) = .ok T := by
  have := List.all_eq_true.1 nest_all n (List.mem_range.2 h)
  unfold nestR at this
  cases hw : wholeJ (nest n) with
  | ok T => exact ⟨T, rfl⟩
  | error b =>
    obtain ⟨c, l⟩ := b
    rw [hw] at this
    simp only at this
    rw [if_neg (by omega)] at this
    have := of_decide_eq_true this
    omega
theorem nest_bad {n : Nat} (h : n < 40) (h2 : 24 < n) : ∃ l, wholeJ (nest n) = .error (7, l) ∧ (nest n).size - l = 24 := by
  have := List.all_eq_true.1 nest_all n (List.mem_range.2 h)
  unfold nestR at this
  cases hw : wholeJ (nest n) with
  | ok T =>
    rw [hw] at this
    have := of_decide_eq_true this
    omega
  | error b =>
    obtain ⟨c, l⟩ := b
    rw [hw] at this
    simp only at this
    rw [if_neg (by omega)] at this
    have := of_decide_eq_true this
    obtain ⟨-, rfl, h3⟩ := this
    exact ⟨l, rfl, h3⟩
theorem nest_zero : wholeJ (nest 0) = .error (30, 0) := by kernel_rfl
theorem ones_app : ∀ (k : Nat) (R : List UInt8), ones k R = ones k [] ++ R
  | 0, R => rfl
  | k + 1, R => by unfold ones; rw [ones_app k R]; rfl
theorem ones_snoc : ∀ k, ones (k + 1) [] = ones k [] ++ [49, 44]
  | 0 => rfl
  | k + 1 => by
    show 49 :: 44 :: ones (k + 1) [] = (49 :: 44 :: ones k []) ++ [49, 44]
    rw [ones_snoc k]
    rfl
theorem row_some {B : Nat} {w : World} {v : Value} {L : List UInt8} (h : Row B w v L) (hL : 0 < L.length) : ∃ g cap, v = .slice (some ⟨g, 0, none⟩) L.length cap ∧ L.length ≤ cap ∧ B ≤ g := by
  rcases h.2 with ⟨h1, h2⟩ | ⟨g, cap, cur, rfl, h3, h4, h5, h6⟩
  · omega
  · exact ⟨g, cap, rfl, h5, h3⟩
theorem conv_cut {B : Nat} {w : World} {g cap m : Nat} {L S : List UInt8} (h : Row B w (.slice (some ⟨g, 0, none⟩) L.length cap) L) (hS : L.take m = S) (hm : m ≤ L.length) : (convert 44 9 (.slice (some ⟨g, 0, none⟩) m cap)).run Tryz.prog w = .ok (.string ⟨S.toArray⟩) w := by
  subst hS
  have hl : (L.take m).length = m := by simp [hm]
  have := run_convert_bytes_back (P := Tryz.prog) w 44 9 5 ⟨g, 0, none⟩ cap (L.take m) Tryz.underlying44 Tryz.underlying5 Tryz.underlying9 (fun j hj => by
    rw [hl] at hj
    have hjl : j < L.length := by omega
    have := World.ownsRow.cells h (g := g) rfl j (.int .u8 (L[j].toNat : Int)) (by simp [Lib.byteCells, hjl])
    rw [List.getElem_take]
    exact this)
  rw [hl] at this
  exact this
/-- A block of 65536 bytes. -/
def Byt (w : World) (g : Nat) (f : Nat → UInt8) : Prop := ∃ cs, Blk w g cs 5 ∧ ∀ j, j < 65536 → cs[j]? = some (.int .u8 ((f j).toNat : Int))
theorem Byt.cell {w : World} {g : Nat} {f : Nat → UInt8} (h : Byt w g f) {j : Nat} (hj : j < 65536) : w.cell? ⟨g, j, none⟩ = some (.int .u8 ((f j).toNat : Int)) := by
  obtain ⟨cs, h1, h2⟩ := h
  rw [h1.cell, h2 j hj]
theorem Byt.frozen {w : World} {g : Nat} {f : Nat → UInt8} (h : Byt w g f) (j : Nat) : w.frozen? ⟨g, j, none⟩ = false := by
  obtain ⟨cs, h1, h2⟩ := h
  exact h1.frozen j
theorem Byt.set {w : World} {g : Nat} {f : Nat → UInt8} (h : Byt w g f) (i : Nat) (c : UInt8) : Byt (w.setCell ⟨g, i, none⟩ (.int .u8 (c.toNat : Int))) g (fun j => if j = i then c else f j) := by
  obtain ⟨cs, h1, h2⟩ := h
  refine ⟨_, h1.set i _, fun j hj => ?_⟩
  have hs := (Array.getElem?_eq_some_iff.1 (h2 j hj)).1
  rw [Array.getElem?_setIfInBounds]
  by_cases e : i = j
  · subst e
    rw [if_pos rfl, if_pos hs]
    show _ = some (Value.int .u8 (((if i = i then c else f i : UInt8)).toNat : Int))
    rw [if_pos rfl]
  · rw [if_neg e]
    show _ = some (Value.int .u8 (((if j = i then c else f j : UInt8)).toNat : Int))
    rw [if_neg (Ne.symm e)]
    exact h2 j hj
theorem Byt.congr {w : World} {g : Nat} {f f' : Nat → UInt8} (h : Byt w g f) (e : ∀ j, j < 65536 → f j = f' j) : Byt w g f' := by
  obtain ⟨cs, h1, h2⟩ := h
  exact ⟨cs, h1, fun j hj => by rw [← e j hj]; exact h2 j hj⟩
theorem Byt.below {w w' : World} {g : Nat} {f : Nat → UInt8} (h : Byt w g f) (hb : Below w.heap.size w w') : Byt w' g f := by
  obtain ⟨cs, h1, h2⟩ := h
  exact ⟨cs, h1.below hb, h2⟩
theorem Byt.lt {w : World} {g : Nat} {f : Nat → UInt8} (h : Byt w g f) : g < w.heap.size := by
  obtain ⟨cs, h1, h2⟩ := h
  exact h1.lt
/-- Blanks up to i, zeros behind. -/
def fillB (i j : Nat) : UInt8 := if j < i then 32 else 0
/-- Blanks, with a 7 at n. -/
def wideB (n j : Nat) : UInt8 := if j = n then 55 else 32
theorem fill_next (i j : Nat) : (if j = i then (32 : UInt8) else fillB i j) = fillB (i + 1) j := by
  unfold fillB
  by_cases e : j = i
  · subst e; rw [if_pos rfl, if_pos (by omega)]
  · rw [if_neg e]
    by_cases h : j < i
    · rw [if_pos h, if_pos (show j < i + 1 by omega)]
    · rw [if_neg h, if_neg (show ¬ j < i + 1 by omega)]
theorem Byt.made {w : World} {lo g : Nat} (h : w.ownsRow lo 5 1 (.slice (some ⟨g, 0, none⟩) 65536 65536) 65536 (madeCells (Value.int .u8 0).cells (65536 * 1)).toList) : Byt w g (fillB 0) := by
  have e : (madeCells (Value.int .u8 0).cells (65536 * 1)).toList = List.replicate 65536 (.int .u8 0) := by
    show (madeCells #[.int .u8 0] (65536 * 1)).toList = _
    rw [toList_madeCells_one]
  rw [e] at h
  obtain ⟨h1, ⟨h2, h3⟩ | ⟨g', cap, cur, h2, h3, h4, h5, h6, h7, h8⟩⟩ := h
  · cases h2
  · injection h2 with h2 _ h2c
    injection h2 with h2
    injection h2 with h2
    subst h2
    subst h2c
    refine ⟨cur, h4, fun j hj => ?_⟩
    rw [List.take_of_length_le (by simp [h7])] at h8
    have : cur.toList[j]? = some (.int .u8 0) := by rw [h8, List.getElem?_replicate, if_pos hj]
    simpa [fillB] using this
def wideL (n : Nat) : List UInt8 := List.replicate n 32 ++ 55 :: List.replicate (65535 - n) 32
def wideS (n : Nat) : ByteArray := ⟨(wideL n).toArray⟩
theorem wideL_length {n : Nat} (h : n < 40) : (wideL n).length = 65536 := by unfold wideL; simp; omega
theorem wideL_at {n j : Nat} (h : n < 40) (hj : j < (wideL n).length) : (wideL n)[j] = wideB n j := by
  have hl := wideL_length h
  have : (wideL n)[j]? = some (wideB n j) := by
    unfold wideL wideB
    by_cases h1 : j < n
    · rw [List.getElem?_append_left (by simpa using h1), List.getElem?_replicate, if_pos h1, if_neg (by omega)]
    · rw [List.getElem?_append_right (by simpa using h1), List.length_replicate]
      by_cases h2 : j = n
      · subst h2; simp
      · obtain ⟨m, hm⟩ : ∃ m, j - n = m + 1 := ⟨j - n - 1, by omega⟩
        rw [hm, List.getElem?_cons_succ, List.getElem?_replicate, if_pos (by omega), if_neg h2]
  rw [List.getElem?_eq_getElem hj] at this
  exact Option.some.inj this
theorem conv_wide {w : World} {g cap n : Nat} (hn : n < 40) (h : Byt w g (wideB n)) : (convert 44 9 (.slice (some ⟨g, 0, none⟩) 65536 cap)).run Tryz.prog w = .ok (.string (wideS n)) w := by
  have hl := wideL_length hn
  have := run_convert_bytes_back (P := Tryz.prog) w 44 9 5 ⟨g, 0, none⟩ cap (wideL n) Tryz.underlying44 Tryz.underlying5 Tryz.underlying9 (fun j hj => by
    rw [show (⟨g, 0, none⟩ : Addr).add j = ⟨g, j, none⟩ by unfold Addr.add; split <;> simp_all, wideL_at hn hj]
    exact h.cell (by omega))
  rw [hl] at this
  exact this
theorem wide_size {n : Nat} (h : n < 40) : (wideS n).size = 65536 := by rw [Lib.size_eq]; exact wideL_length h
theorem wide_read {n : Nat} (h : n < 40) : ∃ T, wholeJ (wideS n) = .ok T := wide_ok (t := wideS n) (n := n) (m := 65535 - n) rfl (by omega)
def oneA : ByteArray := ⟨(ones 1998 [49]).toArray⟩
def oneC : ByteArray := ⟨(ones 1999 []).toArray⟩
theorem oneA_size : oneA.size = 3997 := by rw [Lib.size_eq]; show (ones 1998 [49]).length = _; rw [ones_length]; rfl
theorem oneC_size : oneC.size = 3998 := by rw [Lib.size_eq]; show (ones 1999 []).length = _; rw [ones_length]; rfl
theorem full_read : ∃ T, wholeJ ((⟨#[91]⟩ ++ oneA : ByteArray) ++ ⟨#[93]⟩) = .ok T := list_full (by
  rw [app_list, app_list]
  show [91] ++ ones 1998 [49] ++ [93] = _
  rw [ones_app 1998 [49, 93], ones_app 1998 [49]]
  simp)
theorem more_read : wholeJ ((⟨#[91]⟩ ++ oneC : ByteArray) ++ ⟨#[49, 93]⟩) = .error (3, 2) := list_more (by
  rw [app_list, app_list]
  show [91] ++ ones 1999 [] ++ [49, 93] = _
  rw [ones_app 1999 [49, 93]]
  simp)
theorem one_cut : (ones 1999 []).take 3997 = ones 1998 [49] := by
  rw [ones_snoc, ones_app 1998 [49]]
  have hl : (ones 1998 []).length = 3996 := by rw [ones_length]; rfl
  rw [List.take_append, hl]
  rw [List.take_of_length_le (by omega)]
  rfl
def Many (B : Nat) (w : World) (g cap : Nat) : Prop := Row B w (.slice (some ⟨g, 0, none⟩) 3998 cap) (ones 1999 [])
theorem many_of {B : Nat} {w : World} {v : Value} (h : Row B w v (ones 1999 [])) : ∃ g cap, v = .slice (some ⟨g, 0, none⟩) 3998 cap ∧ 3998 ≤ cap ∧ B ≤ g ∧ Many B w g cap := by
  have hl : (ones 1999 []).length = 3998 := by rw [ones_length]; rfl
  obtain ⟨g, cap, hv, hcap, hg⟩ := row_some h (by omega)
  rw [hl] at hv hcap
  subst hv
  exact ⟨g, cap, rfl, hcap, hg, h⟩
theorem Many.below {B : Nat} {w w' : World} {g cap : Nat} (h : Many B w g cap) (hb : Below w.heap.size w w') : Many B w' g cap := Row.below h hb
theorem Many.row {B : Nat} {w : World} {g cap : Nat} (h : Many B w g cap) : Row B w (.slice (some ⟨g, 0, none⟩) (ones 1999 []).length cap) (ones 1999 []) := by
  have hl : (ones 1999 []).length = 3998 := by rw [ones_length]; rfl
  rw [hl]
  exact h
theorem many_texts : ∃ SA SC : ByteArray, Hid (∀ {B : Nat} {w : World} {g cap : Nat}, Many B w g cap → (convert 44 9 (.slice (some ⟨g, 0, none⟩) 3997 cap)).run Tryz.prog w = .ok (.string SA) w) ∧ Hid (∀ {B : Nat} {w : World} {g cap : Nat}, Many B w g cap → (convert 44 9 (.slice (some ⟨g, 0, none⟩) 3998 cap)).run Tryz.prog w = .ok (.string SC) w) ∧ SA.size = 3997 ∧ SC.size = 3998 ∧ (∃ T, wholeJ ((⟨#[91]⟩ ++ SA : ByteArray) ++ ⟨#[93]⟩) = .ok T) ∧ wholeJ ((⟨#[91]⟩ ++ SC : ByteArray) ++ ⟨#[49, 93]⟩) = .error (3, 2) := by
  have hl : (ones 1999 []).length = 3998 := by rw [ones_length]; rfl
  refine ⟨oneA, oneC, Lib.hid fun h => ?_, Lib.hid fun h => ?_, oneA_size, oneC_size, full_read, more_read⟩
  · exact conv_cut (m := 3997) h.row one_cut (by omega)
  · exact conv_cut (m := 3998) h.row (List.take_of_length_le (by omega)) (by omega)
/-- What Decode leaves, by what the text is. -/
theorem dec_ok {W : World} {t : ByteArray} (hR : ReadyJ W) (h : ∃ T, wholeJ t = .ok T) : Calls Tryz.prog 17 #[.string t] W fun e w' => Below W.heap.size W w' ∧ ∃ y1 y2 y3 ya yn yc yk ym yd, e = .returned (.tuple #[.agg #[.int .i64 y1, .bool y2, .string y3, .slice ya yn yc, .slice yk ym yd], .pointer none]) := by
  obtain ⟨T, hT⟩ := h
  refine (decode_any hR).mono ?_
  rw [hT]
  rintro e w' ⟨hb, v, rfl, hf, -⟩
  obtain ⟨y1, y2, y3, ya, yn, yc, yk, ym, yd, rfl⟩ := hf.shape
  exact ⟨hb, y1, y2, y3, ya, yn, yc, yk, ym, yd, rfl⟩
theorem dec_err {W : World} {t : ByteArray} {c p : Int} {l : Nat} (hR : ReadyJ W) (h : wholeJ t = .error (c, l)) (hp : ((t.size - l : Nat) : Int) = p) : Calls Tryz.prog 17 #[.string t] W fun e w' => Below W.heap.size W w' ∧ ∃ D, e = .returned (.tuple #[.agg #[.int .i64 0, .bool false, .string ⟨#[]⟩, .slice none 0 0, .slice none 0 0], .pointer (some ⟨D, 0, none⟩)]) ∧ Blk w' D #[.int .i64 c, .string ⟨#[]⟩, .int .i64 p] 56 := by
  refine (decode_any hR).mono ?_
  rw [h]
  rintro e w' ⟨hb, D, rfl, -, hblk⟩
  rw [hp] at hblk
  exact ⟨hb, D, rfl, hblk⟩
set_option maxRecDepth 100000 in
set_option maxHeartbeats 8000000 in
theorem limits_zero {W : World} (x : Int) {n : Nat} (hn : n < 40) (hu : wrap64 ((IntKind.u64.wrap x).tmod 40) = (n : Int)) (h0 : n = 0) (hR : ReadyJ W) : Calls Tryz.prog 6 #[.int .i64 x] W fun e w' => e = .returned (.bool true) ∧ Below W.heap.size W w' := by
  have HA := Lib.hid (awake_any hR)
  have HR := Lib.hid hR
  clear hR
  go_enter Tryz.func6, Tryz.ntmps6
  go_wp2_with fail
  go_at_call 14; refine HA.out.mono ?_; rintro e w1 ⟨rfl, hb1⟩
  have HB1 := Lib.hid hb1
  have HR1 := Lib.hid (HR.out.below hb1)
  clear hb1 HA
  go_wp2_with fail
  go_loopg [3, 4, 5] 41 (fun gf s3 s4 s5 wx => ∃ k : Nat, s3 = .string (opnB k) ∧ s4 = .string (shtB k) ∧ s5 = .int .i64 (k : Int) ∧ wx = w1 ∧ k ≤ n ∧ n < k + gf)
  case atStart => exact ⟨0, rfl, rfl, rfl, rfl, by omega, by omega⟩
  case round =>
    obtain ⟨k, rfl, rfl, rfl, rfl, hk, hfu⟩ := hrel
    have z1 := opn_size k
    have z2 := sht_size k
    by_cases hkn : k < n
    · exact absurd hkn (by omega)
    · obtain rfl : k = n := by omega
      have q1 : ¬ (k : Int) < (k : Int) := by omega
      have hne := nest_eq k
      have q0 : ((k : Int) == 0) = true := beq_iff_eq.2 (by omega)
      have q2 : ¬ (24 : Int) < (k : Int) := by omega
      have q3 : ¬ (0 : Int) < (k : Int) := by omega
      have HD := Lib.hid (dec_err (t := opnB k ++ shtB k) (c := 30) (p := 0) HR1.out (by rw [hne]; subst h0; exact nest_zero) (by rw [ByteArray.size_append, z1, z2]; omega))
      have HN := Lib.hid hn
      clear hne h0
      go_wp2_with fail
      go_at_call 17; refine HD.out.mono ?_; rintro e w2 ⟨hb2, D, rfl, hblk⟩
      have hbn := below_new0 w2 (.cells #[.int .i64 0, .bool false, .string ⟨#[]⟩, .slice none 0 0, .slice none 0 0] 26)
      have HB2 : Hid (Below W.heap.size W (w2.alloc (.cells #[.int .i64 0, .bool false, .string ⟨#[]⟩, .slice none 0 0, .slice none 0 0] 26))) := Lib.hid ((HB1.out.trans (hb2.mono HB1.out.size)).trans (hbn.mono (Nat.le_trans HB1.out.size hb2.size)))
      have HI := Lib.hid (is_same (c := 30) (p := 0) (hblk.below hbn) (by decide))
      clear hb2 hbn hblk
      go_wp2_with (go_at_call 19; refine HI.out.mono ?_; rintro e w2b ⟨rfl, hb2b⟩; refine Hid.out ?_)
      refine Lib.hid ?_
      have HB2b : Hid (Below W.heap.size W w2b) := Lib.hid (HB2.out.trans (hb2b.mono HB2.out.size))
      clear hb2b HI
      obtain ⟨i0, hi, hz0, hz1, hz2⟩ := info_byte
      go_wp2_with (at_make; refine wpList_make_own _ rfl _ _ 44 rfl W.heap.size 5 i0 (.int .u8 0) 1 Tryz.underlying44 hi hz0 hz1 .i64 .i64 5000 5000 rfl rfl rfl (by rw [hz2]; omega) (by unfold maxLen; omega) HB2b.out.size ?_; intro w3 hown hgrow; refine Hid.out ?_)
      refine Lib.hid ?_
      have HB3 : Hid (Below W.heap.size W w3) := Lib.hid (HB2b.out.grown hgrow HB2b.out.size (fun k hk => by cases hk))
      have HY3 : Hid (Row W.heap.size w3 (.slice (some ⟨w2b.heap.size, 0, none⟩) 0 5000) (ones 0 [])) := Lib.hid (by simpa [Row, ones, Lib.byteCells] using hown)
      clear hown hgrow hi hz0 hz1 hz2 z1 z2
      go_wp2_with fail
      go_loopg [8, 9] 2000 (fun gf s8 s9 wx => ∃ i : Nat, s9 = .int .i64 (i : Int) ∧ i ≤ 1999 ∧ Hid (Below W.heap.size W wx) ∧ Hid (Row W.heap.size wx s8 (ones i [])) ∧ 1999 < i + gf)
      case atStart => exact ⟨0, rfl, by omega, HB3, HY3, by omega⟩
      case round =>
        obtain ⟨i, rfl, hi, HBi, HRi, hfi⟩ := hrel
        by_cases hlt : i < 1999
        · obtain ⟨g', rfl⟩ : ∃ g', gk = g' + 1 := ⟨gk - 1, by omega⟩
          have q5 : (i : Int) < 1999 := by omega
          have hw : IntKind.i64.wrap ((i : Int) + 1) = (i : Int) + 1 := IntWalk.i64_in _ (by omega)
          have hbn := below_new0 wr (.cells #[.int .u8 49, .int .u8 44] 5)
          have hrow := HRi.out.below hbn
          have hlen := ones_length i []
          have hsz : W.heap.size ≤ (wr.alloc (.cells #[.int .u8 49, .int .u8 44] 5)).heap.size := by have := HBi.out.size; simp; omega
          have HBn := Lib.hid hbn
          clear hbn
          go_wp2_with (at_builtin; refine app_u8 (N := [49, 44]) rfl rfl rfl rfl hrow (Blk.new _ _ _) rfl (by simp) (by rw [hlen]; simp; omega) hsz ?_; intro v4 w4 hown4 hb4 ho4; refine Hid.out ?_)
          refine Lib.hid ?_
          have HB4 : Hid (Below W.heap.size W w4) := Lib.hid ((HBi.out.trans (HBn.out.mono HBi.out.size)).trans hb4)
          have HR4 : Hid (Row W.heap.size w4 v4 (ones (i + 1) [])) := Lib.hid (by rw [ones_snoc]; exact hown4)
          clear hb4 ho4 hown4 hrow hsz hlen
          go_wp2_with fail
          go_roundg g'
          case measure => omega
          case rel => exact ⟨i + 1, by go_num, by omega, HB4, HR4, by omega⟩
        · have hi999 : i = 1999 := by omega
          obtain ⟨g, cap, hv, hcap, hgB, hm⟩ := many_of (v := u8) (w := wr) (B := W.heap.size) (by rw [← hi999]; exact HRi.out)
          have q5 : ¬ (i : Int) < 1999 := by omega
          have q6 : (3997 : Int) ≤ (cap : Int) := by omega
          obtain ⟨SA, SC, HSA, HSC, sA, sC, hfull, hmore⟩ := many_texts
          have hcA := HSA.out hm
          have HD4 := Lib.hid (dec_ok (HR.out.below HBi.out) hfull)
          have HMN := Lib.hid hm
          have HGB := Lib.hid hgB
          have HMO := Lib.hid hmore
          subst hv
          clear hi999 HRi hm hfull hmore hcap hgB
          go_wp2_with fail
          go_at_call 17; refine HD4.out.mono ?_; rintro e w5 ⟨hb5, z1, z2, z3, za, zn, zc, zk, zm, zd, rfl⟩
          have hbn5 := below_new0 w5 (.cells #[.int .i64 z1, .bool z2, .string z3, .slice za zn zc, .slice zk zm zd] 26)
          have HB5 : Hid (Below W.heap.size W (w5.alloc (.cells #[.int .i64 z1, .bool z2, .string z3, .slice za zn zc, .slice zk zm zd] 26))) := Lib.hid ((HBi.out.trans (hb5.mono HBi.out.size)).trans (hbn5.mono (Nat.le_trans HBi.out.size hb5.size)))
          have HMN5 := Lib.hid ((HMN.out.below hb5).below hbn5)
          have hcC := HSC.out HMN5.out
          have HD5 := Lib.hid (dec_err (c := 3) (p := 3999) (HR.out.below HB5.out) HMO.out (by rw [ByteArray.size_append, ByteArray.size_append, sC]; rfl))
          clear hb5 hbn5 hcA HMN HBi HSA HSC
          go_wp2_with fail
          go_at_call 17; refine HD5.out.mono ?_; rintro e w6 ⟨hb6, D6, rfl, hbl6⟩
          have hbn6 := below_new0 w6 (.cells #[.int .i64 0, .bool false, .string ⟨#[]⟩, .slice none 0 0, .slice none 0 0] 26)
          have HB6 : Hid (Below W.heap.size W (w6.alloc (.cells #[.int .i64 0, .bool false, .string ⟨#[]⟩, .slice none 0 0, .slice none 0 0] 26))) := Lib.hid ((HB5.out.trans (hb6.mono HB5.out.size)).trans (hbn6.mono (Nat.le_trans HB5.out.size hb6.size)))
          have HL6 := Lib.hid (hbl6.below hbn6)
          have hD6 : D6 < w6.heap.size := hbl6.lt
          clear hb6 hbn6 hbl6 hcC HMN5 HB5 HD5 HD4
          obtain ⟨i0, hi, hz0, hz1, hz2⟩ := info_byte
          go_wp2_with (at_make; refine wpList_make_full _ rfl _ _ 44 rfl W.heap.size 5 i0 (.int .u8 0) 1 Tryz.underlying44 hi hz0 hz1 .i64 .i64 65536 65536 65536 rfl rfl rfl rfl (by rw [hz2]; omega) (by unfold maxLen; omega) HB6.out.size ?_; intro w7 hown hgrow; refine Hid.out ?_)
          refine Lib.hid ?_
          obtain ⟨g7, hg7⟩ : ∃ g7, w6.heap.size + 1 = g7 := ⟨_, rfl⟩
          have hown' : w7.ownsRow W.heap.size 5 1 (.slice (some ⟨g7, 0, none⟩) 65536 65536) 65536 (madeCells (Value.int .u8 0).cells (65536 * 1)).toList := by rw [← hg7]; simpa using hown
          have HY7 := Lib.hid (Byt.made hown')
          have HG7 : Hid (W.heap.size ≤ g7) := Lib.hid (by have := HB6.out.size; simp at this; omega)
          have hne7 : ¬ D6 = g7 := by omega
          have HB7 : Hid (Below W.heap.size W w7) := Lib.hid (HB6.out.grown hgrow HB6.out.size (fun k hk => by cases hk))
          have HL7 : Hid (Blk w7 D6 #[.int .i64 3, .string ⟨#[]⟩, .int .i64 3999] 56) := Lib.hid (HL6.out.grows hgrow (by simp))
          clear hown hown' hgrow hi hz0 hz1 hz2 HL6 HB6
          go_wp2_with fail
          try rw [hg7]
          clear hg7
          go_loopg [101] 65537 (fun gf s101 wx => ∃ j : Nat, s101 = .int .i64 (j : Int) ∧ j ≤ 65536 ∧ Hid (Below W.heap.size W wx) ∧ Hid (Byt wx g7 (fillB j)) ∧ Hid (Blk wx D6 #[.int .i64 3, .string ⟨#[]⟩, .int .i64 3999] 56) ∧ 65536 < j + gf)
          case atStart => exact ⟨0, rfl, by omega, HB7, HY7, HL7, by omega⟩
          case round =>
            obtain ⟨j, rfl, hj, HBj, HYj, HLj, hfj⟩ := hrel
            by_cases hlj : j < 65536
            · obtain ⟨g2, rfl⟩ : ∃ g2, gk = g2 + 1 := ⟨gk - 1, by omega⟩
              have r1 : (0 : Int) ≤ (j : Int) := by omega
              have r2 : (j : Int) < 65536 := by omega
              have hw : IntKind.i64.wrap ((j : Int) + 1) = (j : Int) + 1 := IntWalk.i64_in _ (by omega)
              have c1 := HYj.out.cell hlj
              have c2 := HYj.out.frozen j
              have HS := Lib.hid (HYj.out.set j 32)
              have HBS := Lib.hid (HBj.out.setCell (p := ⟨g7, j, none⟩) HG7.out (.int .u8 32))
              have HLS := Lib.hid (HLj.out.other (p := ⟨g7, j, none⟩) hne7 (.int .u8 32))
              go_wp2_with fail
              go_roundg g2
              case measure => omega
              case rel => exact ⟨j + 1, by go_num, by omega, HBS, Lib.hid (HS.out.congr (fun q _ => fill_next j q)), HLS, by omega⟩
            · have hj6 : j = 65536 := by omega
              have r2 : ¬ (j : Int) < 65536 := by omega
              have r3 : (0 : Int) ≤ (k : Int) := by omega
              have r4 : (k : Int) < 65536 := by have := HN.out; omega
              have hk6 : k < 65536 := by have := HN.out; omega
              have c1 := HYj.out.cell hk6
              have c2 := HYj.out.frozen k
              have HYW : Hid (Byt (wr.setCell ⟨g7, k, none⟩ (.int .u8 55)) g7 (wideB k)) := Lib.hid ((HYj.out.set k 55).congr (fun q hq => by
                unfold wideB fillB
                by_cases e : q = k
                · rw [if_pos e, if_pos e]
                · rw [if_neg e, if_neg e, if_pos (by omega)]))
              have HBW := Lib.hid (HBj.out.setCell (p := ⟨g7, k, none⟩) HG7.out (.int .u8 55))
              have HLW := Lib.hid (HLj.out.other (p := ⟨g7, k, none⟩) hne7 (.int .u8 55))
              have hcw := conv_wide (cap := 65536) HN.out HYW.out
              obtain ⟨SW, hsw, hSW⟩ : ∃ SW : ByteArray, SW.size = 65536 ∧ wideS k = SW := ⟨_, wide_size HN.out, rfl⟩
              rw [hSW] at hcw
              have HD8 := Lib.hid (dec_ok (t := SW) (HR.out.below HBW.out) (by rw [← hSW]; exact wide_read HN.out))
              have HSW := Lib.hid hSW
              clear HYj HBj HLj hj6 hSW
              go_wp2_with fail
              go_at_call 17; refine HD8.out.mono ?_; rintro e w8 ⟨hb8, x1, x2, x3, xa, xn, xc, xk, xm, xd, rfl⟩
              have hbn8 := below_new0 w8 (.cells #[.int .i64 x1, .bool x2, .string x3, .slice xa xn xc, .slice xk xm xd] 26)
              have HB8 : Hid (Below W.heap.size W (w8.alloc (.cells #[.int .i64 x1, .bool x2, .string x3, .slice xa xn xc, .slice xk xm xd] 26))) := Lib.hid ((HBW.out.trans (hb8.mono HBW.out.size)).trans (hbn8.mono (Nat.le_trans HBW.out.size hb8.size)))
              have hcw8 := conv_wide (cap := 65536) HN.out ((HYW.out.below hb8).below hbn8)
              rw [HSW.out] at hcw8
              have HL8 := Lib.hid ((HLW.out.below hb8).below hbn8)
              have HD9 := Lib.hid (dec_err (t := SW ++ ⟨#[32]⟩) (c := 3) (p := 0) (HR.out.below HB8.out) (wholeJ_long (by rw [ByteArray.size_append, hsw]; decide)) (by rw [Nat.sub_self]; rfl))
              clear hb8 hbn8 hcw HYW HLW HBW HD8 HSW
              go_wp2_with fail
              go_at_call 17; refine HD9.out.mono ?_; rintro e w9 ⟨hb9, D9, rfl, hbl9⟩
              have hbn9 := below_new0 w9 (.cells #[.int .i64 0, .bool false, .string ⟨#[]⟩, .slice none 0 0, .slice none 0 0] 26)
              have HB9 : Hid (Below W.heap.size W (w9.alloc (.cells #[.int .i64 0, .bool false, .string ⟨#[]⟩, .slice none 0 0, .slice none 0 0] 26))) := Lib.hid ((HB8.out.trans (hb9.mono HB8.out.size)).trans (hbn9.mono (Nat.le_trans HB8.out.size hb9.size)))
              have HL9 := Lib.hid ((HL8.out.below hb9).below hbn9)
              have HE9 := Lib.hid (hbl9.below hbn9)
              have HI9 := Lib.hid (is_same HL9.out (by decide))
              clear hb9 hbn9 hbl9 hcw8 HL8 HB8 HD9
              go_wp2_with (go_at_call 19; (with_reducible refine HI9.out.mono ?_); rintro e w10 ⟨rfl, hb10⟩; refine Hid.out ?_)
              refine Lib.hid ?_
              have HB10 : Hid (Below W.heap.size W w10) := Lib.hid (HB9.out.trans (hb10.mono HB9.out.size))
              have HI10 := Lib.hid (is_same (HE9.out.below hb10) (by decide))
              clear hb10 HI9 HE9 HL9
              go_wp2_with (go_at_call 19; (with_reducible refine HI10.out.mono ?_); rintro e w11 ⟨rfl, hb11⟩)
              go_ret
              exact ⟨rfl, HB10.out.trans (hb11.mono HB10.out.size)⟩
set_option maxRecDepth 100000 in
set_option maxHeartbeats 8000000 in
theorem limits_low {W : World} (x : Int) {n : Nat} (hn : n < 40) (hu : wrap64 ((IntKind.u64.wrap x).tmod 40) = (n : Int)) (h0 : 1 ≤ n) (h1 : n ≤ 24) (hR : ReadyJ W) : Calls Tryz.prog 6 #[.int .i64 x] W fun e w' => e = .returned (.bool true) ∧ Below W.heap.size W w' := by
  have HA := Lib.hid (awake_any hR)
  have HR := Lib.hid hR
  clear hR
  go_enter Tryz.func6, Tryz.ntmps6
  go_wp2_with fail
  go_at_call 14; refine HA.out.mono ?_; rintro e w1 ⟨rfl, hb1⟩
  have HB1 := Lib.hid hb1
  have HR1 := Lib.hid (HR.out.below hb1)
  clear hb1 HA
  go_wp2_with fail
  go_loopg [3, 4, 5] 41 (fun gf s3 s4 s5 wx => ∃ k : Nat, s3 = .string (opnB k) ∧ s4 = .string (shtB k) ∧ s5 = .int .i64 (k : Int) ∧ wx = w1 ∧ k ≤ n ∧ n < k + gf)
  case atStart => exact ⟨0, rfl, rfl, rfl, rfl, by omega, by omega⟩
  case round =>
    obtain ⟨k, rfl, rfl, rfl, rfl, hk, hfu⟩ := hrel
    have z1 := opn_size k
    have z2 := sht_size k
    by_cases hkn : k < n
    · obtain ⟨g', rfl⟩ : ∃ g', gk = g' + 1 := ⟨gk - 1, by omega⟩
      have q1 : (k : Int) < (n : Int) := by omega
      have hw : IntKind.i64.wrap ((k : Int) + 1) = (k : Int) + 1 := IntWalk.i64_in _ (by omega)
      go_wp2_with fail
      go_roundg g'
      case measure => omega
      case rel => exact ⟨k + 1, rfl, rfl, by go_num, rfl, by omega, by omega⟩
    · obtain rfl : k = n := by omega
      have q1 : ¬ (k : Int) < (k : Int) := by omega
      have hne := nest_eq k
      have q0 : ((k : Int) == 0) = false := beq_eq_false_iff_ne.2 (by omega)
      have q2 : ¬ (24 : Int) < (k : Int) := by omega
      have q3 : (0 : Int) < (k : Int) := by omega
      have q4 : (k : Int) ≤ 24 := by omega
      have HD := Lib.hid (dec_ok (t := opnB k ++ shtB k) HR1.out (by rw [hne]; exact nest_ok hn h0 h1))
      have HN := Lib.hid hn
      clear hne h0 h1
      go_wp2_with fail
      go_at_call 17; refine HD.out.mono ?_; rintro e w2 ⟨hb2, y1, y2, y3, ya, yn, yc, yk, ym, yd, rfl⟩
      have hbn := below_new0 w2 (.cells #[.int .i64 y1, .bool y2, .string y3, .slice ya yn yc, .slice yk ym yd] 26)
      have HB2 : Hid (Below W.heap.size W (w2.alloc (.cells #[.int .i64 y1, .bool y2, .string y3, .slice ya yn yc, .slice yk ym yd] 26))) := Lib.hid ((HB1.out.trans (hb2.mono HB1.out.size)).trans (hbn.mono (Nat.le_trans HB1.out.size hb2.size)))
      clear hb2 hbn
      obtain ⟨i0, hi, hz0, hz1, hz2⟩ := info_byte
      go_wp2_with (at_make; refine wpList_make_own _ rfl _ _ 44 rfl W.heap.size 5 i0 (.int .u8 0) 1 Tryz.underlying44 hi hz0 hz1 .i64 .i64 5000 5000 rfl rfl rfl (by rw [hz2]; omega) (by unfold maxLen; omega) HB2.out.size ?_; intro w3 hown hgrow; refine Hid.out ?_)
      refine Lib.hid ?_
      have HB3 : Hid (Below W.heap.size W w3) := Lib.hid (HB2.out.grown hgrow HB2.out.size (fun k hk => by cases hk))
      have HY3 : Hid (Row W.heap.size w3 (.slice (some ⟨w2.heap.size + 1, 0, none⟩) 0 5000) (ones 0 [])) := Lib.hid (by simpa [Row, ones, Lib.byteCells] using hown)
      clear hown hgrow hi hz0 hz1 hz2 z1 z2
      go_wp2_with fail
      go_loopg [8, 9] 2000 (fun gf s8 s9 wx => ∃ i : Nat, s9 = .int .i64 (i : Int) ∧ i ≤ 1999 ∧ Hid (Below W.heap.size W wx) ∧ Hid (Row W.heap.size wx s8 (ones i [])) ∧ 1999 < i + gf)
      case atStart => exact ⟨0, rfl, by omega, HB3, HY3, by omega⟩
      case round =>
        obtain ⟨i, rfl, hi, HBi, HRi, hfi⟩ := hrel
        by_cases hlt : i < 1999
        · obtain ⟨g', rfl⟩ : ∃ g', gk = g' + 1 := ⟨gk - 1, by omega⟩
          have q5 : (i : Int) < 1999 := by omega
          have hw : IntKind.i64.wrap ((i : Int) + 1) = (i : Int) + 1 := IntWalk.i64_in _ (by omega)
          have hbn := below_new0 wr (.cells #[.int .u8 49, .int .u8 44] 5)
          have hrow := HRi.out.below hbn
          have hlen := ones_length i []
          have hsz : W.heap.size ≤ (wr.alloc (.cells #[.int .u8 49, .int .u8 44] 5)).heap.size := by have := HBi.out.size; simp; omega
          have HBn := Lib.hid hbn
          clear hbn
          go_wp2_with (at_builtin; refine app_u8 (N := [49, 44]) rfl rfl rfl rfl hrow (Blk.new _ _ _) rfl (by simp) (by rw [hlen]; simp; omega) hsz ?_; intro v4 w4 hown4 hb4 ho4; refine Hid.out ?_)
          refine Lib.hid ?_
          have HB4 : Hid (Below W.heap.size W w4) := Lib.hid ((HBi.out.trans (HBn.out.mono HBi.out.size)).trans hb4)
          have HR4 : Hid (Row W.heap.size w4 v4 (ones (i + 1) [])) := Lib.hid (by rw [ones_snoc]; exact hown4)
          clear hb4 ho4 hown4 hrow hsz hlen
          go_wp2_with fail
          go_roundg g'
          case measure => omega
          case rel => exact ⟨i + 1, by go_num, by omega, HB4, HR4, by omega⟩
        · have hi999 : i = 1999 := by omega
          obtain ⟨g, cap, hv, hcap, hgB, hm⟩ := many_of (v := u8) (w := wr) (B := W.heap.size) (by rw [← hi999]; exact HRi.out)
          have q5 : ¬ (i : Int) < 1999 := by omega
          have q6 : (3997 : Int) ≤ (cap : Int) := by omega
          obtain ⟨SA, SC, HSA, HSC, sA, sC, hfull, hmore⟩ := many_texts
          have hcA := HSA.out hm
          have HD4 := Lib.hid (dec_ok (HR.out.below HBi.out) hfull)
          have HMN := Lib.hid hm
          have HGB := Lib.hid hgB
          have HMO := Lib.hid hmore
          subst hv
          clear hi999 HRi hm hfull hmore hcap hgB
          go_wp2_with fail
          go_at_call 17; refine HD4.out.mono ?_; rintro e w5 ⟨hb5, z1, z2, z3, za, zn, zc, zk, zm, zd, rfl⟩
          have hbn5 := below_new0 w5 (.cells #[.int .i64 z1, .bool z2, .string z3, .slice za zn zc, .slice zk zm zd] 26)
          have HB5 : Hid (Below W.heap.size W (w5.alloc (.cells #[.int .i64 z1, .bool z2, .string z3, .slice za zn zc, .slice zk zm zd] 26))) := Lib.hid ((HBi.out.trans (hb5.mono HBi.out.size)).trans (hbn5.mono (Nat.le_trans HBi.out.size hb5.size)))
          have HMN5 := Lib.hid ((HMN.out.below hb5).below hbn5)
          have hcC := HSC.out HMN5.out
          have HD5 := Lib.hid (dec_err (c := 3) (p := 3999) (HR.out.below HB5.out) HMO.out (by rw [ByteArray.size_append, ByteArray.size_append, sC]; rfl))
          clear hb5 hbn5 hcA HMN HBi HSA HSC
          go_wp2_with fail
          go_at_call 17; refine HD5.out.mono ?_; rintro e w6 ⟨hb6, D6, rfl, hbl6⟩
          have hbn6 := below_new0 w6 (.cells #[.int .i64 0, .bool false, .string ⟨#[]⟩, .slice none 0 0, .slice none 0 0] 26)
          have HB6 : Hid (Below W.heap.size W (w6.alloc (.cells #[.int .i64 0, .bool false, .string ⟨#[]⟩, .slice none 0 0, .slice none 0 0] 26))) := Lib.hid ((HB5.out.trans (hb6.mono HB5.out.size)).trans (hbn6.mono (Nat.le_trans HB5.out.size hb6.size)))
          have HL6 := Lib.hid (hbl6.below hbn6)
          have hD6 : D6 < w6.heap.size := hbl6.lt
          clear hb6 hbn6 hbl6 hcC HMN5 HB5 HD5 HD4
          obtain ⟨i0, hi, hz0, hz1, hz2⟩ := info_byte
          go_wp2_with (at_make; refine wpList_make_full _ rfl _ _ 44 rfl W.heap.size 5 i0 (.int .u8 0) 1 Tryz.underlying44 hi hz0 hz1 .i64 .i64 65536 65536 65536 rfl rfl rfl rfl (by rw [hz2]; omega) (by unfold maxLen; omega) HB6.out.size ?_; intro w7 hown hgrow; refine Hid.out ?_)
          refine Lib.hid ?_
          obtain ⟨g7, hg7⟩ : ∃ g7, w6.heap.size + 1 = g7 := ⟨_, rfl⟩
          have hown' : w7.ownsRow W.heap.size 5 1 (.slice (some ⟨g7, 0, none⟩) 65536 65536) 65536 (madeCells (Value.int .u8 0).cells (65536 * 1)).toList := by rw [← hg7]; simpa using hown
          have HY7 := Lib.hid (Byt.made hown')
          have HG7 : Hid (W.heap.size ≤ g7) := Lib.hid (by have := HB6.out.size; simp at this; omega)
          have hne7 : ¬ D6 = g7 := by omega
          have HB7 : Hid (Below W.heap.size W w7) := Lib.hid (HB6.out.grown hgrow HB6.out.size (fun k hk => by cases hk))
          have HL7 : Hid (Blk w7 D6 #[.int .i64 3, .string ⟨#[]⟩, .int .i64 3999] 56) := Lib.hid (HL6.out.grows hgrow (by simp))
          clear hown hown' hgrow hi hz0 hz1 hz2 HL6 HB6
          go_wp2_with fail
          try rw [hg7]
          clear hg7
          go_loopg [101] 65537 (fun gf s101 wx => ∃ j : Nat, s101 = .int .i64 (j : Int) ∧ j ≤ 65536 ∧ Hid (Below W.heap.size W wx) ∧ Hid (Byt wx g7 (fillB j)) ∧ Hid (Blk wx D6 #[.int .i64 3, .string ⟨#[]⟩, .int .i64 3999] 56) ∧ 65536 < j + gf)
          case atStart => exact ⟨0, rfl, by omega, HB7, HY7, HL7, by omega⟩
          case round =>
            obtain ⟨j, rfl, hj, HBj, HYj, HLj, hfj⟩ := hrel
            by_cases hlj : j < 65536
            · obtain ⟨g2, rfl⟩ : ∃ g2, gk = g2 + 1 := ⟨gk - 1, by omega⟩
              have r1 : (0 : Int) ≤ (j : Int) := by omega
              have r2 : (j : Int) < 65536 := by omega
              have hw : IntKind.i64.wrap ((j : Int) + 1) = (j : Int) + 1 := IntWalk.i64_in _ (by omega)
              have c1 := HYj.out.cell hlj
              have c2 := HYj.out.frozen j
              have HS := Lib.hid (HYj.out.set j 32)
              have HBS := Lib.hid (HBj.out.setCell (p := ⟨g7, j, none⟩) HG7.out (.int .u8 32))
              have HLS := Lib.hid (HLj.out.other (p := ⟨g7, j, none⟩) hne7 (.int .u8 32))
              go_wp2_with fail
              go_roundg g2
              case measure => omega
              case rel => exact ⟨j + 1, by go_num, by omega, HBS, Lib.hid (HS.out.congr (fun q _ => fill_next j q)), HLS, by omega⟩
            · have hj6 : j = 65536 := by omega
              have r2 : ¬ (j : Int) < 65536 := by omega
              have r3 : (0 : Int) ≤ (k : Int) := by omega
              have r4 : (k : Int) < 65536 := by have := HN.out; omega
              have hk6 : k < 65536 := by have := HN.out; omega
              have c1 := HYj.out.cell hk6
              have c2 := HYj.out.frozen k
              have HYW : Hid (Byt (wr.setCell ⟨g7, k, none⟩ (.int .u8 55)) g7 (wideB k)) := Lib.hid ((HYj.out.set k 55).congr (fun q hq => by
                unfold wideB fillB
                by_cases e : q = k
                · rw [if_pos e, if_pos e]
                · rw [if_neg e, if_neg e, if_pos (by omega)]))
              have HBW := Lib.hid (HBj.out.setCell (p := ⟨g7, k, none⟩) HG7.out (.int .u8 55))
              have HLW := Lib.hid (HLj.out.other (p := ⟨g7, k, none⟩) hne7 (.int .u8 55))
              have hcw := conv_wide (cap := 65536) HN.out HYW.out
              obtain ⟨SW, hsw, hSW⟩ : ∃ SW : ByteArray, SW.size = 65536 ∧ wideS k = SW := ⟨_, wide_size HN.out, rfl⟩
              rw [hSW] at hcw
              have HD8 := Lib.hid (dec_ok (t := SW) (HR.out.below HBW.out) (by rw [← hSW]; exact wide_read HN.out))
              have HSW := Lib.hid hSW
              clear HYj HBj HLj hj6 hSW
              go_wp2_with fail
              go_at_call 17; refine HD8.out.mono ?_; rintro e w8 ⟨hb8, x1, x2, x3, xa, xn, xc, xk, xm, xd, rfl⟩
              have hbn8 := below_new0 w8 (.cells #[.int .i64 x1, .bool x2, .string x3, .slice xa xn xc, .slice xk xm xd] 26)
              have HB8 : Hid (Below W.heap.size W (w8.alloc (.cells #[.int .i64 x1, .bool x2, .string x3, .slice xa xn xc, .slice xk xm xd] 26))) := Lib.hid ((HBW.out.trans (hb8.mono HBW.out.size)).trans (hbn8.mono (Nat.le_trans HBW.out.size hb8.size)))
              have hcw8 := conv_wide (cap := 65536) HN.out ((HYW.out.below hb8).below hbn8)
              rw [HSW.out] at hcw8
              have HL8 := Lib.hid ((HLW.out.below hb8).below hbn8)
              have HD9 := Lib.hid (dec_err (t := SW ++ ⟨#[32]⟩) (c := 3) (p := 0) (HR.out.below HB8.out) (wholeJ_long (by rw [ByteArray.size_append, hsw]; decide)) (by rw [Nat.sub_self]; rfl))
              clear hb8 hbn8 hcw HYW HLW HBW HD8 HSW
              go_wp2_with fail
              go_at_call 17; refine HD9.out.mono ?_; rintro e w9 ⟨hb9, D9, rfl, hbl9⟩
              have hbn9 := below_new0 w9 (.cells #[.int .i64 0, .bool false, .string ⟨#[]⟩, .slice none 0 0, .slice none 0 0] 26)
              have HB9 : Hid (Below W.heap.size W (w9.alloc (.cells #[.int .i64 0, .bool false, .string ⟨#[]⟩, .slice none 0 0, .slice none 0 0] 26))) := Lib.hid ((HB8.out.trans (hb9.mono HB8.out.size)).trans (hbn9.mono (Nat.le_trans HB8.out.size hb9.size)))
              have HL9 := Lib.hid ((HL8.out.below hb9).below hbn9)
              have HE9 := Lib.hid (hbl9.below hbn9)
              have HI9 := Lib.hid (is_same HL9.out (by decide))
              clear hb9 hbn9 hbl9 hcw8 HL8 HB8 HD9
              go_wp2_with (go_at_call 19; (with_reducible refine HI9.out.mono ?_); rintro e w10 ⟨rfl, hb10⟩; refine Hid.out ?_)
              refine Lib.hid ?_
              have HB10 : Hid (Below W.heap.size W w10) := Lib.hid (HB9.out.trans (hb10.mono HB9.out.size))
              have HI10 := Lib.hid (is_same (HE9.out.below hb10) (by decide))
              clear hb10 HI9 HE9 HL9
              go_wp2_with (go_at_call 19; (with_reducible refine HI10.out.mono ?_); rintro e w11 ⟨rfl, hb11⟩)
              go_ret
              exact ⟨rfl, HB10.out.trans (hb11.mono HB10.out.size)⟩
set_option maxRecDepth 100000 in
set_option maxHeartbeats 8000000 in
theorem limits_high {W : World} (x : Int) {n : Nat} (hn : n < 40) (hu : wrap64 ((IntKind.u64.wrap x).tmod 40) = (n : Int)) (h1 : 24 < n) (hR : ReadyJ W) : Calls Tryz.prog 6 #[.int .i64 x] W fun e w' => e = .returned (.bool true) ∧ Below W.heap.size W w' := by
  have HA := Lib.hid (awake_any hR)
  have HR := Lib.hid hR
  clear hR
  go_enter Tryz.func6, Tryz.ntmps6
  go_wp2_with fail
  go_at_call 14; refine HA.out.mono ?_; rintro e w1 ⟨rfl, hb1⟩
  have HB1 := Lib.hid hb1
  have HR1 := Lib.hid (HR.out.below hb1)
  clear hb1 HA
  go_wp2_with fail
  go_loopg [3, 4, 5] 41 (fun gf s3 s4 s5 wx => ∃ k : Nat, s3 = .string (opnB k) ∧ s4 = .string (shtB k) ∧ s5 = .int .i64 (k : Int) ∧ wx = w1 ∧ k ≤ n ∧ n < k + gf)
  case atStart => exact ⟨0, rfl, rfl, rfl, rfl, by omega, by omega⟩
  case round =>
    obtain ⟨k, rfl, rfl, rfl, rfl, hk, hfu⟩ := hrel
    have z1 := opn_size k
    have z2 := sht_size k
    by_cases hkn : k < n
    · obtain ⟨g', rfl⟩ : ∃ g', gk = g' + 1 := ⟨gk - 1, by omega⟩
      have q1 : (k : Int) < (n : Int) := by omega
      have hw : IntKind.i64.wrap ((k : Int) + 1) = (k : Int) + 1 := IntWalk.i64_in _ (by omega)
      go_wp2_with fail
      go_roundg g'
      case measure => omega
      case rel => exact ⟨k + 1, rfl, rfl, by go_num, rfl, by omega, by omega⟩
    · obtain rfl : k = n := by omega
      have q1 : ¬ (k : Int) < (k : Int) := by omega
      have hne := nest_eq k
      have q0 : ((k : Int) == 0) = false := beq_eq_false_iff_ne.2 (by omega)
      have q2 : (24 : Int) < (k : Int) := by omega
      have q3 : (0 : Int) < (k : Int) := by omega
      have q4 : ¬ (k : Int) ≤ 24 := by omega
      obtain ⟨l, hl1, hl2⟩ := nest_bad hn h1
      have HD := Lib.hid (dec_err (t := opnB k ++ shtB k) (c := 7) (p := 24) HR1.out (by rw [hne]; exact hl1) (by rw [hne, hl2]; rfl))
      clear hl1 hl2
      have HN := Lib.hid hn
      clear hne h1
      go_wp2_with fail
      go_at_call 17; refine HD.out.mono ?_; rintro e w2 ⟨hb2, D, rfl, hblk⟩
      have hbn := below_new0 w2 (.cells #[.int .i64 0, .bool false, .string ⟨#[]⟩, .slice none 0 0, .slice none 0 0] 26)
      have HB2 : Hid (Below W.heap.size W (w2.alloc (.cells #[.int .i64 0, .bool false, .string ⟨#[]⟩, .slice none 0 0, .slice none 0 0] 26))) := Lib.hid ((HB1.out.trans (hb2.mono HB1.out.size)).trans (hbn.mono (Nat.le_trans HB1.out.size hb2.size)))
      have HI := Lib.hid (is_same (c := 7) (p := 24) (hblk.below hbn) (by decide))
      clear hb2 hbn hblk
      go_wp2_with (go_at_call 19; refine HI.out.mono ?_; rintro e w2b ⟨rfl, hb2b⟩; refine Hid.out ?_)
      refine Lib.hid ?_
      have HB2b : Hid (Below W.heap.size W w2b) := Lib.hid (HB2.out.trans (hb2b.mono HB2.out.size))
      clear hb2b HI
      obtain ⟨i0, hi, hz0, hz1, hz2⟩ := info_byte
      go_wp2_with (at_make; refine wpList_make_own _ rfl _ _ 44 rfl W.heap.size 5 i0 (.int .u8 0) 1 Tryz.underlying44 hi hz0 hz1 .i64 .i64 5000 5000 rfl rfl rfl (by rw [hz2]; omega) (by unfold maxLen; omega) HB2b.out.size ?_; intro w3 hown hgrow; refine Hid.out ?_)
      refine Lib.hid ?_
      have HB3 : Hid (Below W.heap.size W w3) := Lib.hid (HB2b.out.grown hgrow HB2b.out.size (fun k hk => by cases hk))
      have HY3 : Hid (Row W.heap.size w3 (.slice (some ⟨w2b.heap.size, 0, none⟩) 0 5000) (ones 0 [])) := Lib.hid (by simpa [Row, ones, Lib.byteCells] using hown)
      clear hown hgrow hi hz0 hz1 hz2 z1 z2
      go_wp2_with fail
      go_loopg [8, 9] 2000 (fun gf s8 s9 wx => ∃ i : Nat, s9 = .int .i64 (i : Int) ∧ i ≤ 1999 ∧ Hid (Below W.heap.size W wx) ∧ Hid (Row W.heap.size wx s8 (ones i [])) ∧ 1999 < i + gf)
      case atStart => exact ⟨0, rfl, by omega, HB3, HY3, by omega⟩
      case round =>
        obtain ⟨i, rfl, hi, HBi, HRi, hfi⟩ := hrel
        by_cases hlt : i < 1999
        · obtain ⟨g', rfl⟩ : ∃ g', gk = g' + 1 := ⟨gk - 1, by omega⟩
          have q5 : (i : Int) < 1999 := by omega
          have hw : IntKind.i64.wrap ((i : Int) + 1) = (i : Int) + 1 := IntWalk.i64_in _ (by omega)
          have hbn := below_new0 wr (.cells #[.int .u8 49, .int .u8 44] 5)
          have hrow := HRi.out.below hbn
          have hlen := ones_length i []
          have hsz : W.heap.size ≤ (wr.alloc (.cells #[.int .u8 49, .int .u8 44] 5)).heap.size := by have := HBi.out.size; simp; omega
          have HBn := Lib.hid hbn
          clear hbn
          go_wp2_with (at_builtin; refine app_u8 (N := [49, 44]) rfl rfl rfl rfl hrow (Blk.new _ _ _) rfl (by simp) (by rw [hlen]; simp; omega) hsz ?_; intro v4 w4 hown4 hb4 ho4; refine Hid.out ?_)
          refine Lib.hid ?_
          have HB4 : Hid (Below W.heap.size W w4) := Lib.hid ((HBi.out.trans (HBn.out.mono HBi.out.size)).trans hb4)
          have HR4 : Hid (Row W.heap.size w4 v4 (ones (i + 1) [])) := Lib.hid (by rw [ones_snoc]; exact hown4)
          clear hb4 ho4 hown4 hrow hsz hlen
          go_wp2_with fail
          go_roundg g'
          case measure => omega
          case rel => exact ⟨i + 1, by go_num, by omega, HB4, HR4, by omega⟩
        · have hi999 : i = 1999 := by omega
          obtain ⟨g, cap, hv, hcap, hgB, hm⟩ := many_of (v := u8) (w := wr) (B := W.heap.size) (by rw [← hi999]; exact HRi.out)
          have q5 : ¬ (i : Int) < 1999 := by omega
          have q6 : (3997 : Int) ≤ (cap : Int) := by omega
          obtain ⟨SA, SC, HSA, HSC, sA, sC, hfull, hmore⟩ := many_texts
          have hcA := HSA.out hm
          have HD4 := Lib.hid (dec_ok (HR.out.below HBi.out) hfull)
          have HMN := Lib.hid hm
          have HGB := Lib.hid hgB
          have HMO := Lib.hid hmore
          subst hv
          clear hi999 HRi hm hfull hmore hcap hgB
          go_wp2_with fail
          go_at_call 17; refine HD4.out.mono ?_; rintro e w5 ⟨hb5, z1, z2, z3, za, zn, zc, zk, zm, zd, rfl⟩
          have hbn5 := below_new0 w5 (.cells #[.int .i64 z1, .bool z2, .string z3, .slice za zn zc, .slice zk zm zd] 26)
          have HB5 : Hid (Below W.heap.size W (w5.alloc (.cells #[.int .i64 z1, .bool z2, .string z3, .slice za zn zc, .slice zk zm zd] 26))) := Lib.hid ((HBi.out.trans (hb5.mono HBi.out.size)).trans (hbn5.mono (Nat.le_trans HBi.out.size hb5.size)))
          have HMN5 := Lib.hid ((HMN.out.below hb5).below hbn5)
          have hcC := HSC.out HMN5.out
          have HD5 := Lib.hid (dec_err (c := 3) (p := 3999) (HR.out.below HB5.out) HMO.out (by rw [ByteArray.size_append, ByteArray.size_append, sC]; rfl))
          clear hb5 hbn5 hcA HMN HBi HSA HSC
          go_wp2_with fail
          go_at_call 17; refine HD5.out.mono ?_; rintro e w6 ⟨hb6, D6, rfl, hbl6⟩
          have hbn6 := below_new0 w6 (.cells #[.int .i64 0, .bool false, .string ⟨#[]⟩, .slice none 0 0, .slice none 0 0] 26)
          have HB6 : Hid (Below W.heap.size W (w6.alloc (.cells #[.int .i64 0, .bool false, .string ⟨#[]⟩, .slice none 0 0, .slice none 0 0] 26))) := Lib.hid ((HB5.out.trans (hb6.mono HB5.out.size)).trans (hbn6.mono (Nat.le_trans HB5.out.size hb6.size)))
          have HL6 := Lib.hid (hbl6.below hbn6)
          have hD6 : D6 < w6.heap.size := hbl6.lt
          clear hb6 hbn6 hbl6 hcC HMN5 HB5 HD5 HD4
          obtain ⟨i0, hi, hz0, hz1, hz2⟩ := info_byte
          go_wp2_with (at_make; refine wpList_make_full _ rfl _ _ 44 rfl W.heap.size 5 i0 (.int .u8 0) 1 Tryz.underlying44 hi hz0 hz1 .i64 .i64 65536 65536 65536 rfl rfl rfl rfl (by rw [hz2]; omega) (by unfold maxLen; omega) HB6.out.size ?_; intro w7 hown hgrow; refine Hid.out ?_)
          refine Lib.hid ?_
          obtain ⟨g7, hg7⟩ : ∃ g7, w6.heap.size + 1 = g7 := ⟨_, rfl⟩
          have hown' : w7.ownsRow W.heap.size 5 1 (.slice (some ⟨g7, 0, none⟩) 65536 65536) 65536 (madeCells (Value.int .u8 0).cells (65536 * 1)).toList := by rw [← hg7]; simpa using hown
          have HY7 := Lib.hid (Byt.made hown')
          have HG7 : Hid (W.heap.size ≤ g7) := Lib.hid (by have := HB6.out.size; simp at this; omega)
          have hne7 : ¬ D6 = g7 := by omega
          have HB7 : Hid (Below W.heap.size W w7) := Lib.hid (HB6.out.grown hgrow HB6.out.size (fun k hk => by cases hk))
          have HL7 : Hid (Blk w7 D6 #[.int .i64 3, .string ⟨#[]⟩, .int .i64 3999] 56) := Lib.hid (HL6.out.grows hgrow (by simp))
          clear hown hown' hgrow hi hz0 hz1 hz2 HL6 HB6
          go_wp2_with fail
          try rw [hg7]
          clear hg7
          go_loopg [101] 65537 (fun gf s101 wx => ∃ j : Nat, s101 = .int .i64 (j : Int) ∧ j ≤ 65536 ∧ Hid (Below W.heap.size W wx) ∧ Hid (Byt wx g7 (fillB j)) ∧ Hid (Blk wx D6 #[.int .i64 3, .string ⟨#[]⟩, .int .i64 3999] 56) ∧ 65536 < j + gf)
          case atStart => exact ⟨0, rfl, by omega, HB7, HY7, HL7, by omega⟩
          case round =>
            obtain ⟨j, rfl, hj, HBj, HYj, HLj, hfj⟩ := hrel
            by_cases hlj : j < 65536
            · obtain ⟨g2, rfl⟩ : ∃ g2, gk = g2 + 1 := ⟨gk - 1, by omega⟩
              have r1 : (0 : Int) ≤ (j : Int) := by omega
              have r2 : (j : Int) < 65536 := by omega
              have hw : IntKind.i64.wrap ((j : Int) + 1) = (j : Int) + 1 := IntWalk.i64_in _ (by omega)
              have c1 := HYj.out.cell hlj
              have c2 := HYj.out.frozen j
              have HS := Lib.hid (HYj.out.set j 32)
              have HBS := Lib.hid (HBj.out.setCell (p := ⟨g7, j, none⟩) HG7.out (.int .u8 32))
              have HLS := Lib.hid (HLj.out.other (p := ⟨g7, j, none⟩) hne7 (.int .u8 32))
              go_wp2_with fail
              go_roundg g2
              case measure => omega
              case rel => exact ⟨j + 1, by go_num, by omega, HBS, Lib.hid (HS.out.congr (fun q _ => fill_next j q)), HLS, by omega⟩
            · have hj6 : j = 65536 := by omega
              have r2 : ¬ (j : Int) < 65536 := by omega
              have r3 : (0 : Int) ≤ (k : Int) := by omega
              have r4 : (k : Int) < 65536 := by have := HN.out; omega
              have hk6 : k < 65536 := by have := HN.out; omega
              have c1 := HYj.out.cell hk6
              have c2 := HYj.out.frozen k
              have HYW : Hid (Byt (wr.setCell ⟨g7, k, none⟩ (.int .u8 55)) g7 (wideB k)) := Lib.hid ((HYj.out.set k 55).congr (fun q hq => by
                unfold wideB fillB
                by_cases e : q = k
                · rw [if_pos e, if_pos e]
                · rw [if_neg e, if_neg e, if_pos (by omega)]))
              have HBW := Lib.hid (HBj.out.setCell (p := ⟨g7, k, none⟩) HG7.out (.int .u8 55))
              have HLW := Lib.hid (HLj.out.other (p := ⟨g7, k, none⟩) hne7 (.int .u8 55))
              have hcw := conv_wide (cap := 65536) HN.out HYW.out
              obtain ⟨SW, hsw, hSW⟩ : ∃ SW : ByteArray, SW.size = 65536 ∧ wideS k = SW := ⟨_, wide_size HN.out, rfl⟩
              rw [hSW] at hcw
              have HD8 := Lib.hid (dec_ok (t := SW) (HR.out.below HBW.out) (by rw [← hSW]; exact wide_read HN.out))
              have HSW := Lib.hid hSW
              clear HYj HBj HLj hj6 hSW
              go_wp2_with fail
              go_at_call 17; refine HD8.out.mono ?_; rintro e w8 ⟨hb8, x1, x2, x3, xa, xn, xc, xk, xm, xd, rfl⟩
              have hbn8 := below_new0 w8 (.cells #[.int .i64 x1, .bool x2, .string x3, .slice xa xn xc, .slice xk xm xd] 26)
              have HB8 : Hid (Below W.heap.size W (w8.alloc (.cells #[.int .i64 x1, .bool x2, .string x3, .slice xa xn xc, .slice xk xm xd] 26))) := Lib.hid ((HBW.out.trans (hb8.mono HBW.out.size)).trans (hbn8.mono (Nat.le_trans HBW.out.size hb8.size)))
              have hcw8 := conv_wide (cap := 65536) HN.out ((HYW.out.below hb8).below hbn8)
              rw [HSW.out] at hcw8
              have HL8 := Lib.hid ((HLW.out.below hb8).below hbn8)
              have HD9 := Lib.hid (dec_err (t := SW ++ ⟨#[32]⟩) (c := 3) (p := 0) (HR.out.below HB8.out) (wholeJ_long (by rw [ByteArray.size_append, hsw]; decide)) (by rw [Nat.sub_self]; rfl))
              clear hb8 hbn8 hcw HYW HLW HBW HD8 HSW
              go_wp2_with fail
              go_at_call 17; refine HD9.out.mono ?_; rintro e w9 ⟨hb9, D9, rfl, hbl9⟩
              have hbn9 := below_new0 w9 (.cells #[.int .i64 0, .bool false, .string ⟨#[]⟩, .slice none 0 0, .slice none 0 0] 26)
              have HB9 : Hid (Below W.heap.size W (w9.alloc (.cells #[.int .i64 0, .bool false, .string ⟨#[]⟩, .slice none 0 0, .slice none 0 0] 26))) := Lib.hid ((HB8.out.trans (hb9.mono HB8.out.size)).trans (hbn9.mono (Nat.le_trans HB8.out.size hb9.size)))
              have HL9 := Lib.hid ((HL8.out.below hb9).below hbn9)
              have HE9 := Lib.hid (hbl9.below hbn9)
              have HI9 := Lib.hid (is_same HL9.out (by decide))
              clear hb9 hbn9 hbl9 hcw8 HL8 HB8 HD9
              go_wp2_with (go_at_call 19; (with_reducible refine HI9.out.mono ?_); rintro e w10 ⟨rfl, hb10⟩; refine Hid.out ?_)
              refine Lib.hid ?_
              have HB10 : Hid (Below W.heap.size W w10) := Lib.hid (HB9.out.trans (hb10.mono HB9.out.size))
              have HI10 := Lib.hid (is_same (HE9.out.below hb10) (by decide))
              clear hb10 HI9 HE9 HL9
              go_wp2_with (go_at_call 19; (with_reducible refine HI10.out.mono ?_); rintro e w11 ⟨rfl, hb11⟩)
              go_ret
              exact ⟨rfl, HB10.out.trans (hb11.mono HB10.out.size)⟩
theorem limits_any (x : Int) (hx1 : -9223372036854775808 ≤ x) (hx2 : x ≤ 9223372036854775807) {W : World} (hR : ReadyJ W) : Calls Tryz.prog 6 #[.int .i64 x] W fun e w' => e = .returned (.bool true) ∧ Below W.heap.size W w' := by
  have hk0 : 0 ≤ (IntKind.u64.wrap x).tmod 40 := Int.tmod_nonneg _ (Int.emod_nonneg _ (by decide))
  have hk1 : (IntKind.u64.wrap x).tmod 40 < 40 := Int.tmod_lt_of_pos _ (by omega)
  obtain ⟨n, hn⟩ : ∃ n : Nat, (n : Int) = (IntKind.u64.wrap x).tmod 40 := ⟨((IntKind.u64.wrap x).tmod 40).toNat, by omega⟩
  have hu : wrap64 ((IntKind.u64.wrap x).tmod 40) = (n : Int) := by rw [← hn]; exact IntWalk.wrap64_in _ (by omega)
  have hn40 : n < 40 := by omega
  by_cases h0 : n = 0
  · exact limits_zero x hn40 hu h0 hR
  · by_cases h1 : n ≤ 24
    · exact limits_low x hn40 hu (by omega) h1 hR
    · exact limits_high x hn40 hu (by omega) hR
end Go.Proofs.YtblldoniagiboaaGreatDoor
