/- value.Cmp of values without items and keys · purlinlaw02.awake: the document's examples · purlinlaw02.awake: the walk -/
import Derived.Test.YtjgbhnbfojkhoaaDoorMk05
import Derived.Test.YtjgbhnbfojkhoaaDoorMk08
import Derived.Test.YtjgbhnbfojkhoaaDoorMk15
import Derived.Test.YtjgbhnbfojkhoaaDoorMk35
namespace Go.Proofs.YtjgbhnbfojkhoaaDoor
open Go.RowKit

theorem nanKind_any (a : Int) (w : World) : Calls Tryd.prog 53 #[.int .i64 a] w fun e w' => e = .returned (.bool false) ∧ w = w' := by
  go_enter Tryd.func53, Tryd.ntmps53
  go_wp2
  go_ret
  exact ⟨by simp, rfl⟩
theorem cmpKind_any (a b : Int) (w : World) : Calls Tryd.prog 39 #[.int .i64 a, .int .i64 b] w fun e w' => e = .returned (.int .i64 (sgnI a b)) ∧ w = w' := by
  have HN := Lib.hid (fun x W => nanKind_any x W)
  unfold sgnI
  rcases (show a < b ∨ (¬ a < b ∧ b < a) ∨ (¬ a < b ∧ ¬ b < a) by omega) with h | ⟨h, h'⟩ | ⟨h, h'⟩
  · rw [if_pos h]
    go_enter Tryd.func39, Tryd.ntmps39
    go_wp2_with (go_at_call 53; refine (HN.out _ _).mono ?_; rintro e w' ⟨rfl, rfl⟩)
    go_ret
    exact ⟨rfl, rfl⟩
  · rw [if_neg h, if_pos h']
    go_enter Tryd.func39, Tryd.ntmps39
    go_wp2_with (go_at_call 53; refine (HN.out _ _).mono ?_; rintro e w' ⟨rfl, rfl⟩)
    go_ret
    exact ⟨rfl, rfl⟩
  · rw [if_neg h, if_neg h']
    go_enter Tryd.func39, Tryd.ntmps39
    go_wp2_with (go_at_call 53; refine (HN.out _ _).mono ?_; rintro e w' ⟨rfl, rfl⟩)
    go_ret
    exact ⟨rfl, rfl⟩
set_option maxHeartbeats 1000000 in
theorem vCmp_kinds (k l : Int) (b c : Bool) (s t : ByteArray) (h : k ≠ l) (w : World) : Calls Tryd.prog 24 #[scal k b s, scal l c t] w fun e w' => e = .returned (.int .i64 (sgnI k l)) ∧ Below w.heap.size w w' := by
  have HC := Lib.hid (fun W => cmpKind_any k l W)
  generalize sgnI k l = z at HC ⊢
  have hne : (k == l) = false := beq_eq_false_iff_ne.2 h
  unfold scal
  go_enter Tryd.func24, Tryd.ntmps24
  go_wp2_with (go_at_call 39; refine (HC.out _).mono ?_; rintro e w' ⟨rfl, rfl⟩)
  go_ret
  exact ⟨rfl, ((Below.refl _ _).alloc (Nat.le_refl _) _).alloc (by simp) _⟩
set_option maxHeartbeats 1000000 in
theorem vCmp_ints {a b : Int} (ha : Fits a) (hb : Fits b) (w : World) : Calls Tryd.prog 24 #[scal 3 false (str a), scal 3 false (str b)] w fun e w' => e = .returned (.int .i64 (sgnI a b)) ∧ Below w.heap.size w w' := by
  have HC := Lib.hid (fun W => Cmp_good ha hb (w := W))
  generalize sgnI a b = z at HC ⊢
  generalize str a = s at HC ⊢
  generalize str b = t at HC ⊢
  clear ha hb
  unfold scal
  have hb0 := ((Below.refl w.heap.size w).alloc (Nat.le_refl _) (.cells #[.int .i64 3, .bool false, .string s, .slice none 0 0, .slice none 0 0] 26)).alloc (by simp) (.cells #[.int .i64 3, .bool false, .string t, .slice none 0 0, .slice none 0 0] 26)
  go_enter Tryd.func24, Tryd.ntmps24
  go_wp2_with (go_at_call 41; refine (HC.out _).mono ?_; rintro e w1 ⟨rfl, hb⟩)
  go_ret
  exact ⟨rfl, hb0.trans (hb.mono hb0.size)⟩
set_option maxHeartbeats 1000000 in
theorem vCmp_texts (s t : ByteArray) (w : World) : Calls Tryd.prog 24 #[scal 4 false s, scal 4 false t] w fun e w' => e = .returned (.int .i64 (Lib.compareBytes s.data.toList t.data.toList)) ∧ Below w.heap.size w w' := by
  have HC := Lib.hid (fun W => Tryd.strings_Compare s t W)
  unfold scal
  go_enter Tryd.func24, Tryd.ntmps24
  go_wp2_with (go_at_call 42; refine (HC.out _).mono ?_; rintro e w' ⟨rfl, rfl⟩)
  go_ret
  exact ⟨rfl, ((Below.refl _ _).alloc (Nat.le_refl _) _).alloc (by simp) _⟩
end Go.Proofs.YtjgbhnbfojkhoaaDoor
namespace Go.Proofs.YtjgbhnbfojkhoaaDoor
open Go.RowKit Go.Sort Go.Shelf
set_option linter.unusedVariables false

def kA : ByteArray := ⟨#[97]⟩
def kB : ByteArray := ⟨#[98]⟩
def ks0 : List ByteArray := [kB, kA]
def xs0 : List (Int × Bool × ByteArray) := [(3, false, str 1), (3, false, str 2)]
theorem sorted_ba (hI : Inhabited (Fin ks0.length)) (d' : Array (Fin ks0.length)) (hp : PermIn 0 ks0.length (List.finRange ks0.length).toArray d') (hs : SortedIn (ltOf (byKey ks0)) 0 ks0.length d') : d'.toList.map (encFin ks0.length) = [.int .i64 1, .int .i64 0] := by
  obtain ⟨l⟩ := d'
  have h1 : l.length = 2 := hp.1
  match l, h1 with
  | [x, y], _ =>
    have hxy : [x, y].Perm (List.finRange 2) := hp.2.2
    have hnd : [x, y].Nodup := hxy.nodup_iff.2 (List.nodup_finRange _)
    have hne : x ≠ y := by
      intro e; subst e; simp at hnd
    have h3 : ltOf (byKey ks0) y x = false := hs 0 1 (by omega) (by omega) (by show (1 : Nat) < 2; omega)
    have hb : bLt kA kB = true := by decide
    obtain ⟨x, hx⟩ := x
    obtain ⟨y, hy⟩ := y
    have hx2 : x < 2 := hx
    have hy2 : y < 2 := hy
    rcases (show (x = 0 ∧ y = 1) ∨ (x = 1 ∧ y = 0) by
      have : x ≠ y := fun e => hne (by subst e; rfl)
      omega) with ⟨rfl, rfl⟩ | ⟨rfl, rfl⟩
    · rw [byKey_lt] at h3
      have : bLt kA kB = false := h3
      rw [hb] at this; cases this
    · rfl

theorem places_ba {w : World} {kv : Value} (hk : StrsAt w.heap.size w kv ks0) : Calls Tryd.prog 29 #[kv] w fun e w' => e = .returned (.slice (some ⟨w.heap.size + 1, 0, none⟩) ks0.length ks0.length) ∧ Below w.heap.size w w' ∧ w.heap.size + 1 < w'.heap.size ∧ ∀ j, j < ks0.length → w'.cell? ⟨w.heap.size + 1, j, none⟩ = some (.int .i64 (([1, 0].getD j 0 : Nat) : Int)) := by
  refine places_loop hk (by decide) (by decide) _ (fun W hb hr hc => ?_)
  refine (sort_small (by decide) (by decide) hk hb hr hc).mono ?_
  rintro e w' ⟨rfl, hI, d', hp, hs, hb2, ho⟩
  rw [sorted_ba hI d' hp hs] at ho
  refine ⟨rfl, rfl, hb2, (World.ownsRow.lt ho _ rfl).2, fun j hj => ?_⟩
  have hj2 : j < 2 := hj
  have h0 := World.ownsRow.cells ho (g := w.heap.size + 1) rfl j (.int .i64 (([1, 0].getD j 0 : Nat) : Int)) (by
    rcases (show j = 0 ∨ j = 1 by omega) with rfl | rfl <;> rfl)
  rw [Lib.add_plain, Nat.zero_add] at h0
  exact h0
end Go.Proofs.YtjgbhnbfojkhoaaDoor
namespace Go.Proofs.YtjgbhnbfojkhoaaDoor
open Go.RowKit Go.Sort Go.Shelf
set_option linter.unusedVariables false

theorem object_ba {w : World} {kv iv : Value} (hk : StrsAt w.heap.size w kv ks0) (hx : ScalsAt w.heap.size w iv xs0) : Calls Tryd.prog 9 #[kv, iv] w fun e w' => Objects w ks0 xs0 [1, 0] e w' := by
  refine object_go hk hx rfl (by decide) rfl ?_ ?_ (by decide) (Lib.hid (fun W hb => places_ba ((hk.below hb).mono hb.size)))
  · intro k hk2
    have hk2' : k < 2 := hk2
    rcases (show k = 0 ∨ k = 1 by omega) with rfl | rfl <;> decide
  · intro k hk2
    have hk2' : k + 1 < 2 := hk2
    obtain rfl : k = 0 := by omega
    rw [ByteArray.toList_eq, ByteArray.toList_eq]
    decide
theorem strs_ba {W : World} {B : Nat} {kv : Value} (h : W.ownsRow B 9 1 kv ([1, 0] : List Nat).length (keysOf ks0 [1, 0] ([1, 0] : List Nat).length)) : StrsAt W.heap.size W kv [kA, kB] := strs_of_row h (by decide)
theorem scals_ba {W : World} {B : Nat} {iv : Value} (h : W.ownsRow B 26 5 iv ([1, 0] : List Nat).length (itemsOf xs0 [1, 0] ([1, 0] : List Nat).length)) : ScalsAt W.heap.size W iv [(3, false, str 2), (3, false, str 1)] := scals_of_row h (by show (2 : Nat) ≤ _; omega)
theorem rising_ab : Rising [kA, kB] := fun i j hi hj hij => by
  have hj2 : j < 2 := hj
  obtain rfl : i = 0 := by omega
  obtain rfl : j = 1 := by omega
  show bLt kA kB = true
  decide
theorem get_ab {w : World} {kv iv : Value} (hk : StrsAt w.heap.size w kv [kA, kB]) (hx : ScalsAt w.heap.size w iv [(3, false, str 2), (3, false, str 1)]) :
    Calls Tryd.prog 23 #[.agg #[.int .i64 6, .bool false, .string ⟨#[]⟩, iv, kv], .string kA] w fun e w' => e = .returned (.tuple #[scal 3 false (str 2), .bool true]) ∧ Below w.heap.size w w' := by
  refine (get_obj kA hk hx rfl rising_ab).mono ?_
  rintro e w' ⟨p, hp, rfl, hb⟩
  have hp0 : p = 0 := by
    rcases Nat.eq_zero_or_pos p with h | h
    · exact h
    · have := hp.2.1 0 (by decide) h
      exact absurd this (by decide)
  subst hp0
  have hh : hasAt [kA, kB] kA 0 = true := by rw [hasAt_in (by decide)]; simp
  rw [hh]
  exact ⟨rfl, hb⟩

theorem scals_below {B : Nat} {W W' : World} {v : Value} {xs : List (Int × Bool × ByteArray)} (h : ScalsAt B W v xs) (hb : Below B W W') : ScalsAt B W' v xs := by
  obtain ⟨ad, cap, h1, h2, h3, h4⟩ := h
  refine ⟨ad, cap, h1, h2, h3, fun hp => ?_⟩
  obtain ⟨g, o, h5, h6, h7⟩ := h4 hp
  exact ⟨g, o, h5, h6, fun j hj => ⟨(hb.cell (p := ⟨g, o + j * 5, none⟩) h6).trans (h7 j hj).1, (hb.cell (p := ⟨g, o + j * 5 + 1, none⟩) h6).trans (h7 j hj).2.1, (hb.cell (p := ⟨g, o + j * 5 + 2, none⟩) h6).trans (h7 j hj).2.2.1, (hb.cell (p := ⟨g, o + j * 5 + 3, none⟩) h6).trans (h7 j hj).2.2.2.1, (hb.cell (p := ⟨g, o + j * 5 + 4, none⟩) h6).trans (h7 j hj).2.2.2.2⟩⟩
theorem scals_mono {B B' : Nat} {W : World} {v : Value} {xs : List (Int × Bool × ByteArray)} (h : ScalsAt B W v xs) (hB : B ≤ B') : ScalsAt B' W v xs := by
  obtain ⟨ad, cap, h1, h2, h3, h4⟩ := h
  refine ⟨ad, cap, h1, h2, h3, fun hp => ?_⟩
  obtain ⟨g, o, h5, h6, h7⟩ := h4 hp
  exact ⟨g, o, h5, by omega, h7⟩
theorem fits_small (n : Nat) (h : n < 100) : Fits (n : Int) := by unfold Fits; omega
theorem vInt_small {n : Nat} (h : n < 100) (w : World) : Calls Tryd.prog 12 #[.int .i64 (n : Int)] w fun e w' => e = .returned (scal 3 false (str (n : Int))) ∧ Below w.heap.size w w' := vInt_of (Lib.hid (fun W _ => Of_small h))
theorem s2v : (⟨#[50]⟩ : ByteArray) = str 2 := str_val (by decide)

set_option maxRecDepth 100000 in
set_option maxHeartbeats 4000000 in
theorem awake_any (w : World) : Calls Tryd.prog 6 #[] w fun e w' => e = .returned (.bool true) ∧ Below w.heap.size w w' := by
  have HI1 := Lib.hid (fun W => vInt_small (n := 1) (by omega) W)
  have HI2 := Lib.hid (fun W => vInt_small (n := 2) (by omega) W)
  have HI10 := Lib.hid (fun W => vInt_small (n := 10) (by omega) W)
  have HC1 := Lib.hid (fun W => vCmp_kinds 0 2 false false ⟨#[]⟩ ⟨#[]⟩ (by decide) W)
  have HC2 := Lib.hid (fun W => vCmp_ints (fits_small 2 (by omega)) (fits_small 10 (by omega)) W)
  have HC3 := Lib.hid (fun W => vCmp_texts ⟨#[50]⟩ ⟨#[49, 48]⟩ W)
  rw [show sgnI 0 2 = -1 by decide] at HC1
  rw [show sgnI ((2 : Nat) : Int) ((10 : Nat) : Int) = -1 by decide] at HC2
  rw [show Lib.compareBytes (⟨#[50]⟩ : ByteArray).data.toList (⟨#[49, 48]⟩ : ByteArray).data.toList = 1 by decide] at HC3
  have hs2 : ((str ((2 : Nat) : Int)).toList == [50]) = true := by rw [show ((2 : Nat) : Int) = 2 from rfl, ← s2v, ByteArray.toList_eq]; rfl
  have HN := Lib.hid (fun W => vNull_any W)
  have HBo := Lib.hid (fun W => vBool_any false W)
  have HT1 := Lib.hid (fun W => vText_any ⟨#[50]⟩ W)
  have HT2 := Lib.hid (fun W => vText_any ⟨#[49, 48]⟩ W)
  obtain ⟨S1, hS1⟩ : ∃ S, str ((1 : Nat) : Int) = S := ⟨_, rfl⟩
  obtain ⟨S2, hS2⟩ : ∃ S, str ((2 : Nat) : Int) = S := ⟨_, rfl⟩
  have HS1 := Lib.hid hS1
  have HS2 := Lib.hid hS2
  rw [hS1] at HI1
  rw [hS2] at HI2 HC2 hs2
  clear hS1 hS2
  have escal : ∀ k b t, scal k b t = .agg #[.int .i64 k, .bool b, .string t, .slice none 0 0, .slice none 0 0] := fun _ _ _ => rfl
  simp only [escal] at HI1 HI2 HI10 HC1 HC2 HC3 HN HBo HT1 HT2
  go_enter Tryd.func6, Tryd.ntmps6
  have hKb := Blk.new w #[.string ⟨#[98]⟩, .string ⟨#[97]⟩] 9
  have hB0 := below_new w (.cells #[.string ⟨#[98]⟩, .string ⟨#[97]⟩] 9)
  go_wp2_with fail
  go_at_call 12; refine (HI1.out _).mono ?_; rintro e W1 ⟨rfl, hb1⟩
  have hB1 := hB0.trans (hb1.mono hB0.size)
  have hK1 := hKb.below hb1
  clear hB0 hKb hb1
  go_wp2_with fail
  go_at_call 12; refine (HI2.out _).mono ?_; rintro e W2 ⟨rfl, hb2⟩
  have hB2 := hB1.trans (hb2.mono hB1.size)
  have hK2 := hK1.below hb2
  clear hB1 hK1 hb2
  have hI := Blk.new W2 #[.int .i64 3, .bool false, .string S1, .slice none 0 0, .slice none 0 0, .int .i64 3, .bool false, .string S2, .slice none 0 0, .slice none 0 0] 26
  have hb3 := below_new W2 (.cells #[.int .i64 3, .bool false, .string S1, .slice none 0 0, .slice none 0 0, .int .i64 3, .bool false, .string S2, .slice none 0 0, .slice none 0 0] 26)
  have hB3 := hB2.trans (hb3.mono hB2.size)
  have hK3 := hK2.below hb3
  have hSt : StrsAt (W2.alloc (.cells #[.int .i64 3, .bool false, .string S1, .slice none 0 0, .slice none 0 0, .int .i64 3, .bool false, .string S2, .slice none 0 0, .slice none 0 0] 26)).heap.size (W2.alloc (.cells #[.int .i64 3, .bool false, .string S1, .slice none 0 0, .slice none 0 0, .int .i64 3, .bool false, .string S2, .slice none 0 0, .slice none 0 0] 26)) (.slice (some ⟨w.heap.size, 0, none⟩) 2 2) ks0 := by
    refine ⟨_, 2, rfl, by decide, by decide, fun _ => ⟨w.heap.size, 0, rfl, hK3.lt, fun j hj => ?_⟩⟩
    have hj2 : j < 2 := hj
    rw [Nat.zero_add, hK3.cell j]
    rcases (show j = 0 ∨ j = 1 by omega) with rfl | rfl <;> rfl
  have hSc : ScalsAt (W2.alloc (.cells #[.int .i64 3, .bool false, .string S1, .slice none 0 0, .slice none 0 0, .int .i64 3, .bool false, .string S2, .slice none 0 0, .slice none 0 0] 26)).heap.size (W2.alloc (.cells #[.int .i64 3, .bool false, .string S1, .slice none 0 0, .slice none 0 0, .int .i64 3, .bool false, .string S2, .slice none 0 0, .slice none 0 0] 26)) (.slice (some ⟨W2.heap.size, 0, none⟩) 2 2) xs0 := by
    refine ⟨_, 2, rfl, by decide, by show (2 : Nat) ≤ _; omega, fun _ => ⟨W2.heap.size, 0, rfl, hI.lt, fun j hj => ?_⟩⟩
    have hj2 : j < 2 := hj
    simp only [Nat.zero_add]
    rw [hI.cell, hI.cell, hI.cell, hI.cell, hI.cell, ← HS1.out, ← HS2.out]
    rcases (show j = 0 ∨ j = 1 by omega) with rfl | rfl <;> exact ⟨rfl, rfl, rfl, rfl, rfl⟩
  have HOb := Lib.hid (object_ba hSt hSc)
  clear hSt hSc hI hK3 hK2
  go_wp2_with fail
  go_at_call 9; refine HOb.out.mono ?_; rintro e W4 ⟨kv, iv, rfl, hkr, hir, hb4⟩
  have hB4 := hB3.trans (hb4.mono hB3.size)
  clear HOb hb3 hb4 hB3 hB2
  obtain ⟨gk, capk, rfl, -, hgk⟩ := World.ownsRow.form hkr (by decide)
  obtain ⟨gi, capi, rfl, -, hgi⟩ := World.ownsRow.form hir (by decide)
  have hck := World.ownsRow.cells hkr (g := gk) rfl 0 (.string kA) rfl
  rw [Lib.add_plain] at hck
  have ekA : kA = ⟨#[97]⟩ := rfl
  have hbx := Blk.new W4 #[.int .i64 6, .bool false, .string ⟨#[]⟩, .slice (some ⟨gi, 0, none⟩) 2 capi, .slice (some ⟨gk, 0, none⟩) 2 capk] 26
  have hb5 := below_new W4 (.cells #[.int .i64 6, .bool false, .string ⟨#[]⟩, .slice (some ⟨gi, 0, none⟩) 2 capi, .slice (some ⟨gk, 0, none⟩) 2 capk] 26)
  have HGet := Lib.hid (get_ab (((strs_ba hkr).below hb5).mono hb5.size) (scals_mono ((scals_below (scals_ba hir) hb5)) hb5.size))
  simp only [escal] at HGet
  have hB5 := hB4.trans (hb5.mono hB4.size)
  rw [show ((2 : Int)) = ((2 : Nat) : Int) from rfl, HS2.out] at HGet
  rw [ekA] at HGet hck
  have hck5 := (hb5.cell (p := ⟨gk, 0 + 0, none⟩) hgk).trans hck
  go_wp2_with fail
  go_at_call 23; refine HGet.out.mono ?_; rintro e W6 ⟨rfl, hb6⟩
  have hbx6 := hbx.below hb6
  have hck6 := (hb6.cell (p := ⟨gk, 0 + 0, none⟩) (by simp; omega)).trans hck5
  have hB6 := hB5.trans (hb6.mono hB5.size)
  have hgk6 : gk < W6.heap.size := by have := hb6.size; simp at this; omega
  have hw4 : W4.heap.size < W6.heap.size := hbx6.lt
  have hb7 := below_new W6 (.cells #[.int .i64 3, .bool false, .string S2, .slice none 0 0, .slice none 0 0] 26)
  have hbx7 := hbx6.below hb7
  have hB7 := hB6.trans (hb7.mono hB6.size)
  have hck7 := (hb7.cell (p := ⟨gk, 0 + 0, none⟩) hgk6).trans hck6
  have q0 := hbx7.cell 4
  clear hck hck5 hck6 hbx hbx6 hkr hir hb5 hb6 hb7 HGet hB4 hB5 hB6
  go_wp2_with fail
  clear hck7 q0 hbx7 hgk6 hw4 hgk hgi
  go_at_call 25; refine (HN.out _).mono ?_; rintro e V8 ⟨rfl, hb8⟩
  have hB8 := hB7.trans (hb8.mono hB7.size)
  clear hB7 hb8
  go_wp2_with fail
  go_at_call 14; refine (HBo.out _).mono ?_; rintro e V9 ⟨rfl, hb9⟩
  have hB9 := hB8.trans (hb9.mono hB8.size)
  clear hB8 hb9
  go_wp2_with fail
  go_at_call 24; refine (HC1.out _).mono ?_; rintro e V10 ⟨rfl, hb10⟩
  have hB10 := hB9.trans (hb10.mono hB9.size)
  clear hB9 hb10
  go_wp2_with fail
  go_at_call 12; refine (HI2.out _).mono ?_; rintro e V11 ⟨rfl, hb11⟩
  have hB11 := hB10.trans (hb11.mono hB10.size)
  clear hB10 hb11
  go_wp2_with fail
  go_at_call 12; refine (HI10.out _).mono ?_; rintro e V12 ⟨rfl, hb12⟩
  have hB12 := hB11.trans (hb12.mono hB11.size)
  clear hB11 hb12
  go_wp2_with fail
  go_at_call 24; refine (HC2.out _).mono ?_; rintro e V13 ⟨rfl, hb13⟩
  have hB13 := hB12.trans (hb13.mono hB12.size)
  clear hB12 hb13
  go_wp2_with fail
  go_at_call 17; refine (HT1.out _).mono ?_; rintro e V14 ⟨rfl, hb14⟩
  have hB14 := hB13.trans (hb14.mono hB13.size)
  clear hB13 hb14
  go_wp2_with fail
  go_at_call 17; refine (HT2.out _).mono ?_; rintro e V15 ⟨rfl, hb15⟩
  have hB15 := hB14.trans (hb15.mono hB14.size)
  clear hB14 hb15
  go_wp2_with fail
  go_at_call 24; refine (HC3.out _).mono ?_; rintro e V16 ⟨rfl, hb16⟩
  have hB16 := hB15.trans (hb16.mono hB15.size)
  clear hB15 hb16
  go_wp2
  refine bodyPost_ret (v := .bool true) ?_ rfl ⟨rfl, hB16⟩
  simp [results, Tryd.results6, go_sem]
end Go.Proofs.YtjgbhnbfojkhoaaDoor
