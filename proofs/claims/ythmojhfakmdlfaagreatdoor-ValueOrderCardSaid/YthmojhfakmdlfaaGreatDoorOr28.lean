/- purlinlaw02.awake: the walk · Values in new memory; the keys' clone -/
import Derived.Test.YthmojhfakmdlfaaGreatDoorOr10
import Derived.Test.YthmojhfakmdlfaaGreatDoorOr25
import Derived.Test.YthmojhfakmdlfaaGreatDoorOr27
namespace Go.Proofs.YthmojhfakmdlfaaGreatDoor
open Go.RowKit Go.Sort Go.Shelf
set_option linter.unusedVariables false

theorem object_ba {w : World} {kv iv : Value} (hk : StrsAt w.heap.size w kv ks0) (hx : ScalsAt w.heap.size w iv xs0) : Calls Tryz.prog 24 #[kv, iv] w fun e w' => Objects w ks0 xs0 [1, 0] e w' := by
  refine object_go hk hx rfl (by decide) rfl ?_ ?_ (by decide) (Lib.hid (fun W hb => places_ba ((hk.below hb).mono hb.size)))
  · intro k hk2
    have hk2' : k < 2 := hk2
    rcases (show k = 0 ∨ k = 1 by omega) with rfl | rfl <;> decide
  · intro k hk2
    have hk2' : k + 1 < 2 := hk2
    obtain rfl : k = 0 := by omega
    rw [ByteArray.toList_eq, ByteArray.toList_eq]
    decide
theorem strs_ba {W : World} {B : Nat} {kv : Value} (h : W.ownsRow B 9 1 kv ([1, 0] : List Nat).length (keysOf ks0 [1, 0] ([1, 0] : List Nat).length)) : StrsAt W.heap.size W kv [kA, kB] := strs_of_row h (by decide)
theorem scals_ba {W : World} {B : Nat} {iv : Value} (h : W.ownsRow B 26 5 iv ([1, 0] : List Nat).length (itemsOf xs0 [1, 0] ([1, 0] : List Nat).length)) : ScalsAt W.heap.size W iv [(3, false, str 2), (3, false, str 1)] := scals_of_row h (by show (2 : Nat) ≤ _; omega)
theorem rising_ab : Rising [kA, kB] := fun i j hi hj hij => by
  have hj2 : j < 2 := hj
  obtain rfl : i = 0 := by omega
  obtain rfl : j = 1 := by omega
  show bLt kA kB = true
  decide
theorem get_ab {w : World} {kv iv : Value} (hk : StrsAt w.heap.size w kv [kA, kB]) (hx : ScalsAt w.heap.size w iv [(3, false, str 2), (3, false, str 1)]) :
    Calls Tryz.prog 17 #[.agg #[.int .i64 6, .bool false, .string ⟨#[]⟩, iv, kv], .string kA] w fun e w' => e = .returned (.tuple #[scal 3 false (str 2), .bool true]) ∧ Below w.heap.size w w' := by
  refine (get_obj kA hk hx rfl rising_ab).mono ?_
  rintro e w' ⟨p, hp, rfl, hb⟩
  have hp0 : p = 0 := by
    rcases Nat.eq_zero_or_pos p with h | h
    · exact h
    · have := hp.2.1 0 (by decide) h
      exact absurd this (by decide)
  subst hp0
  have hh : hasAt [kA, kB] kA 0 = true := by rw [hasAt_in (by decide)]; simp
  rw [hh]
  exact ⟨rfl, hb⟩

theorem scals_below {B : Nat} {W W' : World} {v : Value} {xs : List (Int × Bool × ByteArray)} (h : ScalsAt B W v xs) (hb : Below B W W') : ScalsAt B W' v xs := by
  obtain ⟨ad, cap, h1, h2, h3, h4⟩ := h
  refine ⟨ad, cap, h1, h2, h3, fun hp => ?_⟩
  obtain ⟨g, o, h5, h6, h7⟩ := h4 hp
  exact ⟨g, o, h5, h6, fun j hj => ⟨(hb.cell (p := ⟨g, o + j * 5, none⟩) h6).trans (h7 j hj).1, (hb.cell (p := ⟨g, o + j * 5 + 1, none⟩) h6).trans (h7 j hj).2.1, (hb.cell (p := ⟨g, o + j * 5 + 2, none⟩) h6).trans (h7 j hj).2.2.1, (hb.cell (p := ⟨g, o + j * 5 + 3, none⟩) h6).trans (h7 j hj).2.2.2.1, (hb.cell (p := ⟨g, o + j * 5 + 4, none⟩) h6).trans (h7 j hj).2.2.2.2⟩⟩
theorem scals_mono {B B' : Nat} {W : World} {v : Value} {xs : List (Int × Bool × ByteArray)} (h : ScalsAt B W v xs) (hB : B ≤ B') : ScalsAt B' W v xs := by
  obtain ⟨ad, cap, h1, h2, h3, h4⟩ := h
  refine ⟨ad, cap, h1, h2, h3, fun hp => ?_⟩
  obtain ⟨g, o, h5, h6, h7⟩ := h4 hp
  exact ⟨g, o, h5, by omega, h7⟩
theorem fits_small (n : Nat) (h : n < 100) : Fits (n : Int) := by unfold Fits; omega
theorem vInt_small {n : Nat} (h : n < 100) (w : World) : Calls Tryz.prog 34 #[.int .i64 (n : Int)] w fun e w' => e = .returned (scal 3 false (str (n : Int))) ∧ Below w.heap.size w w' := vInt_of (Lib.hid (fun W _ => Of_small h))
theorem s2v : (⟨#[50]⟩ : ByteArray) = str 2 := str_val (by decide)

set_option maxRecDepth 100000 in
set_option maxHeartbeats 4000000 in
theorem awake_any (w : World) : Calls Tryz.prog 11 #[] w fun e w' => e = .returned (.bool true) ∧ Below w.heap.size w w' := by
  have HI1 := Lib.hid (fun W => vInt_small (n := 1) (by omega) W)
  have HI2 := Lib.hid (fun W => vInt_small (n := 2) (by omega) W)
  have HI10 := Lib.hid (fun W => vInt_small (n := 10) (by omega) W)
  have HC1 := Lib.hid (fun W => vCmp_kinds 0 2 false false ⟨#[]⟩ ⟨#[]⟩ (by decide) W)
  have HC2 := Lib.hid (fun W => vCmp_ints (fits_small 2 (by omega)) (fits_small 10 (by omega)) W)
  have HC3 := Lib.hid (fun W => vCmp_texts ⟨#[50]⟩ ⟨#[49, 48]⟩ W)
  rw [show sgnI 0 2 = -1 by decide] at HC1
  rw [show sgnI ((2 : Nat) : Int) ((10 : Nat) : Int) = -1 by decide] at HC2
  rw [show Lib.compareBytes (⟨#[50]⟩ : ByteArray).data.toList (⟨#[49, 48]⟩ : ByteArray).data.toList = 1 by decide] at HC3
  have hs2 : ((str ((2 : Nat) : Int)).toList == [50]) = true := by rw [show ((2 : Nat) : Int) = 2 from rfl, ← s2v, ByteArray.toList_eq]; rfl
  have HN := Lib.hid (fun W => vNull_any W)
  have HBo := Lib.hid (fun W => vBool_any false W)
  have HT1 := Lib.hid (fun W => vText_any ⟨#[50]⟩ W)
  have HT2 := Lib.hid (fun W => vText_any ⟨#[49, 48]⟩ W)
  obtain ⟨S1, hS1⟩ : ∃ S, str ((1 : Nat) : Int) = S := ⟨_, rfl⟩
  obtain ⟨S2, hS2⟩ : ∃ S, str ((2 : Nat) : Int) = S := ⟨_, rfl⟩
  have HS1 := Lib.hid hS1
  have HS2 := Lib.hid hS2
  rw [hS1] at HI1
  rw [hS2] at HI2 HC2 hs2
  clear hS1 hS2
  have escal : ∀ k b t, scal k b t = .agg #[.int .i64 k, .bool b, .string t, .slice none 0 0, .slice none 0 0] := fun _ _ _ => rfl
  simp only [escal] at HI1 HI2 HI10 HC1 HC2 HC3 HN HBo HT1 HT2
  go_enter Tryz.func11, Tryz.ntmps11
  have hKb := Blk.new w #[.string ⟨#[98]⟩, .string ⟨#[97]⟩] 9
  have hB0 := below_new w (.cells #[.string ⟨#[98]⟩, .string ⟨#[97]⟩] 9)
  go_wp2_with fail
  go_at_call 34; refine (HI1.out _).mono ?_; rintro e W1 ⟨rfl, hb1⟩
  have hB1 := hB0.trans (hb1.mono hB0.size)
  have hK1 := hKb.below hb1
  clear hB0 hKb hb1
  go_wp2_with fail
  go_at_call 34; refine (HI2.out _).mono ?_; rintro e W2 ⟨rfl, hb2⟩
  have hB2 := hB1.trans (hb2.mono hB1.size)
  have hK2 := hK1.below hb2
  clear hB1 hK1 hb2
  have hI := Blk.new W2 #[.int .i64 3, .bool false, .string S1, .slice none 0 0, .slice none 0 0, .int .i64 3, .bool false, .string S2, .slice none 0 0, .slice none 0 0] 26
  have hb3 := below_new W2 (.cells #[.int .i64 3, .bool false, .string S1, .slice none 0 0, .slice none 0 0, .int .i64 3, .bool false, .string S2, .slice none 0 0, .slice none 0 0] 26)
  have hB3 := hB2.trans (hb3.mono hB2.size)
  have hK3 := hK2.below hb3
  have hSt : StrsAt (W2.alloc (.cells #[.int .i64 3, .bool false, .string S1, .slice none 0 0, .slice none 0 0, .int .i64 3, .bool false, .string S2, .slice none 0 0, .slice none 0 0] 26)).heap.size (W2.alloc (.cells #[.int .i64 3, .bool false, .string S1, .slice none 0 0, .slice none 0 0, .int .i64 3, .bool false, .string S2, .slice none 0 0, .slice none 0 0] 26)) (.slice (some ⟨w.heap.size, 0, none⟩) 2 2) ks0 := by
    refine ⟨_, 2, rfl, by decide, by decide, fun _ => ⟨w.heap.size, 0, rfl, hK3.lt, fun j hj => ?_⟩⟩
    have hj2 : j < 2 := hj
    rw [Nat.zero_add, hK3.cell j]
    rcases (show j = 0 ∨ j = 1 by omega) with rfl | rfl <;> rfl
  have hSc : ScalsAt (W2.alloc (.cells #[.int .i64 3, .bool false, .string S1, .slice none 0 0, .slice none 0 0, .int .i64 3, .bool false, .string S2, .slice none 0 0, .slice none 0 0] 26)).heap.size (W2.alloc (.cells #[.int .i64 3, .bool false, .string S1, .slice none 0 0, .slice none 0 0, .int .i64 3, .bool false, .string S2, .slice none 0 0, .slice none 0 0] 26)) (.slice (some ⟨W2.heap.size, 0, none⟩) 2 2) xs0 := by
    refine ⟨_, 2, rfl, by decide, by show (2 : Nat) ≤ _; omega, fun _ => ⟨W2.heap.size, 0, rfl, hI.lt, fun j hj => ?_⟩⟩
    have hj2 : j < 2 := hj
    simp only [Nat.zero_add]
    rw [hI.cell, hI.cell, hI.cell, hI.cell, hI.cell, ← HS1.out, ← HS2.out]
    rcases (show j = 0 ∨ j = 1 by omega) with rfl | rfl <;> exact ⟨rfl, rfl, rfl, rfl, rfl⟩
  have HOb := Lib.hid (object_ba hSt hSc)
  clear hSt hSc hI hK3 hK2
  go_wp2_with fail
  go_at_call 24; refine HOb.out.mono ?_; rintro e W4 ⟨kv, iv, rfl, hkr, hir, hb4⟩
  have hB4 := hB3.trans (hb4.mono hB3.size)
  clear HOb hb3 hb4 hB3 hB2
  obtain ⟨gk, capk, rfl, -, hgk⟩ := World.ownsRow.form hkr (by decide)
  obtain ⟨gi, capi, rfl, -, hgi⟩ := World.ownsRow.form hir (by decide)
  have hck := World.ownsRow.cells hkr (g := gk) rfl 0 (.string kA) rfl
  rw [Lib.add_plain] at hck
  have ekA : kA = ⟨#[97]⟩ := rfl
  have hbx := Blk.new W4 #[.int .i64 6, .bool false, .string ⟨#[]⟩, .slice (some ⟨gi, 0, none⟩) 2 capi, .slice (some ⟨gk, 0, none⟩) 2 capk] 26
  have hb5 := below_new W4 (.cells #[.int .i64 6, .bool false, .string ⟨#[]⟩, .slice (some ⟨gi, 0, none⟩) 2 capi, .slice (some ⟨gk, 0, none⟩) 2 capk] 26)
  have HGet := Lib.hid (get_ab (((strs_ba hkr).below hb5).mono hb5.size) (scals_mono ((scals_below (scals_ba hir) hb5)) hb5.size))
  simp only [escal] at HGet
  have hB5 := hB4.trans (hb5.mono hB4.size)
  rw [show ((2 : Int)) = ((2 : Nat) : Int) from rfl, HS2.out] at HGet
  rw [ekA] at HGet hck
  have hck5 := (hb5.cell (p := ⟨gk, 0 + 0, none⟩) hgk).trans hck
  go_wp2_with fail
  go_at_call 17; refine HGet.out.mono ?_; rintro e W6 ⟨rfl, hb6⟩
  have hbx6 := hbx.below hb6
  have hck6 := (hb6.cell (p := ⟨gk, 0 + 0, none⟩) (by simp; omega)).trans hck5
  have hB6 := hB5.trans (hb6.mono hB5.size)
  have hgk6 : gk < W6.heap.size := by have := hb6.size; simp at this; omega
  have hw4 : W4.heap.size < W6.heap.size := hbx6.lt
  have hb7 := below_new W6 (.cells #[.int .i64 3, .bool false, .string S2, .slice none 0 0, .slice none 0 0] 26)
  have hbx7 := hbx6.below hb7
  have hB7 := hB6.trans (hb7.mono hB6.size)
  have hck7 := (hb7.cell (p := ⟨gk, 0 + 0, none⟩) hgk6).trans hck6
  have q0 := hbx7.cell 4
  clear hck hck5 hck6 hbx hbx6 hkr hir hb5 hb6 hb7 HGet hB4 hB5 hB6
  go_wp2_with fail
  clear hck7 q0 hbx7 hgk6 hw4 hgk hgi
  go_at_call 35; refine (HN.out _).mono ?_; rintro e V8 ⟨rfl, hb8⟩
  have hB8 := hB7.trans (hb8.mono hB7.size)
  clear hB7 hb8
  go_wp2_with fail
  go_at_call 36; refine (HBo.out _).mono ?_; rintro e V9 ⟨rfl, hb9⟩
  have hB9 := hB8.trans (hb9.mono hB8.size)
  clear hB8 hb9
  go_wp2_with fail
  go_at_call 13; refine (HC1.out _).mono ?_; rintro e V10 ⟨rfl, hb10⟩
  have hB10 := hB9.trans (hb10.mono hB9.size)
  clear hB9 hb10
  go_wp2_with fail
  go_at_call 34; refine (HI2.out _).mono ?_; rintro e V11 ⟨rfl, hb11⟩
  have hB11 := hB10.trans (hb11.mono hB10.size)
  clear hB10 hb11
  go_wp2_with fail
  go_at_call 34; refine (HI10.out _).mono ?_; rintro e V12 ⟨rfl, hb12⟩
  have hB12 := hB11.trans (hb12.mono hB11.size)
  clear hB11 hb12
  go_wp2_with fail
  go_at_call 13; refine (HC2.out _).mono ?_; rintro e V13 ⟨rfl, hb13⟩
  have hB13 := hB12.trans (hb13.mono hB12.size)
  clear hB12 hb13
  go_wp2_with fail
  go_at_call 37; refine (HT1.out _).mono ?_; rintro e V14 ⟨rfl, hb14⟩
  have hB14 := hB13.trans (hb14.mono hB13.size)
  clear hB13 hb14
  go_wp2_with fail
  go_at_call 37; refine (HT2.out _).mono ?_; rintro e V15 ⟨rfl, hb15⟩
  have hB15 := hB14.trans (hb15.mono hB14.size)
  clear hB14 hb15
  go_wp2_with fail
  go_at_call 13; refine (HC3.out _).mono ?_; rintro e V16 ⟨rfl, hb16⟩
  have hB16 := hB15.trans (hb16.mono hB15.size)
  clear hB15 hb16
  go_wp2
  refine bodyPost_ret (v := .bool true) ?_ rfl ⟨rfl, hB16⟩
  simp [results, Tryz.results11, go_sem]
end Go.Proofs.YthmojhfakmdlfaaGreatDoor
namespace Go.Proofs.YthmojhfakmdlfaaGreatDoor
open Go.RowKit
set_option linter.unusedVariables false

/-- A list of strings in blocks from lo on, below B. -/
def StrsF (lo B : Nat) (W : World) (v : Value) (ks : List ByteArray) : Prop := ∃ ad cap, v = .slice ad ks.length cap ∧ ks.length ≤ cap ∧ ks.length ≤ 140737488355328 ∧ (0 < ks.length → ∃ g o, ad = some ⟨g, o, none⟩ ∧ lo ≤ g ∧ g < B ∧ ∀ j (h : j < ks.length), W.cell? ⟨g, o + j, none⟩ = some (.string ks[j]))
theorem cell_same {W W' : World} {g : Nat} (h : W'.heap[g]? = W.heap[g]?) (o : Nat) : W'.cell? ⟨g, o, none⟩ = W.cell? ⟨g, o, none⟩ := by
  simp [World.cell?, h]
theorem StrsF.keep {lo lo' B B' : Nat} {W W' : World} {v : Value} {ks : List ByteArray} (h : StrsF lo B W v ks) (hs : ∀ g, lo ≤ g → g < B → W'.heap[g]? = W.heap[g]?) (hl : lo' ≤ lo) (hB : B ≤ B') : StrsF lo' B' W' v ks := by
  obtain ⟨ad, cap, h1, h2, h3, h4⟩ := h
  refine ⟨ad, cap, h1, h2, h3, fun hp => ?_⟩
  obtain ⟨g, o, h5, h6, h7, h8⟩ := h4 hp
  exact ⟨g, o, h5, by omega, by omega, fun j hj => (cell_same (hs g h6 h7) _).trans (h8 j hj)⟩
theorem StrsF.at {lo B : Nat} {W : World} {v : Value} {ks : List ByteArray} (h : StrsF lo B W v ks) : StrsAt B W v ks := by
  obtain ⟨ad, cap, h1, h2, h3, h4⟩ := h
  refine ⟨ad, cap, h1, h2, h3, fun hp => ?_⟩
  obtain ⟨g, o, h5, h6, h7, h8⟩ := h4 hp
  exact ⟨g, o, h5, h7, h8⟩

/-- The value v is the tree, its memory in blocks from lo on, below B. -/
inductive Fresh (lo B : Nat) (W : World) : Value → VT → Prop where
  | mk (k : Int) (b : Bool) (t : ByteArray) (its : List VT) (ks : List ByteArray) (ad : Option Addr) (cap : Nat) (kv : Value) (g o : Nat) (ik : Nat → Int) (ib : Nat → Bool) (it : Nat → ByteArray) (ii iv : Nat → Value)
      (hk : StrsF lo B W kv ks) (hc : its.length ≤ cap) (hn : its.length ≤ 140737488355328)
      (ha : 0 < its.length → ad = some ⟨g, o, none⟩ ∧ lo ≤ g ∧ g < B)
      (hcell : ∀ j, j < its.length → Five W g (o + j * 5) (.int .i64 (ik j)) (.bool (ib j)) (.string (it j)) (ii j) (iv j))
      (hrec : ∀ j (h : j < its.length), Fresh lo B W (.agg #[.int .i64 (ik j), .bool (ib j), .string (it j), ii j, iv j]) its[j]) :
      Fresh lo B W (.agg #[.int .i64 k, .bool b, .string t, .slice ad its.length cap, kv]) (.node k b t its ks)
theorem Fresh.at {lo B : Nat} {W : World} {v : Value} {T : VT} (h : Fresh lo B W v T) : Is B W v T := by
  induction h with
  | mk k b t its ks ad cap kv g o ik ib it ii iv hk hc hn ha hcell hrec ih =>
    exact Is.mk k b t its ks ad cap kv g o ik ib it ii iv hk.at hc hn (fun hp => ⟨(ha hp).1, (ha hp).2.2⟩) hcell ih
theorem Five.same {W W' : World} {g o : Nat} {c0 c1 c2 c3 c4 : Value} (h : Five W g o c0 c1 c2 c3 c4) (hs : W'.heap[g]? = W.heap[g]?) : Five W' g o c0 c1 c2 c3 c4 :=
  ⟨(cell_same hs _).trans h.1, (cell_same hs _).trans h.2.1, (cell_same hs _).trans h.2.2.1, (cell_same hs _).trans h.2.2.2.1, (cell_same hs _).trans h.2.2.2.2⟩
theorem Fresh.keep {lo lo' B B' : Nat} {W W' : World} {v : Value} {T : VT} (h : Fresh lo B W v T) (hs : ∀ g, lo ≤ g → g < B → W'.heap[g]? = W.heap[g]?) (hl : lo' ≤ lo) (hB : B ≤ B') : Fresh lo' B' W' v T := by
  induction h with
  | mk k b t its ks ad cap kv g o ik ib it ii iv hk hc hn ha hcell hrec ih =>
    exact Fresh.mk k b t its ks ad cap kv g o ik ib it ii iv (hk.keep hs hl hB) hc hn (fun hp => ⟨(ha hp).1, by have := (ha hp).2; omega, by have := (ha hp).2; omega⟩) (fun j hj => (hcell j hj).same (hs g (ha (by omega)).2.1 (ha (by omega)).2.2)) ih
theorem Fresh.shape {lo B : Nat} {W : World} {v : Value} {T : VT} (h : Fresh lo B W v T) : ∃ k b t ad n cap adk nk capk, v = .agg #[.int .i64 k, .bool b, .string t, .slice ad n cap, .slice adk nk capk] := h.at.shape

/-- Nothing in the tree is long. -/
def smallT : VT → Prop
  | .node _ _ _ its ks => its.length ≤ 1000000 ∧ ks.length ≤ 1000000 ∧ ∀ x ∈ its, smallT x
theorem smallT_node {k : Int} {b : Bool} {t : ByteArray} {its : List VT} {ks : List ByteArray} : smallT (.node k b t its ks) ↔ its.length ≤ 1000000 ∧ ks.length ≤ 1000000 ∧ ∀ x ∈ its, smallT x := by
  conv => lhs; unfold smallT

/-- The keys' clone. -/
def ClonesKeys (ks : List ByteArray) (W : World) (e : Ending) (w' : World) : Prop := ∃ kv', e = .returned kv' ∧ StrsF W.heap.size w'.heap.size w' kv' ks ∧ Below W.heap.size W w'

theorem cloneKeys_any {B : Nat} {w : World} {kv : Value} {ks : List ByteArray} (hk : StrsAt B w kv ks) (hs : ks.length ≤ 1000000) (W : World) (hb : Below B w W) (hBW : B ≤ W.heap.size) : Calls Tryz.prog 57 #[kv] W (ClonesKeys ks W) := by
  obtain ⟨ad, cap, rfl, hc, hl, hp⟩ := hk
  cases ad with
  | none =>
    have h0 : ks.length = 0 := by
      rcases Nat.eq_zero_or_pos ks.length with h | h
      · exact h
      · obtain ⟨_, _, h', _⟩ := hp h; cases h'
    obtain rfl : ks = [] := List.length_eq_zero_iff.1 h0
    refine (Tryz.slices_Clone_string_nil _ _ W).mono ?_
    rintro e w' ⟨rfl, rfl⟩
    exact ⟨_, rfl, ⟨none, 0, rfl, by simp, by simp, fun h => absurd h (by simp)⟩, Below.refl _ _⟩
  | some a =>
    rcases Nat.eq_zero_or_pos ks.length with h | h
    · obtain rfl : ks = [] := List.length_eq_zero_iff.1 h
      refine (Tryz.slices_Clone_string_zero a _ W).mono ?_
      rintro e w' ⟨v', rfl, hown, -, hb'⟩
      obtain ⟨-, ⟨rfl, -⟩ | ⟨g, cap', cur, rfl, -⟩⟩ := hown
      · exact ⟨_, rfl, ⟨none, 0, rfl, by simp, by simp, fun h => absurd h (by simp)⟩, hb'⟩
      · exact ⟨_, rfl, ⟨_, cap', rfl, by simp, by simp, fun h => absurd h (by simp)⟩, hb'⟩
    · obtain ⟨g, o, h1, h2, h3⟩ := hp h
      cases h1
      have hcon := Tryz.slices_Clone_string g o ks.length cap ks W (Nat.le_refl _) (by omega) (fun j hj => by
        have := (hb.cell (p := ⟨g, o + j, none⟩) h2).trans (h3 j hj)
        rw [this]
        simp [List.getD, hj])
      refine hcon.mono ?_
      rintro e w' ⟨v', rfl, hown, -, hb'⟩
      obtain ⟨hx, ⟨rfl, h0⟩ | ⟨g', cap', cur, rfl, hg', hblk, hnc, hcm, hcs, htk⟩⟩ := hown
      · omega
      · refine ⟨_, rfl, ⟨_, cap', rfl, hnc, hl, fun _ => ⟨g', 0, rfl, hg', (Array.getElem?_eq_some_iff.1 hblk).1, fun j hj => ?_⟩⟩, hb'⟩
        have hcj : cur[0 + j]? = some (.string ks[j]) := by
          have h4 : (cur.toList.take (ks.length * 1))[j]? = ((ks.take ks.length).map Value.string)[j]? := by rw [htk]
          rw [List.getElem?_take_of_lt (by omega), List.take_length, List.getElem?_map, List.getElem?_eq_getElem hj, Array.getElem?_toList] at h4
          rw [Nat.zero_add, h4]; rfl
        simp only [World.cell?, hblk]
        first | exact hcj | simpa using hcj
end Go.Proofs.YthmojhfakmdlfaaGreatDoor
