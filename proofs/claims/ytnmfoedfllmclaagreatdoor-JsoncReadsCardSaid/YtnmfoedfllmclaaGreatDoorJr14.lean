/- A rune's bytes: the document's Rune is the library's; what is written of a rune is read as it · The document's own reader: a rune's UTF-8 written · What stands for one rune of a text · The document's own reader: what a backslash stands for -/
import Derived.Lib.MapLaws
import Derived.Lib.ValidLaws
import Derived.Lib.UnsafeStr
import Derived.BigQuiet
import Derived.Deep.DeepCutAuto
import Derived.Test.YtnmfoedfllmclaaGreatDoorJr12
import Derived.Test.YtnmfoedfllmclaaGreatDoorJr13
namespace Go.Proofs.YtnmfoedfllmclaaGreatDoor
set_option linter.unusedVariables false

theorem headZ_getD {R : List UInt8} {i : Nat} (h : i < R.length) : headZ (R.drop i) = ((R.getD i 0).toNat : Int) := by
  rw [List.drop_eq_getElem_cons h]
  simp [headZ, List.getD, h]
theorem headZ_past {R : List UInt8} {i : Nat} (h : ¬ i < R.length) : headZ (R.drop i) = -1 := by
  rw [List.drop_of_length_le (by omega)]
  rfl
set_option maxRecDepth 100000 in
theorem docRune_N {n b0 b1 b2 b3 : Nat} {z1 z2 z3 : Int} (hn : 1 ≤ n) (h0 : b0 < 256) (h1 : b1 < 256) (h2 : b2 < 256) (h3 : b3 < 256) (e1 : z1 = if 1 < n then (b1 : Int) else -1) (e2 : z2 = if 2 < n then (b2 : Int) else -1) (e3 : z3 = if 3 < n then (b3 : Int) else -1) :
    docRune (b0 : Int) z1 z2 z3 = if Lib.decodeN n b0 b1 b2 b3 = (65533, 1) then 0 else (Lib.decodeN n b0 b1 b2 b3).2 := by
  have m1 : moreZ z1 = decide (1 < n ∧ b1 / 64 = 2) := by
    rw [Bool.eq_iff_iff]; unfold moreZ; subst e1; simp; split <;> omega
  have m2 : moreZ z2 = decide (2 < n ∧ b2 / 64 = 2) := by
    rw [Bool.eq_iff_iff]; unfold moreZ; subst e2; simp; split <;> omega
  have m3 : moreZ z3 = decide (3 < n ∧ b3 / 64 = 2) := by
    rw [Bool.eq_iff_iff]; unfold moreZ; subst e3; simp; split <;> omega
  unfold docRune
  rw [m1, m2, m3]
  by_cases c0 : b0 < 128
  · rw [if_neg (by omega), if_pos (by omega)]
    have : Lib.decodeN n b0 b1 b2 b3 = (b0, 1) := by unfold Lib.decodeN; rw [if_pos c0]
    rw [this, if_neg (by simp; omega)]
  rw [if_neg (by omega), if_neg (by omega)]
  by_cases c1 : b0 < 194
  · rw [if_pos (by omega), Lib.decodeN_bad n b0 b1 b2 b3 (by omega), if_pos rfl]
  rw [if_neg (by omega)]
  by_cases c2 : b0 < 224
  · rw [if_pos (by omega)]
    by_cases hm : 1 < n ∧ b1 / 64 = 2
    · have : Lib.decodeN n b0 b1 b2 b3 = (b0 % 32 * 64 + b1 % 64, 2) := by
        unfold Lib.decodeN
        repeat' split
        all_goals first | rfl | omega
      rw [this, if_pos (by simpa using hm), if_neg (by simp)]
    · have : Lib.decodeN n b0 b1 b2 b3 = (65533, 1) := by
        unfold Lib.decodeN
        repeat' split
        all_goals first | rfl | omega
      rw [this, if_neg (by simpa using hm), if_pos rfl]
  rw [if_neg (by omega)]
  by_cases c3 : b0 < 240
  · rw [if_pos (by omega)]
    by_cases hm : (1 < n ∧ b1 / 64 = 2) ∧ (2 < n ∧ b2 / 64 = 2)
    · rw [if_pos (by simpa using hm)]
      have ez : threeZ (b0 : Int) z1 z2 = ((b0 % 16 * 4096 + b1 % 64 * 64 + b2 % 64 : Nat) : Int) := by
        unfold threeZ; rw [e1, e2, if_pos hm.1.1, if_pos hm.2.1]; omega
      rw [ez]
      by_cases hv : 2048 ≤ b0 % 16 * 4096 + b1 % 64 * 64 + b2 % 64 ∧ (b0 % 16 * 4096 + b1 % 64 * 64 + b2 % 64 < 55296 ∨ 57344 ≤ b0 % 16 * 4096 + b1 % 64 * 64 + b2 % 64)
      · have : Lib.decodeN n b0 b1 b2 b3 = (b0 % 16 * 4096 + b1 % 64 * 64 + b2 % 64, 3) := by
          unfold Lib.decodeN
          repeat' split
          all_goals first | rfl | omega
        rw [this, if_pos (by omega), if_neg (by simp)]
      · have : Lib.decodeN n b0 b1 b2 b3 = (65533, 1) := by
          unfold Lib.decodeN
          repeat' split
          all_goals first | rfl | omega
        rw [this, if_neg (by omega), if_pos rfl]
    · have : Lib.decodeN n b0 b1 b2 b3 = (65533, 1) := by
        unfold Lib.decodeN
        repeat' split
        all_goals first | rfl | omega
      rw [this, if_neg (by simpa using hm), if_pos rfl]
  rw [if_neg (by omega)]
  by_cases c4 : b0 < 245
  · rw [if_pos (by omega)]
    by_cases hm : ((1 < n ∧ b1 / 64 = 2) ∧ (2 < n ∧ b2 / 64 = 2)) ∧ (3 < n ∧ b3 / 64 = 2)
    · rw [if_pos (by simpa using hm)]
      have ez : fourZ (b0 : Int) z1 z2 z3 = ((b0 % 8 * 262144 + b1 % 64 * 4096 + b2 % 64 * 64 + b3 % 64 : Nat) : Int) := by
        unfold fourZ; rw [e1, e2, e3, if_pos hm.1.1.1, if_pos hm.1.2.1, if_pos hm.2.1]; omega
      rw [ez]
      by_cases hv : 65536 ≤ b0 % 8 * 262144 + b1 % 64 * 4096 + b2 % 64 * 64 + b3 % 64 ∧ b0 % 8 * 262144 + b1 % 64 * 4096 + b2 % 64 * 64 + b3 % 64 ≤ 1114111
      · have : Lib.decodeN n b0 b1 b2 b3 = (b0 % 8 * 262144 + b1 % 64 * 4096 + b2 % 64 * 64 + b3 % 64, 4) := by
          unfold Lib.decodeN
          repeat' split
          all_goals first | rfl | omega
        rw [this, if_pos (by omega), if_neg (by simp)]
      · have : Lib.decodeN n b0 b1 b2 b3 = (65533, 1) := by
          unfold Lib.decodeN
          repeat' split
          all_goals first | rfl | omega
        rw [this, if_neg (by omega), if_pos rfl]
    · have : Lib.decodeN n b0 b1 b2 b3 = (65533, 1) := by
        unfold Lib.decodeN
        repeat' split
        all_goals first | rfl | omega
      rw [this, if_neg (by simpa using hm), if_pos rfl]
  rw [if_neg (by omega), Lib.decodeN_bad n b0 b1 b2 b3 (by omega), if_pos rfl]
theorem docRune_L (R : List UInt8) : docRune (headZ R) (headZ (R.drop 1)) (headZ (R.drop 2)) (headZ (R.drop 3)) = if R = [] then 0 else if Lib.decodeL R = (65533, 1) then 0 else (Lib.decodeL R).2 := by
  by_cases hne : R = []
  · subst hne; rfl
  · have hl : 1 ≤ R.length := List.length_pos_iff.2 hne
    rw [if_neg hne, Lib.decodeL_N]
    have e0 : headZ R = ((R.getD 0 0).toNat : Int) := by have := headZ_getD (R := R) (i := 0) (by omega); simpa using this
    rw [e0]
    refine docRune_N hl (UInt8.toNat_lt _) (UInt8.toNat_lt _) (UInt8.toNat_lt _) (UInt8.toNat_lt _) ?_ ?_ ?_
    all_goals (split <;> rename_i h <;> first | exact headZ_getD h | exact headZ_past h)
end Go.Proofs.YtnmfoedfllmclaaGreatDoor
namespace Go.Proofs.YtnmfoedfllmclaaGreatDoor
open Go.RowKit
set_option linter.unusedVariables false

theorem conv_rune {r : Int} {cells : Array Value} {m : Nat} (hc : cells.toList = Lib.runeCells r) (hm : m = cells.size) (W : World) : (convert 44 9 (.slice (some ⟨W.heap.size, 0, none⟩) m m)).run Tryz.prog (W.alloc (.cells cells 5)) = .ok (.string ⟨(Lib.encodeRune r).toArray⟩) (W.alloc (.cells cells 5)) := by
  have hl : m = (Lib.encodeRune r).length := by rw [hm, ← Lib.runeCells_length, ← hc, Array.length_toList]
  subst hl
  refine run_convert_bytes_back (P := Tryz.prog) _ 44 9 5 ⟨W.heap.size, 0, none⟩ _ (Lib.encodeRune r) Tryz.underlying44 Tryz.underlying5 Tryz.underlying9 (fun j hj => ?_)
  have hb := Blk.new W cells 5
  have hcell : (W.alloc (.cells cells 5)).cell? ⟨W.heap.size, j, none⟩ = cells[j]? := hb.cell j
  have hx : cells[j]? = some (.int .u8 ((Lib.encodeRune r)[j].toNat : Int)) := by
    rw [← Array.getElem?_toList, hc, ← Lib.byteCells_encodeRune]
    simp [Lib.byteCells, hj]
  have hz : (⟨W.heap.size, 0, none⟩ : Addr).add j = ⟨W.heap.size, j, none⟩ := by
    unfold Addr.add
    split
    · rename_i h0; rw [h0]
    · simp
  rw [hz, ← hx]
  exact hcell
def WriteIs (n : Nat) : Prop := ∀ W : World, Calls Tryz.prog 89 #[.int .i64 (n : Int)] W fun e w' => e = .returned (.string ⟨(Lib.encodeRune (n : Int)).toArray⟩) ∧ Below W.heap.size W w'
set_option maxRecDepth 100000 in
set_option maxHeartbeats 1000000 in
theorem rwrite_one {n : Nat} (h2 : n < 128) : WriteIs n := by
  intro W
  have i2 : (n : Int) < 128 := by omega
  have i3 : (0 : Int) ≤ (n : Int) := by omega
  have hcv := conv_rune (r := (n : Int)) (cells := #[.int .u8 (n : Int)]) (m := 1) (by unfold Lib.runeCells Lib.encodeRuneZ; rw [if_pos (by omega)]; rfl) rfl W
  go_enter Tryz.func89, Tryz.ntmps89
  go_wp2
  go_ret
  refine ⟨rfl, ?_⟩
  go_grown
set_option maxRecDepth 100000 in
set_option maxHeartbeats 1000000 in
theorem rwrite_two {n : Nat} (h1 : 128 ≤ n) (h2 : n < 2048) : WriteIs n := by
  intro W
  have i1 : ¬ (n : Int) < 128 := by omega
  have i2 : (n : Int) < 2048 := by omega
  have hcv := conv_rune (r := (n : Int)) (cells := #[.int .u8 (192 + (n : Int) / 64), .int .u8 (128 + (n : Int) % 64)]) (m := 2) (by unfold Lib.runeCells Lib.encodeRuneZ; rw [if_neg (by omega), if_pos (by omega)]; rfl) rfl W
  go_enter Tryz.func89, Tryz.ntmps89
  go_wp2
  go_ret
  refine ⟨rfl, ?_⟩
  go_grown
set_option maxRecDepth 100000 in
set_option maxHeartbeats 1000000 in
theorem rwrite_three {n : Nat} (h1 : 2048 ≤ n) (h2 : n < 65536) (hs : n < 55296 ∨ 57343 < n) : WriteIs n := by
  intro W
  have i0 : ¬ (n : Int) < 128 := by omega
  have i1 : ¬ (n : Int) < 2048 := by omega
  have i2 : (n : Int) < 65536 := by omega
  have hcv := conv_rune (r := (n : Int)) (cells := #[.int .u8 (224 + (n : Int) / 4096), .int .u8 (128 + (n : Int) / 64 % 64), .int .u8 (128 + (n : Int) % 64)]) (m := 3) (by unfold Lib.runeCells Lib.encodeRuneZ; rw [if_neg (by omega), if_neg (by omega), if_pos (by omega)]; rfl) rfl W
  clear hs
  go_enter Tryz.func89, Tryz.ntmps89
  go_wp2
  go_ret
  refine ⟨rfl, ?_⟩
  go_grown
set_option maxRecDepth 100000 in
set_option maxHeartbeats 1000000 in
theorem rwrite_four {n : Nat} (h1 : 65536 ≤ n) (h2 : n ≤ 1114111) : WriteIs n := by
  intro W
  have i0 : ¬ (n : Int) < 128 := by omega
  have i4 : ¬ (n : Int) < 2048 := by omega
  have i1 : ¬ (n : Int) < 65536 := by omega
  have i2 : (n : Int) ≤ 1114111 := by omega
  have hcv := conv_rune (r := (n : Int)) (cells := #[.int .u8 (240 + (n : Int) / 262144), .int .u8 (128 + (n : Int) / 4096 % 64), .int .u8 (128 + (n : Int) / 64 % 64), .int .u8 (128 + (n : Int) % 64)]) (m := 4) (by unfold Lib.runeCells Lib.encodeRuneZ; rw [if_neg (by omega), if_neg (by omega), if_neg (by omega), if_pos (by omega)]; rfl) rfl W
  go_enter Tryz.func89, Tryz.ntmps89
  go_wp2
  go_ret
  refine ⟨rfl, ?_⟩
  go_grown
theorem rwrite_any {n : Nat} (hv : Utf8.valid (n : Int) = true) : WriteIs n := by
  have hv2 : (0 ≤ (n : Int) ∧ (n : Int) < 55296) ∨ (57344 ≤ (n : Int) ∧ (n : Int) ≤ 1114111) := by
    unfold Utf8.valid at hv
    simpa using hv
  by_cases h1 : n < 128
  · exact rwrite_one h1
  by_cases h2 : n < 2048
  · exact rwrite_two (by omega) h2
  by_cases h3 : n < 65536
  · exact rwrite_three (by omega) h3 (by omega)
  · exact rwrite_four (by omega) (by omega)
end Go.Proofs.YtnmfoedfllmclaaGreatDoor
namespace Go.Proofs.YtnmfoedfllmclaaGreatDoor
open Go.RowKit Go.Shelf
set_option linter.unusedVariables false

/-- How a reader of one rune ends. -/
def REnds (W : World) (P : Nat) (t : ByteArray) (a n : Nat) (r : Except Int (Int × List UInt8)) (e : Ending) (w' : World) : Prop :=
  match r with
  | .ok (x, R') => e = .returned (.int .i32 x) ∧ ∃ a', Went W w' P t a' n ∧ rest t a' = R'
  | .error c => Thrown W P t (c, (rest t a).length) e w'
theorem valid_lib (r : Int) : Utf8.valid r = Lib.validRune r := by
  unfold Utf8.valid Lib.validRune
  first | rfl | (rw [Bool.eq_iff_iff]; simp; omega)
theorem unitL_range (R : List UInt8) : -1 ≤ unitL R ∧ unitL R ≤ 65535 := by
  rcases Nat.lt_or_ge R.length 6 with h | h
  · rw [unitL_short h]; omega
  · rw [unitL_six h]
    split
    · split
      · rename_i n hn
        have : n ≤ 65535 := by
          unfold puS at hn
          split at hn
          · cases hn
          · exact puL_le _ 0 n (by omega) hn
        omega
      · omega
    · omega
theorem unitL_len {R : List UInt8} (h : 0 ≤ unitL R) : 6 ≤ R.length := by
  rcases Nat.lt_or_ge R.length 6 with h1 | h1
  · rw [unitL_short h1] at h; omega
  · exact h1
set_option maxRecDepth 100000 in
set_option maxHeartbeats 4000000 in
theorem escapedRune_any {W : World} {P a n : Nat} {t : ByteArray} (h : Rdr W P t a n) (hR : ReadyJ W) : Calls Tryz.prog 107 #[.pointer (some ⟨P, 0, none⟩)] W (REnds W P t a n (pairL (rest t a))) := by
  have hsz := h.2.2.1
  have hat := h.2.1
  have HU := Lib.hid (unit_any h hR (p := a) (by omega))
  have HV := Lib.hid (fun w => Tryz.utf8_ValidRune (unitL (rest t a)) w)
  have hr1 := unitL_range (rest t a)
  have hl1 := unitL_len (R := rest t a)
  have hl2 := unitL_len (R := (rest t a).drop 6)
  have hr2 := unitL_range ((rest t a).drop 6)
  have HS := Lib.hid h
  have HR := Lib.hid hR
  have k1 := h.1.cell 1
  have hpl : pairL (rest t a) = if Utf8.valid (unitL (rest t a)) then .ok (unitL (rest t a), (rest t a).drop 6) else if unitL (rest t a) - 55296 < 0 ∨ 1024 ≤ unitL (rest t a) - 55296 ∨ unitL ((rest t a).drop 6) - 56320 < 0 ∨ 1024 ≤ unitL ((rest t a).drop 6) - 56320 then .error 30 else .ok (65536 + (unitL (rest t a) - 55296) * 1024 + (unitL ((rest t a).drop 6) - 56320), (rest t a).drop 12) := rfl
  obtain ⟨u, hu⟩ : ∃ u, unitL (rest t a) = u := ⟨_, rfl⟩
  obtain ⟨v, hv⟩ : ∃ v, unitL ((rest t a).drop 6) = v := ⟨_, rfl⟩
  rw [hu] at HU HV hr1 hl1 hpl
  rw [hv] at hr2 hl2 hpl
  rw [rest_length] at hl1
  rw [List.length_drop, rest_length] at hl2
  rw [valid_lib] at hpl
  have HV2 := Lib.hid hv
  obtain ⟨b1, b2⟩ := hr1
  obtain ⟨c1, c2⟩ := hr2
  have i0 : (0 : Int) ≤ (a : Int) := by omega
  clear h hR hu hv
  cases hvr : Lib.validRune u
  · rw [hvr] at HV hpl
    rw [if_neg Bool.false_ne_true] at hpl
    have HPL := Lib.hid hpl
    clear hpl hvr
    go_enter Tryz.func107, Tryz.ntmps107
    go_wp2_with fail
    go_at_call 114; refine HU.out.mono ?_; rintro e w1 ⟨rfl, hb1⟩
    have HW1 := Lib.hid (HS.out.stays hb1)
    have HR1 := Lib.hid (HR.out.below hb1)
    clear hb1 k1
    have k1 := HW1.out.2.1.cell 1
    go_wp2_with (go_at_call 93; refine (HV.out _).mono ?_; rintro e w2 ⟨rfl, rfl⟩)
    have hun := unit_any HW1.out.2 HR1.out (p := a + 6) (by omega)
    rw [rest_add, HV2.out] at hun
    have HU2 := Lib.hid hun
    clear hun k1
    go_at_call 114; refine HU2.out.mono ?_; rintro e w3 ⟨rfl, hb3⟩
    have HW3 := Lib.hid (HW1.out.trans (HW1.out.2.stays hb3))
    clear hb3
    have k1 := HW3.out.2.1.cell 1
    have f1 := HW3.out.2.1.frozen 1
    by_cases d1 : u - 55296 < 0
    · have d2 : u < 55296 := by omega
      have HE := Lib.hid (show pairL (rest t a) = .error 30 from HPL.out.trans (if_pos (by omega)))
      go_wp2_with (go_at_call 40; refine (diag_any _ _ _).mono ?_; rintro e w4 ⟨rfl, rfl⟩)
      refine ⟨rfl, ?_⟩
      rw [HE.out]
      exact thrown_new (c := 30) HW3.out (l := (rest t a).length) (rest_back hat)
    · have d2 : 55296 ≤ u := by omega
      by_cases d3 : 1024 ≤ u - 55296
      · have d4 : 56320 ≤ u := by omega
        have HE := Lib.hid (show pairL (rest t a) = .error 30 from HPL.out.trans (if_pos (by omega)))
        go_wp2_with (go_at_call 40; refine (diag_any _ _ _).mono ?_; rintro e w4 ⟨rfl, rfl⟩)
        refine ⟨rfl, ?_⟩
        rw [HE.out]
        exact thrown_new (c := 30) HW3.out (l := (rest t a).length) (rest_back hat)
      · have d4 : u < 56320 := by omega
        by_cases d5 : v - 56320 < 0
        · have d6 : v < 56320 := by omega
          have HE := Lib.hid (show pairL (rest t a) = .error 30 from HPL.out.trans (if_pos (by omega)))
          go_wp2_with (go_at_call 40; refine (diag_any _ _ _).mono ?_; rintro e w4 ⟨rfl, rfl⟩)
          refine ⟨rfl, ?_⟩
          rw [HE.out]
          exact thrown_new (c := 30) HW3.out (l := (rest t a).length) (rest_back hat)
        · have d6 : 56320 ≤ v := by omega
          by_cases d7 : 1024 ≤ v - 56320
          · have d8 : 57344 ≤ v := by omega
            have HE := Lib.hid (show pairL (rest t a) = .error 30 from HPL.out.trans (if_pos (by omega)))
            go_wp2_with (go_at_call 40; refine (diag_any _ _ _).mono ?_; rintro e w4 ⟨rfl, rfl⟩)
            refine ⟨rfl, ?_⟩
            rw [HE.out]
            exact thrown_new (c := 30) HW3.out (l := (rest t a).length) (rest_back hat)
          · have d8 : v < 57344 := by omega
            have HE := Lib.hid (show pairL (rest t a) = _ from HPL.out.trans (if_neg (by omega)))
            have hl3 : 12 ≤ t.size - a := by have := hl2 (by omega); omega
            have i1 : (a : Int) + 12 ≤ (t.size : Int) := by omega
            go_wp2
            go_ret
            rw [HE.out]
            refine ⟨rfl, a + 12, ?_, by rw [rest_add]⟩
            have := HW3.out.trans (HW3.out.2.moves (b := a + 12) (by omega))
            simpa using this
  · rw [hvr] at HV hpl
    rw [if_pos rfl] at hpl
    have HPL := Lib.hid hpl
    have hu0 : 0 ≤ u := by
      unfold Lib.validRune at hvr
      simp at hvr
      omega
    have hl3 := hl1 hu0
    have i1 : (a : Int) + 6 ≤ (t.size : Int) := by omega
    clear hpl hvr
    go_enter Tryz.func107, Tryz.ntmps107
    go_wp2_with fail
    go_at_call 114; refine HU.out.mono ?_; rintro e w1 ⟨rfl, hb1⟩
    have HW1 := Lib.hid (HS.out.stays hb1)
    clear hb1 k1
    have k1 := HW1.out.2.1.cell 1
    have f1 := HW1.out.2.1.frozen 1
    go_wp2_with (go_at_call 93; refine (HV.out _).mono ?_; rintro e w2 ⟨rfl, rfl⟩)
    go_ret
    rw [HPL.out]
    refine ⟨rfl, a + 6, ?_, by rw [rest_add]⟩
    have := HW1.out.trans (HW1.out.2.moves (b := a + 6) (by omega))
    simpa using this

/-! ### escape -/
theorem pre2 {R : List UInt8} {p q : UInt8} (h : Lib.hasPrefix R [p, q] = true) : R = p :: q :: R.drop 2 := by
  match R, h with
  | [], h => simp [Lib.hasPrefix] at h
  | [a], h => simp [Lib.hasPrefix, List.isPrefixOf] at h
  | a :: b :: r, h =>
    simp [Lib.hasPrefix, List.isPrefixOf] at h
    simp [h]
theorem escJ_slash {R : List UInt8} (h : Lib.hasPrefix R [92, 47] = true) : escJ R = .ok (47, R.drop 2) := by
  obtain ⟨r, hr⟩ : ∃ r, R.drop 2 = r := ⟨_, rfl⟩
  have e := pre2 h
  rw [hr] at e ⊢
  rw [e]
  rfl
theorem escJ_hit {R : List UInt8} {q : UInt8} {x : Int} (hq : letterJ q = some x) (h47 : q ≠ 47) (h : Lib.hasPrefix R [92, q] = true) : escJ R = .ok (x, R.drop 2) := by
  obtain ⟨r, hr⟩ : ∃ r, R.drop 2 = r := ⟨_, rfl⟩
  have e := pre2 h
  rw [hr] at e ⊢
  rw [e]
  show (if q = 47 then Except.ok (47, r) else match letterJ q with | some x => Except.ok (x, r) | none => pairL (92 :: q :: r)) = Except.ok (x, r)
  rw [if_neg h47, hq]
theorem escJ_miss {R : List UInt8} (h0 : Lib.hasPrefix R [92, 47] = false) (h : ∀ q ∈ [34, 92, 98, 102, 110, 114, 116], Lib.hasPrefix R [92, q] = false) : escJ R = pairL R := by
  unfold escJ
  split
  · rename_i c r
    have hne : ∀ q : UInt8, Lib.hasPrefix (92 :: c :: r) [92, q] = false → c ≠ q := by
      intro q hq e
      subst e
      simp [Lib.hasPrefix, List.isPrefixOf] at hq
    rw [if_neg (hne 47 h0)]
    have hl : letterJ c = none := by
      unfold letterJ
      rw [if_neg (hne 34 (h 34 (by simp))), if_neg (hne 92 (h 92 (by simp))), if_neg (hne 98 (h 98 (by simp))), if_neg (hne 102 (h 102 (by simp))), if_neg (hne 110 (h 110 (by simp))), if_neg (hne 114 (h 114 (by simp))), if_neg (hne 116 (h 116 (by simp)))]
    rw [hl]
  · rfl
end Go.Proofs.YtnmfoedfllmclaaGreatDoor
namespace Go.Proofs.YtnmfoedfllmclaaGreatDoor
open Go.RowKit
set_option linter.unusedVariables false

theorem rwrite_z {z : Int} (h0 : 0 ≤ z) (hv : Utf8.valid z = true) (W : World) : Calls Tryz.prog 89 #[.int .i64 z] W fun e w' => e = .returned (.string ⟨(Lib.encodeRune z).toArray⟩) ∧ Below W.heap.size W w' := by
  have hz : ((z.toNat : Nat) : Int) = z := Int.toNat_of_nonneg h0
  have h := rwrite_any (n := z.toNat) (by rw [hz]; exact hv) W
  rw [hz] at h
  exact h
theorem pairL_neg {R : List UInt8} {u : Int} (hu : unitL R = u) (h : u < 0) : pairL R = .error 30 := by
  unfold pairL
  rw [hu, if_neg, if_pos (by omega)]
  unfold Utf8.valid
  simp
  omega
theorem pairL_low {R : List UInt8} {u : Int} (hu : unitL R = u) (h1 : 56320 ≤ u) (h2 : u ≤ 57343) : pairL R = .error 30 := by
  unfold pairL
  rw [hu, if_neg, if_pos (by omega)]
  unfold Utf8.valid
  simp
  omega
theorem pairL_half {R : List UInt8} {u v : Int} (hu : unitL R = u) (h1 : 55296 ≤ u) (h2 : u ≤ 56319) (hv : unitL (R.drop 6) = v) (h : v < 56320 ∨ 57343 < v) : pairL R = .error 30 := by
  unfold pairL
  rw [hu, hv, if_neg, if_pos (by omega)]
  unfold Utf8.valid
  simp
  omega
theorem pairL_two {R : List UInt8} {u v : Int} (hu : unitL R = u) (h1 : 55296 ≤ u) (h2 : u ≤ 56319) (hv : unitL (R.drop 6) = v) (h3 : 56320 ≤ v) (h4 : v ≤ 57343) : pairL R = .ok (65536 + (u - 55296) * 1024 + (v - 56320), R.drop 12) := by
  unfold pairL
  rw [hu, hv, if_neg, if_neg (by omega)]
  unfold Utf8.valid
  simp
  omega
theorem pairL_one {R : List UInt8} {u : Int} (hu : unitL R = u) (h1 : 0 ≤ u) (h2 : u ≤ 65535) (h3 : ¬ (55296 ≤ u ∧ u ≤ 57343)) : pairL R = .ok (u, R.drop 6) := by
  unfold pairL
  rw [hu, if_pos]
  unfold Utf8.valid
  simp
  omega
/-- How escape ends. -/
def EscE (R : List UInt8) (r : Except Int (Int × List UInt8)) (e : Ending) : Prop := match r with
  | .error c => ∃ s, e = .returned (.tuple #[.string s, .int .i64 0])
  | .ok (x, R') => ∃ k : Nat, e = .returned (.tuple #[.string ⟨(Lib.encodeRune x).toArray⟩, .int .i64 (k : Int)]) ∧ 0 < k ∧ k ≤ R.length ∧ R' = R.drop k
def letsD : ByteArray := ⟨#[34, 92, 47, 98, 102, 110, 114, 116]⟩
def meansD : ByteArray := ⟨#[34, 92, 47, 8, 12, 10, 13, 9]⟩
theorem lets_hit : ∀ i : Fin 8, ∃ x : Int, (if letsD.data.toList.getD i.val 0 = 47 then some 47 else letterJ (letsD.data.toList.getD i.val 0)) = some x ∧ meansD.extract i.val (i.val + 1) = ⟨(Lib.encodeRune x).toArray⟩ := by
  intro i
  match i with
  | 0 => exact ⟨34, rfl, rfl⟩
  | 1 => exact ⟨92, rfl, rfl⟩
  | 2 => exact ⟨47, rfl, rfl⟩
  | 3 => exact ⟨8, rfl, rfl⟩
  | 4 => exact ⟨12, rfl, rfl⟩
  | 5 => exact ⟨10, rfl, rfl⟩
  | 6 => exact ⟨13, rfl, rfl⟩
  | 7 => exact ⟨9, rfl, rfl⟩
theorem escJ_two (c : UInt8) (r : List UInt8) : escJ (92 :: c :: r) = if c = 47 then .ok (47, r) else match letterJ c with | some x => .ok (x, r) | none => pairL (92 :: c :: r) := rfl
theorem escJ_letter {r : List UInt8} {c : UInt8} {x : Int} (h : (if c = 47 then some 47 else letterJ c) = some x) : escJ (92 :: c :: r) = .ok (x, r) := by
  rw [escJ_two]
  by_cases h47 : c = 47
  · rw [if_pos h47] at h ⊢
    cases h
    rfl
  · rw [if_neg h47] at h ⊢
    rw [h]
theorem escJ_none {r : List UInt8} {c : UInt8} (h : ∀ i, i < 8 → letsD.data.toList.getD i 0 ≠ c) : escJ (92 :: c :: r) = pairL (92 :: c :: r) := by
  have h0 : (34 : UInt8) ≠ c := h 0 (by decide)
  have h1 : (92 : UInt8) ≠ c := h 1 (by decide)
  have h2 : (47 : UInt8) ≠ c := h 2 (by decide)
  have h3 : (98 : UInt8) ≠ c := h 3 (by decide)
  have h4 : (102 : UInt8) ≠ c := h 4 (by decide)
  have h5 : (110 : UInt8) ≠ c := h 5 (by decide)
  have h6 : (114 : UInt8) ≠ c := h 6 (by decide)
  have h7 : (116 : UInt8) ≠ c := h 7 (by decide)
  rw [escJ_two]
  unfold letterJ
  rw [if_neg h2.symm, if_neg h0.symm, if_neg h1.symm, if_neg h3.symm, if_neg h4.symm, if_neg h5.symm, if_neg h6.symm, if_neg h7.symm]
set_option maxRecDepth 100000 in
set_option maxHeartbeats 4000000 in
theorem resc_any {a : Nat} {t : ByteArray} (ha : a < t.size) (hq : t[a]'ha = 92) (hs : t.size ≤ 65536) (W : World) : Calls Tryz.prog 66 #[.string t, .int .i64 (a : Int)] W fun e w' => EscE (rest t a) (escJ (rest t a)) e ∧ Below W.heap.size W w' := by
  have i0 : (0 : Int) ≤ (a : Int) := by omega
  have hR := rest_cons ha
  rw [hq] at hR
  have HR := Lib.hid hR
  have HX1 : Hid (∀ W : World, Calls Tryz.prog 88 #[.string t, .int .i64 (a : Int)] W fun e w' => e = .returned (.int .i64 (unitL (rest t a))) ∧ W = w') := Lib.hid (fun W => rhex_any (a := a) (by omega) hs W)
  have HX2 : Hid (∀ W : World, Calls Tryz.prog 88 #[.string t, .int .i64 ((a : Int) + 6)] W fun e w' => e = .returned (.int .i64 (unitL (rest t (a + 6)))) ∧ W = w') := Lib.hid (fun W => rhex_any (a := a + 6) (by omega) hs W)
  clear hq hR
  by_cases hle : a + 1 < t.size
  · have hix : ∀ W : World, (Instr.index 9 (.string t) (.int .i64 ((a : Int) + 1))).run Tryz.prog W = .ok (.int .u8 ((t[a + 1]'hle).toNat : Int)) W := byte_run (t := t) (a := a + 1) hle
    have hR2 := rest_cons hle
    obtain ⟨q, hq⟩ : ∃ q, t[a + 1]'hle = q := ⟨_, rfl⟩
    rw [hq] at hix hR2
    have HR2 : Hid (rest t a = 92 :: q :: rest t (a + 1 + 1)) := Lib.hid (by rw [HR.out, hR2])
    clear hq hR2 HR
    have i1 : (a : Int) + 1 < (t.size : Int) := by omega
    have hll : ∀ W : World, ∀ i : Nat, i < 8 → (Instr.index 9 (.string ⟨#[34, 92, 47, 98, 102, 110, 114, 116]⟩) (.int .i64 (i : Int))).run Tryz.prog W = .ok (.int .u8 ((letsD.data.toList.getD i 0).toNat : Int)) W := by
      intro W i hi
      have h := byte_run (t := letsD) (a := i) (by show i < 8; exact hi) W
      have hg : letsD[i]'(by show i < 8; exact hi) = letsD.data.toList.getD i 0 := by
        have hl : i < letsD.data.toList.length := by show i < 8; exact hi
        simp only [List.getD, List.getElem?_eq_getElem hl, Option.getD_some]
        rfl
      rw [hg] at h
      exact h
    have HLL := Lib.hid hll
    clear hll
    go_enter Tryz.func66, Tryz.ntmps66
    go_wp2_with fail
    go_loopg [8] 9 (fun gf s8 wx => ∃ i : Nat, s8 = .int .i64 (i : Int) ∧ i ≤ 8 ∧ Hid (Below W.heap.size W wx) ∧ Hid (∀ j, j < i → letsD.data.toList.getD j 0 ≠ q) ∧ 8 < i + gf)
    case atStart => exact ⟨0, rfl, by omega, Lib.hid (Below.refl _ _), Lib.hid (fun j hj => by omega), by omega⟩
    case round =>
      obtain ⟨i, rfl, hi, HB, HN, hg⟩ := hrel
      by_cases hlt : i < 8
      · have hli := fun W => HLL.out W i hlt
        obtain ⟨x, hx1, hx2⟩ := lets_hit ⟨i, hlt⟩
        obtain ⟨l, hl⟩ : ∃ l, letsD.data.toList.getD i 0 = l := ⟨_, rfl⟩
        rw [hl] at hli
        have hx1 : (if letsD.data.toList.getD i 0 = 47 then some 47 else letterJ (letsD.data.toList.getD i 0)) = some x := hx1
        rw [hl] at hx1
        have HX := Lib.hid hx1
        have HM : Hid (meansD.extract i (i + 1) = ⟨(Lib.encodeRune x).toArray⟩) := Lib.hid hx2
        have HLI := Lib.hid hl
        clear hl hx1 hx2 HLL
        obtain ⟨g', rfl⟩ : ∃ g', gk = g' + 1 := ⟨gk - 1, by omega⟩
        have j0 : (i : Int) < 8 := by omega
        have j1 : (0 : Int) ≤ (i : Int) := by omega
        have j2 : (i : Int) ≤ (i : Int) + 1 := by omega
        have j3 : (i : Int) + 1 ≤ 8 := by omega
        by_cases hql : q = l
        · have e1 : ((q.toNat : Int) == (l.toNat : Int)) = true := by rw [hql]; simp
          have HL : Hid (2 ≤ (rest t a).length) := Lib.hid (by rw [HR2.out]; simp)
          have HE : Hid (escJ (rest t a) = .ok (x, (rest t a).drop 2)) := Lib.hid (by rw [HR2.out, hql, escJ_letter HX.out]; rfl)
          clear hql
          go_upto_region 6 with fail
          go_quiet (fail)
          go_wp2
          refine bodyPost_ret (by simp [results, Tryz.results66, go_sem]; try rfl) rfl ?_
          rw [HE.out]
          exact ⟨⟨2, by rw [← HM.out]; rfl, by omega, HL.out, rfl⟩, HB.out.trans ((below_drewN _ _).mono HB.out.size)⟩
        · have e1 : ((q.toNat : Int) == (l.toNat : Int)) = false := by
            rw [beq_eq_false_iff_ne]
            intro e
            exact hql (UInt8.toNat_inj.1 (by omega))
          have HN2 : Hid (∀ j, j < i + 1 → letsD.data.toList.getD j 0 ≠ q) := Lib.hid (fun j hj => by
            rcases Nat.lt_succ_iff_lt_or_eq.1 hj with h | rfl
            · exact HN.out j h
            · rw [HLI.out]; exact fun e => hql e.symm)
          clear hql
          go_upto_region 6 with fail
          go_quiet (fail)
          go_wp2
          go_roundg g'
          case measure => omega
          case rel => exact ⟨i + 1, by go_num, by omega, Lib.hid (HB.out.trans ((below_drewN _ _).mono HB.out.size)), HN2, by omega⟩
      · obtain rfl : i = 8 := by omega
        have HE0 : Hid (escJ (rest t a) = pairL (rest t a)) := Lib.hid (by rw [HR2.out]; exact escJ_none HN.out)
        clear HN HLL
        go_wp2_with fail
        go_at_call 88; refine (HX1.out _).mono ?_; rintro e w1 ⟨rfl, hw1⟩
        subst hw1
        go_wp2_with fail
        go_at_call 88; refine (HX2.out _).mono ?_; rintro e w2 ⟨rfl, hw2⟩
        subst hw2
        have hu := unitL_range (rest t a)
        have hv := unitL_range (rest t (a + 6))
        obtain ⟨u, hu1⟩ : ∃ u, unitL (rest t a) = u := ⟨_, rfl⟩
        obtain ⟨v, hv1⟩ : ∃ v, unitL (rest t (a + 6)) = v := ⟨_, rfl⟩
        rw [hu1] at hu ⊢
        rw [hv1] at hv ⊢
        have HV6 : Hid (unitL ((rest t a).drop 6) = v) := Lib.hid (by rw [← rest_add, hv1])
        have HU := Lib.hid hu1
        clear hu1 hv1 HX1 HX2
        by_cases h1 : u < 0
        · have HE : Hid (pairL (rest t a) = .error 30) := Lib.hid (pairL_neg HU.out h1)
          go_wp2
          refine bodyPost_ret (by simp [results, Tryz.results66, go_sem]; try rfl) rfl ?_
          rw [HE0.out, HE.out]
          exact ⟨⟨_, rfl⟩, HB.out⟩
        have p1 : 0 ≤ u := by omega
        by_cases h2 : 56320 ≤ u ∧ u ≤ 57343
        · obtain ⟨q1, q2⟩ := h2
          have HE : Hid (pairL (rest t a) = .error 30) := Lib.hid (pairL_low HU.out q1 q2)
          go_wp2
          refine bodyPost_ret (by simp [results, Tryz.results66, go_sem]; try rfl) rfl ?_
          rw [HE0.out, HE.out]
          exact ⟨⟨_, rfl⟩, HB.out⟩
        by_cases h3 : 55296 ≤ u ∧ u ≤ 56319
        · obtain ⟨q1, q2⟩ := h3
          have q3 : ¬ 56320 ≤ u := by omega
          by_cases h4 : v < 56320
          · have HE : Hid (pairL (rest t a) = .error 30) := Lib.hid (pairL_half HU.out q1 q2 HV6.out (.inl h4))
            go_wp2
            refine bodyPost_ret (by simp [results, Tryz.results66, go_sem]; try rfl) rfl ?_
            rw [HE0.out, HE.out]
            exact ⟨⟨_, rfl⟩, HB.out⟩
          have q4 : ¬ v < 56320 := h4
          have q4b : 56320 ≤ v := by omega
          by_cases h5 : 57343 < v
          · have HE : Hid (pairL (rest t a) = .error 30) := Lib.hid (pairL_half HU.out q1 q2 HV6.out (.inr h5))
            go_wp2
            refine bodyPost_ret (by simp [results, Tryz.results66, go_sem]; try rfl) rfl ?_
            rw [HE0.out, HE.out]
            exact ⟨⟨_, rfl⟩, HB.out⟩
          have q5 : v ≤ 57343 := by omega
          have HP := Lib.hid (pairL_two HU.out q1 q2 HV6.out q4b q5)
          have HW := Lib.hid (fun W => rwrite_z (z := 65536 + (u - 55296) * 1024 + v - 56320) (by omega) (by unfold Utf8.valid; simp; omega) W)
          have HZ : Hid (65536 + (u - 55296) * 1024 + v - 56320 = 65536 + (u - 55296) * 1024 + (v - 56320)) := Lib.hid (by omega)
          have HL : Hid (12 ≤ (rest t a).length) := Lib.hid (by
            have h12 := unitL_len (R := (rest t a).drop 6) (by rw [HV6.out]; omega)
            rw [List.length_drop] at h12
            omega)
          clear h4 h5
          go_wp2_with (go_at_call 89; refine (HW.out _).mono ?_; rintro e w3 ⟨rfl, hb3⟩)
          refine bodyPost_ret (by simp [results, Tryz.results66, go_sem]; try rfl) rfl ?_
          rw [HE0.out, HP.out]
          refine ⟨⟨12, by rw [HZ.out]; rfl, by omega, HL.out, rfl⟩, HB.out.trans (hb3.mono HB.out.size)⟩
        have HP : Hid (pairL (rest t a) = .ok (u, (rest t a).drop 6)) := Lib.hid (pairL_one HU.out p1 hu.2 (by omega))
        have HW := Lib.hid (fun W => rwrite_z (z := u) p1 (by unfold Utf8.valid; simp; omega) W)
        have HL : Hid (6 ≤ (rest t a).length) := Lib.hid (unitL_len (by rw [HU.out]; exact p1))
        rcases (show u < 55296 ∨ 57343 < u by omega) with h6 | h6
        · have q1 : ¬ 56320 ≤ u := by omega
          have q2 : ¬ 55296 ≤ u := by omega
          go_wp2_with (go_at_call 89; refine (HW.out _).mono ?_; rintro e w3 ⟨rfl, hb3⟩)
          refine bodyPost_ret (by simp [results, Tryz.results66, go_sem]; try rfl) rfl ?_
          rw [HE0.out, HP.out]
          exact ⟨⟨6, rfl, by omega, HL.out, rfl⟩, HB.out.trans (hb3.mono HB.out.size)⟩
        · have q1 : 56320 ≤ u := by omega
          have q2 : ¬ u ≤ 57343 := by omega
          have q3 : 55296 ≤ u := by omega
          have q4 : ¬ u ≤ 56319 := by omega
          go_wp2_with (go_at_call 89; refine (HW.out _).mono ?_; rintro e w3 ⟨rfl, hb3⟩)
          refine bodyPost_ret (by simp [results, Tryz.results66, go_sem]; try rfl) rfl ?_
          rw [HE0.out, HP.out]
          exact ⟨⟨6, rfl, by omega, HL.out, rfl⟩, HB.out.trans (hb3.mono HB.out.size)⟩
  · have hu : unitL (rest t a) = -1 := unitL_short (by rw [rest_length]; omega)
    have HE : Hid (escJ (rest t a) = .error 30) := Lib.hid (by
      have hn : rest t (a + 1) = [] := rest_nil (by omega)
      rw [HR.out, hn]
      rfl)
    have i1 : ¬ (a : Int) + 1 < (t.size : Int) := by omega
    rw [hu] at HX1
    clear hu HR
    go_enter Tryz.func66, Tryz.ntmps66
    go_wp2_with fail
    go_at_call 88; refine (HX1.out _).mono ?_; rintro e w1 ⟨rfl, hw1⟩
    subst hw1
    go_wp2_with fail
    go_at_call 88; refine (HX2.out _).mono ?_; rintro e w2 ⟨rfl, hw2⟩
    subst hw2
    go_wp2
    refine bodyPost_ret (by simp [results, Tryz.results66, go_sem]; try rfl) rfl ?_
    rw [HE.out]
    exact ⟨⟨_, rfl⟩, Below.refl _ _⟩
end Go.Proofs.YtnmfoedfllmclaaGreatDoor
