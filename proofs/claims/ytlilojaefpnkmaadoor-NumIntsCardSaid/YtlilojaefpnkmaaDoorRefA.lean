/- The document's own answers, walked: what only reads: Below, Size, digit, bare, signed, Less. -/
import Derived.Test.YtlilojaefpnkmaaDoorMem
import Derived.Test.YtlilojaefpnkmaaDoorRefMath2
import Derived.Lib.IndexBytes
import Derived.Lib.Split
import Derived.WideShapes
import Derived.Sort.Walk0
namespace Go.Proofs.YtlilojaefpnkmaaDoor
open Go.RowKit

theorem refBelow_any (s : ByteArray) (h : 0 < s.size) (w : World) : Calls Tryd.prog 34 #[.string s] w fun e w' => e = .returned (.bool ((s[0].toNat : Int) == 45)) ∧ w = w' := by
  go_enter Tryd.func34, Tryd.ntmps34
  go_wp2
  go_ret
  exact ⟨rfl, rfl⟩

theorem refDigit_in (s : ByteArray) (i j : Nat) (hs : s.size ≤ 1000000) (hi : s.size = i + 1 + j) (h48 : 48 ≤ (s[j]).toNat) (w : World) : Calls Tryd.prog 52 #[.string s, .int .i64 i] w fun e w' => e = .returned (.int .i64 (((s[j]).toNat : Int) - 48)) ∧ w = w' := by
  have hj' : j < s.size := by omega
  have hji : ((s.size : Int) - 1 - (i : Int)) = (j : Int) := by omega
  have h256 := UInt8.toNat_lt (s[j])
  obtain ⟨x, hx⟩ : ∃ x, (s[j]).toNat = x := ⟨_, rfl⟩
  rw [hx] at h48 h256 ⊢
  clear hi
  go_enter Tryd.func52, Tryd.ntmps52
  go_wp2
  go_ret
  exact ⟨rfl, rfl⟩
theorem refDigit_out (s : ByteArray) (i : Nat) (hi : s.size ≤ i) (w : World) : Calls Tryd.prog 52 #[.string s, .int .i64 i] w fun e w' => e = .returned (.int .i64 0) ∧ w = w' := by
  go_enter Tryd.func52, Tryd.ntmps52
  go_wp2
  go_ret
  exact ⟨rfl, rfl⟩

theorem refSize_neg (s : ByteArray) (h : 0 < s.size) (hm : (s[0].toNat : Int) = 45) (w : World) : Calls Tryd.prog 33 #[.string s] w fun e w' => e = .returned (.string (s.extract 1 s.size)) ∧ w = w' := by
  have HB := Lib.hid (fun W => refBelow_any s h W)
  rw [beq_iff_eq.2 hm] at HB
  go_enter Tryd.func33, Tryd.ntmps33
  go_wp2_with (go_at_call 34; refine (HB.out _).mono ?_; rintro e w' ⟨rfl, rfl⟩)
  go_ret
  exact ⟨rfl, rfl⟩
theorem refSize_pos (s : ByteArray) (h : 0 < s.size) (hm : (s[0].toNat : Int) ≠ 45) (w : World) : Calls Tryd.prog 33 #[.string s] w fun e w' => e = .returned (.string s) ∧ w = w' := by
  have HB := Lib.hid (fun W => refBelow_any s h W)
  rw [beq_eq_false_iff_ne.2 hm] at HB
  go_enter Tryd.func33, Tryd.ntmps33
  go_wp2_with (go_at_call 34; refine (HB.out _).mono ?_; rintro e w' ⟨rfl, rfl⟩)
  go_ret
  exact ⟨rfl, rfl⟩

theorem refSigned_plain (b : Bool) (s : ByteArray) (h : b = false ∨ (s.toList == [48]) = true) (w : World) : Calls Tryd.prog 35 #[.bool b, .string s] w fun e w' => e = .returned (.string s) ∧ w = w' := by
  cases b
  · clear h
    go_enter Tryd.func35, Tryd.ntmps35
    go_wp2
    go_ret
    exact ⟨rfl, rfl⟩
  · have h' : (s.toList == [48]) = true := by simpa using h
    clear h
    go_enter Tryd.func35, Tryd.ntmps35
    go_wp2
    go_ret
    exact ⟨rfl, rfl⟩
theorem refSigned_minus (s : ByteArray) (h : (s.toList == [48]) = false) (hs : s.size ≤ 1000000) (w : World) : Calls Tryd.prog 35 #[.bool true, .string s] w fun e w' => e = .returned (.string (⟨#[45]⟩ ++ s)) ∧ w = w' := by
  go_enter Tryd.func35, Tryd.ntmps35
  go_wp2
  go_ret
  exact ⟨rfl, rfl⟩

theorem refLess_len (a b : ByteArray) (h : a.size ≠ b.size) (w : World) : Calls Tryd.prog 37 #[.string a, .string b] w fun e w' => e = .returned (.bool (decide (a.size < b.size))) ∧ w = w' := by
  have hne : ((a.size : Int) == (b.size : Int)) = false := beq_eq_false_iff_ne.2 (by omega)
  go_enter Tryd.func37, Tryd.ntmps37
  go_wp2
  go_ret
  exact ⟨rfl, rfl⟩
theorem refLess_eq (a b : ByteArray) (h : a.size = b.size) (w : World) : Calls Tryd.prog 37 #[.string a, .string b] w fun e w' => e = .returned (.bool (decide (a.data.toList < b.data.toList))) ∧ w = w' := by
  have hne : ((a.size : Int) == (b.size : Int)) = true := beq_iff_eq.2 (by omega)
  go_enter Tryd.func37, Tryd.ntmps37
  go_wp2
  go_ret
  refine ⟨?_, rfl⟩
  rw [← ByteArray.toList_eq, ← ByteArray.toList_eq, ← bytesLess_eq]
  rfl

theorem byte0 {d : ByteArray} (h : 0 < d.size) : d.data.toList[0]? = some d[0] := by
  rw [List.getElem?_eq_getElem (by rw [bytes_len]; exact h)]
  rfl
theorem bareL_drop {l : List UInt8} (h : 1 < l.length) (h0 : l[0]? = some 48) : bareL (l.drop 1) = bareL l := by
  match l, h, h0 with
  | [], hl, _ => simp at hl
  | [x], hl, _ => simp at hl
  | x :: y :: l, _, h0 =>
    simp at h0
    subst h0
    simp [bareL]
theorem bareL_keep {l : List UInt8} {c : UInt8} (h0 : l[0]? = some c) (hc : c ≠ 48) : bareL l = l := by
  match l, h0 with
  | [], _ => rfl
  | [x], _ => rfl
  | x :: y :: l, h0 =>
    simp at h0
    subst h0
    simp [bareL, hc]
theorem bareL_short {l : List UInt8} (h : l.length ≤ 1) : bareL l = l := by
  match l, h with
  | [], _ => rfl
  | [x], _ => rfl
  | x :: y :: l, hl => simp at hl
theorem bareL_step {d : ByteArray} (h : 1 < d.size) (hc : d[0].toNat = 48) : bareL (d.extract 1 d.size).data.toList = bareL d.data.toList := by
  rw [Lib.extract_to_end d 1]
  exact bareL_drop (by rw [bytes_len]; exact h) ((byte0 (by omega)).trans (congrArg some (UInt8.toNat_inj.1 hc)))
theorem bareL_stop {d : ByteArray} (h : 1 < d.size) (hc : d[0].toNat ≠ 48) : bareL d.data.toList = d.data.toList :=
  bareL_keep (byte0 (by omega)) (fun e => hc (by rw [e]; rfl))
theorem bareL_one {d : ByteArray} (h : d.size = 1) : bareL d.data.toList = d.data.toList := bareL_short (by rw [bytes_len]; omega)
theorem bytes_of {d : ByteArray} {l : List UInt8} (h : d.data.toList = l) : d = ⟨l.toArray⟩ := WideShapes.bytes_inj (by rw [← h])

theorem refBare_any (s : ByteArray) (h : 0 < s.size) (_hl : s.size ≤ 1000000) (w : World) : Calls Tryd.prog 44 #[.string s] w fun e w' => e = .returned (.string ⟨(bareL s.data.toList).toArray⟩) ∧ w = w' := by
  go_enter Tryd.func44, Tryd.ntmps44
  go_wp2
  go_loop [0] (fun v => ∃ d : ByteArray, v = .string d ∧ 0 < d.size ∧ d.size ≤ s.size ∧ Hid (bareL d.data.toList = bareL s.data.toList)) (fun v => match v with | .string d => d.size | _ => 0)
  case atStart => exact ⟨s, rfl, h, Nat.le_refl _, Lib.hid rfl⟩
  case round =>
    obtain ⟨d, rfl, h0, hds, HD⟩ := hrel
    by_cases h1 : 1 < d.size
    · by_cases hc : d[0].toNat = 48
      · go_wp2
        go_round
        case rel => exact ⟨_, rfl, by simp; omega, by simp; omega, Lib.hid (by rw [bareL_step h1 hc, HD.out])⟩
        case measure => simp; omega
      · have HE := Lib.hid (bytes_of ((bareL_stop h1 hc).symm.trans HD.out))
        go_wp2
        go_ret
        exact ⟨congrArg (fun x => Ending.returned (.string x)) HE.out, rfl⟩
    · have HE := Lib.hid (bytes_of ((bareL_one (by omega)).symm.trans HD.out))
      go_wp2
      go_ret
      exact ⟨congrArg (fun x => Ending.returned (.string x)) HE.out, rfl⟩
end Go.Proofs.YtlilojaefpnkmaaDoor
