/- readSize: digits as limbs. -/
import Derived.Test.YthmojhfakmdlfaaDoorWalkB
import Derived.Lib.IndexBytes
import Derived.Lib.Split
namespace Go.Proofs.YthmojhfakmdlfaaDoor
open Go.RowKit

/-- What readSize has read when the first digits of d are left. -/
def Rd (s d : ByteArray) (ls : List Nat) : Prop := d.data.toList = s.data.toList.take d.size ∧ (s.size = d.size + 9 * ls.length ∨ d.size = 0) ∧ Low ls ∧ lval ls = dval (s.data.toList.drop d.size)

theorem Rd.piece {s d p : ByteArray} {ls : List Nat} (h : Rd s d ls) (hd : Digs s.data.toList) {c : Nat} (hp : p.data.toList = d.data.toList.drop c) (hc9 : d.size ≤ c + 9) :
    Digs p.data.toList ∧ p.data.toList.length ≤ 9 := by
  obtain ⟨h1, _⟩ := h
  rw [hp, h1]
  refine ⟨(hd.take _).drop _, ?_⟩
  rw [List.length_drop, List.length_take]
  omega

theorem Rd.step {s d p d' : ByteArray} {ls : List Nat} (h : Rd s d ls) (hd : Digs s.data.toList) {c : Nat} (hp : p.data.toList = d.data.toList.drop c) (hd' : d'.data.toList = d.data.toList.take c) (hc : c ≤ d.size) (hc9 : c + 9 = d.size ∨ c = 0) (h9 : d.size ≤ c + 9) (h0 : 0 < d.size) (hs : d.size ≤ s.size) :
    Rd s d' (ls ++ [dval p.data.toList]) ∧ d'.size = c := by
  obtain ⟨h1, h2, h3, h4⟩ := h
  have hsz : d'.size = c := by rw [← bytes_len, hd', List.length_take, bytes_len]; omega
  rw [h1] at hp hd'
  refine ⟨⟨?_, ?_, ?_, ?_⟩, hsz⟩
  · rw [hsz, hd', List.take_take, Nat.min_eq_left hc]
  · rw [hsz, List.length_append, List.length_singleton]
    rcases hc9 with e | e
    · left; omega
    · right; exact e
  · refine h3.snoc ?_
    rw [hp]
    exact dval_small ((hd.take _).drop _) (by rw [List.length_drop, List.length_take]; omega)
  · rw [hsz, lval_append, h4, hp]
    have e1 : s.data.toList.drop c = (s.data.toList.take d.size).drop c ++ s.data.toList.drop d.size := by
      rw [← List.drop_append_of_le_length (by rw [List.length_take, bytes_len]; omega), List.take_append_drop]
    rw [e1, dval_append, List.length_drop, bytes_len]
    have e2 : (10 : Nat) ^ (s.size - d.size) = 1000000000 ^ ls.length := by
      rw [show (1000000000 : Nat) = 10 ^ 9 by decide, ← Nat.pow_mul]
      congr 1
      omega
    rw [e2]
    simp only [lval]
    rw [Nat.mul_comm (dval _) _, Nat.mul_zero, Nat.add_zero, Nat.add_comm]

/-- What readSize answers. -/
def Reads (lo : Nat) (w : World) (n : Nat) (e : Ending) (w' : World) : Prop := ∃ v, e = .returned v ∧ Sz lo w' v n ∧ Below lo w w'

set_option maxHeartbeats 400000 in
theorem readSize_any (s : ByteArray) (w : World) (hd : Digs s.data.toList) (hl : s.size ≤ 1000000) :
    Calls Tryd.prog 68 #[.string s] w fun e w' => Reads w.heap.size w (dval s.data.toList) e w' := by
  obtain ⟨i0, hi, hz0, hz1, hz2⟩ := info_parts Tryd.infoU64
  obtain ⟨lo, hlo⟩ : ∃ lo, w.heap.size = lo := ⟨_, rfl⟩
  rw [hlo]
  have HLO : lo ≤ w.heap.size := by omega
  clear hlo
  go_enter Tryd.func68, Tryd.ntmps68
  go_wp2
  go_loopw [0, 3] (fun a v wr => ∃ (d : ByteArray) (ls : List Nat), a = .string d ∧ d.size ≤ s.size ∧ ls.length ≤ s.size - d.size ∧ Rd s d ls ∧ Own lo wr v ls ∧ Below lo w wr) (fun a _ _ => match a with | .string d => d.size | _ => 0)
  case atStart => exact ⟨s, [], rfl, Nat.le_refl _, by simp, ⟨by rw [← bytes_len, List.take_length], .inl (by simp), by simp [Low], by rw [← bytes_len, List.drop_length]; rfl⟩, Own.nil, Below.refl _ _⟩
  case round =>
    obtain ⟨d, ls, rfl, hds, hls, hrd, hown, hbel⟩ := hrel
    by_cases h0 : 0 < d.size
    · by_cases h9 : d.size ≤ 9
      · have HP := Lib.hid (hrd.piece (p := d) hd (c := 0) rfl (by omega))
        have HS := Lib.hid (hrd.step (p := d) (d' := ByteArray.empty) hd (c := 0) rfl rfl (by omega) (.inr rfl) (by omega) h0 hds)
        obtain ⟨x, hx⟩ : ∃ x, x = dval d.data.toList := ⟨_, rfl⟩
        rw [← hx] at HS
        have HR : Hid (∀ W, Calls Tryd.prog 87 #[.string d] W fun e w' => e = .returned (.int .u64 ((x : Nat) : Int)) ∧ W = w') := Lib.hid (by intro W; rw [hx]; exact readLimb_any _ _ HP.out.1 HP.out.2)
        clear hx HP hrd
        go_wp2_with (first
          | (go_at_call 87; refine (HR.out _).mono ?_; rintro e w' ⟨rfl, rfl⟩)
          | (at_builtin; refine wpList_append_own _ rfl _ _ 76 rfl lo 100 i0 (.int .u64 0) 1 8 Tryd.underlying76 hi hz0 hz1 hz2 rfl (by decide) _ _ _ rfl (hown.row.alloc _) ⟨wr.heap.size, 0, none⟩ 1 1 [.int .u64 (x : Int)] rfl rfl (cell_box _ _ _) (by intro u hu; simp at hu; subst hu; rfl) (by unfold maxLen; omega) (by omega) (by have := hbel.size; simp; omega) ?_; intro v' w1 hown' hgrow _))
        go_roundw
        case rel => exact ⟨_, ls ++ [x], rfl, by rw [HS.out.2]; omega, by rw [HS.out.2, List.length_append, List.length_singleton]; omega, HS.out.1, Own.snoc hown', (hbel.alloc (Nat.le_trans HLO hbel.size) _).grown hgrow (by have := hbel.size; simp; omega) (fun k hk => (hown.lt hk).1)⟩
        case measure => simp; try omega
      · have h9' : 9 < d.size := by omega
        obtain ⟨p, hp⟩ : ∃ p, p = d.extract (d.size - 9) d.size := ⟨_, rfl⟩
        have hpd : p.data.toList = d.data.toList.drop (d.size - 9) := by rw [hp]; exact Lib.extract_to_end d _
        have HP := Lib.hid (hrd.piece (p := p) hd (c := d.size - 9) hpd (by omega))
        have HS := Lib.hid (hrd.step (p := p) (d' := d.extract 0 (d.size - 9)) hd (c := d.size - 9) hpd (Lib.extract_from_zero d _) (by omega) (.inl (by omega)) (by omega) h0 hds)
        obtain ⟨x, hx⟩ : ∃ x, x = dval p.data.toList := ⟨_, rfl⟩
        rw [← hx] at HS
        have HR : Hid (∀ W, Calls Tryd.prog 87 #[.string (d.extract (d.size - 9) d.size)] W fun e w' => e = .returned (.int .u64 ((x : Nat) : Int)) ∧ W = w') := Lib.hid (by intro W; rw [hx, ← hp]; exact readLimb_any _ _ HP.out.1 HP.out.2)
        clear hx HP hrd hp hpd
        go_wp2_with (first
          | (go_at_call 87; refine (HR.out _).mono ?_; rintro e w' ⟨rfl, rfl⟩)
          | (at_builtin; refine wpList_append_own _ rfl _ _ 76 rfl lo 100 i0 (.int .u64 0) 1 8 Tryd.underlying76 hi hz0 hz1 hz2 rfl (by decide) _ _ _ rfl (hown.row.alloc _) ⟨wr.heap.size, 0, none⟩ 1 1 [.int .u64 (x : Int)] rfl rfl (cell_box _ _ _) (by intro u hu; simp at hu; subst hu; rfl) (by unfold maxLen; omega) (by omega) (by have := hbel.size; simp; omega) ?_; intro v' w1 hown' hgrow _))
        go_roundw
        case rel => exact ⟨_, ls ++ [x], rfl, by rw [HS.out.2]; omega, by rw [HS.out.2, List.length_append, List.length_singleton]; omega, HS.out.1, Own.snoc hown', (hbel.alloc (Nat.le_trans HLO hbel.size) _).grown hgrow (by have := hbel.size; simp; omega) (fun k hk => (hown.lt hk).1)⟩
        case measure => simp; try omega
    · have hF : Low ls ∧ lval ls = dval s.data.toList := ⟨hrd.2.2.1, by rw [hrd.2.2.2, show d.size = 0 by omega]; rfl⟩
      have HF := Lib.hid hF
      clear hrd hF
      go_wp2_with (go_at_call 88; refine (trimmed_any hown HF.out.1).mono ?_; rintro e w' ⟨v, rfl, hsz, rfl⟩)
      go_ret
      rw [HF.out.2] at hsz
      exact ⟨_, rfl, hsz, hbel⟩

end Go.Proofs.YthmojhfakmdlfaaDoor
