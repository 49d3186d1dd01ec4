/- num's small functions: limb, trimmed, readLimb: each only reads. -/
import Derived.Test.YthmojhfakmdlfaaDoorMem
namespace Go.Proofs.YthmojhfakmdlfaaDoor
open Go.RowKit

/-- What trimmed answers: limbs without 0s at the end, of the same number. -/
def Trim (lo : Nat) (w : World) (l : List Nat) (e : Ending) (w' : World) : Prop := ∃ v', e = .returned v' ∧ Sz lo w v' (lval l) ∧ w = w'

theorem trim_done {lo : Nat} {w : World} {ad : Option Addr} {cap k : Nat} {l : List Nat} (h : Own lo w (.slice ad k cap) (l.take k)) (hlow : Low l) (hk : k ≤ l.length) (hv : lval (l.take k) = lval l) (hz : 0 < k → l.getD (k - 1) 0 ≠ 0) : Sz lo w (.slice ad k cap) (lval l) := by
  have e : limbs (lval l) = l.take k := by
    rw [← hv]
    refine limbs_lval (hlow.take k) fun hn => ?_
    have hk0 : 0 < k := by
      rcases Nat.eq_zero_or_pos k with h0 | h0
      · subst h0; simp at hn
      · exact h0
    have := hz hk0
    rw [getD_in (by omega)] at this
    rw [List.getLast_eq_getElem]
    simp only [List.getElem_take, List.length_take, Nat.min_eq_left hk]
    exact this
  unfold Sz
  rw [e]
  exact h

set_option maxHeartbeats 400000 in
theorem trimmed_any {lo : Nat} {w : World} {v : Value} {l : List Nat} (h : Own lo w v l) (hlow : Low l) :
    Calls Tryd.prog 88 #[v] w fun e w' => Trim lo w l e w' := by
  obtain ⟨ad, cap, rfl, hle, hm, hc⟩ := h.view
  unfold maxLen at hm
  go_enter Tryd.func88, Tryd.ntmps88
  go_wp2
  go_loop [0] (fun v => ∃ k : Nat, k ≤ l.length ∧ v = .slice ad k cap ∧ Hid (lval (l.take k) = lval l)) (fun v => match v with | .slice _ k _ => k | _ => 0)
  case atStart => exact ⟨l.length, Nat.le_refl _, rfl, Lib.hid (by rw [List.take_length])⟩
  case round =>
    obtain ⟨k, hk, rfl, hv⟩ := hrel
    by_cases h0 : 0 < k
    · obtain ⟨m, rfl⟩ : ∃ m, k = m + 1 := ⟨k - 1, by omega⟩
      obtain ⟨g, rfl, h1, h2, h3⟩ := hc (by omega)
      have h4 := h3 m (by omega)
      obtain ⟨x, hx⟩ : ∃ x, l.getD m 0 = x := ⟨_, rfl⟩
      rw [hx] at h4
      have HX := Lib.hid hx
      clear hx h3 hc
      by_cases hx0 : x = 0
      · subst hx0
        go_wp2
        go_round
        case rel => exact ⟨m, by omega, rfl, Lib.hid (by rw [lval_take_pred (by omega) HX.out, hv.out])⟩
        case measure => simp; try omega
      · have hx1 : ((x : Int) == 0) = false := by simp; omega
        go_wp2
        go_ret
        exact ⟨_, rfl, trim_done (h.cut hk) hlow hk hv.out (fun _ => by rw [Nat.add_sub_cancel, HX.out]; exact hx0), rfl⟩
    · obtain rfl : k = 0 := by omega
      clear hc
      go_wp2
      go_ret
      exact ⟨_, rfl, trim_done (h.cut hk) hlow hk hv.out (fun h => absurd h (by omega)), rfl⟩

end Go.Proofs.YthmojhfakmdlfaaDoor
