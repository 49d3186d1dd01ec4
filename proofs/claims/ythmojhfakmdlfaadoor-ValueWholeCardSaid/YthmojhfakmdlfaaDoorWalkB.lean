/- readLimb, readSize: digits as limbs. -/
import Derived.Test.YthmojhfakmdlfaaDoorWalkA
import Derived.Test.YthmojhfakmdlfaaDoorDigits
namespace Go.Proofs.YthmojhfakmdlfaaDoor
open Go.RowKit

theorem at_take {l : List UInt8} {k : Nat} (h : k < l.length) : l.take (k + 1) = l.take k ++ [l[k]] := by rw [List.take_succ_eq_append_getElem h]

theorem dval_small {l : List UInt8} (h : Digs l) (hl : l.length ≤ 9) : dval l < 1000000000 :=
  Nat.lt_of_lt_of_le (dval_lt h) (Nat.pow_le_pow_right (n := 10) (by omega) hl)

set_option maxHeartbeats 400000 in
theorem readLimb_any (s : ByteArray) (w : World) (hd : Digs s.data.toList) (hl : s.data.toList.length ≤ 9) :
    Calls Tryd.prog 87 #[.string s] w fun e w' => e = .returned (.int .u64 ((dval s.data.toList : Nat) : Int)) ∧ w = w' := by
  have hs9 : s.size ≤ 9 := by rw [Array.length_toList] at hl; exact hl
  have hsz : Hid (s.data.toList.length = s.size) := Lib.hid (by rw [Array.length_toList]; rfl)
  clear hl
  go_enter Tryd.func87, Tryd.ntmps87
  go_wp2
  go_loop [3, 7] (fun v i => ∃ k n : Nat, k ≤ s.size ∧ i = .int .i64 k ∧ v = .int .u64 (n : Int) ∧ Hid (n = dval (s.data.toList.take k))) (fun _ i => s.size - (intOf i).toNat)
  case atStart => exact ⟨0, 0, Nat.zero_le _, rfl, rfl, Lib.hid rfl⟩
  case round =>
    obtain ⟨k, n, hk, rfl, rfl, HN⟩ := hrel
    have hn : n < 100000000 ∨ k = s.size := by
      rcases Nat.lt_or_ge k s.size with h | h
      · left
        have h1 := dval_lt (hd.take k)
        rw [← HN.out, List.length_take, hsz.out, Nat.min_eq_left (by omega)] at h1
        exact Nat.lt_of_lt_of_le h1 (Nat.pow_le_pow_right (n := 10) (by omega) (show k ≤ 8 by omega))
      · right; omega
    by_cases hlt : k < s.size
    · have hn2 : n < 100000000 := by omega
      have hc : 48 ≤ s[k].toNat ∧ s[k].toNat ≤ 57 := hd s[k] (bytes_mem s k hlt)
      have HS : Hid (dval (s.data.toList.take (k + 1)) = n * 10 + (s[k].toNat - 48)) := Lib.hid (by
        rw [at_take (by rw [hsz.out]; exact hlt), dval_snoc, HN.out]; rfl)
      obtain ⟨hc1, hc2⟩ := hc
      clear hn
      go_wp2
      go_round
      case rel => exact ⟨k + 1, n * 10 + (s[k].toNat - 48), by omega, by go_num, by go_num, Lib.hid HS.out.symm⟩
      case measure => simp [intOf]; omega
    · clear hn
      go_wp2
      go_ret
      exact ⟨by rw [HN.out, List.take_of_length_le (by rw [hsz.out]; omega)]; rfl, rfl⟩

end Go.Proofs.YthmojhfakmdlfaaDoor
