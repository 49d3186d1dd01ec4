/- value.goodKeys -/
import Derived.Test.YthmojhfakmdlfaaGreatDoorOr09
namespace Go.Proofs.YthmojhfakmdlfaaGreatDoor
open Go.RowKit
set_option linter.unusedVariables false

/-- The key at place j is as it should be. -/
def keyOk (ks : List ByteArray) (j : Nat) : Prop := (ks.getD j ⟨#[]⟩).size ≤ 16384 ∧ (0 < j → bLt (ks.getD (j - 1) ⟨#[]⟩) (ks.getD j ⟨#[]⟩) = true)
theorem keysOk_iff : ∀ ks : List ByteArray, keysOk ks = true ↔ ∀ j, j < ks.length → keyOk ks j
  | [] => by simp [keysOk]
  | [a] => by
    unfold keysOk keyOk
    rw [decide_eq_true_iff]
    constructor
    · intro h j hj
      obtain rfl : j = 0 := by simp at hj; omega
      exact ⟨h, fun h => by omega⟩
    · intro h; exact (h 0 (by simp)).1
  | a :: b :: l => by
    have ih := keysOk_iff (b :: l)
    unfold keysOk
    rw [Bool.and_eq_true_iff, Bool.and_eq_true_iff, decide_eq_true_iff, ih]
    constructor
    · rintro ⟨⟨h1, h2⟩, h3⟩ j hj
      match j with
      | 0 => exact ⟨h1, fun h => by omega⟩
      | 1 => exact ⟨(h3 0 (by simp)).1, fun _ => h2⟩
      | j + 2 =>
        have := h3 (j + 1) (by simpa using hj)
        exact ⟨this.1, fun _ => this.2 (by omega)⟩
    · intro h
      refine ⟨⟨(h 0 (by simp)).1, (h 1 (by simp)).2 (by omega)⟩, fun j hj => ?_⟩
      have h1 := h (j + 1) (by simpa using hj)
      refine ⟨h1.1, fun hp => ?_⟩
      have := h1.2 (by omega)
      rw [show j + 1 - 1 = j - 1 + 1 by omega] at this
      exact this
theorem keysOk_yes {ks : List ByteArray} (h : ∀ j, j < ks.length → keyOk ks j) : keysOk ks = true := (keysOk_iff ks).2 h
theorem keysOk_no {ks : List ByteArray} {j : Nat} (hj : j < ks.length) (h : ¬ keyOk ks j) : keysOk ks = false := by
  cases e : keysOk ks
  · rfl
  · exact absurd ((keysOk_iff ks).1 e j hj) h

theorem bLt_asymm {a b : ByteArray} (h : bLt a b = true) : bLt b a = false := by
  unfold bLt at *
  simp only [decide_eq_true_eq, decide_eq_false_iff_not] at *
  exact List.lt_asymm h
theorem bLt_ne {a b : ByteArray} (h : bLt a b = true) : (b.toList == a.toList) = false := by
  rw [beq_eq_false_iff_ne]
  intro e
  rw [ByteArray.toList_eq, ByteArray.toList_eq] at e
  unfold bLt at h
  rw [e, decide_eq_true_iff] at h
  exact List.lt_irrefl _ h
theorem bLt_same {a b : ByteArray} (h : bLt a b = false) (h' : bLt b a = false) : (b.toList == a.toList) = true := by
  rw [beq_iff_eq, ByteArray.toList_eq, ByteArray.toList_eq]
  unfold bLt at *
  simp only [decide_eq_false_iff_not, List.not_lt] at *
  exact List.le_antisymm h h'
set_option maxRecDepth 100000 in
set_option maxHeartbeats 2000000 in
theorem goodKeys_any {B : Nat} {w : World} {v : Value} {ks : List ByteArray} (h : StrsAt B w v ks) : Calls Tryz.prog 157 #[v] w fun e w' => e = .returned (.bool (keysOk ks)) ∧ w = w' := by
  obtain ⟨ad, cap, rfl, hnc, hcap, hc⟩ := h
  have HC := Lib.hid hc
  obtain ⟨n, hn⟩ : ∃ n, ks.length = n := ⟨_, rfl⟩
  have HN := Lib.hid hn
  rw [hn] at hnc hcap ⊢
  clear hc hn
  obtain ⟨r, hr⟩ : ∃ r, keysOk ks = r := ⟨_, rfl⟩
  have HR := Lib.hid hr
  rw [hr]
  clear hr
  go_enter Tryz.func157, Tryz.ntmps157
  go_wp2
  go_loop [7] (fun jv => ∃ j : Nat, jv = .int .i64 j ∧ j ≤ n ∧ Hid (∀ i, i < j → keyOk ks i)) (fun jv => n - (intOf jv).toNat)
  case atStart => exact ⟨0, rfl, by omega, Lib.hid (fun i h => by omega)⟩
  case round =>
    obtain ⟨j, rfl, hj, HI⟩ := hrel
    by_cases hlt : j < n
    · have hjl : j < ks.length := by have := HN.out; omega
      obtain ⟨g, o, rfl, -, hcs⟩ := HC.out (by omega)
      have hcell := hcs j hjl
      have ed : ks.getD j ⟨#[]⟩ = ks[j] := by simp [List.getD, hjl]
      obtain ⟨kj, hkj⟩ : ∃ kj, ks[j] = kj := ⟨_, rfl⟩
      rw [hkj] at hcell ed
      have HE := Lib.hid ed
      have i1 : (0 : Int) ≤ (j : Int) := by omega
      have i2 : (j : Int) < (n : Int) := by omega
      clear ed hkj
      by_cases hsz : kj.size ≤ 16384
      · rcases Nat.eq_zero_or_pos j with hj0 | hj0
        · subst hj0
          rw [Nat.add_zero] at hcell
          clear hcs
          go_wp2
          go_round
          case rel => exact ⟨1, by go_num, by omega, Lib.hid (fun i hi => by
            obtain rfl : i = 0 := by omega
            exact ⟨by rw [HE.out]; exact hsz, fun h => by omega⟩)⟩
          case measure => simp [intOf]; omega
        · obtain ⟨l, rfl⟩ : ∃ l, j = l + 1 := ⟨j - 1, by omega⟩
          have hll : l < ks.length := by omega
          have hcl := hcs l hll
          have edl : ks.getD l ⟨#[]⟩ = ks[l] := by simp [List.getD, hll]
          obtain ⟨kl, hkl⟩ : ∃ kl, ks[l] = kl := ⟨_, rfl⟩
          rw [hkl] at hcl edl
          have HEl := Lib.hid edl
          have i3 : (0 : Int) ≤ (l : Int) := by omega
          have i4 : (l : Int) < (n : Int) := by omega
          have hbl := bLess_eq kj kl
          clear edl hkl hcs
          cases hb : bLt kl kj
          · have HB := Lib.hid hb
            have HF : Hid (r = false) := Lib.hid (by
              rw [← HR.out]
              refine keysOk_no hjl (fun h => ?_)
              have := h.2 (by omega)
              rw [Nat.add_sub_cancel, HEl.out, HE.out, HB.out] at this
              cases this)
            cases hb2 : bLt kj kl
            · rw [hb2] at hbl
              have heq : (kj.toList == kl.toList) = true := bLt_same hb hb2
              clear hb hb2
              go_wp2
              go_ret
              exact ⟨by rw [HF.out]; rfl, rfl⟩
            · rw [hb2] at hbl
              clear hb hb2
              go_wp2
              go_ret
              exact ⟨by rw [HF.out]; rfl, rfl⟩
          · have HB := Lib.hid hb
            rw [bLt_asymm hb] at hbl
            have heq : (kj.toList == kl.toList) = false := bLt_ne hb
            clear hb
            go_wp2
            go_round
            case rel => exact ⟨l + 1 + 1, by go_num, by omega, Lib.hid (fun i hi => by
              rcases Nat.eq_or_lt_of_le (show i ≤ l + 1 by omega) with h | h
              · subst h; exact ⟨by rw [HE.out]; exact hsz, fun _ => by rw [Nat.add_sub_cancel, HEl.out, HE.out]; exact HB.out⟩
              · exact HI.out i h)⟩
            case measure => simp [intOf]; omega
      · have HF : Hid (r = false) := Lib.hid (by
          rw [← HR.out]
          refine keysOk_no hjl (fun h => hsz ?_)
          have := h.1
          rw [HE.out] at this
          exact this)
        clear hcs
        go_wp2
        go_ret
        exact ⟨by rw [HF.out]; rfl, rfl⟩
    · have HT : Hid (r = true) := Lib.hid (by rw [← HR.out]; exact keysOk_yes (fun j hj => HI.out j (by have := HN.out; omega)))
      go_wp2
      go_ret
      exact ⟨by rw [HT.out]; rfl, rfl⟩
end Go.Proofs.YthmojhfakmdlfaaGreatDoor
