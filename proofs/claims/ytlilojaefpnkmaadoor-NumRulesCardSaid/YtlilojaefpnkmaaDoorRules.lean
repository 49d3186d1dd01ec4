/- NumRules. -/
import Derived.Test.YtlilojaefpnkmaaDoorRulesW
namespace Go.Proofs.YtlilojaefpnkmaaDoor
open Go.RowKit

set_option maxRecDepth 100000 in
theorem rules_bad {w : World} (ht : Tab w.heap.size w) {s t u : ByteArray} (h : goodB s.data.toList = false ∨ goodB t.data.toList = false ∨ goodB u.data.toList = false) : At w 5 #[.string s, .string t, .string u] (.bool true) := by
  have CA := Lib.hid (At.awake ht)
  have G1 := Lib.hid (At.good (w := w) s)
  have G2 := Lib.hid (At.good (w := w) t)
  have G3 := Lib.hid (At.good (w := w) u)
  obtain ⟨g1, hg1⟩ : ∃ g, goodB s.data.toList = g := ⟨_, rfl⟩
  obtain ⟨g2, hg2⟩ : ∃ g, goodB t.data.toList = g := ⟨_, rfl⟩
  obtain ⟨g3, hg3⟩ : ∃ g, goodB u.data.toList = g := ⟨_, rfl⟩
  rw [hg1] at G1 h
  rw [hg2] at G2 h
  rw [hg3] at G3 h
  clear hg1 hg2 hg3 ht
  intro W hb
  have hc : g1 = false ∨ (g1 = true ∧ g2 = false) ∨ (g1 = true ∧ g2 = true ∧ g3 = false) := by cases g1 <;> cases g2 <;> simp_all
  clear h
  rcases hc with rfl | ⟨rfl, rfl⟩ | ⟨rfl, rfl, rfl⟩
  all_goals go_enter Tryd.func5, Tryd.ntmps5
  all_goals go_wp2_with (first
      | (go_at_call 10; refine (CA.out _ hb).mono ?_; clear CA; rintro e W1 ⟨rfl, hb⟩)
      | (go_at_call 13; refine (G1.out _ hb).mono ?_; clear G1; rintro e W1 ⟨rfl, hb⟩)
      | (go_at_call 13; refine (G2.out _ hb).mono ?_; clear G2; rintro e W1 ⟨rfl, hb⟩)
      | (go_at_call 13; refine (G3.out _ hb).mono ?_; clear G3; rintro e W1 ⟨rfl, hb⟩))
  all_goals refine bodyPost_ret (v := .bool true) ?_ rfl ⟨rfl, hb⟩
  all_goals simp [results, Tryd.results5, go_sem]

/-- A product, or that it is too long. -/
theorem mul_ends {w : World} (ht : Tab w.heap.size w) {a b : Int} (ha : Fits a) (hb : Fits b) : ∃ s e, Hid (At w 19 #[.string (str a), .string (str b)] (.tuple #[.string s, .int .i64 e])) ∧ Hid (At w 19 #[.string (str b), .string (str a)] (.tuple #[.string s, .int .i64 e])) := by
  by_cases h : Fits (a * b)
  · have h2 := At.two two_mul ht hb ha (by show Fits (b * a); rw [Int.mul_comm]; exact h)
    simp only [Int.mul_comm b a] at h2
    exact ⟨_, _, Lib.hid (At.two two_mul ht ha hb h), Lib.hid h2⟩
  · exact ⟨_, _, Lib.hid (At.long two_mul ht ha hb h), Lib.hid (At.long two_mul ht hb ha (by show ¬ Fits (b * a); rw [Int.mul_comm]; exact h))⟩

theorem tdiv_fits {a b : Int} (ha : Fits a) : Fits (a.tdiv b * b) := by
  unfold Fits at *
  rw [Int.natAbs_mul, Int.natAbs_tdiv]
  exact Nat.lt_of_le_of_lt (Nat.div_mul_le_self _ _) ha
theorem sgn_rest (a b : Int) : 0 ≤ sgnI (a.tmod b) 0 * sgnI a 0 := by
  by_cases h : 0 ≤ a
  · have := Int.tmod_nonneg b h
    unfold sgnI
    repeat' split
    all_goals omega
  · have h2 := Int.tmod_nonneg b (show 0 ≤ -a by omega)
    rw [Int.neg_tmod] at h2
    unfold sgnI
    repeat' split
    all_goals omega
theorem sgn_small (a b : Int) : -1 ≤ sgnI a b ∧ sgnI a b ≤ 1 := by unfold sgnI; repeat' split <;> omega
theorem sgn_prod (a b c d : Int) : -1 ≤ sgnI a b * sgnI c d ∧ sgnI a b * sgnI c d ≤ 1 := by
  unfold sgnI
  repeat' split
  all_goals omega
theorem wrap_small {z : Int} (h1 : -1 ≤ z) (h2 : z ≤ 1) : wrap64 z = z := by
  unfold wrap64
  omega

theorem rules_good {w : World} (ht : Tab w.heap.size w) {a b c : Int} (ha : Fits a) (hb : Fits b) (hc : Fits c) : At w 5 #[.string (str a), .string (str b), .string (str c)] (.bool true) := by
  have f0 : Fits 0 := by decide
  have CA := Lib.hid (At.awake ht)
  have G1 := Lib.hid (At.good (w := w) (str a))
  have G2 := Lib.hid (At.good (w := w) (str b))
  have G3 := Lib.hid (At.good (w := w) (str c))
  rw [good_str, decide_eq_true ha] at G1
  rw [good_str, decide_eq_true hb] at G2
  rw [good_str, decide_eq_true hc] at G3
  obtain ⟨sp, ep, P1, P2⟩ := mul_ends ht ha hb
  obtain ⟨s5, e5, M5, -⟩ := mul_ends ht ha hc
  obtain ⟨s6, e6, M6, -⟩ := mul_ends ht hb hc
  by_cases hb0 : b = 0
  · have e0 : str b = ⟨#[48]⟩ := by rw [hb0]; exact str_zero
    by_cases h1 : Fits (a + b)
    · have C1 := Lib.hid (At.two two_add ht ha hb h1)
      have C2 := At.two two_add ht hb ha (by show Fits (b + a); rw [Int.add_comm]; exact h1)
      simp only [Int.add_comm b a] at C2
      have C2 := Lib.hid C2
      have C3 := At.two two_sub ht h1 hb (by show Fits (a + b - b); rw [Int.add_sub_cancel]; exact ha)
      simp only [Int.add_sub_cancel] at C3
      have C3 := Lib.hid C3
      by_cases h4 : Fits ((a + b) * c)
      · by_cases h5 : Fits (a * c)
        · by_cases h6 : Fits (b * c)
          · have C7 := At.two two_add ht h5 h6 (by show Fits (a * c + b * c); rw [← Int.add_mul]; exact h4)
            simp only [← Int.add_mul] at C7
            have C7 := Lib.hid C7
            have C4 := Lib.hid (At.two two_mul ht h1 hc h4)
            have C5 := Lib.hid (At.two two_mul ht ha hc h5)
            have C6 := Lib.hid (At.two two_mul ht hb hc h6)
            rw [e0] at G2 C1 C2 C3 C6 P1 P2 ⊢
            exact rules_A_z (sb := ⟨#[]⟩) (sq := ⟨#[]⟩) (sr := ⟨#[]⟩) (sm := ⟨#[]⟩) (k1 := 0) (k2 := 0) (k3 := 0) (k4 := 0) (kk := 0) (e5 := 0) (e6 := 0) CA G1 G2 G3 C1 C2 C3 C4 C5 C6 C7 P1 P2
          · have C4 := Lib.hid (At.two two_mul ht h1 hc h4)
            have C5 := Lib.hid (At.two two_mul ht ha hc h5)
            have C6 := Lib.hid (At.long two_mul ht hb hc h6)
            rw [e0] at G2 C1 C2 C3 C6 P1 P2 ⊢
            exact rules_H_z (sb := ⟨#[]⟩) (sq := ⟨#[]⟩) (sr := ⟨#[]⟩) (sm := ⟨#[]⟩) (k1 := 0) (k2 := 0) (k3 := 0) (k4 := 0) (kk := 0) (e5 := 0) (e6 := 0) CA G1 G2 G3 C1 C2 C3 C4 C5 C6 P1 P2
        · have C4 := Lib.hid (At.two two_mul ht h1 hc h4)
          have C5 := Lib.hid (At.long two_mul ht ha hc h5)
          rw [e0] at G2 C1 C2 C3 M6 P1 P2 ⊢
          exact rules_G_z (sb := ⟨#[]⟩) (sq := ⟨#[]⟩) (sr := ⟨#[]⟩) (sm := ⟨#[]⟩) (k1 := 0) (k2 := 0) (k3 := 0) (k4 := 0) (kk := 0) (e5 := 0) CA G1 G2 G3 C1 C2 C3 C4 C5 M6 P1 P2
      · have C4 := Lib.hid (At.long two_mul ht h1 hc h4)
        rw [e0] at G2 C1 C2 C3 M6 P1 P2 ⊢
        exact rules_F_z (sb := ⟨#[]⟩) (sq := ⟨#[]⟩) (sr := ⟨#[]⟩) (sm := ⟨#[]⟩) (k1 := 0) (k2 := 0) (k3 := 0) (k4 := 0) (kk := 0) CA G1 G2 G3 C1 C2 C3 C4 M5 M6 P1 P2
    · have L1 := Lib.hid (At.long two_add ht ha hb h1)
      have L2 := Lib.hid (At.long two_add ht hb ha (by show ¬ Fits (b + a); rw [Int.add_comm]; exact h1))
      rw [e0] at G2 L1 L2 P1 P2 ⊢
      exact rules_L_z (sb := ⟨#[]⟩) (sab := ⟨#[]⟩) (sx := ⟨#[]⟩) (sy := ⟨#[]⟩) (sz := ⟨#[]⟩) (sq := ⟨#[]⟩) (sr := ⟨#[]⟩) (sm := ⟨#[]⟩) (k1 := 0) (k2 := 0) (k3 := 0) (k4 := 0) (kk := 0) (e5 := 0) (e6 := 0) CA G1 G2 G3 L1 L2 P1 P2
  · have hne := str_eq0 hb0
    have D1 := Lib.hid (At.div ht ha hb hb0)
    have M1 := Lib.hid (At.two two_mul ht (Fits.tdiv (b := b) ha) hb (tdiv_fits ha))
    have hN : a.tdiv b * b + a.tmod b = a := Int.tdiv_mul_add_tmod a b
    have N1 := At.two two_add ht (tdiv_fits (b := b) ha) (Fits.tmod (b := b) ha) (by show Fits (a.tdiv b * b + a.tmod b); rw [hN]; exact ha)
    simp only [hN] at N1
    have N1 := Lib.hid N1
    have K1 := At.cmp (w := w) (Fits.tmod (b := b) ha) f0
    have K2 := At.cmp (w := w) ha f0
    rw [← s0] at K1 K2
    have K1 := Lib.hid K1
    have K2 := Lib.hid K2
    have K3 := Lib.hid (At.cmp (w := w) ha hb)
    have K4 := Lib.hid (At.cmp (w := w) hb ha)
    have hw := wrap_small (sgn_prod (a.tmod b) 0 a 0).1 (sgn_prod (a.tmod b) 0 a 0).2
    have hkk := sgn_rest a b
    have hn : wrap64 (-(sgnI b a)) = sgnI a b := by
      have := sgn_small b a
      rw [wrap_small (by omega) (by omega)]
      unfold sgnI
      repeat' split
      all_goals omega
    by_cases h1 : Fits (a + b)
    · have C1 := Lib.hid (At.two two_add ht ha hb h1)
      have C2 := At.two two_add ht hb ha (by show Fits (b + a); rw [Int.add_comm]; exact h1)
      simp only [Int.add_comm b a] at C2
      have C2 := Lib.hid C2
      have C3 := At.two two_sub ht h1 hb (by show Fits (a + b - b); rw [Int.add_sub_cancel]; exact ha)
      simp only [Int.add_sub_cancel] at C3
      have C3 := Lib.hid C3
      by_cases h4 : Fits ((a + b) * c)
      · by_cases h5 : Fits (a * c)
        · by_cases h6 : Fits (b * c)
          · have C7 := At.two two_add ht h5 h6 (by show Fits (a * c + b * c); rw [← Int.add_mul]; exact h4)
            simp only [← Int.add_mul] at C7
            have C7 := Lib.hid C7
            exact rules_A_d (e5 := 0) (e6 := 0) CA G1 G2 G3 C1 C2 C3 (Lib.hid (At.two two_mul ht h1 hc h4)) (Lib.hid (At.two two_mul ht ha hc h5)) (Lib.hid (At.two two_mul ht hb hc h6)) C7 P1 P2 D1 M1 N1 K1 K2 K3 K4 hne hw hkk hn
          · exact rules_H_d (e5 := 0) (e6 := 0) CA G1 G2 G3 C1 C2 C3 (Lib.hid (At.two two_mul ht h1 hc h4)) (Lib.hid (At.two two_mul ht ha hc h5)) (Lib.hid (At.long two_mul ht hb hc h6)) P1 P2 D1 M1 N1 K1 K2 K3 K4 hne hw hkk hn
        · exact rules_G_d (e5 := 0) CA G1 G2 G3 C1 C2 C3 (Lib.hid (At.two two_mul ht h1 hc h4)) (Lib.hid (At.long two_mul ht ha hc h5)) M6 P1 P2 D1 M1 N1 K1 K2 K3 K4 hne hw hkk hn
      · exact rules_F_d CA G1 G2 G3 C1 C2 C3 (Lib.hid (At.long two_mul ht h1 hc h4)) M5 M6 P1 P2 D1 M1 N1 K1 K2 K3 K4 hne hw hkk hn
    · exact rules_L_d (sab := ⟨#[]⟩) (sx := ⟨#[]⟩) (sy := ⟨#[]⟩) (sz := ⟨#[]⟩) (e5 := 0) (e6 := 0) CA G1 G2 G3 (Lib.hid (At.long two_add ht ha hb h1)) (Lib.hid (At.long two_add ht hb ha (by show ¬ Fits (b + a); rw [Int.add_comm]; exact h1))) P1 P2 D1 M1 N1 K1 K2 K3 K4 hne hw hkk hn

theorem rules_any {w : World} (ht : Tab w.heap.size w) (s t u : ByteArray) : At w 5 #[.string s, .string t, .string u] (.bool true) := by
  rcases good_cases s with h | ⟨a, ha, rfl⟩
  · exact rules_bad ht (.inl h)
  · rcases good_cases t with h | ⟨b, hb, rfl⟩
    · exact rules_bad ht (.inr (.inl h))
    · rcases good_cases u with h | ⟨c, hc, rfl⟩
      · exact rules_bad ht (.inr (.inr h))
      · exact rules_good ht ha hb hc
end Go.Proofs.YtlilojaefpnkmaaDoor
