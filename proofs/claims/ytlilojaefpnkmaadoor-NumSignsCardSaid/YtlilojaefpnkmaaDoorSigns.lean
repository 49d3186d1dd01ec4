/- NumSigns. -/
import Derived.Test.YtlilojaefpnkmaaDoorSignsW
namespace Go.Proofs.YtlilojaefpnkmaaDoor
open Go.RowKit

set_option maxRecDepth 100000 in
theorem signs_bad {w : World} (ht : Tab w.heap.size w) {s t : ByteArray} (h : goodB s.data.toList = false ∨ goodB t.data.toList = false) : At w 9 #[.string s, .string t] (.bool true) := by
  have CA := Lib.hid (At.awake ht)
  have G1 := Lib.hid (At.good (w := w) s)
  have G2 := Lib.hid (At.good (w := w) t)
  obtain ⟨g1, hg1⟩ : ∃ g, goodB s.data.toList = g := ⟨_, rfl⟩
  obtain ⟨g2, hg2⟩ : ∃ g, goodB t.data.toList = g := ⟨_, rfl⟩
  rw [hg1] at G1 h
  rw [hg2] at G2 h
  clear hg1 hg2 ht
  intro W hb
  cases g1
  · go_enter Tryd.func9, Tryd.ntmps9
    go_wp2_with (first
      | (go_at_call 10; refine (CA.out _ hb).mono ?_; clear CA; rintro e W1 ⟨rfl, hb⟩)
      | (go_at_call 13; refine (G1.out _ hb).mono ?_; clear G1; rintro e W1 ⟨rfl, hb⟩))
    refine bodyPost_ret (v := .bool true) ?_ rfl ⟨rfl, hb⟩
    simp [results, Tryd.results9, go_sem]
  · obtain rfl : g2 = false := by simpa using h
    go_enter Tryd.func9, Tryd.ntmps9
    go_wp2_with (first
      | (go_at_call 10; refine (CA.out _ hb).mono ?_; clear CA; rintro e W1 ⟨rfl, hb⟩)
      | (go_at_call 13; refine (G1.out _ hb).mono ?_; clear G1; rintro e W1 ⟨rfl, hb⟩)
      | (go_at_call 13; refine (G2.out _ hb).mono ?_; clear G2; rintro e W1 ⟨rfl, hb⟩))
    refine bodyPost_ret (v := .bool true) ?_ rfl ⟨rfl, hb⟩
    simp [results, Tryd.results9, go_sem]

theorem signs_good {w : World} (ht : Tab w.heap.size w) {a b : Int} (ha : Fits a) (hb : Fits b) : At w 9 #[.string (str a), .string (str b)] (.bool true) := by
  have f0 : Fits 0 := by decide
  obtain ⟨x, hx⟩ : ∃ x, 0 - a = x := ⟨_, rfl⟩
  have hfx : Fits x := by rw [← hx]; unfold Fits at *; omega
  have CA := Lib.hid (At.awake ht)
  have G1 := Lib.hid (At.good (w := w) (str a))
  have G2 := Lib.hid (At.good (w := w) (str b))
  rw [good_str, decide_eq_true ha] at G1
  rw [good_str, decide_eq_true hb] at G2
  have CX := Lib.hid (At.two two_sub ht f0 ha (by rw [hx]; exact hfx))
  rw [hx, ← s0] at CX
  have hxb : x * b = -(a * b) := by rw [← hx, Int.zero_sub, Int.neg_mul]
  have CC2 := Lib.hid (At.cmp (w := w) ha hb)
  have hd : x.tdiv b = -(a.tdiv b) := by rw [← hx, Int.zero_sub, Int.neg_tdiv]
  have hm : x.tmod b = -(a.tmod b) := by rw [← hx, Int.zero_sub, Int.neg_tmod]
  have hU : b ≠ 0 → ((str b).toList == [48]) = false ∧ Hid (At w 20 #[.string (str a), .string (str b)] (.tuple #[.string (str (a.tdiv b)), .string (str (a.tmod b)), .int .i64 0])) ∧ Hid (At w 20 #[.string (str x), .string (str b)] (.tuple #[.string (str (x.tdiv b)), .string (str (x.tmod b)), .int .i64 0])) ∧ Hid (At w 11 #[.string (str (a.tdiv b)), .string (str (x.tdiv b))] (.tuple #[.string ⟨#[48]⟩, .int .i64 0])) ∧ Hid (At w 11 #[.string (str (a.tmod b)), .string (str (x.tmod b))] (.tuple #[.string ⟨#[48]⟩, .int .i64 0])) := by
    intro hb0
    have CM := At.two two_add ht (Fits.tdiv (b := b) ha) (Fits.tdiv (b := b) hfx) (by rw [hd, Int.add_right_neg]; exact f0)
    have CN := At.two two_add ht (Fits.tmod (b := b) ha) (Fits.tmod (b := b) hfx) (by rw [hm, Int.add_right_neg]; exact f0)
    simp only [show a.tdiv b + x.tdiv b = 0 by rw [hd, Int.add_right_neg]] at CM
    simp only [show a.tmod b + x.tmod b = 0 by rw [hm, Int.add_right_neg]] at CN
    rw [← s0] at CM CN
    exact ⟨str_eq0 hb0, Lib.hid (At.div ht ha hb hb0), Lib.hid (At.div ht hfx hb hb0), Lib.hid CM, Lib.hid CN⟩
  have hP : (Fits (a * b) ∧ Hid (At w 19 #[.string (str a), .string (str b)] (.tuple #[.string (str (a * b)), .int .i64 0])) ∧ Hid (At w 19 #[.string (str x), .string (str b)] (.tuple #[.string (str (x * b)), .int .i64 0])) ∧ Hid (At w 11 #[.string (str (a * b)), .string (str (x * b))] (.tuple #[.string ⟨#[48]⟩, .int .i64 0]))) ∨
      (Hid (At w 19 #[.string (str a), .string (str b)] (.tuple #[.string ⟨#[]⟩, .int .i64 3])) ∧ Hid (At w 19 #[.string (str x), .string (str b)] (.tuple #[.string ⟨#[]⟩, .int .i64 3])) ∧ Hid (At w 11 #[.string ⟨#[]⟩, .string ⟨#[]⟩] (.tuple #[.string ⟨#[]⟩, .int .i64 6]))) := by
    by_cases h : Fits (a * b)
    · have hq : Fits (x * b) := by rw [hxb]; exact h.neg
      have h3 := At.two two_add ht h hq (by rw [hxb, Int.add_right_neg]; exact f0)
      simp only [show a * b + x * b = 0 by rw [hxb, Int.add_right_neg]] at h3
      rw [← s0] at h3
      exact .inl ⟨h, Lib.hid (At.two two_mul ht ha hb h), Lib.hid (At.two two_mul ht hfx hb hq), Lib.hid h3⟩
    · have hq : ¬ Fits (x * b) := fun hh => h (by have := hh.neg; rw [hxb, Int.neg_neg] at this; exact this)
      exact .inr ⟨Lib.hid (At.long two_mul ht ha hb h), Lib.hid (At.long two_mul ht hfx hb hq), Lib.hid (At.bad two_add (.inl (by decide)))⟩
  have hD : (Hid (At w 12 #[.string (str a), .string (str b)] (.tuple #[.string (str (a - b)), .int .i64 0])) ∧ Hid (At w 21 #[.string (str (a - b)), .string ⟨#[48]⟩] (.int .i64 (sgnI a b)))) ∨ Hid (At w 12 #[.string (str a), .string (str b)] (.tuple #[.string ⟨#[]⟩, .int .i64 3])) := by
    by_cases h : Fits (a - b)
    · have h2 := At.cmp (w := w) h f0
      rw [show sgnI (a - b) 0 = sgnI a b by unfold sgnI; repeat' split <;> omega, ← s0] at h2
      exact .inl ⟨Lib.hid (At.two two_sub ht ha hb h), Lib.hid h2⟩
    · exact .inr (Lib.hid (At.long two_sub ht ha hb h))
  by_cases hb0 : b = 0
  · have e0 : str b = ⟨#[48]⟩ := by rw [hb0]; exact str_zero
    clear hU
    rw [e0] at G2 CC2 hP hD ⊢
    rcases hP with ⟨-, CP, CQ, CS⟩ | ⟨CP, CQ, CS⟩ <;> rcases hD with ⟨CD, CC1⟩ | CD
    · exact signs_p0_d0_b0 (sb := ⟨#[]⟩) (ss := ⟨#[]⟩) (su := ⟨#[]⟩) (sv := ⟨#[]⟩) (sw := ⟨#[]⟩) (sy := ⟨#[]⟩) (ep := 0) (es := 0) (ed := 0) CA G1 G2 CX CP CQ CS CD CC2 CC1
    · exact signs_p0_d3_b0 (sb := ⟨#[]⟩) (ss := ⟨#[]⟩) (su := ⟨#[]⟩) (sv := ⟨#[]⟩) (sw := ⟨#[]⟩) (sy := ⟨#[]⟩) (ep := 0) (es := 0) (ed := 0) CA G1 G2 CX CP CQ CS CD CC2
    · exact signs_p3_d0_b0 (sb := ⟨#[]⟩) (su := ⟨#[]⟩) (sv := ⟨#[]⟩) (sw := ⟨#[]⟩) (sy := ⟨#[]⟩) (ep := 0) (ed := 0) CA G1 G2 CX CP CQ CS CD CC2 CC1
    · exact signs_p3_d3_b0 (sb := ⟨#[]⟩) (su := ⟨#[]⟩) (sv := ⟨#[]⟩) (sw := ⟨#[]⟩) (sy := ⟨#[]⟩) (ep := 0) (ed := 0) CA G1 G2 CX CP CQ CS CD CC2
  · obtain ⟨hne, CU, CW, CM, CN⟩ := hU hb0
    rcases hP with ⟨-, CP, CQ, CS⟩ | ⟨CP, CQ, CS⟩ <;> rcases hD with ⟨CD, CC1⟩ | CD
    · exact signs_p0_d0_b1 (ss := ⟨#[]⟩) (ep := 0) (es := 0) (ed := 0) CA G1 G2 CX CP CQ CS CD CC2 CC1 hne CU CW CM CN
    · exact signs_p0_d3_b1 (ss := ⟨#[]⟩) (ep := 0) (es := 0) (ed := 0) CA G1 G2 CX CP CQ CS CD CC2 hne CU CW CM CN
    · exact signs_p3_d0_b1 (ep := 0) (ed := 0) CA G1 G2 CX CP CQ CS CD CC2 CC1 hne CU CW CM CN
    · exact signs_p3_d3_b1 (ep := 0) (ed := 0) CA G1 G2 CX CP CQ CS CD CC2 hne CU CW CM CN

theorem signs_any {w : World} (ht : Tab w.heap.size w) (s t : ByteArray) : At w 9 #[.string s, .string t] (.bool true) := by
  rcases good_cases s with h | ⟨a, ha, rfl⟩
  · exact signs_bad ht (.inl h)
  · rcases good_cases t with h | ⟨b, hb, rfl⟩
    · exact signs_bad ht (.inr h)
    · exact signs_good ht ha hb
end Go.Proofs.YtlilojaefpnkmaaDoor
