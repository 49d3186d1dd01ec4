/- Add, Sub, Mul. -/
import Derived.Test.YtlilojaefpnkmaaDoorCombine
namespace Go.Proofs.YtlilojaefpnkmaaDoor
open Go.RowKit

def Two (F : Nat) (op : Int → Int → Int) : Prop :=
  (∀ (s t : ByteArray) (w : World), (goodB s.data.toList = false ∨ goodB t.data.toList = false) → Calls Tryd.prog F #[.string s, .string t] w fun e w' => Ends ⟨#[]⟩ 6 w e w') ∧
  (∀ (a b : Int) (w : World), Fits a → Fits b → Tab w.heap.size w → Calls Tryd.prog F #[.string (str a), .string (str b)] w fun e w' => Ends (if Fits (op a b) then str (op a b) else ⟨#[]⟩) (if Fits (op a b) then 0 else 3) w e w')

theorem does_add : Does 30 (fun a b => a + b) := ⟨enters_of Tryd.func30 (by kernel_rfl) rfl, fun h1 h2 h3 h4 => add_any h1 h2 h3 h4⟩
theorem does_sub : Does 31 (fun a b => a - b) := ⟨enters_of Tryd.func31 (by kernel_rfl) rfl, fun h1 h2 h3 h4 => subtract_any h1 h2 h3 h4⟩
theorem does_mul : Does 39 (fun a b => a * b) := ⟨enters_of Tryd.func39 (by kernel_rfl) rfl, fun h1 h2 h3 h4 => multiply_any h1 h2 h3 h4⟩

theorem two_add : Two 11 (fun a b => a + b) := by
  constructor
  · intro s t w h
    have HC := Lib.hid (fun f => combine_bad (f := f) (w := w) h)
    go_enter Tryd.func11, Tryd.ntmps11
    go_wp2_with (go_at_call 29; refine (HC.out _).mono ?_; rintro e w' ⟨rfl, hb⟩)
    refine bodyPost_ret (v := .tuple #[.string ⟨#[]⟩, .int .i64 6]) ?_ rfl ⟨rfl, hb⟩
    simp [results, Tryd.results11, go_sem]
  · intro a b w ha hb ht
    have HC := Lib.hid (combine_good does_add ha hb (ha.add hb) ht)
    obtain ⟨s, hs⟩ : ∃ s, (if Fits (a + b) then str (a + b) else ⟨#[]⟩) = s := ⟨_, rfl⟩
    obtain ⟨c, hc⟩ : ∃ c : Int, (if Fits (a + b) then 0 else 3) = c := ⟨_, rfl⟩
    simp only [hs, hc] at HC ⊢
    go_enter Tryd.func11, Tryd.ntmps11
    go_wp2_with (go_at_call 29; refine HC.out.mono ?_; rintro e w' ⟨rfl, hb⟩)
    refine bodyPost_ret (v := .tuple #[.string s, .int .i64 c]) ?_ rfl ⟨rfl, hb⟩
    simp [results, Tryd.results11, go_sem]

theorem two_sub : Two 12 (fun a b => a - b) := by
  constructor
  · intro s t w h
    have HC := Lib.hid (fun f => combine_bad (f := f) (w := w) h)
    go_enter Tryd.func12, Tryd.ntmps12
    go_wp2_with (go_at_call 29; refine (HC.out _).mono ?_; rintro e w' ⟨rfl, hb⟩)
    refine bodyPost_ret (v := .tuple #[.string ⟨#[]⟩, .int .i64 6]) ?_ rfl ⟨rfl, hb⟩
    simp [results, Tryd.results12, go_sem]
  · intro a b w ha hb ht
    have HC := Lib.hid (combine_good does_sub ha hb (ha.sub hb) ht)
    obtain ⟨s, hs⟩ : ∃ s, (if Fits (a - b) then str (a - b) else ⟨#[]⟩) = s := ⟨_, rfl⟩
    obtain ⟨c, hc⟩ : ∃ c : Int, (if Fits (a - b) then 0 else 3) = c := ⟨_, rfl⟩
    simp only [hs, hc] at HC ⊢
    go_enter Tryd.func12, Tryd.ntmps12
    go_wp2_with (go_at_call 29; refine HC.out.mono ?_; rintro e w' ⟨rfl, hb⟩)
    refine bodyPost_ret (v := .tuple #[.string s, .int .i64 c]) ?_ rfl ⟨rfl, hb⟩
    simp [results, Tryd.results12, go_sem]

theorem two_mul : Two 19 (fun a b => a * b) := by
  constructor
  · intro s t w h
    have HC := Lib.hid (fun f => combine_bad (f := f) (w := w) h)
    go_enter Tryd.func19, Tryd.ntmps19
    go_wp2_with (go_at_call 29; refine (HC.out _).mono ?_; rintro e w' ⟨rfl, hb⟩)
    refine bodyPost_ret (v := .tuple #[.string ⟨#[]⟩, .int .i64 6]) ?_ rfl ⟨rfl, hb⟩
    simp [results, Tryd.results19, go_sem]
  · intro a b w ha hb ht
    have HC := Lib.hid (combine_good does_mul ha hb (ha.mul hb) ht)
    obtain ⟨s, hs⟩ : ∃ s, (if Fits (a * b) then str (a * b) else ⟨#[]⟩) = s := ⟨_, rfl⟩
    obtain ⟨c, hc⟩ : ∃ c : Int, (if Fits (a * b) then 0 else 3) = c := ⟨_, rfl⟩
    simp only [hs, hc] at HC ⊢
    go_enter Tryd.func19, Tryd.ntmps19
    go_wp2_with (go_at_call 29; refine HC.out.mono ?_; rintro e w' ⟨rfl, hb⟩)
    refine bodyPost_ret (v := .tuple #[.string s, .int .i64 c]) ?_ rfl ⟨rfl, hb⟩
    simp [results, Tryd.results19, go_sem]


set_option maxRecDepth 100000 in
theorem Cmp_bad {s t : ByteArray} {w : World} (h : goodB s.data.toList = false ∨ goodB t.data.toList = false) :
    Calls Tryd.prog 21 #[.string s, .string t] w fun e w' => e = .returned (.int .i64 0) ∧ Below w.heap.size w w' := by
  have G1 := Lib.hid (Good_any s w)
  have G2 := Lib.hid (Good_any t w)
  obtain ⟨g1, hg1⟩ : ∃ g, goodB s.data.toList = g := ⟨_, rfl⟩
  obtain ⟨g2, hg2⟩ : ∃ g, goodB t.data.toList = g := ⟨_, rfl⟩
  rw [hg1] at G1 h
  rw [hg2] at G2 h
  clear hg1 hg2
  cases g1
  · go_enter Tryd.func21, Tryd.ntmps21
    go_wp2_with (go_at_call 13; refine G1.out.mono ?_; rintro e w' ⟨rfl, rfl⟩)
    refine bodyPost_ret (v := .int .i64 0) ?_ rfl ⟨rfl, Below.refl _ _⟩
    simp [results, Tryd.results21, go_sem]
  · obtain rfl : g2 = false := by simpa using h
    go_enter Tryd.func21, Tryd.ntmps21
    go_wp2_with (first | (go_at_call 13; refine G1.out.mono ?_; clear G1; rintro e w' ⟨rfl, rfl⟩) | (go_at_call 13; refine G2.out.mono ?_; rintro e w' ⟨rfl, rfl⟩))
    refine bodyPost_ret (v := .int .i64 0) ?_ rfl ⟨rfl, Below.refl _ _⟩
    simp [results, Tryd.results21, go_sem]

set_option maxRecDepth 100000 in
theorem Cmp_good {a b : Int} (ha : Fits a) (hb : Fits b) {w : World} :
    Calls Tryd.prog 21 #[.string (str a), .string (str b)] w fun e w' => e = .returned (.int .i64 (sgnI a b)) ∧ Below w.heap.size w w' := by
  have G1 := Lib.hid (Good_any (str a) w)
  have G2 := Lib.hid (Good_any (str b) w)
  rw [good_str, decide_eq_true ha] at G1
  rw [good_str, decide_eq_true hb] at G2
  have R1 := Lib.hid (read_str ha w)
  have HB := Lib.hid (fun W => read_str hb W)
  have HC := Lib.hid (fun (W : World) (va vb : Value) (h1 : Wh 0 W va a) (h2 : Wh 0 W vb b) => compare_any h1 h2 ha.room hb.room)
  obtain ⟨s, hs⟩ : ∃ s, str a = s := ⟨_, rfl⟩
  obtain ⟨t, ht⟩ : ∃ s, str b = s := ⟨_, rfl⟩
  rw [hs] at G1 R1 ⊢
  rw [ht] at G2 HB ⊢
  clear hs ht
  go_enter Tryd.func21, Tryd.ntmps21
  go_wp2_with (first
    | (go_at_call 13; refine G1.out.mono ?_; clear G1; rintro e w' ⟨rfl, rfl⟩)
    | (go_at_call 13; refine G2.out.mono ?_; clear G2; rintro e w' ⟨rfl, rfl⟩)
    | (go_at_call 41; refine R1.out.mono ?_; clear R1; rintro e w1 ⟨v1, rfl, h1, hb1⟩)
    | (go_at_call 41; refine (HB.out _).mono ?_; clear HB; rintro e w2 ⟨v2, rfl, h2, hb2⟩)
    | (go_at_call 43; refine (HC.out _ _ _ ((h1.below hb2).mono (Nat.zero_le _)) (h2.mono (Nat.zero_le _))).mono ?_; rintro e w3 ⟨rfl, hb3⟩))
  refine bodyPost_ret (v := .int .i64 (sgnI a b)) ?_ rfl ⟨rfl, (hb1.trans (hb2.mono hb1.size)).trans (hb3.mono (Nat.le_trans hb1.size hb2.size))⟩
  simp [results, Tryd.results21, go_sem]

end Go.Proofs.YtlilojaefpnkmaaDoor
