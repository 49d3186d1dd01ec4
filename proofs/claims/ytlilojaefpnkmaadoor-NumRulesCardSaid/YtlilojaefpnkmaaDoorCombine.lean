/- combine; Add, Sub, Mul. -/
import Derived.Test.YtlilojaefpnkmaaDoorInt
namespace Go.Proofs.YtlilojaefpnkmaaDoor
open Go.RowKit

/-- What a call answers that makes a number of two. -/
def Ends (s : ByteArray) (code : Int) (w : World) (e : Ending) (w' : World) : Prop := e = .returned (.tuple #[.string s, .int .i64 code]) ∧ Below w.heap.size w w'
/-- What an operation on whole numbers keeps. -/
def Does (f : Nat) (op : Int → Int → Int) : Prop := (∀ args W, (callFunc f args).run Tryd.prog W = .ok (.enter f args) W) ∧ ∀ {W : World} {va vb : Value} {a b : Int}, Wh 0 W va a → Wh 0 W vb b → Room a → Room b → Calls Tryd.prog f #[va, vb] W fun e w' => MakesW W.heap.size W.heap.size W (op a b) e w'

set_option maxRecDepth 100000 in
theorem combine_bad {f : Value} {s t : ByteArray} {w : World} (h : goodB s.data.toList = false ∨ goodB t.data.toList = false) :
    Calls Tryd.prog 29 #[.string s, .string t, f] w fun e w' => Ends ⟨#[]⟩ 6 w e w' := by
  have G1 := Lib.hid (Good_any s w)
  have G2 := Lib.hid (Good_any t w)
  obtain ⟨g1, hg1⟩ : ∃ g, goodB s.data.toList = g := ⟨_, rfl⟩
  obtain ⟨g2, hg2⟩ : ∃ g, goodB t.data.toList = g := ⟨_, rfl⟩
  rw [hg1] at G1 h
  rw [hg2] at G2 h
  clear hg1 hg2
  cases g1
  · go_enter Tryd.func29, Tryd.ntmps29
    go_wp2_with (go_at_call 13; refine G1.out.mono ?_; rintro e w' ⟨rfl, rfl⟩)
    refine bodyPost_ret (v := .tuple #[.string ⟨#[]⟩, .int .i64 6]) ?_ rfl ⟨rfl, Below.refl _ _⟩
    simp [results, Tryd.results29, go_sem]
  · obtain rfl : g2 = false := by simpa using h
    go_enter Tryd.func29, Tryd.ntmps29
    go_wp2_with (first | (go_at_call 13; refine G1.out.mono ?_; clear G1; rintro e w' ⟨rfl, rfl⟩) | (go_at_call 13; refine G2.out.mono ?_; rintro e w' ⟨rfl, rfl⟩))
    refine bodyPost_ret (v := .tuple #[.string ⟨#[]⟩, .int .i64 6]) ?_ rfl ⟨rfl, Below.refl _ _⟩
    simp [results, Tryd.results29, go_sem]

set_option maxRecDepth 100000 in
theorem combine_good {f : Nat} {op : Int → Int → Int} (hf : Does f op) {a b : Int} (ha : Fits a) (hb : Fits b) (hr : Room (op a b)) {w : World} (htab : Tab w.heap.size w) :
    Calls Tryd.prog 29 #[.string (str a), .string (str b), .func (.func f) #[] #[]] w fun e w' => Ends (if Fits (op a b) then str (op a b) else ⟨#[]⟩) (if Fits (op a b) then 0 else 3) w e w' := by
  have G1 := Lib.hid (Good_any (str a) w)
  have G2 := Lib.hid (Good_any (str b) w)
  rw [good_str, decide_eq_true ha] at G1
  rw [good_str, decide_eq_true hb] at G2
  have R1 := Lib.hid (read_str ha w)
  have HB := Lib.hid (fun W => read_str hb W)
  obtain ⟨s, hs⟩ : ∃ s, str a = s := ⟨_, rfl⟩
  obtain ⟨t, ht⟩ : ∃ s, str b = s := ⟨_, rfl⟩
  rw [hs] at G1 R1 ⊢
  rw [ht] at G2 HB ⊢
  clear hs ht
  obtain ⟨n, hn⟩ : ∃ n, op a b = n := ⟨_, rfl⟩
  rw [hn] at hr ⊢
  have G3 := Lib.hid (fun W => Good_any (str n) W)
  rw [good_str] at G3
  have HF := Lib.hid (fun (W : World) (va vb : Value) (h1 : Wh 0 W va a) (h2 : Wh 0 W vb b) => hf.2 h1 h2 ha.room hb.room)
  rw [hn] at HF
  have HT := Lib.hid (fun (W : World) (v : Value) (h1 : Wh 0 W v n) (h2 : Tab W.heap.size W) => text_any h1 hr h2)
  have htab' := Lib.hid htab
  have hen := hf.1
  by_cases hfit : Fits n
  all_goals (first | rw [if_pos hfit, if_pos hfit] | rw [if_neg hfit, if_neg hfit])
  all_goals (first | rw [decide_eq_true hfit] at G3 | rw [decide_eq_false hfit] at G3)
  all_goals clear htab hn hf
  all_goals go_enter Tryd.func29, Tryd.ntmps29
  all_goals go_wp2_with (first
    | (go_at_call 13; refine G1.out.mono ?_; clear G1; rintro e w' ⟨rfl, rfl⟩)
    | (go_at_call 13; refine G2.out.mono ?_; clear G2; rintro e w' ⟨rfl, rfl⟩)
    | (go_at_call 41; refine R1.out.mono ?_; clear R1; rintro e w1 ⟨v1, rfl, h1, hb1⟩)
    | (go_at_call 41; refine (HB.out _).mono ?_; clear HB; rintro e w2 ⟨v2, rfl, h2, hb2⟩))
  all_goals
    rename_i hK
    refine (HF.out w2 v1 v2 ((h1.below hb2).mono (Nat.zero_le _)) (h2.mono (Nat.zero_le _))).mono ?_
    rintro e w3 ⟨v3, rfl, h3, hb3⟩
    have hB3 : Below w.heap.size w w3 := (hb1.trans (hb2.mono hb1.size)).trans (hb3.mono (Nat.le_trans hb1.size hb2.size))
    have HT3 := Lib.hid (HT.out w3 v3 (h3.mono (Nat.zero_le _)) ((htab'.out.below hB3 (Nat.le_refl _)).mono hB3.size))
    have HB3 := Lib.hid hB3
    refine hK _ _ ?_
    (try simp only [Act.put, List.setIfInBounds_toArray, List.set_cons_zero, List.set_cons_succ])
    clear hK HT h3 hb3 hB3 HF hen h1 h2 hb1 hb2
    go_wp2_with (first
      | (go_at_call 42; refine HT3.out.mono ?_; clear HT3; rintro e w4 ⟨rfl, hb4⟩)
      | (go_at_call 13; refine (G3.out _).mono ?_; clear G3; rintro e w' ⟨rfl, rfl⟩))
    have hB4 := HB3.out.trans (hb4.mono HB3.out.size)
    first
      | (refine bodyPost_ret (v := .tuple #[.string ⟨(Lib.itoa n).toArray⟩, .int .i64 0]) ?_ rfl ⟨rfl, hB4⟩; simp [results, Tryd.results29, go_sem]; done)
      | (refine bodyPost_ret (v := .tuple #[.string ⟨#[]⟩, .int .i64 3]) ?_ rfl ⟨rfl, hB4⟩; simp [results, Tryd.results29, go_sem]; done)

end Go.Proofs.YtlilojaefpnkmaaDoor
