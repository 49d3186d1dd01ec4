/- Div. -/
import Derived.Test.YtlilojaefpnkmaaDoorAdd
import Derived.Deep.RegionHeld3
namespace Go.Proofs.YtlilojaefpnkmaaDoor
open Go.RowKit
attribute [local go_sem] Oper.semAt_some

set_option maxRecDepth 100000 in
theorem Div_bad {s t : ByteArray} {w : World} (h : goodB s.data.toList = false ∨ goodB t.data.toList = false) :
    Calls Tryd.prog 20 #[.string s, .string t] w fun e w' => e = .returned (.tuple #[.string ⟨#[]⟩, .string ⟨#[]⟩, .int .i64 6]) ∧ Below w.heap.size w w' := by
  have G1 := Lib.hid (Good_any s w)
  have G2 := Lib.hid (Good_any t w)
  obtain ⟨g1, hg1⟩ : ∃ g, goodB s.data.toList = g := ⟨_, rfl⟩
  obtain ⟨g2, hg2⟩ : ∃ g, goodB t.data.toList = g := ⟨_, rfl⟩
  rw [hg1] at G1 h
  rw [hg2] at G2 h
  clear hg1 hg2
  cases g1
  · go_enter Tryd.func20, Tryd.ntmps20
    go_wp2_with (go_at_call 13; refine G1.out.mono ?_; rintro e w' ⟨rfl, rfl⟩)
    refine bodyPost_ret (v := .tuple #[.string ⟨#[]⟩, .string ⟨#[]⟩, .int .i64 6]) ?_ rfl ⟨rfl, Below.refl _ _⟩
    simp [results, Tryd.results20, go_sem]
  · obtain rfl : g2 = false := by simpa using h
    go_enter Tryd.func20, Tryd.ntmps20
    go_wp2_with (first | (go_at_call 13; refine G1.out.mono ?_; clear G1; rintro e w' ⟨rfl, rfl⟩) | (go_at_call 13; refine G2.out.mono ?_; rintro e w' ⟨rfl, rfl⟩))
    refine bodyPost_ret (v := .tuple #[.string ⟨#[]⟩, .string ⟨#[]⟩, .int .i64 6]) ?_ rfl ⟨rfl, Below.refl _ _⟩
    simp [results, Tryd.results20, go_sem]

set_option maxRecDepth 100000 in
theorem Div_zero {a : Int} (ha : Fits a) {w : World} :
    Calls Tryd.prog 20 #[.string (str a), .string ⟨#[48]⟩] w fun e w' => e = .returned (.tuple #[.string ⟨#[]⟩, .string ⟨#[]⟩, .int .i64 10]) ∧ Below w.heap.size w w' := by
  have G1 := Lib.hid (Good_any (str a) w)
  have G2 := Lib.hid (Good_any ⟨#[48]⟩ w)
  rw [good_str, decide_eq_true ha] at G1
  rw [show goodB (ByteArray.mk #[48]).data.toList = true by decide] at G2
  obtain ⟨s, hs⟩ : ∃ s, str a = s := ⟨_, rfl⟩
  rw [hs] at G1 ⊢
  clear hs
  go_enter Tryd.func20, Tryd.ntmps20
  go_wp2_with (first | (go_at_call 13; refine G1.out.mono ?_; clear G1; rintro e w' ⟨rfl, rfl⟩) | (go_at_call 13; refine G2.out.mono ?_; rintro e w' ⟨rfl, rfl⟩))
  refine bodyPost_ret (v := .tuple #[.string ⟨#[]⟩, .string ⟨#[]⟩, .int .i64 10]) ?_ rfl ⟨rfl, Below.refl _ _⟩
  simp [results, Tryd.results20, go_sem]

theorem itoa_zero : Lib.itoa 0 = [48] := by
  rw [show (0 : Int) = ((0 : Nat) : Int) from rfl, Lib.itoa_nonneg, Lib.decDigits_one (by omega)]; rfl
theorem str_zero : str 0 = ⟨#[48]⟩ := by
  unfold str
  rw [itoa_zero]

set_option maxRecDepth 100000 in
set_option maxHeartbeats 1000000 in
theorem Div_good {a b : Int} (ha : Fits a) (hb : Fits b) (hb0 : b ≠ 0) {w : World} (htab : Tab w.heap.size w) :
    Calls Tryd.prog 20 #[.string (str a), .string (str b)] w fun e w' => e = .returned (.tuple #[.string (str (a.tdiv b)), .string (str (a.tmod b)), .int .i64 0]) ∧ Below w.heap.size w w' := by
  have G1 := Lib.hid (Good_any (str a) w)
  have G2 := Lib.hid (Good_any (str b) w)
  rw [good_str, decide_eq_true ha] at G1
  rw [good_str, decide_eq_true hb] at G2
  have R1 := Lib.hid (read_str ha w)
  have HB := Lib.hid (fun W => read_str hb W)
  have HD := Lib.hid (fun (W : World) (va vb : Value) (h1 : Wh 0 W va a) (h2 : Wh 0 W vb b) => divide_any h1 h2 hb0 (Nat.le_trans ha.limbs (by omega)) (Nat.le_trans hb.limbs (by omega)))
  have HT := Lib.hid (fun (W : World) (v : Value) (n : Int) (hn : Room n) (h1 : Wh 0 W v n) (h2 : Tab W.heap.size W) => text_any h1 hn h2)
  have hq := Fits.room (Fits.tdiv (b := b) ha)
  have hr := Fits.room (Fits.tmod (b := b) ha)
  obtain ⟨q, hqe⟩ : ∃ q, a.tdiv b = q := ⟨_, rfl⟩
  obtain ⟨r, hre⟩ : ∃ r, a.tmod b = r := ⟨_, rfl⟩
  rw [hqe] at HD hq ⊢
  rw [hre] at HD hr ⊢
  have hne : ((str b).toList == [48]) = false := by
    rw [beq_eq_false_iff_ne]
    intro h
    rw [ByteArray.toList_eq, str_list, ← itoa_zero] at h
    exact hb0 (itoa_inj h)
  obtain ⟨s, hs⟩ : ∃ s, str a = s := ⟨_, rfl⟩
  obtain ⟨t, ht⟩ : ∃ s, str b = s := ⟨_, rfl⟩
  rw [hs] at G1 R1 ⊢
  rw [ht] at G2 HB hne ⊢
  have HTab := Lib.hid htab
  have hmix : Tryd.prog.follows .mixedOrders = true := by kernel_rfl
  clear hs ht htab hqe hre
  go_enter Tryd.func20, Tryd.ntmps20
  go_wp2_with (first
    | (go_at_call 13; refine G1.out.mono ?_; clear G1; rintro e w' ⟨rfl, rfl⟩)
    | (go_at_call 13; refine G2.out.mono ?_; clear G2; rintro e w' ⟨rfl, rfl⟩)
    | (go_at_call 41; refine R1.out.mono ?_; clear R1; rintro e w1 ⟨v1, rfl, h1, hb1⟩)
    | (go_at_call 41; refine (HB.out _).mono ?_; clear HB; rintro e w2 ⟨v2, rfl, h2, hb2⟩)
    | (go_at_call 40; refine (HD.out _ _ _ ((h1.below hb2).mono (Nat.zero_le _)) (h2.mono (Nat.zero_le _))).mono ?_; clear HD; rintro e w3 ⟨v3, v4, rfl, h3, h4, hb3⟩; have HW3 := Lib.hid h3; have HW4 := Lib.hid h4; obtain ⟨s3, rfl, z3⟩ := id h3; obtain ⟨s4, rfl, z4⟩ := id h4; obtain ⟨ad3, cap3, rfl, -, -, -⟩ := z3.view; obtain ⟨ad4, cap4, rfl, -, -, -⟩ := z4.view; clear h3 h4 z3 z4))
  obtain ⟨W5, hW5⟩ : ∃ W, (w3.alloc (.cells #[.bool (decide (q < 0)), .slice ad3 (limbs q.natAbs).length cap3] 53)).alloc (.cells #[.bool (decide (r < 0)), .slice ad4 (limbs r.natAbs).length cap4] 53) = W := ⟨_, rfl⟩
  have kQ : Blk W5 w3.heap.size #[.bool (decide (q < 0)), .slice ad3 (limbs q.natAbs).length cap3] 53 := by rw [← hW5]; exact (Blk.new w3 _ _).alloc _
  have kR : Blk W5 (w3.heap.size + 1) #[.bool (decide (r < 0)), .slice ad4 (limbs r.natAbs).length cap4] 53 := by rw [← hW5]; have := Blk.new (w3.alloc (.cells #[.bool (decide (q < 0)), .slice ad3 (limbs q.natAbs).length cap3] 53)) #[.bool (decide (r < 0)), .slice ad4 (limbs r.natAbs).length cap4] 53; rw [World.size_alloc] at this; exact this
  have hb5 : Below w3.heap.size w3 W5 := by rw [← hW5]; exact ((Below.refl _ w3).alloc (Nat.le_refl _) _).alloc (by simp) _
  rw [hW5]
  clear hW5
  have hbd := hb5.trans ((Below.refl _ W5).drew.mono hb5.size)
  have kQ0 := (kQ.below (Below.refl _ W5).drew).at0
  have kQ1 := (kQ.below (Below.refl _ W5).drew).at1
  have kR0 := (kR.below (Below.refl _ W5).drew).at0
  have kR1 := (kR.below (Below.refl _ W5).drew).at1
  have hB3 : Below w.heap.size w w3 := (hb1.trans (hb2.mono hb1.size)).trans (hb3.mono (Nat.le_trans hb1.size hb2.size))
  have hB5 : Below w.heap.size w W5.drew := hB3.trans (hbd.mono hB3.size)
  have HT1 := Lib.hid (HT.out _ _ q hq ((HW3.out.below hbd).mono (Nat.zero_le _)) ((HTab.out.below hB5 (Nat.le_refl _)).mono hB5.size))
  go_region_held3 (fun W => W.cell? ⟨w3.heap.size, 0, none⟩ = some (.bool (decide (q < 0))) ∧ W.cell? ⟨w3.heap.size, 1, none⟩ = some (.slice ad3 (limbs q.natAbs).length cap3) ∧ W.cell? ⟨w3.heap.size + 1, 0, none⟩ = some (.bool (decide (r < 0))) ∧ W.cell? ⟨w3.heap.size + 1, 1, none⟩ = some (.slice ad4 (limbs r.natAbs).length cap4)) (first | (go_keep; done) | ((try dsimp only); (repeat' apply And.intro) <;> first | (go_keep; done)))
    (first
      | (go_at_call 42; refine HT1.out.mono ?_; rintro e w6 ⟨rfl, hb6⟩; have hB6 := hB5.trans (hb6.mono hB5.size); have kQ6 := kQ.below ((Below.refl _ W5).drew.trans hb6); have kR6 := kR.below ((Below.refl _ W5).drew.trans hb6); have g0 := kQ6.at0; have g1 := kQ6.at1; have g2 := kR6.at0; have g3 := kR6.at1; have HT2 := Lib.hid (HT.out _ _ r hr ((HW4.out.below (hbd.trans (hb6.mono hbd.size))).mono (Nat.zero_le _)) ((HTab.out.below hB6 (Nat.le_refl _)).mono hB6.size)); clear HT1)
      | (go_at_call 42; refine HT2.out.mono ?_; rintro e w7 ⟨rfl, hb7⟩; have hB7 := hB6.trans (hb7.mono hB6.size); have kQ7 := kQ6.below hb7; have kR7 := kR6.below hb7; have f0 := kQ7.at0; have f1 := kQ7.at1; have f2 := kR7.at0; have f3 := kR7.at1; clear HT2))
  go_wp2
  refine bodyPost_ret (v := .tuple #[.string ⟨(Lib.itoa q).toArray⟩, .string ⟨(Lib.itoa r).toArray⟩, .int .i64 0]) ?_ rfl ⟨rfl, hB7⟩
  simp [results, Tryd.results20, go_sem]

end Go.Proofs.YtlilojaefpnkmaaDoor
