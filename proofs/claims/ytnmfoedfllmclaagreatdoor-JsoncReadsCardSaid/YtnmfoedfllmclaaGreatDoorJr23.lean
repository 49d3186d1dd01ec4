/- The document's own reader: a number -/
import Derived.Deep.DeepCutAuto
import Derived.Test.YtnmfoedfllmclaaGreatDoorJr21
import Derived.Test.YtnmfoedfllmclaaGreatDoorJr22
namespace Go.Proofs.YtnmfoedfllmclaaGreatDoor
open Go.RowKit Go.Shelf
set_option linter.unusedVariables false

/-- The state's block, the results' two, of a function that began in W. -/
def DocV (W wx : World) (t : ByteArray) (a n c x : Nat) : Prop := DocJ W wx t a n c x ∧ Blk wx (W.heap.size + 1 + 1) #[.int .i64 0, .bool false, .string ⟨#[]⟩, .slice none 0 0, .slice none 0 0] 26
theorem DocV.below {W wx w' : World} {t : ByteArray} {a n c x : Nat} (h : DocV W wx t a n c x) (hb : Below wx.heap.size wx w') : DocV W w' t a n c x := ⟨h.1.below hb, h.2.below hb⟩
theorem DocV.moves {W wx : World} {t : ByteArray} {a n c x : Nat} (h : DocV W wx t a n c x) {b : Nat} (hb : b ≤ t.size) : DocV W (wx.setCell ⟨W.heap.size, 1, none⟩ (.int .i64 (b : Int))) t b n c x :=
  ⟨h.1.moves hb, h.2.other (by show W.heap.size + 1 + 1 ≠ W.heap.size; omega) _⟩
theorem DocV.start (W : World) {t : ByteArray} {a n c x : Nat} (ha : a ≤ t.size) : DocV W (((W.alloc (.cells #[.string t, .int .i64 (a : Int), .int .i64 (n : Int), .int .i64 (c : Int), .int .i64 (x : Int)] 56)).alloc (.cells #[.string ⟨#[]⟩, .int .i64 0, .int .i64 0, .int .i64 0, .int .i64 0] 56)).alloc (.cells #[.int .i64 0, .bool false, .string ⟨#[]⟩, .slice none 0 0, .slice none 0 0] 26)) t a n c x := by
  refine ⟨(DocJ.start W ha).below (below_new0 _ _), ?_⟩
  have := Blk.new ((W.alloc (.cells #[.string t, .int .i64 (a : Int), .int .i64 (n : Int), .int .i64 (c : Int), .int .i64 (x : Int)] 56)).alloc (.cells #[.string ⟨#[]⟩, .int .i64 0, .int .i64 0, .int .i64 0, .int .i64 0] 56)) #[.int .i64 0, .bool false, .string ⟨#[]⟩, .slice none 0 0, .slice none 0 0] 26
  rw [World.size_alloc, World.size_alloc] at this
  exact this
/-- Both results written. -/
theorem DocV.ends {W wx : World} {t : ByteArray} {a n c x : Nat} (h : DocV W wx t a n c x) (b0 b1 b2 b3 b4 v0 v1 v2 v3 v4 : Value) :
    Blk ((((((((((wx.setCell ⟨W.heap.size + 1, 0, none⟩ b0).setCell ⟨W.heap.size + 1, 1, none⟩ b1).setCell ⟨W.heap.size + 1, 2, none⟩ b2).setCell ⟨W.heap.size + 1, 3, none⟩ b3).setCell ⟨W.heap.size + 1, 4, none⟩ b4).setCell ⟨W.heap.size + 1 + 1, 0, none⟩ v0).setCell ⟨W.heap.size + 1 + 1, 1, none⟩ v1).setCell ⟨W.heap.size + 1 + 1, 2, none⟩ v2).setCell ⟨W.heap.size + 1 + 1, 3, none⟩ v3).setCell ⟨W.heap.size + 1 + 1, 4, none⟩ v4) (W.heap.size + 1) #[b0, b1, b2, b3, b4] 56 ∧
    Blk ((((((((((wx.setCell ⟨W.heap.size + 1, 0, none⟩ b0).setCell ⟨W.heap.size + 1, 1, none⟩ b1).setCell ⟨W.heap.size + 1, 2, none⟩ b2).setCell ⟨W.heap.size + 1, 3, none⟩ b3).setCell ⟨W.heap.size + 1, 4, none⟩ b4).setCell ⟨W.heap.size + 1 + 1, 0, none⟩ v0).setCell ⟨W.heap.size + 1 + 1, 1, none⟩ v1).setCell ⟨W.heap.size + 1 + 1, 2, none⟩ v2).setCell ⟨W.heap.size + 1 + 1, 3, none⟩ v3).setCell ⟨W.heap.size + 1 + 1, 4, none⟩ v4) (W.heap.size + 1 + 1) #[v0, v1, v2, v3, v4] 26 ∧
    Below W.heap.size W ((((((((((wx.setCell ⟨W.heap.size + 1, 0, none⟩ b0).setCell ⟨W.heap.size + 1, 1, none⟩ b1).setCell ⟨W.heap.size + 1, 2, none⟩ b2).setCell ⟨W.heap.size + 1, 3, none⟩ b3).setCell ⟨W.heap.size + 1, 4, none⟩ b4).setCell ⟨W.heap.size + 1 + 1, 0, none⟩ v0).setCell ⟨W.heap.size + 1 + 1, 1, none⟩ v1).setCell ⟨W.heap.size + 1 + 1, 2, none⟩ v2).setCell ⟨W.heap.size + 1 + 1, 3, none⟩ v3).setCell ⟨W.heap.size + 1 + 1, 4, none⟩ v4) :=
  ⟨(h.1.2.1.set5 b0 b1 b2 b3 b4).other5 (by omega) v0 v1 v2 v3 v4, (h.2.other5 (by omega) b0 b1 b2 b3 b4).set5 v0 v1 v2 v3 v4, below_set5 (below_set5 h.1.2.2.1 (Nat.le_succ _) b0 b1 b2 b3 b4) (by omega) v0 v1 v2 v3 v4⟩
abbrev nilD : Value := .agg #[.int .i64 0, .bool false, .string ⟨#[]⟩, .slice none 0 0, .slice none 0 0]
/-- How number ends. -/
def NumE (W : World) (t : ByteArray) (n c0 x0 : Nat) (r : Except Bad (ByteArray × List UInt8)) (e : Ending) (w' : World) : Prop := Below W.heap.size W w' ∧ match r with
  | .ok (s, R') => ∃ b, e = .returned (.tuple #[stV t b n c0 x0, .agg #[.int .i64 3, .bool false, .string s, .slice none 0 0, .slice none 0 0]]) ∧ b ≤ t.size ∧ rest t b = R'
  | .error bd => ∃ b k : Nat, e = .returned (.tuple #[stV t b n k (t.size - bd.2), nilD]) ∧ b ≤ t.size ∧ k ≠ 0 ∧ (k : Int) = bd.1
theorem digs_head {R : List UInt8} : digsJ R = [] ↔ R.head?.any digJ = false := by
  unfold digsJ
  cases R with
  | nil => simp [Lib.hasPrefix, List.isPrefixOf]
  | cons c r =>
    by_cases h48 : c = 48
    · subst h48
      simp [Lib.hasPrefix, List.isPrefixOf]
      decide
    · have hp : Lib.hasPrefix (c :: r) [48] = false := by simp [Lib.hasPrefix, List.isPrefixOf, Ne.symm h48]
      rw [if_neg (by rw [hp]; decide)]
      cases hd : digJ c with
      | true => simp [hd]
      | false => simp [hd]
theorem badH_head (R : List UInt8) : badH R = (digZ (headZ R) || decide (headZ R = 46) || decide (headZ R = 101) || decide (headZ R = 69)) := by
  cases R with
  | nil => rfl
  | cons c r =>
    have h1 := digZ_head (c :: r)
    have h1 : digZ (c.toNat : Int) = digJ c := h1
    show (digJ c || c == 46 || c == 101 || c == 69) = (digZ (c.toNat : Int) || decide ((c.toNat : Int) = 46) || decide ((c.toNat : Int) = 101) || decide ((c.toNat : Int) = 69))
    rw [h1]
    have key : ∀ (q : UInt8) (z : Int), (q.toNat : Int) = z → (c == q) = decide ((c.toNat : Int) = z) := by
      intro q z hq
      rw [Bool.eq_iff_iff]
      simp only [beq_iff_eq, decide_eq_true_eq]
      constructor
      · intro e; rw [e]; exact hq
      · intro e; exact UInt8.toNat_inj.1 (by omega)
    rw [key 46 46 rfl, key 101 101 rfl, key 69 69 rfl]
theorem num_cut {R D : List UInt8} (h : digsAt R = D) : R.take (R.length - D.length + (digsJ D).length) = 45 :: digsJ D ∨ R.take (R.length - D.length + (digsJ D).length) = digsJ D := by
  have ht := digsJ_take D
  cases hp : Lib.hasPrefix R [45]
  · have hD : R = D := by unfold digsAt at h; rw [if_neg (by rw [hp]; decide)] at h; exact h
    right
    rw [hD, Nat.sub_self, Nat.zero_add, ← ht]
  · obtain ⟨r, hr⟩ := pre_head.1 hp
    have hD : r = D := by unfold digsAt at h; rw [if_pos hp, hr] at h; exact h
    left
    rw [hr, hD]
    have : (45 :: D).length - D.length + (digsJ D).length = (digsJ D).length + 1 := by simp only [List.length_cons]; omega
    rw [this, List.take_succ_cons, ← ht]
theorem digs_not45 (D : List UInt8) : digsJ D ≠ [45, 48] := by
  unfold digsJ
  split
  · decide
  · intro e
    have h1 : (D.takeWhile digJ).all digJ = true := List.all_takeWhile
    rw [e] at h1
    exact absurd h1 (by decide)
/-- The number's own text, or 0 for -0. -/
theorem num_text {R D : List UInt8} (h : digsAt R = D) {L : List UInt8} (hL : L = R.take (R.length - D.length + (digsJ D).length)) : (if digsJ D = [48] then [48] else L) = if L = [45, 48] then [48] else L := by
  have hc := num_cut h
  rw [← hL] at hc
  by_cases h48 : digsJ D = [48]
  · rw [if_pos h48]
    rcases hc with e | e
    · rw [e, h48, if_pos rfl]
    · rw [e, h48, if_neg (by decide)]
  · rw [if_neg h48, if_neg]
    intro e
    rcases hc with e2 | e2
    · rw [e] at e2
      have := (List.cons.inj e2).2
      exact h48 this.symm
    · rw [e] at e2
      exact digs_not45 D e2.symm
set_option maxRecDepth 100000 in
set_option maxHeartbeats 8000000 in
theorem rnumber_any {a n c0 x0 : Nat} {t : ByteArray} (h0 : c0 = 0) (ha : a ≤ t.size) (hs : t.size ≤ 65536) (hn : n ≤ 2000) (W : World) : Calls Tryz.prog 47 #[stV t a n c0 x0] W (NumE W t n c0 x0 (numD (rest t a))) := by
  have H0 := Lib.hid h0
  clear h0
  have HV := Lib.hid (DocV.start W (t := t) (n := n) (c := c0) (x := x0) ha)
  have i0 : (0 : Int) ≤ (a : Int) := by omega
  obtain ⟨z, hz⟩ : ∃ z, headZ (rest t a) = z := ⟨_, rfl⟩
  have HC0 := Lib.hid (fun wx => hz ▸ rc_any (a := a) (n := n) (c := c0) (x := x0) ha hs wx)
  have k0 := HV.out.1.1.cell 0
  have k1 := HV.out.1.1.cell 1
  have k2 := HV.out.1.1.cell 2
  have k3 := HV.out.1.1.cell 3
  have k4 := HV.out.1.1.cell 4
  go_enter Tryz.func47, Tryz.ntmps47
  go_upto_if 11 with (go_at_call 45; refine (HC0.out _).mono ?_; rintro e w1 ⟨rfl, hb1⟩)
  have HV1 := Lib.hid (HV.out.below hb1)
  clear hb1 HV k0 k1 k2 k3 k4 HC0
  go_cut [] (fun wx => ∃ d1 : Nat, Hid (DocV W wx t d1 n c0 x0) ∧ Hid (rest t d1 = digsAt (rest t a)) ∧ a ≤ d1 ∧ d1 ≤ t.size ∧ Hid (d1 = a + ((rest t a).length - (digsAt (rest t a)).length)))
  case first =>
    by_cases h45 : z = 45
    · have hp : Lib.hasPrefix (rest t a) [45] = true := headZ_pre (q := 45) (by rw [hz, h45]; rfl)
      have hlt : a < t.size := by
        have h1 := pre_le (p := ⟨#[45]⟩) hp
        have : (⟨#[45]⟩ : ByteArray).size = 1 := rfl
        omega
      have HM : Hid (DocV W (w1.setCell ⟨W.heap.size, 1, none⟩ (.int .i64 ((a : Int) + 1))) t (a + 1) n c0 x0) := Lib.hid (HV1.out.moves (b := a + 1) (by omega))
      have HD : Hid (rest t (a + 1) = digsAt (rest t a)) := Lib.hid (by unfold digsAt; rw [if_pos hp, rest_add])
      have HL : Hid (a + 1 = a + ((rest t a).length - (digsAt (rest t a)).length)) := Lib.hid (by rw [← HD.out, rest_length, rest_length]; omega)
      have e45 : (z == 45) = true := by simp [h45]
      clear hz hp
      have k1 := HV1.out.1.1.cell 1
      have f1 := HV1.out.1.1.frozen 1
      go_wp2_with fail
      go_meet
      exact ⟨a + 1, HM, HD, by omega, by omega, HL⟩
    · have hp : Lib.hasPrefix (rest t a) [45] = false := headZ_npre (q := 45) (by rw [hz]; exact h45)
      have HD : Hid (rest t a = digsAt (rest t a)) := Lib.hid (by unfold digsAt; rw [if_neg (by rw [hp]; decide)])
      have HL : Hid (a = a + ((rest t a).length - (digsAt (rest t a)).length)) := Lib.hid (by rw [← HD.out]; omega)
      have e45 : (z == 45) = false := by simp [h45]
      clear hz hp
      go_wp2_with fail
      go_meet
      exact ⟨a, HV1, HD, by omega, by omega, HL⟩
  case rest =>
    obtain ⟨d1, HV2, HD, had, hd1, HL1⟩ := hcut
    clear hz HV1
    obtain ⟨D, hD⟩ : ∃ D, digsAt (rest t a) = D := ⟨_, rfl⟩
    rw [hD] at HD HL1
    have HDD := Lib.hid hD
    clear hD
    obtain ⟨z1, hz1⟩ : ∃ z, headZ (rest t d1) = z := ⟨_, rfl⟩
    have HC1 := Lib.hid (fun wx => hz1 ▸ rc_any (a := d1) (n := n) (c := c0) (x := x0) hd1 hs wx)
    have i1 : (0 : Int) ≤ (d1 : Int) := by omega
    have k0 := HV2.out.1.1.cell 0
    have k1 := HV2.out.1.1.cell 1
    have k2 := HV2.out.1.1.cell 2
    have k3 := HV2.out.1.1.cell 3
    have k4 := HV2.out.1.1.cell 4
    go_upto_if 20 with (go_at_call 45; refine (HC1.out _).mono ?_; rintro e w3 ⟨rfl, hb3⟩)
    have HV3 := Lib.hid (HV2.out.below hb3)
    clear hb3 HV2 k0 k1 k2 k3 k4 HC1
    go_cut [] (fun wx => ∃ d2 : Nat, Hid (DocV W wx t d2 n c0 x0) ∧ Hid (d2 = d1 + (digsJ D).length) ∧ d1 ≤ d2 ∧ d2 ≤ t.size)
    case first =>
      by_cases h48 : z1 = 48
      · have hp : Lib.hasPrefix (rest t d1) [48] = true := headZ_pre (q := 48) (by rw [hz1, h48]; rfl)
        have hlt : d1 < t.size := by
          have h1 := pre_le (p := ⟨#[48]⟩) hp
          have : (⟨#[48]⟩ : ByteArray).size = 1 := rfl
          omega
        have HM : Hid (DocV W (w3.setCell ⟨W.heap.size, 1, none⟩ (.int .i64 ((d1 : Int) + 1))) t (d1 + 1) n c0 x0) := Lib.hid (HV3.out.moves (b := d1 + 1) (by omega))
        have HJ : Hid (d1 + 1 = d1 + (digsJ D).length) := Lib.hid (by unfold digsJ; rw [← HD.out, if_pos hp]; rfl)
        have e48 : (z1 == 48) = true := by simp [h48]
        clear hz1 hp
        have k1 := HV3.out.1.1.cell 1
        have f1 := HV3.out.1.1.frozen 1
        go_wp2_with fail
        go_meet
        exact ⟨d1 + 1, HM, HJ, by omega, by omega⟩
      · have hp : Lib.hasPrefix (rest t d1) [48] = false := headZ_npre (q := 48) (by rw [hz1]; exact h48)
        have HJ : Hid (d1 + (digsJ D).length = d1 + ((rest t d1).takeWhile digJ).length) := Lib.hid (by unfold digsJ; rw [← HD.out, if_neg (by rw [hp]; decide)])
        have e48 : (z1 == 48) = false := by simp [h48]
        clear hz1 hp
        go_wp2_with fail
        try simp only [e48]
        clear e48
        go_loopg [] (t.size + 1) (fun gf wx => ∃ d : Nat, Hid (DocV W wx t d n c0 x0) ∧ Hid (d + ((rest t d).takeWhile digJ).length = d1 + (digsJ D).length) ∧ d1 ≤ d ∧ d ≤ t.size ∧ t.size < d + gf)
        case atStart => exact ⟨d1, HV3, Lib.hid HJ.out.symm, by omega, hd1, by omega⟩
        case round =>
          obtain ⟨d, HVd, HE, hdd, hdt, hg⟩ := hrel
          obtain ⟨zd, hzd⟩ : ∃ z, headZ (rest t d) = z := ⟨_, rfl⟩
          obtain ⟨zl, zh⟩ := hzd ▸ headZ_bound (rest t d)
          have HCd := Lib.hid (hzd ▸ rc_any (a := d) (n := n) (c := c0) (x := x0) hdt hs wr)
          have i2 : (0 : Int) ≤ (d : Int) := by omega
          have k0 := HVd.out.1.1.cell 0
          have k1 := HVd.out.1.1.cell 1
          have k2 := HVd.out.1.1.cell 2
          have k3 := HVd.out.1.1.cell 3
          have k4 := HVd.out.1.1.cell 4
          cases hdg : digZ zd with
          | true =>
            have HDg := Lib.hid (fun w => rdigit_b zl zh hdg w)
            have hlt : d < t.size := by
              rcases Nat.lt_or_ge d t.size with h | h
              · exact h
              · rw [rest_nil h] at hzd
                subst hzd
                exact absurd hdg (by decide)
            have hdj : digJ (t[d]'hlt) = true := by
              have h1 := digZ_head (rest t d)
              rw [hzd, hdg, rest_cons hlt] at h1
              exact h1.symm
            have HE2 : Hid (d + 1 + ((rest t (d + 1)).takeWhile digJ).length = d1 + (digsJ D).length) := Lib.hid (by
              rw [← HE.out, rest_cons hlt, List.takeWhile_cons_of_pos hdj, List.length_cons]
              omega)
            clear hdj HE hdg hzd
            obtain ⟨g', rfl⟩ : ∃ g', gk = g' + 1 := ⟨gk - 1, by omega⟩
            go_wp2_with fail
            go_at_call 45; refine HCd.out.mono ?_; rintro e w5 ⟨rfl, hb5⟩
            have HV5 := Lib.hid (HVd.out.below hb5)
            clear hb5 k0 k1 k2 k3 k4
            have k1 := HV5.out.1.1.cell 1
            have f1 := HV5.out.1.1.frozen 1
            have HM : Hid (DocV W (w5.setCell ⟨W.heap.size, 1, none⟩ (.int .i64 ((d : Int) + 1))) t (d + 1) n c0 x0) := Lib.hid (HV5.out.moves (b := d + 1) (by omega))
            go_wp2_with (go_at_call 46; refine (HDg.out _).mono ?_; rintro e w6 ⟨rfl, rfl⟩)
            go_roundg g'
            case measure => omega
            case rel => exact ⟨d + 1, HM, HE2, by omega, by omega, by omega⟩
          | false =>
            have HDg := Lib.hid (fun w => rdigit_b zl zh hdg w)
            have HE2 : Hid (d = d1 + (digsJ D).length) := Lib.hid (by
              rw [← HE.out]
              have h1 := digZ_head (rest t d)
              rw [hzd, hdg] at h1
              cases hR : rest t d with
              | nil => simp
              | cons c r =>
                rw [hR] at h1
                have h1 : false = digJ c := h1
                rw [List.takeWhile_cons_of_neg (by rw [← h1]; decide)]
                simp)
            clear HE hdg hzd
            go_wp2_with fail
            go_at_call 45; refine HCd.out.mono ?_; rintro e w5 ⟨rfl, hb5⟩
            have HV5 := Lib.hid (HVd.out.below hb5)
            clear hb5 k0 k1 k2 k3 k4
            go_wp2_with (go_at_call 46; refine (HDg.out _).mono ?_; rintro e w6 ⟨rfl, rfl⟩)
            go_meet
            exact ⟨d, HV5, HE2, by omega, hdt⟩
    case rest =>
      obtain ⟨d2, HV4, HJ, hd12, hd2⟩ := hcut
      clear hz1 HV3
      have i2 : (0 : Int) ≤ (d2 : Int) := by omega
      have HDL : Hid (D.length = t.size - d1) := Lib.hid (by rw [← HD.out, rest_length])
      by_cases hemp : d2 = d1
      · have HQ : Hid (numD (rest t a) = .error (30, t.size - d1)) := Lib.hid (by
          have h1 : digsJ D = [] := List.length_eq_zero_iff.1 (by have := HJ.out; omega)
          have h2 := digs_head.1 h1
          unfold numD
          rw [numJ_no (by rw [HDD.out]; exact h2), HDD.out, HDL.out])
        subst hemp
        clear HJ
        have k0 := HV4.out.1.1.cell 0
        have k1 := HV4.out.1.1.cell 1
        have k2 := HV4.out.1.1.cell 2
        have k3 := HV4.out.1.1.cell 3
        have k4 := HV4.out.1.1.cell 4
        have HF := Lib.hid (fail_to (t := t) (a := d2) (n := n) (x := x0) H0.out 30 d2 wc)
        have k0 := HV4.out.1.1.cell 0
        have k1 := HV4.out.1.1.cell 1
        have k2 := HV4.out.1.1.cell 2
        have k3 := HV4.out.1.1.cell 3
        have k4 := HV4.out.1.1.cell 4
        go_wp2_with (go_at_call 27; refine HF.out.mono ?_; rintro e wf ⟨rfl, hbf⟩; refine Hid.out ?_)
        refine Lib.hid ?_
        have HVf := Lib.hid (HV4.out.below hbf)
        clear hbf k0 k1 k2 k3 k4
        have q0 := HVf.out.1.2.1.cell 0
        have q1 := HVf.out.1.2.1.cell 1
        have q2 := HVf.out.1.2.1.cell 2
        have q3 := HVf.out.1.2.1.cell 3
        have q4 := HVf.out.1.2.1.cell 4
        have g0 := HVf.out.1.2.1.frozen 0
        have g1 := HVf.out.1.2.1.frozen 1
        have g2 := HVf.out.1.2.1.frozen 2
        have g3 := HVf.out.1.2.1.frozen 3
        have g4 := HVf.out.1.2.1.frozen 4
        have p0 := HVf.out.2.cell 0
        have p1 := HVf.out.2.cell 1
        have p2 := HVf.out.2.cell 2
        have p3 := HVf.out.2.cell 3
        have p4 := HVf.out.2.cell 4
        have h0 := HVf.out.2.frozen 0
        have h1 := HVf.out.2.frozen 1
        have h2 := HVf.out.2.frozen 2
        have h3 := HVf.out.2.frozen 3
        have h4 := HVf.out.2.frozen 4
        go_wp2_with fail
        have hqe := (HVf.out).ends (.string t) (.int .i64 (d2 : Int)) (.int .i64 (n : Int)) (.int .i64 30) (.int .i64 (d2 : Int)) (.int .i64 0) (.bool false) (.string ⟨#[]⟩) (.slice none 0 0) (.slice none 0 0)
        have r0 := hqe.1.cell 0
        have r1 := hqe.1.cell 1
        have r2 := hqe.1.cell 2
        have r3 := hqe.1.cell 3
        have r4 := hqe.1.cell 4
        have s0 := hqe.2.1.cell 0
        have s1 := hqe.2.1.cell 1
        have s2 := hqe.2.1.cell 2
        have s3 := hqe.2.1.cell 3
        have s4 := hqe.2.1.cell 4
        have HEND := Lib.hid hqe.2.2
        clear hqe
        refine bodyPost_ret (by simp [results, Tryz.results47, go_sem, r0, r1, r2, r3, r4, s0, s1, s2, s3, s4]; try rfl) rfl ?_
        rw [HQ.out]
        exact ⟨HEND.out, d2, 30, by rw [show t.size - (t.size - d2) = d2 by omega] <;> rfl, by omega, by decide, rfl⟩
      have q1 : ¬ (d2 : Int) = (d1 : Int) := by omega
      have e1 : ((d2 : Int) == (d1 : Int)) = false := by simp; omega
      have HHD : Hid ((digsAt (rest t a)).head?.any digJ = true) := Lib.hid (by
        rw [HDD.out]
        cases hh : D.head?.any digJ with
        | true => rfl
        | false =>
          have := digs_head.2 hh
          have h2 := HJ.out
          rw [this] at h2
          exact absurd h2 hemp)
      by_cases hlong : 100 < d2 - d1
      · have HQ : Hid (numD (rest t a) = .error (3, t.size - a)) := Lib.hid (by
          unfold numD
          rw [numJ_long HHD.out (by rw [HDD.out]; have := HJ.out; omega), rest_length])
        have q2 : (100 : Int) < (d2 : Int) - (d1 : Int) := by omega
        clear HJ
        have k0 := HV4.out.1.1.cell 0
        have k1 := HV4.out.1.1.cell 1
        have k2 := HV4.out.1.1.cell 2
        have k3 := HV4.out.1.1.cell 3
        have k4 := HV4.out.1.1.cell 4
        have HF := Lib.hid (fail_to (t := t) (a := d2) (n := n) (x := x0) H0.out 3 a wc)
        have k0 := HV4.out.1.1.cell 0
        have k1 := HV4.out.1.1.cell 1
        have k2 := HV4.out.1.1.cell 2
        have k3 := HV4.out.1.1.cell 3
        have k4 := HV4.out.1.1.cell 4
        go_wp2_with (go_at_call 27; refine HF.out.mono ?_; rintro e wf ⟨rfl, hbf⟩; refine Hid.out ?_)
        refine Lib.hid ?_
        have HVf := Lib.hid (HV4.out.below hbf)
        clear hbf k0 k1 k2 k3 k4
        have q0 := HVf.out.1.2.1.cell 0
        have q1 := HVf.out.1.2.1.cell 1
        have q2 := HVf.out.1.2.1.cell 2
        have q3 := HVf.out.1.2.1.cell 3
        have q4 := HVf.out.1.2.1.cell 4
        have g0 := HVf.out.1.2.1.frozen 0
        have g1 := HVf.out.1.2.1.frozen 1
        have g2 := HVf.out.1.2.1.frozen 2
        have g3 := HVf.out.1.2.1.frozen 3
        have g4 := HVf.out.1.2.1.frozen 4
        have p0 := HVf.out.2.cell 0
        have p1 := HVf.out.2.cell 1
        have p2 := HVf.out.2.cell 2
        have p3 := HVf.out.2.cell 3
        have p4 := HVf.out.2.cell 4
        have h0 := HVf.out.2.frozen 0
        have h1 := HVf.out.2.frozen 1
        have h2 := HVf.out.2.frozen 2
        have h3 := HVf.out.2.frozen 3
        have h4 := HVf.out.2.frozen 4
        go_wp2_with fail
        have hqe := (HVf.out).ends (.string t) (.int .i64 (d2 : Int)) (.int .i64 (n : Int)) (.int .i64 3) (.int .i64 (a : Int)) (.int .i64 0) (.bool false) (.string ⟨#[]⟩) (.slice none 0 0) (.slice none 0 0)
        have r0 := hqe.1.cell 0
        have r1 := hqe.1.cell 1
        have r2 := hqe.1.cell 2
        have r3 := hqe.1.cell 3
        have r4 := hqe.1.cell 4
        have s0 := hqe.2.1.cell 0
        have s1 := hqe.2.1.cell 1
        have s2 := hqe.2.1.cell 2
        have s3 := hqe.2.1.cell 3
        have s4 := hqe.2.1.cell 4
        have HEND := Lib.hid hqe.2.2
        clear hqe
        refine bodyPost_ret (by simp [results, Tryz.results47, go_sem, r0, r1, r2, r3, r4, s0, s1, s2, s3, s4]; try rfl) rfl ?_
        rw [HQ.out]
        exact ⟨HEND.out, d2, 3, by rw [show t.size - (t.size - a) = a by omega] <;> rfl, by omega, by decide, rfl⟩
      have q2 : ¬ (100 : Int) < (d2 : Int) - (d1 : Int) := by omega
      obtain ⟨zc, hzc⟩ : ∃ z, headZ (rest t d2) = z := ⟨_, rfl⟩
      obtain ⟨zl, zh⟩ := hzc ▸ headZ_bound (rest t d2)
      have HCc := Lib.hid (fun wx => hzc ▸ rc_any (a := d2) (n := n) (c := c0) (x := x0) hd2 hs wx)
      have HNJ : Hid (numJ (rest t a) = .ok (⟨(if digsJ D = [48] then [48] else (rest t a).take (d2 - a)).toArray⟩, rest t d2)) := Lib.hid (by
        rw [numJ_ok HHD.out (by rw [HDD.out]; have := HJ.out; omega), HDD.out, ← HD.out, ← rest_add, HD.out, ← HJ.out, rest_length, HDL.out]
        have : t.size - a - (t.size - d1) + (digsJ D).length = d2 - a := by have := HJ.out; omega
        rw [this])
      have HBD : Hid (badH (rest t d2) = (digZ zc || decide (zc = 46) || decide (zc = 101) || decide (zc = 69))) := Lib.hid (by rw [badH_head, hzc])
      have k0 := HV4.out.1.1.cell 0
      have k1 := HV4.out.1.1.cell 1
      have k2 := HV4.out.1.1.cell 2
      have k3 := HV4.out.1.1.cell 3
      have k4 := HV4.out.1.1.cell 4
      go_wp2_with fail
      go_at_call 45; refine (HCc.out _).mono ?_; rintro e wq1 ⟨rfl, hbq⟩
      have HQ1 := Lib.hid (HV4.out.below hbq)
      clear hbq k0 k1 k2 k3 k4
      cases hdg : digZ zc with
      | true =>
        have HDg := Lib.hid (fun w => rdigit_b zl zh hdg w)
        have HQ : Hid (numD (rest t a) = .error (30, t.size - d2)) := Lib.hid (by
          unfold numD
          rw [HNJ.out]
          simp only
          rw [if_pos (by rw [HBD.out]; simp [hdg]), rest_length])
        clear HJ HNJ HBD
        clear hdg
        have k0 := HQ1.out.1.1.cell 0
        have k1 := HQ1.out.1.1.cell 1
        have k2 := HQ1.out.1.1.cell 2
        have k3 := HQ1.out.1.1.cell 3
        have k4 := HQ1.out.1.1.cell 4
        go_wp2_with (go_at_call 46; refine (HDg.out _).mono ?_; rintro e w6 ⟨rfl, rfl⟩)
        clear k0 k1 k2 k3 k4
        have HF := Lib.hid (fail_to (t := t) (a := d2) (n := n) (x := x0) H0.out 30 d2 wq1)
        have k0 := HQ1.out.1.1.cell 0
        have k1 := HQ1.out.1.1.cell 1
        have k2 := HQ1.out.1.1.cell 2
        have k3 := HQ1.out.1.1.cell 3
        have k4 := HQ1.out.1.1.cell 4
        go_wp2_with (go_at_call 27; refine HF.out.mono ?_; rintro e wf ⟨rfl, hbf⟩; refine Hid.out ?_)
        refine Lib.hid ?_
        have HVf := Lib.hid (HQ1.out.below hbf)
        clear hbf k0 k1 k2 k3 k4
        have q0 := HVf.out.1.2.1.cell 0
        have q1 := HVf.out.1.2.1.cell 1
        have q2 := HVf.out.1.2.1.cell 2
        have q3 := HVf.out.1.2.1.cell 3
        have q4 := HVf.out.1.2.1.cell 4
        have g0 := HVf.out.1.2.1.frozen 0
        have g1 := HVf.out.1.2.1.frozen 1
        have g2 := HVf.out.1.2.1.frozen 2
        have g3 := HVf.out.1.2.1.frozen 3
        have g4 := HVf.out.1.2.1.frozen 4
        have p0 := HVf.out.2.cell 0
        have p1 := HVf.out.2.cell 1
        have p2 := HVf.out.2.cell 2
        have p3 := HVf.out.2.cell 3
        have p4 := HVf.out.2.cell 4
        have h0 := HVf.out.2.frozen 0
        have h1 := HVf.out.2.frozen 1
        have h2 := HVf.out.2.frozen 2
        have h3 := HVf.out.2.frozen 3
        have h4 := HVf.out.2.frozen 4
        go_wp2_with fail
        have hqe := (HVf.out).ends (.string t) (.int .i64 (d2 : Int)) (.int .i64 (n : Int)) (.int .i64 30) (.int .i64 (d2 : Int)) (.int .i64 0) (.bool false) (.string ⟨#[]⟩) (.slice none 0 0) (.slice none 0 0)
        have r0 := hqe.1.cell 0
        have r1 := hqe.1.cell 1
        have r2 := hqe.1.cell 2
        have r3 := hqe.1.cell 3
        have r4 := hqe.1.cell 4
        have s0 := hqe.2.1.cell 0
        have s1 := hqe.2.1.cell 1
        have s2 := hqe.2.1.cell 2
        have s3 := hqe.2.1.cell 3
        have s4 := hqe.2.1.cell 4
        have HEND := Lib.hid hqe.2.2
        clear hqe
        refine bodyPost_ret (by simp [results, Tryz.results47, go_sem, r0, r1, r2, r3, r4, s0, s1, s2, s3, s4]; try rfl) rfl ?_
        rw [HQ.out]
        exact ⟨HEND.out, d2, 30, by rw [show t.size - (t.size - d2) = d2 by omega] <;> rfl, by omega, by decide, rfl⟩
      | false =>
        have HDg := Lib.hid (fun w => rdigit_b zl zh hdg w)
        have HDF := Lib.hid hdg
        clear hdg
        have k0 := HQ1.out.1.1.cell 0
        have k1 := HQ1.out.1.1.cell 1
        have k2 := HQ1.out.1.1.cell 2
        have k3 := HQ1.out.1.1.cell 3
        have k4 := HQ1.out.1.1.cell 4
        go_wp2_with (go_at_call 46; refine (HDg.out _).mono ?_; rintro e w6 ⟨rfl, rfl⟩; refine Hid.out ?_)
        refine Lib.hid ?_
        clear k0 k1 k2 k3 k4
        have k0 := HQ1.out.1.1.cell 0
        have k1 := HQ1.out.1.1.cell 1
        have k2 := HQ1.out.1.1.cell 2
        have k3 := HQ1.out.1.1.cell 3
        have k4 := HQ1.out.1.1.cell 4
        go_wp2_with fail
        go_at_call 45; refine (HCc.out _).mono ?_; rintro e wq2 ⟨rfl, hbq⟩
        have HQ2 := Lib.hid (HQ1.out.below hbq)
        clear hbq k0 k1 k2 k3 k4
        by_cases c46 : zc = 46
        · have e46 : (zc == 46) = true := by simp [c46]
          have HQ : Hid (numD (rest t a) = .error (30, t.size - d2)) := Lib.hid (by
            unfold numD
            rw [HNJ.out]
            simp only
            rw [if_pos (by rw [HBD.out]; simp [c46]), rest_length])
          clear HJ HNJ HBD
          have HF := Lib.hid (fail_to (t := t) (a := d2) (n := n) (x := x0) H0.out 30 d2 wq2)
          have k0 := HQ2.out.1.1.cell 0
          have k1 := HQ2.out.1.1.cell 1
          have k2 := HQ2.out.1.1.cell 2
          have k3 := HQ2.out.1.1.cell 3
          have k4 := HQ2.out.1.1.cell 4
          go_wp2_with (go_at_call 27; refine HF.out.mono ?_; rintro e wf ⟨rfl, hbf⟩; refine Hid.out ?_)
          refine Lib.hid ?_
          have HVf := Lib.hid (HQ2.out.below hbf)
          clear hbf k0 k1 k2 k3 k4
          have q0 := HVf.out.1.2.1.cell 0
          have q1 := HVf.out.1.2.1.cell 1
          have q2 := HVf.out.1.2.1.cell 2
          have q3 := HVf.out.1.2.1.cell 3
          have q4 := HVf.out.1.2.1.cell 4
          have g0 := HVf.out.1.2.1.frozen 0
          have g1 := HVf.out.1.2.1.frozen 1
          have g2 := HVf.out.1.2.1.frozen 2
          have g3 := HVf.out.1.2.1.frozen 3
          have g4 := HVf.out.1.2.1.frozen 4
          have p0 := HVf.out.2.cell 0
          have p1 := HVf.out.2.cell 1
          have p2 := HVf.out.2.cell 2
          have p3 := HVf.out.2.cell 3
          have p4 := HVf.out.2.cell 4
          have h0 := HVf.out.2.frozen 0
          have h1 := HVf.out.2.frozen 1
          have h2 := HVf.out.2.frozen 2
          have h3 := HVf.out.2.frozen 3
          have h4 := HVf.out.2.frozen 4
          go_wp2_with fail
          have hqe := (HVf.out).ends (.string t) (.int .i64 (d2 : Int)) (.int .i64 (n : Int)) (.int .i64 30) (.int .i64 (d2 : Int)) (.int .i64 0) (.bool false) (.string ⟨#[]⟩) (.slice none 0 0) (.slice none 0 0)
          have r0 := hqe.1.cell 0
          have r1 := hqe.1.cell 1
          have r2 := hqe.1.cell 2
          have r3 := hqe.1.cell 3
          have r4 := hqe.1.cell 4
          have s0 := hqe.2.1.cell 0
          have s1 := hqe.2.1.cell 1
          have s2 := hqe.2.1.cell 2
          have s3 := hqe.2.1.cell 3
          have s4 := hqe.2.1.cell 4
          have HEND := Lib.hid hqe.2.2
          clear hqe
          refine bodyPost_ret (by simp [results, Tryz.results47, go_sem, r0, r1, r2, r3, r4, s0, s1, s2, s3, s4]; try rfl) rfl ?_
          rw [HQ.out]
          exact ⟨HEND.out, d2, 30, by rw [show t.size - (t.size - d2) = d2 by omega] <;> rfl, by omega, by decide, rfl⟩
        have e46 : (zc == 46) = false := by simp [c46]
        have k0 := HQ2.out.1.1.cell 0
        have k1 := HQ2.out.1.1.cell 1
        have k2 := HQ2.out.1.1.cell 2
        have k3 := HQ2.out.1.1.cell 3
        have k4 := HQ2.out.1.1.cell 4
        go_wp2_with fail
        go_at_call 45; refine (HCc.out _).mono ?_; rintro e wq3 ⟨rfl, hbq⟩
        have HQ3 := Lib.hid (HQ2.out.below hbq)
        clear hbq k0 k1 k2 k3 k4
        by_cases c101 : zc = 101
        · have e101 : (zc == 101) = true := by simp [c101]
          have HQ : Hid (numD (rest t a) = .error (30, t.size - d2)) := Lib.hid (by
            unfold numD
            rw [HNJ.out]
            simp only
            rw [if_pos (by rw [HBD.out]; simp [c101]), rest_length])
          clear HJ HNJ HBD
          have HF := Lib.hid (fail_to (t := t) (a := d2) (n := n) (x := x0) H0.out 30 d2 wq3)
          have k0 := HQ3.out.1.1.cell 0
          have k1 := HQ3.out.1.1.cell 1
          have k2 := HQ3.out.1.1.cell 2
          have k3 := HQ3.out.1.1.cell 3
          have k4 := HQ3.out.1.1.cell 4
          go_wp2_with (go_at_call 27; refine HF.out.mono ?_; rintro e wf ⟨rfl, hbf⟩; refine Hid.out ?_)
          refine Lib.hid ?_
          have HVf := Lib.hid (HQ3.out.below hbf)
          clear hbf k0 k1 k2 k3 k4
          have q0 := HVf.out.1.2.1.cell 0
          have q1 := HVf.out.1.2.1.cell 1
          have q2 := HVf.out.1.2.1.cell 2
          have q3 := HVf.out.1.2.1.cell 3
          have q4 := HVf.out.1.2.1.cell 4
          have g0 := HVf.out.1.2.1.frozen 0
          have g1 := HVf.out.1.2.1.frozen 1
          have g2 := HVf.out.1.2.1.frozen 2
          have g3 := HVf.out.1.2.1.frozen 3
          have g4 := HVf.out.1.2.1.frozen 4
          have p0 := HVf.out.2.cell 0
          have p1 := HVf.out.2.cell 1
          have p2 := HVf.out.2.cell 2
          have p3 := HVf.out.2.cell 3
          have p4 := HVf.out.2.cell 4
          have h0 := HVf.out.2.frozen 0
          have h1 := HVf.out.2.frozen 1
          have h2 := HVf.out.2.frozen 2
          have h3 := HVf.out.2.frozen 3
          have h4 := HVf.out.2.frozen 4
          go_wp2_with fail
          have hqe := (HVf.out).ends (.string t) (.int .i64 (d2 : Int)) (.int .i64 (n : Int)) (.int .i64 30) (.int .i64 (d2 : Int)) (.int .i64 0) (.bool false) (.string ⟨#[]⟩) (.slice none 0 0) (.slice none 0 0)
          have r0 := hqe.1.cell 0
          have r1 := hqe.1.cell 1
          have r2 := hqe.1.cell 2
          have r3 := hqe.1.cell 3
          have r4 := hqe.1.cell 4
          have s0 := hqe.2.1.cell 0
          have s1 := hqe.2.1.cell 1
          have s2 := hqe.2.1.cell 2
          have s3 := hqe.2.1.cell 3
          have s4 := hqe.2.1.cell 4
          have HEND := Lib.hid hqe.2.2
          clear hqe
          refine bodyPost_ret (by simp [results, Tryz.results47, go_sem, r0, r1, r2, r3, r4, s0, s1, s2, s3, s4]; try rfl) rfl ?_
          rw [HQ.out]
          exact ⟨HEND.out, d2, 30, by rw [show t.size - (t.size - d2) = d2 by omega] <;> rfl, by omega, by decide, rfl⟩
        have e101 : (zc == 101) = false := by simp [c101]
        have k0 := HQ3.out.1.1.cell 0
        have k1 := HQ3.out.1.1.cell 1
        have k2 := HQ3.out.1.1.cell 2
        have k3 := HQ3.out.1.1.cell 3
        have k4 := HQ3.out.1.1.cell 4
        go_wp2_with fail
        go_at_call 45; refine (HCc.out _).mono ?_; rintro e wq4 ⟨rfl, hbq⟩
        have HQ4 := Lib.hid (HQ3.out.below hbq)
        clear hbq k0 k1 k2 k3 k4
        by_cases c69 : zc = 69
        · have e69 : (zc == 69) = true := by simp [c69]
          have HQ : Hid (numD (rest t a) = .error (30, t.size - d2)) := Lib.hid (by
            unfold numD
            rw [HNJ.out]
            simp only
            rw [if_pos (by rw [HBD.out]; simp [c69]), rest_length])
          clear HJ HNJ HBD
          have HF := Lib.hid (fail_to (t := t) (a := d2) (n := n) (x := x0) H0.out 30 d2 wq4)
          have k0 := HQ4.out.1.1.cell 0
          have k1 := HQ4.out.1.1.cell 1
          have k2 := HQ4.out.1.1.cell 2
          have k3 := HQ4.out.1.1.cell 3
          have k4 := HQ4.out.1.1.cell 4
          go_wp2_with (go_at_call 27; refine HF.out.mono ?_; rintro e wf ⟨rfl, hbf⟩; refine Hid.out ?_)
          refine Lib.hid ?_
          have HVf := Lib.hid (HQ4.out.below hbf)
          clear hbf k0 k1 k2 k3 k4
          have q0 := HVf.out.1.2.1.cell 0
          have q1 := HVf.out.1.2.1.cell 1
          have q2 := HVf.out.1.2.1.cell 2
          have q3 := HVf.out.1.2.1.cell 3
          have q4 := HVf.out.1.2.1.cell 4
          have g0 := HVf.out.1.2.1.frozen 0
          have g1 := HVf.out.1.2.1.frozen 1
          have g2 := HVf.out.1.2.1.frozen 2
          have g3 := HVf.out.1.2.1.frozen 3
          have g4 := HVf.out.1.2.1.frozen 4
          have p0 := HVf.out.2.cell 0
          have p1 := HVf.out.2.cell 1
          have p2 := HVf.out.2.cell 2
          have p3 := HVf.out.2.cell 3
          have p4 := HVf.out.2.cell 4
          have h0 := HVf.out.2.frozen 0
          have h1 := HVf.out.2.frozen 1
          have h2 := HVf.out.2.frozen 2
          have h3 := HVf.out.2.frozen 3
          have h4 := HVf.out.2.frozen 4
          go_wp2_with fail
          have hqe := (HVf.out).ends (.string t) (.int .i64 (d2 : Int)) (.int .i64 (n : Int)) (.int .i64 30) (.int .i64 (d2 : Int)) (.int .i64 0) (.bool false) (.string ⟨#[]⟩) (.slice none 0 0) (.slice none 0 0)
          have r0 := hqe.1.cell 0
          have r1 := hqe.1.cell 1
          have r2 := hqe.1.cell 2
          have r3 := hqe.1.cell 3
          have r4 := hqe.1.cell 4
          have s0 := hqe.2.1.cell 0
          have s1 := hqe.2.1.cell 1
          have s2 := hqe.2.1.cell 2
          have s3 := hqe.2.1.cell 3
          have s4 := hqe.2.1.cell 4
          have HEND := Lib.hid hqe.2.2
          clear hqe
          refine bodyPost_ret (by simp [results, Tryz.results47, go_sem, r0, r1, r2, r3, r4, s0, s1, s2, s3, s4]; try rfl) rfl ?_
          rw [HQ.out]
          exact ⟨HEND.out, d2, 30, by rw [show t.size - (t.size - d2) = d2 by omega] <;> rfl, by omega, by decide, rfl⟩
        have e69 : (zc == 69) = false := by simp [c69]
        have HQK : Hid (numD (rest t a) = .ok (⟨(if digsJ D = [48] then [48] else (rest t a).take (d2 - a)).toArray⟩, rest t d2)) := Lib.hid (by
          unfold numD
          rw [HNJ.out]
          simp only
          rw [if_neg (by rw [HBD.out, HDF.out]; simp [c46, c101, c69])])
        have HXL : Hid ((t.extract a d2).data.toList = (rest t a).take (d2 - a)) := Lib.hid (extract_len (by omega))
        have q3 : (a : Int) ≤ (d2 : Int) := by omega
        have q4 : (d2 : Int) ≤ (t.size : Int) := by omega
        have HTX : Hid ((if digsJ D = [48] then [48] else (rest t a).take (d2 - a)) = if (rest t a).take (d2 - a) = [45, 48] then [48] else (rest t a).take (d2 - a)) := Lib.hid (num_text HDD.out (by
          rw [rest_length, HDL.out]
          have h1 := HJ.out
          have h2 := HL1.out
          rw [rest_length, HDL.out] at h2
          congr 1
          omega))
        rw [HTX.out] at HQK
        clear HJ HTX HNJ HBD c46 c101 c69
        cases hcm : ((t.extract a d2).toList == [45, 48])
        · have HSV : Hid ((⟨(if (rest t a).take (d2 - a) = [45, 48] then [48] else (rest t a).take (d2 - a)).toArray⟩ : ByteArray) = t.extract a d2) := Lib.hid (by
            have hx := beq_eq_false_iff_ne.1 hcm
            rw [ByteArray.toList_eq, HXL.out] at hx
            rw [if_neg hx, ← HXL.out])
          have k0 := HQ4.out.1.1.cell 0
          have k1 := HQ4.out.1.1.cell 1
          have k2 := HQ4.out.1.1.cell 2
          have k3 := HQ4.out.1.1.cell 3
          have k4 := HQ4.out.1.1.cell 4
          have q0 := HQ4.out.1.2.1.cell 0
          have q1 := HQ4.out.1.2.1.cell 1
          have q2 := HQ4.out.1.2.1.cell 2
          have q3 := HQ4.out.1.2.1.cell 3
          have q4 := HQ4.out.1.2.1.cell 4
          have g0 := HQ4.out.1.2.1.frozen 0
          have g1 := HQ4.out.1.2.1.frozen 1
          have g2 := HQ4.out.1.2.1.frozen 2
          have g3 := HQ4.out.1.2.1.frozen 3
          have g4 := HQ4.out.1.2.1.frozen 4
          have p0 := HQ4.out.2.cell 0
          have p1 := HQ4.out.2.cell 1
          have p2 := HQ4.out.2.cell 2
          have p3 := HQ4.out.2.cell 3
          have p4 := HQ4.out.2.cell 4
          have h0 := HQ4.out.2.frozen 0
          have h1 := HQ4.out.2.frozen 1
          have h2 := HQ4.out.2.frozen 2
          have h3 := HQ4.out.2.frozen 3
          have h4 := HQ4.out.2.frozen 4
          go_wp2_with fail
          have hqe := (HQ4.out).ends (.string t) (.int .i64 (d2 : Int)) (.int .i64 (n : Int)) (.int .i64 (c0 : Int)) (.int .i64 (x0 : Int)) (.int .i64 3) (.bool false) (.string (t.extract a d2)) (.slice none 0 0) (.slice none 0 0)
          have r0 := hqe.1.cell 0
          have r1 := hqe.1.cell 1
          have r2 := hqe.1.cell 2
          have r3 := hqe.1.cell 3
          have r4 := hqe.1.cell 4
          have s0 := hqe.2.1.cell 0
          have s1 := hqe.2.1.cell 1
          have s2 := hqe.2.1.cell 2
          have s3 := hqe.2.1.cell 3
          have s4 := hqe.2.1.cell 4
          have HEND := Lib.hid hqe.2.2
          clear hqe
          refine bodyPost_ret (by simp [results, Tryz.results47, go_sem, r0, r1, r2, r3, r4, s0, s1, s2, s3, s4]; try rfl) rfl ?_
          rw [HQK.out]
          exact ⟨HEND.out, d2, by rw [HSV.out], by omega, rfl⟩
        · have HSV : Hid ((⟨(if (rest t a).take (d2 - a) = [45, 48] then [48] else (rest t a).take (d2 - a)).toArray⟩ : ByteArray) = ⟨#[48]⟩) := Lib.hid (by
            have hx := beq_iff_eq.1 hcm
            rw [ByteArray.toList_eq, HXL.out] at hx
            rw [if_pos hx])
          have k0 := HQ4.out.1.1.cell 0
          have k1 := HQ4.out.1.1.cell 1
          have k2 := HQ4.out.1.1.cell 2
          have k3 := HQ4.out.1.1.cell 3
          have k4 := HQ4.out.1.1.cell 4
          have q0 := HQ4.out.1.2.1.cell 0
          have q1 := HQ4.out.1.2.1.cell 1
          have q2 := HQ4.out.1.2.1.cell 2
          have q3 := HQ4.out.1.2.1.cell 3
          have q4 := HQ4.out.1.2.1.cell 4
          have g0 := HQ4.out.1.2.1.frozen 0
          have g1 := HQ4.out.1.2.1.frozen 1
          have g2 := HQ4.out.1.2.1.frozen 2
          have g3 := HQ4.out.1.2.1.frozen 3
          have g4 := HQ4.out.1.2.1.frozen 4
          have p0 := HQ4.out.2.cell 0
          have p1 := HQ4.out.2.cell 1
          have p2 := HQ4.out.2.cell 2
          have p3 := HQ4.out.2.cell 3
          have p4 := HQ4.out.2.cell 4
          have h0 := HQ4.out.2.frozen 0
          have h1 := HQ4.out.2.frozen 1
          have h2 := HQ4.out.2.frozen 2
          have h3 := HQ4.out.2.frozen 3
          have h4 := HQ4.out.2.frozen 4
          go_wp2_with fail
          have hqe := (HQ4.out).ends (.string t) (.int .i64 (d2 : Int)) (.int .i64 (n : Int)) (.int .i64 (c0 : Int)) (.int .i64 (x0 : Int)) (.int .i64 3) (.bool false) (.string ⟨#[48]⟩) (.slice none 0 0) (.slice none 0 0)
          have r0 := hqe.1.cell 0
          have r1 := hqe.1.cell 1
          have r2 := hqe.1.cell 2
          have r3 := hqe.1.cell 3
          have r4 := hqe.1.cell 4
          have s0 := hqe.2.1.cell 0
          have s1 := hqe.2.1.cell 1
          have s2 := hqe.2.1.cell 2
          have s3 := hqe.2.1.cell 3
          have s4 := hqe.2.1.cell 4
          have HEND := Lib.hid hqe.2.2
          clear hqe
          refine bodyPost_ret (by simp [results, Tryz.results47, go_sem, r0, r1, r2, r3, r4, s0, s1, s2, s3, s4]; try rfl) rfl ?_
          rw [HQK.out]
          exact ⟨HEND.out, d2, by rw [HSV.out], by omega, rfl⟩
end Go.Proofs.YtnmfoedfllmclaaGreatDoor
