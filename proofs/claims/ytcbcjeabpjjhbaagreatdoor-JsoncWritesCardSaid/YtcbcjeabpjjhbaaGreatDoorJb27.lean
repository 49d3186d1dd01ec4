/- key: one that isn't among those seen · value.List; a list of two values -/
import Derived.Maps.OwnSet
import Derived.Maps.Views
import Derived.Test.YtcbcjeabpjjhbaaGreatDoorJb07
import Derived.Test.YtcbcjeabpjjhbaaGreatDoorJb17
import Derived.Test.YtcbcjeabpjjhbaaGreatDoorJb26
namespace Go.Proofs.YtcbcjeabpjjhbaaGreatDoor
open Go.RowKit Go.Shelf Go.Maps Go.WideMaps
set_option linter.unusedVariables false

def litOf (k : ByteArray) : Lit := .string k.data.toList
def seenD (ks : List ByteArray) : DataW Unit := setOf (.agg []) (ks.map litOf)
/-- Block M is the set of these keys. -/
def SeenAt (W : World) (M : Nat) (ks : List ByteArray) : Prop := W.ownsMap (H := Unit) Tryz.prog 9 unitElem M ks.length (seenD ks)
theorem seenD_snoc (ks : List ByteArray) (k : ByteArray) : seenD (ks ++ [k]) = (seenD ks).put (litOf k) (.agg []) := by
  unfold seenD
  rw [List.map_append]
  exact setOf_snoc _ _ _
theorem bytes_eq {a b : ByteArray} (h : a.data.toList = b.data.toList) : a = b := by
  cases a; cases b
  congr 1
  exact Array.toList_inj.1 h
theorem has_seen (ks : List ByteArray) (k : ByteArray) : Maps.has (seenD ks) (litOf k) = ks.contains k := by
  unfold seenD
  rw [has_setOf _ _ _ (fun x hx => by obtain ⟨y, -, rfl⟩ := List.mem_map.1 hx; exact trivial)]
  induction ks with
  | nil => rfl
  | cons a l ih =>
    rw [List.map_cons, List.any_cons, ih, List.contains_cons]
    have e : (litOf a).sameKey (litOf k) = (k == a) := by
      show (a.data.toList == k.data.toList) = (k == a)
      cases a with | mk x => cases k with | mk y =>
      show (x.toList == y.toList) = (y == x)
      rw [Bool.eq_iff_iff, beq_iff_eq, beq_iff_eq]
      exact ⟨fun h => (Array.toList_inj.1 h).symm, fun h => by rw [h]⟩
    rw [e]
theorem law_str : Keyed Tryz.prog 9 := string_keyed Tryz.underlying9
/-- All blocks that were there but two are as they were. -/
structure OffM (P M : Nat) (W w' : World) : Prop where
  os : w'.os = W.os
  tape : w'.tape = W.tape
  output : w'.output = W.output
  size : W.heap.size ≤ w'.heap.size
  block : ∀ k, k < W.heap.size → k ≠ P → k ≠ M → w'.heap[k]? = W.heap[k]?
theorem OffM.of {P M : Nat} {W w w' : World} (h : Aside P W w) {row : Option Nat} (hg : w.grownBy w' row) (hr : ∀ k, row = some k → k = M) : OffM P M W w' :=
  ⟨hg.os.trans h.os, hg.tape.trans h.tape, hg.output.trans h.output, Nat.le_trans h.size hg.size, fun k hk h1 h2 => (hg.block k (Nat.lt_of_lt_of_le hk h.size) (fun e => h2 (hr k e.symm))).trans (h.block k hk h1)⟩
theorem SeenAt.aside {P M : Nat} {W w' : World} {ks : List ByteArray} (h : SeenAt W M ks) (ha : Aside P W w') (hne : M ≠ P) : SeenAt w' M ks := by
  obtain ⟨es, clock, h1, h2, h3, h4⟩ := h
  exact ⟨es, clock, (ha.block M (Array.getElem?_eq_some_iff.1 h1).1 hne).trans h1, h2, h3, h4⟩
theorem quotedJ_size {R R' : List UInt8} {s : ByteArray} (h : quotedJ R = .ok (s, R')) : s.size ≤ 16384 := by
  unfold quotedJ at h
  split at h
  · cases h
  · split at h
    · cases h
    · cases h
      show (_ : List UInt8).toArray.size ≤ _
      simp
      omega
/-- How key ends. -/
def KEnds (W : World) (P M : Nat) (t : ByteArray) (n : Nat) (ks : List ByteArray) (r : Except Bad (ByteArray × List UInt8)) (e : Ending) (w' : World) : Prop :=
  match r with
  | .ok (k, R') => e = .returned (.string k) ∧ k.size ≤ 16384 ∧ ∃ a', OffM P M W w' ∧ Rdr w' P t a' n ∧ rest t a' = R' ∧ SeenAt w' M (ks ++ [k])
  | .error b => Thrown W P t b e w'
theorem keyJ_none {ks : List ByteArray} {R : List UInt8} (h : Lib.hasPrefix (skipB R) [34] = false) : keyJ ks R = .error (30, (skipB R).length) := by
  unfold keyJ; rw [if_neg (by rw [h]; decide)]
theorem keyJ_err {ks : List ByteArray} {R : List UInt8} {b : Bad} (h : Lib.hasPrefix (skipB R) [34] = true) (hq : quotedJ (skipB R) = .error b) : keyJ ks R = .error b := by
  unfold keyJ; rw [if_pos h, hq]
theorem keyJ_twice {ks : List ByteArray} {R R' : List UInt8} {k : ByteArray} (h : Lib.hasPrefix (skipB R) [34] = true) (hq : quotedJ (skipB R) = .ok (k, R')) (hc : ks.contains k = true) : keyJ ks R = .error (2, (skipB R).length) := by
  unfold keyJ; rw [if_pos h, hq]; simp only; rw [if_pos hc]
theorem keyJ_ok {ks : List ByteArray} {R R' : List UInt8} {k : ByteArray} (h : Lib.hasPrefix (skipB R) [34] = true) (hq : quotedJ (skipB R) = .ok (k, R')) (hc : ks.contains k = false) : keyJ ks R = .ok (k, R') := by
  unfold keyJ; rw [if_pos h, hq]; simp only; rw [if_neg (by rw [hc]; decide)]
theorem head_pre {R : List UInt8} {q : UInt8} (hq : q ≠ 0) : ((headN R : Int) == (q.toNat : Int)) = Lib.hasPrefix R [q] := by
  cases R with
  | nil =>
    show (((0 : Nat) : Int) == (q.toNat : Int)) = false
    refine beq_eq_false_iff_ne.2 (fun e => hq (UInt8.toNat_inj.1 ?_))
    have : 0 = q.toNat := by omega
    exact this.symm
  | cons c r =>
    show ((c.toNat : Int) == (q.toNat : Int)) = (q == c && true)
    rw [Bool.and_true, Bool.eq_iff_iff, beq_iff_eq, beq_iff_eq]
    constructor
    · intro h; exact UInt8.toNat_inj.1 (by omega)
    · rintro rfl; rfl
theorem zero_unit (w : World) : (zeroValue 123).run Tryz.prog w = .ok (.agg #[]) w := by kernel_rfl
theorem seen_put {W : World} {M : Nat} {ks : List ByteArray} {k : ByteArray} (h : W.ownsMap (H := Unit) Tryz.prog 9 unitElem M (ks.length + 1) ((seenD ks).put (litOf k) (.agg []))) : SeenAt W M (ks ++ [k]) := by
  unfold SeenAt
  rw [List.length_append, List.length_singleton, seenD_snoc]
  exact h
theorem rdr_grown {W W' : World} {P a n : Nat} {t : ByteArray} (h : Rdr W P t a n) {row : Option Nat} (hg : W.grownBy W' row) (hr : ∀ k, row = some k → k ≠ P) : Rdr W' P t a n :=
  ⟨(hg.block P h.1.lt (fun e => hr P e.symm rfl)).trans h.1, h.2⟩
theorem thrown_at {W W1 : World} {P p : Nat} {t : ByteArray} {c : Int} {l : Nat} (ha : Aside P W W1) (hl : t.size - l = p) : Thrown W P t (c, l) (.panicked [{ v := .iface 34 (.pointer (some ⟨W1.heap.size, 0, none⟩)), recovered := false }]) (W1.alloc (.cells #[.int .i64 c, .string ⟨#[]⟩, .int .i64 (p : Int)] 48)) :=
  ⟨W1.heap.size, rfl, ha.size, by subst hl; exact Blk.new _ _ _, ha.trans (Aside.of (below_new0 _ _))⟩
set_option maxRecDepth 100000 in
set_option maxHeartbeats 4000000 in
theorem key_any {W : World} {P M a n : Nat} {t : ByteArray} {ks : List ByteArray} (h : Rdr W P t a n) (hR : ReadyJ W) (hP7 : 7 ≤ P) (hs : SeenAt W M ks) (hMP : M ≠ P) (hks : ks.length ≤ 10000) :
    Calls Tryz.prog 80 #[.pointer (some ⟨P, 0, none⟩), .map (some M)] W (KEnds W P M t n ks (keyJ ks (rest t a))) := by
  have HS := Lib.hid h
  have HR := Lib.hid hR
  have HB := Lib.hid (blanks_any h)
  have HM := Lib.hid hs
  have hh := head_pre (R := skipB (rest t a)) (q := 34) (by decide)
  clear h hR hs
  cases hq : Lib.hasPrefix (skipB (rest t a)) [34]
  · rw [hq] at hh
    have HX := Lib.hid (keyJ_none (ks := ks) hq)
    have hb : ((headN (skipB (rest t a)) : Int) == 34) = false := hh
    have hb2 : ((headN (skipB (rest t a)) : Int) != 34) = true := by simp only [bne, hb]; rfl
    obtain ⟨hd, hhd⟩ : ∃ hd, headN (skipB (rest t a)) = hd := ⟨_, rfl⟩
    rw [hhd] at hb hb2
    clear hq hh
    go_enter Tryz.func80, Tryz.ntmps80
    go_wp2_with fail
    go_at_call 42; refine HB.out.mono ?_; rintro e w1 ⟨rfl, c1, hw1, hc1⟩
    have HP1 := Lib.hid (peek_any hw1.2)
    rw [hc1, hhd] at HP1
    have k1 := hw1.2.1.cell 1
    have HW1 := Lib.hid hw1
    have HC1 := Lib.hid hc1
    clear hw1 hc1 hhd
    go_wp2_with (first | (go_at_call 57; refine HP1.out.mono ?_; rintro e w2 ⟨rfl, hb2⟩) | (go_at_call 40; refine (diag_any _ _ _).mono ?_; rintro e w3 ⟨rfl, rfl⟩))
    refine ⟨rfl, ?_⟩
    rw [HX.out]
    exact thrown_new (c := 30) (HW1.out.trans (HW1.out.2.stays hb2)) (l := (skipB (rest t a)).length) (by rw [← HC1.out]; exact rest_back HW1.out.2.2.1)
  · rw [hq] at hh
    have hb : ((headN (skipB (rest t a)) : Int) == 34) = true := hh
    have hb2 : ((headN (skipB (rest t a)) : Int) != 34) = false := by simp only [bne, hb]; rfl
    obtain ⟨hd, hhd⟩ : ∃ hd, headN (skipB (rest t a)) = hd := ⟨_, rfl⟩
    rw [hhd] at hb hb2
    obtain ⟨X, hX⟩ : ∃ X, quotedJ (skipB (rest t a)) = X := ⟨_, rfl⟩
    have HX := Lib.hid hX
    have HQ := Lib.hid hq
    clear hh hq hX
    go_enter Tryz.func80, Tryz.ntmps80
    go_wp2_with fail
    go_at_call 42; refine HB.out.mono ?_; rintro e w1 ⟨rfl, c1, hw1, hc1⟩
    have HP1 := Lib.hid (peek_any hw1.2)
    rw [hc1, hhd] at HP1
    have k1 := hw1.2.1.cell 1
    have HL : Hid (c1 < t.size) := Lib.hid (by
      have h1 := HQ.out
      rw [← hc1] at h1
      obtain ⟨r, hr⟩ := pre_head.1 h1
      have h2 := rest_length t c1
      rw [hr, List.length_cons] at h2
      omega)
    have HW1 := Lib.hid hw1
    have HC1 := Lib.hid hc1
    clear hw1 hc1 hhd
    go_wp2_with (go_at_call 57; refine HP1.out.mono ?_; rintro e w2 ⟨rfl, hbw⟩)
    have HW2 := Lib.hid (HW1.out.trans (HW1.out.2.stays hbw))
    clear hbw k1
    have hquo := quoted_any HW2.out.2 (HR.out.aside HW2.out.1 hP7) hP7 HL.out
    rw [HC1.out, HX.out] at hquo
    have HU := Lib.hid hquo
    have HP : Hid (t.size - (skipB (rest t a)).length = c1) := Lib.hid (by rw [← HC1.out]; exact rest_back (Nat.le_of_lt HL.out))
    clear hquo HP1 HB HS
    go_at_call 59; refine HU.out.mono ?_; clear HU
    cases X with
    | error b =>
      rintro e w3 ⟨D, rfl, h1, h2, h3⟩
      refine ⟨rfl, ?_⟩
      rw [keyJ_err HQ.out HX.out]
      exact Thrown.after ⟨D, rfl, h1, h2, h3⟩ HW2.out.1
    | ok y =>
      obtain ⟨k, R'⟩ := y
      rintro e w3 ⟨rfl, c3, hw3, hc3⟩
      have hk16 := quotedJ_size HX.out
      have HW3 := Lib.hid (HW2.out.trans hw3)
      have HC3 := Lib.hid hc3
      have HM3 := Lib.hid (HM.out.aside HW3.out.1 hMP)
      have hkey : keyOf Tryz.prog 9 (.string k) = some (litOf k) := keyOf_string_mk Tryz.underlying9 (by unfold maxLen; omega)
      clear hw3 hc3 HW1 HW2 HC1
      cases hc : ks.contains k
      · have hhas : Maps.has (seenD ks) (litOf k) = false := (has_seen ks k).trans hc
        have HH := Lib.hid hc
        clear hc
        go_wp2_with (first
          | (at_lookup; refine wpList_lookup_own_unit _ rfl _ _ 106 rfl 9 123 law_str Tryz.underlying106 (zero_unit _) M ks.length (seenD ks) rfl HM3.out _ (litOf k) rfl hkey ?_; rw [hhas])
          | (at_mapUpdate; refine wpList_mapUpdate_own _ rfl _ _ _ 106 rfl 9 123 law_str Tryz.underlying106 unitElem M ks.length (seenD ks) rfl (HM3.out.alloc _) (by unfold maxLen; omega) _ _ (litOf k) rfl rfl hkey (.agg []) [] unitElem_mk ?_; intro w4 hown4 hgrow4))
        go_ret
        rw [keyJ_ok HQ.out HX.out HH.out]
        have ha := HW3.out.1.trans (Aside.of ((Below.refl _ w3).alloc (Nat.le_refl _) (.cells #[] 123)))
        exact ⟨rfl, hk16, c3, OffM.of ha hgrow4 (fun j hj => by cases hj; rfl), rdr_grown (HW3.out.2.below ((Below.refl _ w3).alloc (Nat.le_refl _) _)) hgrow4 (fun j hj => by cases hj; exact hMP), HC3.out, seen_put hown4⟩
      · have hhas : Maps.has (seenD ks) (litOf k) = true := (has_seen ks k).trans hc
        have HH := Lib.hid hc
        clear hc
        go_wp2_with (first
          | (at_lookup; refine wpList_lookup_own_unit _ rfl _ _ 106 rfl 9 123 law_str Tryz.underlying106 (zero_unit _) M ks.length (seenD ks) rfl HM3.out _ (litOf k) rfl hkey ?_; rw [hhas])
          | (go_at_call 40; refine (diag_any _ _ _).mono ?_; rintro e w4 ⟨rfl, rfl⟩))
        refine ⟨rfl, ?_⟩
        rw [keyJ_twice HQ.out HX.out HH.out]
        have hT := thrown_at (c := 2) (HW3.out.1.trans (Aside.of ((Below.refl _ w3).alloc (Nat.le_refl _) (.cells #[] 123)))) HP.out
        have hs : (w3.alloc (.cells #[] 123)).heap.size = w3.heap.size + 1 := by simp
        rw [hs] at hT
        exact hT
end Go.Proofs.YtcbcjeabpjjhbaaGreatDoor
namespace Go.Proofs.YtcbcjeabpjjhbaaGreatDoor
open Go.RowKit
set_option linter.unusedVariables false

set_option maxRecDepth 100000 in
set_option maxHeartbeats 4000000 in
theorem list_any {B : Nat} {w : World} {its : List VT} {ad : Option Addr} {cap g o : Nat} {ik : Nat → Int} {ib : Nat → Bool} {it : Nat → ByteArray} {ii iv : Nat → Value} (hsm : its.length ≤ 1000000) (hsi : ∀ x ∈ its, smallT x)
    (ha : 0 < its.length → ad = some ⟨g, o, none⟩ ∧ g < B)
    (hcell : ∀ j, j < its.length → Five w g (o + j * 5) (.int .i64 (ik j)) (.bool (ib j)) (.string (it j)) (ii j) (iv j))
    (hrec : ∀ j (h : j < its.length), Is B w (.agg #[.int .i64 (ik j), .bool (ib j), .string (it j), ii j, iv j]) its[j])
    (W : World) (hb : Below B w W) (hBW : B ≤ W.heap.size) : Calls Tryz.prog 78 #[.slice ad its.length cap] W (Clones (.node 5 false ⟨#[]⟩ its []) W) := by
  have en : nil5 = #[.int .i64 0, .bool false, .string ⟨#[]⟩, .slice none 0 0, .slice none 0 0] := rfl
  have hb0 := below_new W (.cells nil5 26)
  have hr0 := Blk.new W nil5 26
  have HZ0 : Hid ((W.alloc (.cells nil5 26)).heap.size = W.heap.size + 1) := Lib.hid (by simp)
  have HAll := Lib.hid (cloneAll_of (cap := cap) hsm ha hcell hrec (fun j hj => clone_any (hrec j hj) (hsi _ (List.getElem_mem hj))) (W.alloc (.cells nil5 26)) (hb.trans (hb0.mono hBW)) (Nat.le_trans hBW hb0.size))
  obtain ⟨len, hlen⟩ : ∃ len, its.length = len := ⟨_, rfl⟩
  have HL := Lib.hid hlen
  rw [hlen] at HAll ⊢
  have HSM := Lib.hid hsm
  rw [en] at hb0 hr0 HZ0 HAll
  have HB0 := Lib.hid hb0
  have HR0 := Lib.hid hr0
  clear hsm hsi ha hcell hrec hlen hb0 hr0 hb hBW
  go_enter Tryz.func78, Tryz.ntmps78
  go_wp2_with fail
  go_at_call 100; refine HAll.out.mono ?_; rintro e w1 ⟨ad', cap', rfl, hitf, hb1⟩
  rw [HL.out]
  have HIT := Lib.hid hitf
  have HBx1 := Lib.hid hb1
  have HB1 := Lib.hid (HB0.out.trans (hb1.mono HB0.out.size))
  have hr1 := HR0.out.below hb1
  have HR1 := Lib.hid hr1
  have r0 := hr1.cell 0
  have r1 := hr1.cell 1
  have r2 := hr1.cell 2
  have r3 := hr1.cell 3
  have r4 := hr1.cell 4
  have s0 := hr1.frozen 0
  have s1 := hr1.frozen 1
  have s2 := hr1.frozen 2
  have s3 := hr1.frozen 3
  have s4 := hr1.frozen 4
  clear hitf hb1 hr1
  go_wp2_with fail
  have HR3 := HR1.out.set5 (.int .i64 5) (.bool false) (.string ⟨#[]⟩) (.slice ad' len cap') (.slice none 0 0)
  have d0 := HR3.cell 0
  have d1 := HR3.cell 1
  have d2 := HR3.cell 2
  have d3 := HR3.cell 3
  have d4 := HR3.cell 4
  have hfin : Clones (.node 5 false ⟨#[]⟩ its []) W (.returned (.agg #[.int .i64 5, .bool false, .string ⟨#[]⟩, .slice ad' len cap', .slice none 0 0])) (set5 w1 W.heap.size 0 (.int .i64 5) (.bool false) (.string ⟨#[]⟩) (.slice ad' len cap') (.slice none 0 0)) := by
    refine ⟨_, rfl, ?_, below_set5at HB1.out (Nat.le_refl _) _ _ _ _ _ _⟩
    have hz := HZ0.out
    have hx1 := HBx1.out.size
    have hks : StrsF W.heap.size W.heap.size W (.slice none 0 0) [] := ⟨none, 0, rfl, by simp, by simp, fun h => absurd h (by simp)⟩
    have hf := fresh_of (lo0 := W.heap.size) (k := 5) (b := false) (t := ⟨#[]⟩) (w3 := set5 w1 W.heap.size 0 (.int .i64 5) (.bool false) (.string ⟨#[]⟩) (.slice ad' len cap') (.slice none 0 0)) hks HIT.out (by have := HSM.out; have := HL.out; omega) (fun g h1 h2 => by omega) (fun g h1 h2 => set5_other _ _ _ _ _ _ _ _ (by omega)) (Nat.le_refl _) (by omega) (by rw [set5_size]; have := HB1.out.size; omega) (by rw [set5_size]; exact Nat.le_refl _)
    rw [HL.out] at hf
    exact hf
  refine bodyPost_ret (v := .agg #[.int .i64 5, .bool false, .string ⟨#[]⟩, .slice ad' len cap', .slice none 0 0]) ?_ rfl hfin
  simp [results, Tryz.results78, go_sem, d0, d1, d2, d3, d4]

/-- A list of two values. -/
theorem list_pair {B : Nat} {w : World} {k k' : Int} {b b' : Bool} {t t' : ByteArray} {x y x' y' : Value} {T T' : VT} (h : Is B w (.agg #[.int .i64 k, .bool b, .string t, x, y]) T) (h' : Is B w (.agg #[.int .i64 k', .bool b', .string t', x', y']) T') (hs : smallT T) (hs' : smallT T') (W : World) (hb : Below B w W) (hBW : B ≤ W.heap.size) (X : Nat) (hX : Blk W X #[.int .i64 k, .bool b, .string t, x, y, .int .i64 k', .bool b', .string t', x', y'] 26) :
    Calls Tryz.prog 78 #[.slice (some ⟨X, 0, none⟩) 2 2] W (Clones (.node 5 false ⟨#[]⟩ [T, T'] []) W) := by
  have hI : Is W.heap.size W (.agg #[.int .i64 k, .bool b, .string t, x, y]) T := (h.later hb).wide hBW
  have hI' : Is W.heap.size W (.agg #[.int .i64 k', .bool b', .string t', x', y']) T' := (h'.later hb).wide hBW
  refine list_any (its := [T, T']) (g := X) (o := 0) (ik := fun j => if j = 0 then k else k') (ib := fun j => if j = 0 then b else b') (it := fun j => if j = 0 then t else t') (ii := fun j => if j = 0 then x else x') (iv := fun j => if j = 0 then y else y') (B := W.heap.size) (w := W) (by simp) (fun z hz => by simp at hz; rcases hz with rfl | rfl <;> assumption) (fun _ => ⟨rfl, hX.lt⟩) (fun j hj => ?_) (fun j hj => ?_) W (Below.refl _ _) (Nat.le_refl _)
  · have hj2 : j < 2 := hj
    rcases (show j = 0 ∨ j = 1 by omega) with rfl | rfl
    · exact ⟨hX.cell 0, hX.cell 1, hX.cell 2, hX.cell 3, hX.cell 4⟩
    · exact ⟨hX.cell 5, hX.cell 6, hX.cell 7, hX.cell 8, hX.cell 9⟩
  · have hj2 : j < 2 := hj
    rcases (show j = 0 ∨ j = 1 by omega) with rfl | rfl
    · exact hI
    · exact hI'
end Go.Proofs.YtcbcjeabpjjhbaaGreatDoor
