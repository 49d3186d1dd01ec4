/- value.List; a list of two values · value.Object of two values, its keys p and q · value.goodKeys -/
import Derived.Test.YtjgbhnbfojkhoaaGreatDoorOw09
import Derived.Test.YtjgbhnbfojkhoaaGreatDoorOw12
import Derived.Test.YtjgbhnbfojkhoaaGreatDoorOw22
namespace Go.Proofs.YtjgbhnbfojkhoaaGreatDoor
open Go.RowKit
set_option linter.unusedVariables false

set_option maxRecDepth 100000 in
set_option maxHeartbeats 4000000 in
theorem list_any {B : Nat} {w : World} {its : List VT} {ad : Option Addr} {cap g o : Nat} {ik : Nat → Int} {ib : Nat → Bool} {it : Nat → ByteArray} {ii iv : Nat → Value} (hsm : its.length ≤ 1000000) (hsi : ∀ x ∈ its, smallT x)
    (ha : 0 < its.length → ad = some ⟨g, o, none⟩ ∧ g < B)
    (hcell : ∀ j, j < its.length → Five w g (o + j * 5) (.int .i64 (ik j)) (.bool (ib j)) (.string (it j)) (ii j) (iv j))
    (hrec : ∀ j (h : j < its.length), Is B w (.agg #[.int .i64 (ik j), .bool (ib j), .string (it j), ii j, iv j]) its[j])
    (W : World) (hb : Below B w W) (hBW : B ≤ W.heap.size) : Calls Tryz.prog 26 #[.slice ad its.length cap] W (Clones (.node 5 false ⟨#[]⟩ its []) W) := by
  have en : nil5 = #[.int .i64 0, .bool false, .string ⟨#[]⟩, .slice none 0 0, .slice none 0 0] := rfl
  have hb0 := below_new W (.cells nil5 26)
  have hr0 := Blk.new W nil5 26
  have HZ0 : Hid ((W.alloc (.cells nil5 26)).heap.size = W.heap.size + 1) := Lib.hid (by simp)
  have HAll := Lib.hid (cloneAll_of (cap := cap) hsm ha hcell hrec (fun j hj => clone_any (hrec j hj) (hsi _ (List.getElem_mem hj))) (W.alloc (.cells nil5 26)) (hb.trans (hb0.mono hBW)) (Nat.le_trans hBW hb0.size))
  obtain ⟨len, hlen⟩ : ∃ len, its.length = len := ⟨_, rfl⟩
  have HL := Lib.hid hlen
  rw [hlen] at HAll ⊢
  have HSM := Lib.hid hsm
  rw [en] at hb0 hr0 HZ0 HAll
  have HB0 := Lib.hid hb0
  have HR0 := Lib.hid hr0
  clear hsm hsi ha hcell hrec hlen hb0 hr0 hb hBW
  go_enter Tryz.func26, Tryz.ntmps26
  go_wp2_with fail
  go_at_call 54; refine HAll.out.mono ?_; rintro e w1 ⟨ad', cap', rfl, hitf, hb1⟩
  rw [HL.out]
  have HIT := Lib.hid hitf
  have HBx1 := Lib.hid hb1
  have HB1 := Lib.hid (HB0.out.trans (hb1.mono HB0.out.size))
  have hr1 := HR0.out.below hb1
  have HR1 := Lib.hid hr1
  have r0 := hr1.cell 0
  have r1 := hr1.cell 1
  have r2 := hr1.cell 2
  have r3 := hr1.cell 3
  have r4 := hr1.cell 4
  have s0 := hr1.frozen 0
  have s1 := hr1.frozen 1
  have s2 := hr1.frozen 2
  have s3 := hr1.frozen 3
  have s4 := hr1.frozen 4
  clear hitf hb1 hr1
  go_wp2_with fail
  have HR3 := HR1.out.set5 (.int .i64 5) (.bool false) (.string ⟨#[]⟩) (.slice ad' len cap') (.slice none 0 0)
  have d0 := HR3.cell 0
  have d1 := HR3.cell 1
  have d2 := HR3.cell 2
  have d3 := HR3.cell 3
  have d4 := HR3.cell 4
  have hfin : Clones (.node 5 false ⟨#[]⟩ its []) W (.returned (.agg #[.int .i64 5, .bool false, .string ⟨#[]⟩, .slice ad' len cap', .slice none 0 0])) (set5 w1 W.heap.size 0 (.int .i64 5) (.bool false) (.string ⟨#[]⟩) (.slice ad' len cap') (.slice none 0 0)) := by
    refine ⟨_, rfl, ?_, below_set5at HB1.out (Nat.le_refl _) _ _ _ _ _ _⟩
    have hz := HZ0.out
    have hx1 := HBx1.out.size
    have hks : StrsF W.heap.size W.heap.size W (.slice none 0 0) [] := ⟨none, 0, rfl, by simp, by simp, fun h => absurd h (by simp)⟩
    have hf := fresh_of (lo0 := W.heap.size) (k := 5) (b := false) (t := ⟨#[]⟩) (w3 := set5 w1 W.heap.size 0 (.int .i64 5) (.bool false) (.string ⟨#[]⟩) (.slice ad' len cap') (.slice none 0 0)) hks HIT.out (by have := HSM.out; have := HL.out; omega) (fun g h1 h2 => by omega) (fun g h1 h2 => set5_other _ _ _ _ _ _ _ _ (by omega)) (Nat.le_refl _) (by omega) (by rw [set5_size]; have := HB1.out.size; omega) (by rw [set5_size]; exact Nat.le_refl _)
    rw [HL.out] at hf
    exact hf
  refine bodyPost_ret (v := .agg #[.int .i64 5, .bool false, .string ⟨#[]⟩, .slice ad' len cap', .slice none 0 0]) ?_ rfl hfin
  simp [results, Tryz.results26, go_sem, d0, d1, d2, d3, d4]

/-- A list of two values. -/
theorem list_pair {B : Nat} {w : World} {k k' : Int} {b b' : Bool} {t t' : ByteArray} {x y x' y' : Value} {T T' : VT} (h : Is B w (.agg #[.int .i64 k, .bool b, .string t, x, y]) T) (h' : Is B w (.agg #[.int .i64 k', .bool b', .string t', x', y']) T') (hs : smallT T) (hs' : smallT T') (W : World) (hb : Below B w W) (hBW : B ≤ W.heap.size) (X : Nat) (hX : Blk W X #[.int .i64 k, .bool b, .string t, x, y, .int .i64 k', .bool b', .string t', x', y'] 26) :
    Calls Tryz.prog 26 #[.slice (some ⟨X, 0, none⟩) 2 2] W (Clones (.node 5 false ⟨#[]⟩ [T, T'] []) W) := by
  have hI : Is W.heap.size W (.agg #[.int .i64 k, .bool b, .string t, x, y]) T := (h.later hb).wide hBW
  have hI' : Is W.heap.size W (.agg #[.int .i64 k', .bool b', .string t', x', y']) T' := (h'.later hb).wide hBW
  refine list_any (its := [T, T']) (g := X) (o := 0) (ik := fun j => if j = 0 then k else k') (ib := fun j => if j = 0 then b else b') (it := fun j => if j = 0 then t else t') (ii := fun j => if j = 0 then x else x') (iv := fun j => if j = 0 then y else y') (B := W.heap.size) (w := W) (by simp) (fun z hz => by simp at hz; rcases hz with rfl | rfl <;> assumption) (fun _ => ⟨rfl, hX.lt⟩) (fun j hj => ?_) (fun j hj => ?_) W (Below.refl _ _) (Nat.le_refl _)
  · have hj2 : j < 2 := hj
    rcases (show j = 0 ∨ j = 1 by omega) with rfl | rfl
    · exact ⟨hX.cell 0, hX.cell 1, hX.cell 2, hX.cell 3, hX.cell 4⟩
    · exact ⟨hX.cell 5, hX.cell 6, hX.cell 7, hX.cell 8, hX.cell 9⟩
  · have hj2 : j < 2 := hj
    rcases (show j = 0 ∨ j = 1 by omega) with rfl | rfl
    · exact hI
    · exact hI'
end Go.Proofs.YtjgbhnbfojkhoaaGreatDoor
namespace Go.Proofs.YtjgbhnbfojkhoaaGreatDoor
open Go.RowKit Go.Sort Go.Shelf
set_option linter.unusedVariables false

def kP : ByteArray := ⟨#[112]⟩
def kQ : ByteArray := ⟨#[113]⟩
def ksPQ : List ByteArray := [kP, kQ]
theorem sorted_pq (hI : Inhabited (Fin ksPQ.length)) (d' : Array (Fin ksPQ.length)) (hp : PermIn 0 ksPQ.length (List.finRange ksPQ.length).toArray d') (hs : SortedIn (ltOf (byKey ksPQ)) 0 ksPQ.length d') : d'.toList.map (encFin ksPQ.length) = [.int .i64 0, .int .i64 1] := by
  obtain ⟨l⟩ := d'
  have h1 : l.length = 2 := hp.1
  match l, h1 with
  | [x, y], _ =>
    have hxy : [x, y].Perm (List.finRange 2) := hp.2.2
    have hnd : [x, y].Nodup := hxy.nodup_iff.2 (List.nodup_finRange _)
    have hne : x ≠ y := by
      intro e; subst e; simp at hnd
    have h3 : ltOf (byKey ksPQ) y x = false := hs 0 1 (by omega) (by omega) (by show (1 : Nat) < 2; omega)
    have hb : bLt kP kQ = true := by decide
    obtain ⟨x, hx⟩ := x
    obtain ⟨y, hy⟩ := y
    have hx2 : x < 2 := hx
    have hy2 : y < 2 := hy
    rcases (show (x = 0 ∧ y = 1) ∨ (x = 1 ∧ y = 0) by
      have : x ≠ y := fun e => hne (by subst e; rfl)
      omega) with ⟨rfl, rfl⟩ | ⟨rfl, rfl⟩
    · rfl
    · rw [byKey_lt] at h3
      have : bLt kP kQ = false := h3
      rw [hb] at this; cases this

theorem places_pq {w : World} {kv : Value} (hk : StrsAt w.heap.size w kv ksPQ) : Calls Tryz.prog 56 #[kv] w fun e w' => e = .returned (.slice (some ⟨w.heap.size + 1, 0, none⟩) ksPQ.length ksPQ.length) ∧ Below w.heap.size w w' ∧ w.heap.size + 1 < w'.heap.size ∧ ∀ j, j < ksPQ.length → w'.cell? ⟨w.heap.size + 1, j, none⟩ = some (.int .i64 (([0, 1].getD j 0 : Nat) : Int)) := by
  refine places_loop hk (by decide) (by decide) _ (fun W hb hr hc => ?_)
  refine (sort_small (by decide) (by decide) hk hb hr hc).mono ?_
  rintro e w' ⟨rfl, hI, d', hp, hs, hb2, ho⟩
  rw [sorted_pq hI d' hp hs] at ho
  refine ⟨rfl, rfl, hb2, (World.ownsRow.lt ho _ rfl).2, fun j hj => ?_⟩
  have hj2 : j < 2 := hj
  have h0 := World.ownsRow.cells ho (g := w.heap.size + 1) rfl j (.int .i64 (([0, 1].getD j 0 : Nat) : Int)) (by
    rcases (show j = 0 ∨ j = 1 by omega) with rfl | rfl <;> rfl)
  rw [Lib.add_plain, Nat.zero_add] at h0
  exact h0

theorem object_pq {w : World} {kv iv : Value} {xs : List It} (hk : StrsAt w.heap.size w kv ksPQ) (hx : ItemsAt w.heap.size w iv xs) (hsm : ∀ e ∈ xs, smallT e.T) (hl : xs.length = 2) :
    Calls Tryz.prog 24 #[kv, iv] w fun e w' => ∃ v' T, e = .returned (.tuple #[v', .int .i64 0]) ∧ Fresh w.heap.size w'.heap.size w' v' T ∧ Below w.heap.size w w' := by
  refine (object_gen (PO := fun ps => ps = [0, 1]) (fun ps e => ?_) hk hx hsm hl (by decide) (by decide) (Lib.hid (fun W hb => (places_pq ((hk.below hb).mono hb.size)).mono fun e w' h => ⟨[0, 1], rfl, h⟩))).mono ?_
  · subst e
    refine ⟨rfl, fun k hk2 => ?_⟩
    have hk2' : k < 2 := hk2
    rcases (show k = 0 ∨ k = 1 by omega) with rfl | rfl <;> decide
  · rintro e w' ⟨ps, rfl, ⟨⟨v', rfl, hf, hb⟩, -⟩ | ⟨-, -, j, hj, hne⟩⟩
    · exact ⟨v', _, rfl, hf, hb⟩
    · have hj2 : j + 1 < 2 := hj
      obtain rfl : j = 0 := by omega
      refine absurd ?_ hne
      unfold Differ
      rw [ByteArray.toList_eq, ByteArray.toList_eq]
      decide
/-- Of two boxed values. -/
theorem object_pair {B : Nat} {w : World} {k k' : Int} {b b' : Bool} {t t' : ByteArray} {x y x' y' : Value} {T T' : VT} (h : Is B w (.agg #[.int .i64 k, .bool b, .string t, x, y]) T) (h' : Is B w (.agg #[.int .i64 k', .bool b', .string t', x', y']) T') (hs : smallT T) (hs' : smallT T') (W : World) (hb : Below B w W) (hBW : B ≤ W.heap.size) (K X : Nat)
    (hK : Blk W K #[.string ⟨#[112]⟩, .string ⟨#[113]⟩] 9) (hX : Blk W X #[.int .i64 k, .bool b, .string t, x, y, .int .i64 k', .bool b', .string t', x', y'] 26) :
    Calls Tryz.prog 24 #[.slice (some ⟨K, 0, none⟩) 2 2, .slice (some ⟨X, 0, none⟩) 2 2] W fun e w' => ∃ v' T, e = .returned (.tuple #[v', .int .i64 0]) ∧ Fresh W.heap.size w'.heap.size w' v' T ∧ Below W.heap.size W w' := by
  have hI : Is W.heap.size W (.agg #[.int .i64 k, .bool b, .string t, x, y]) T := (h.later hb).wide hBW
  have hI' : Is W.heap.size W (.agg #[.int .i64 k', .bool b', .string t', x', y']) T' := (h'.later hb).wide hBW
  refine object_pq (xs := [⟨k, b, t, x, y, T⟩, ⟨k', b', t', x', y', T'⟩]) ?_ ?_ (fun e he => by simp at he; rcases he with rfl | rfl <;> assumption) rfl
  · refine ⟨_, 2, rfl, by decide, by decide, fun _ => ⟨K, 0, rfl, hK.lt, fun j hj => ?_⟩⟩
    have hj2 : j < 2 := hj
    rw [Nat.zero_add, hK.cell j]
    rcases (show j = 0 ∨ j = 1 by omega) with rfl | rfl <;> rfl
  · refine ⟨_, 2, rfl, by simp, by simp, fun _ => ⟨X, 0, rfl, hX.lt, fun j hj => ?_⟩, fun e he => ?_⟩
    · have hj2 : j < 2 := hj
      rcases (show j = 0 ∨ j = 1 by omega) with rfl | rfl
      · exact ⟨hX.cell 0, hX.cell 1, hX.cell 2, hX.cell 3, hX.cell 4⟩
      · exact ⟨hX.cell 5, hX.cell 6, hX.cell 7, hX.cell 8, hX.cell 9⟩
    · simp at he
      rcases he with rfl | rfl
      · exact hI
      · exact hI'
end Go.Proofs.YtjgbhnbfojkhoaaGreatDoor
namespace Go.Proofs.YtjgbhnbfojkhoaaGreatDoor
open Go.RowKit
set_option linter.unusedVariables false

/-- The key at place j is as it should be. -/
def keyOk (ks : List ByteArray) (j : Nat) : Prop := (ks.getD j ⟨#[]⟩).size ≤ 16384 ∧ (0 < j → bLt (ks.getD (j - 1) ⟨#[]⟩) (ks.getD j ⟨#[]⟩) = true)
theorem keysOk_iff : ∀ ks : List ByteArray, keysOk ks = true ↔ ∀ j, j < ks.length → keyOk ks j
  | [] => by simp [keysOk]
  | [a] => by
    unfold keysOk keyOk
    rw [decide_eq_true_iff]
    constructor
    · intro h j hj
      obtain rfl : j = 0 := by simp at hj; omega
      exact ⟨h, fun h => by omega⟩
    · intro h; exact (h 0 (by simp)).1
  | a :: b :: l => by
    have ih := keysOk_iff (b :: l)
    unfold keysOk
    rw [Bool.and_eq_true_iff, Bool.and_eq_true_iff, decide_eq_true_iff, ih]
    constructor
    · rintro ⟨⟨h1, h2⟩, h3⟩ j hj
      match j with
      | 0 => exact ⟨h1, fun h => by omega⟩
      | 1 => exact ⟨(h3 0 (by simp)).1, fun _ => h2⟩
      | j + 2 =>
        have := h3 (j + 1) (by simpa using hj)
        exact ⟨this.1, fun _ => this.2 (by omega)⟩
    · intro h
      refine ⟨⟨(h 0 (by simp)).1, (h 1 (by simp)).2 (by omega)⟩, fun j hj => ?_⟩
      have h1 := h (j + 1) (by simpa using hj)
      refine ⟨h1.1, fun hp => ?_⟩
      have := h1.2 (by omega)
      rw [show j + 1 - 1 = j - 1 + 1 by omega] at this
      exact this
theorem keysOk_yes {ks : List ByteArray} (h : ∀ j, j < ks.length → keyOk ks j) : keysOk ks = true := (keysOk_iff ks).2 h
theorem keysOk_no {ks : List ByteArray} {j : Nat} (hj : j < ks.length) (h : ¬ keyOk ks j) : keysOk ks = false := by
  cases e : keysOk ks
  · rfl
  · exact absurd ((keysOk_iff ks).1 e j hj) h

theorem bLt_asymm {a b : ByteArray} (h : bLt a b = true) : bLt b a = false := by
  unfold bLt at *
  simp only [decide_eq_true_eq, decide_eq_false_iff_not] at *
  exact List.lt_asymm h
theorem bLt_ne {a b : ByteArray} (h : bLt a b = true) : (b.toList == a.toList) = false := by
  rw [beq_eq_false_iff_ne]
  intro e
  rw [ByteArray.toList_eq, ByteArray.toList_eq] at e
  unfold bLt at h
  rw [e, decide_eq_true_iff] at h
  exact List.lt_irrefl _ h
theorem bLt_same {a b : ByteArray} (h : bLt a b = false) (h' : bLt b a = false) : (b.toList == a.toList) = true := by
  rw [beq_iff_eq, ByteArray.toList_eq, ByteArray.toList_eq]
  unfold bLt at *
  simp only [decide_eq_false_iff_not, List.not_lt] at *
  exact List.le_antisymm h h'
set_option maxRecDepth 100000 in
set_option maxHeartbeats 2000000 in
theorem goodKeys_any {B : Nat} {w : World} {v : Value} {ks : List ByteArray} (h : StrsAt B w v ks) : Calls Tryz.prog 157 #[v] w fun e w' => e = .returned (.bool (keysOk ks)) ∧ w = w' := by
  obtain ⟨ad, cap, rfl, hnc, hcap, hc⟩ := h
  have HC := Lib.hid hc
  obtain ⟨n, hn⟩ : ∃ n, ks.length = n := ⟨_, rfl⟩
  have HN := Lib.hid hn
  rw [hn] at hnc hcap ⊢
  clear hc hn
  obtain ⟨r, hr⟩ : ∃ r, keysOk ks = r := ⟨_, rfl⟩
  have HR := Lib.hid hr
  rw [hr]
  clear hr
  go_enter Tryz.func157, Tryz.ntmps157
  go_wp2
  go_loop [7] (fun jv => ∃ j : Nat, jv = .int .i64 j ∧ j ≤ n ∧ Hid (∀ i, i < j → keyOk ks i)) (fun jv => n - (intOf jv).toNat)
  case atStart => exact ⟨0, rfl, by omega, Lib.hid (fun i h => by omega)⟩
  case round =>
    obtain ⟨j, rfl, hj, HI⟩ := hrel
    by_cases hlt : j < n
    · have hjl : j < ks.length := by have := HN.out; omega
      obtain ⟨g, o, rfl, -, hcs⟩ := HC.out (by omega)
      have hcell := hcs j hjl
      have ed : ks.getD j ⟨#[]⟩ = ks[j] := by simp [List.getD, hjl]
      obtain ⟨kj, hkj⟩ : ∃ kj, ks[j] = kj := ⟨_, rfl⟩
      rw [hkj] at hcell ed
      have HE := Lib.hid ed
      have i1 : (0 : Int) ≤ (j : Int) := by omega
      have i2 : (j : Int) < (n : Int) := by omega
      clear ed hkj
      by_cases hsz : kj.size ≤ 16384
      · rcases Nat.eq_zero_or_pos j with hj0 | hj0
        · subst hj0
          rw [Nat.add_zero] at hcell
          clear hcs
          go_wp2
          go_round
          case rel => exact ⟨1, by go_num, by omega, Lib.hid (fun i hi => by
            obtain rfl : i = 0 := by omega
            exact ⟨by rw [HE.out]; exact hsz, fun h => by omega⟩)⟩
          case measure => simp [intOf]; omega
        · obtain ⟨l, rfl⟩ : ∃ l, j = l + 1 := ⟨j - 1, by omega⟩
          have hll : l < ks.length := by omega
          have hcl := hcs l hll
          have edl : ks.getD l ⟨#[]⟩ = ks[l] := by simp [List.getD, hll]
          obtain ⟨kl, hkl⟩ : ∃ kl, ks[l] = kl := ⟨_, rfl⟩
          rw [hkl] at hcl edl
          have HEl := Lib.hid edl
          have i3 : (0 : Int) ≤ (l : Int) := by omega
          have i4 : (l : Int) < (n : Int) := by omega
          have hbl := bLess_eq kj kl
          clear edl hkl hcs
          cases hb : bLt kl kj
          · have HB := Lib.hid hb
            have HF : Hid (r = false) := Lib.hid (by
              rw [← HR.out]
              refine keysOk_no hjl (fun h => ?_)
              have := h.2 (by omega)
              rw [Nat.add_sub_cancel, HEl.out, HE.out, HB.out] at this
              cases this)
            cases hb2 : bLt kj kl
            · rw [hb2] at hbl
              have heq : (kj.toList == kl.toList) = true := bLt_same hb hb2
              clear hb hb2
              go_wp2
              go_ret
              exact ⟨by rw [HF.out]; rfl, rfl⟩
            · rw [hb2] at hbl
              clear hb hb2
              go_wp2
              go_ret
              exact ⟨by rw [HF.out]; rfl, rfl⟩
          · have HB := Lib.hid hb
            rw [bLt_asymm hb] at hbl
            have heq : (kj.toList == kl.toList) = false := bLt_ne hb
            clear hb
            go_wp2
            go_round
            case rel => exact ⟨l + 1 + 1, by go_num, by omega, Lib.hid (fun i hi => by
              rcases Nat.eq_or_lt_of_le (show i ≤ l + 1 by omega) with h | h
              · subst h; exact ⟨by rw [HE.out]; exact hsz, fun _ => by rw [Nat.add_sub_cancel, HEl.out, HE.out]; exact HB.out⟩
              · exact HI.out i h)⟩
            case measure => simp [intOf]; omega
      · have HF : Hid (r = false) := Lib.hid (by
          rw [← HR.out]
          refine keysOk_no hjl (fun h => hsz ?_)
          have := h.1
          rw [HE.out] at this
          exact this)
        clear hcs
        go_wp2
        go_ret
        exact ⟨by rw [HF.out]; rfl, rfl⟩
    · have HT : Hid (r = true) := Lib.hid (by rw [← HR.out]; exact keysOk_yes (fun j hj => HI.out j (by have := HN.out; omega)))
      go_wp2
      go_ret
      exact ⟨by rw [HT.out]; rfl, rfl⟩
end Go.Proofs.YtjgbhnbfojkhoaaGreatDoor
