/- value.goodKeys · Objects of any keys: what is put in one by one, and what is sorted, are one · What is read of a JSON text: plain functions of the bytes that are left · What the document reads of a JSON text: it looks at what stands behind a number at once; the same errors at the same bytes -/
import Derived.Laws.RangeAny
import Derived.Lib.Strings
import Derived.Lib.RuneBytes
import Derived.Test.YtnmfoedfllmclaaGreatDoorJr01
import Derived.Test.YtnmfoedfllmclaaGreatDoorJr03
import Derived.Test.YtnmfoedfllmclaaGreatDoorJr07
import Derived.Test.YtnmfoedfllmclaaGreatDoorJr08
namespace Go.Proofs.YtnmfoedfllmclaaGreatDoor
open Go.RowKit
set_option linter.unusedVariables false

/-- The key at place j is as it should be. -/
def keyOk (ks : List ByteArray) (j : Nat) : Prop := (ks.getD j ⟨#[]⟩).size ≤ 16384 ∧ (0 < j → bLt (ks.getD (j - 1) ⟨#[]⟩) (ks.getD j ⟨#[]⟩) = true)
theorem keysOk_iff : ∀ ks : List ByteArray, keysOk ks = true ↔ ∀ j, j < ks.length → keyOk ks j
  | [] => by simp [keysOk]
  | [a] => by
    unfold keysOk keyOk
    rw [decide_eq_true_iff]
    constructor
    · intro h j hj
      obtain rfl : j = 0 := by simp at hj; omega
      exact ⟨h, fun h => by omega⟩
    · intro h; exact (h 0 (by simp)).1
  | a :: b :: l => by
    have ih := keysOk_iff (b :: l)
    unfold keysOk
    rw [Bool.and_eq_true_iff, Bool.and_eq_true_iff, decide_eq_true_iff, ih]
    constructor
    · rintro ⟨⟨h1, h2⟩, h3⟩ j hj
      match j with
      | 0 => exact ⟨h1, fun h => by omega⟩
      | 1 => exact ⟨(h3 0 (by simp)).1, fun _ => h2⟩
      | j + 2 =>
        have := h3 (j + 1) (by simpa using hj)
        exact ⟨this.1, fun _ => this.2 (by omega)⟩
    · intro h
      refine ⟨⟨(h 0 (by simp)).1, (h 1 (by simp)).2 (by omega)⟩, fun j hj => ?_⟩
      have h1 := h (j + 1) (by simpa using hj)
      refine ⟨h1.1, fun hp => ?_⟩
      have := h1.2 (by omega)
      rw [show j + 1 - 1 = j - 1 + 1 by omega] at this
      exact this
theorem keysOk_yes {ks : List ByteArray} (h : ∀ j, j < ks.length → keyOk ks j) : keysOk ks = true := (keysOk_iff ks).2 h
theorem keysOk_no {ks : List ByteArray} {j : Nat} (hj : j < ks.length) (h : ¬ keyOk ks j) : keysOk ks = false := by
  cases e : keysOk ks
  · rfl
  · exact absurd ((keysOk_iff ks).1 e j hj) h

theorem bLt_asymm {a b : ByteArray} (h : bLt a b = true) : bLt b a = false := by
  unfold bLt at *
  simp only [decide_eq_true_eq, decide_eq_false_iff_not] at *
  exact List.lt_asymm h
theorem bLt_ne {a b : ByteArray} (h : bLt a b = true) : (b.toList == a.toList) = false := by
  rw [beq_eq_false_iff_ne]
  intro e
  rw [ByteArray.toList_eq, ByteArray.toList_eq] at e
  unfold bLt at h
  rw [e, decide_eq_true_iff] at h
  exact List.lt_irrefl _ h
theorem bLt_same {a b : ByteArray} (h : bLt a b = false) (h' : bLt b a = false) : (b.toList == a.toList) = true := by
  rw [beq_iff_eq, ByteArray.toList_eq, ByteArray.toList_eq]
  unfold bLt at *
  simp only [decide_eq_false_iff_not, List.not_lt] at *
  exact List.le_antisymm h h'
set_option maxRecDepth 100000 in
set_option maxHeartbeats 2000000 in
theorem goodKeys_any {B : Nat} {w : World} {v : Value} {ks : List ByteArray} (h : StrsAt B w v ks) : Calls Tryz.prog 70 #[v] w fun e w' => e = .returned (.bool (keysOk ks)) ∧ w = w' := by
  obtain ⟨ad, cap, rfl, hnc, hcap, hc⟩ := h
  have HC := Lib.hid hc
  obtain ⟨n, hn⟩ : ∃ n, ks.length = n := ⟨_, rfl⟩
  have HN := Lib.hid hn
  rw [hn] at hnc hcap ⊢
  clear hc hn
  obtain ⟨r, hr⟩ : ∃ r, keysOk ks = r := ⟨_, rfl⟩
  have HR := Lib.hid hr
  rw [hr]
  clear hr
  go_enter Tryz.func70, Tryz.ntmps70
  go_wp2
  go_loop [7] (fun jv => ∃ j : Nat, jv = .int .i64 j ∧ j ≤ n ∧ Hid (∀ i, i < j → keyOk ks i)) (fun jv => n - (intOf jv).toNat)
  case atStart => exact ⟨0, rfl, by omega, Lib.hid (fun i h => by omega)⟩
  case round =>
    obtain ⟨j, rfl, hj, HI⟩ := hrel
    by_cases hlt : j < n
    · have hjl : j < ks.length := by have := HN.out; omega
      obtain ⟨g, o, rfl, -, hcs⟩ := HC.out (by omega)
      have hcell := hcs j hjl
      have ed : ks.getD j ⟨#[]⟩ = ks[j] := by simp [List.getD, hjl]
      obtain ⟨kj, hkj⟩ : ∃ kj, ks[j] = kj := ⟨_, rfl⟩
      rw [hkj] at hcell ed
      have HE := Lib.hid ed
      have i1 : (0 : Int) ≤ (j : Int) := by omega
      have i2 : (j : Int) < (n : Int) := by omega
      clear ed hkj
      by_cases hsz : kj.size ≤ 16384
      · rcases Nat.eq_zero_or_pos j with hj0 | hj0
        · subst hj0
          rw [Nat.add_zero] at hcell
          clear hcs
          go_wp2
          go_round
          case rel => exact ⟨1, by go_num, by omega, Lib.hid (fun i hi => by
            obtain rfl : i = 0 := by omega
            exact ⟨by rw [HE.out]; exact hsz, fun h => by omega⟩)⟩
          case measure => simp [intOf]; omega
        · obtain ⟨l, rfl⟩ : ∃ l, j = l + 1 := ⟨j - 1, by omega⟩
          have hll : l < ks.length := by omega
          have hcl := hcs l hll
          have edl : ks.getD l ⟨#[]⟩ = ks[l] := by simp [List.getD, hll]
          obtain ⟨kl, hkl⟩ : ∃ kl, ks[l] = kl := ⟨_, rfl⟩
          rw [hkl] at hcl edl
          have HEl := Lib.hid edl
          have i3 : (0 : Int) ≤ (l : Int) := by omega
          have i4 : (l : Int) < (n : Int) := by omega
          have hbl := bLess_eq kj kl
          clear edl hkl hcs
          cases hb : bLt kl kj
          · have HB := Lib.hid hb
            have HF : Hid (r = false) := Lib.hid (by
              rw [← HR.out]
              refine keysOk_no hjl (fun h => ?_)
              have := h.2 (by omega)
              rw [Nat.add_sub_cancel, HEl.out, HE.out, HB.out] at this
              cases this)
            cases hb2 : bLt kj kl
            · rw [hb2] at hbl
              have heq : (kj.toList == kl.toList) = true := bLt_same hb hb2
              clear hb hb2
              go_wp2
              go_ret
              exact ⟨by rw [HF.out]; rfl, rfl⟩
            · rw [hb2] at hbl
              clear hb hb2
              go_wp2
              go_ret
              exact ⟨by rw [HF.out]; rfl, rfl⟩
          · have HB := Lib.hid hb
            rw [bLt_asymm hb] at hbl
            have heq : (kj.toList == kl.toList) = false := bLt_ne hb
            clear hb
            go_wp2
            go_round
            case rel => exact ⟨l + 1 + 1, by go_num, by omega, Lib.hid (fun i hi => by
              rcases Nat.eq_or_lt_of_le (show i ≤ l + 1 by omega) with h | h
              · subst h; exact ⟨by rw [HE.out]; exact hsz, fun _ => by rw [Nat.add_sub_cancel, HEl.out, HE.out]; exact HB.out⟩
              · exact HI.out i h)⟩
            case measure => simp [intOf]; omega
      · have HF : Hid (r = false) := Lib.hid (by
          rw [← HR.out]
          refine keysOk_no hjl (fun h => hsz ?_)
          have := h.1
          rw [HE.out] at this
          exact this)
        clear hcs
        go_wp2
        go_ret
        exact ⟨by rw [HF.out]; rfl, rfl⟩
    · have HT : Hid (r = true) := Lib.hid (by rw [← HR.out]; exact keysOk_yes (fun j hj => HI.out j (by have := HN.out; omega)))
      go_wp2
      go_ret
      exact ⟨by rw [HT.out]; rfl, rfl⟩
end Go.Proofs.YtnmfoedfllmclaaGreatDoor
namespace Go.Proofs.YtnmfoedfllmclaaGreatDoor
open Go.RowKit
set_option linter.unusedVariables false

theorem key_eq {a b : ByteArray} : (a.toList == b.toList) = true ↔ a = b := by
  rw [ByteArray.toList_eq, ByteArray.toList_eq, beq_iff_eq]
  constructor
  · intro h
    cases a; cases b
    congr 1
    exact Array.toList_inj.1 h
  · rintro rfl; rfl
theorem bLt_total {a b : ByteArray} (h : a ≠ b) : bLt a b = true ∨ bLt b a = true := by
  cases h1 : bLt a b
  · cases h2 : bLt b a
    · exact absurd (key_eq.1 (bLt_same h1 h2)).symm h
    · exact .inr rfl
  · exact .inl rfl
def bLtP (a b : ByteArray × VT) : Prop := bLt a.1 b.1 = true

theorem zip_ins (key : ByteArray) (x : VT) : ∀ (K : List ByteArray) (Y : List VT), K.length = Y.length → (insK key K).zip (insI key x K Y) = insP bLt (key, x) (K.zip Y)
  | [], [], _ => by simp [insK, insI, insP]
  | [], _ :: _, h => by simp at h
  | _ :: _, [], h => by simp at h
  | a :: l, y :: m, h => by
    have ih := zip_ins key x l m (by simpa using h)
    unfold insK insI
    simp only [List.zip_cons_cons]
    unfold insP
    split
    · simp
    · simp only [List.zip_cons_cons, ih]
/-- What the document's Object makes. -/
def docObj (ks : List ByteArray) (Ts : List VT) : Option (List (ByteArray × VT)) := putAll bLt [] (ks.zip Ts)
/-- Places in the order of their keys. -/
def PlacesOk (ks : List ByteArray) (ps : List Nat) : Prop := ps.Perm (List.range ks.length) ∧ ∀ i j, i < j → j < ps.length → bLt (ks.getD (ps.getD j 0) ⟨#[]⟩) (ks.getD (ps.getD i 0) ⟨#[]⟩) = false
def pairsOf (ks : List ByteArray) (Ts : List VT) (ps : List Nat) : List (ByteArray × VT) := ps.map fun p => (ks.getD p ⟨#[]⟩, Ts.getD p noTree)
theorem pairs_range {ks : List ByteArray} {Ts : List VT} (h : Ts.length = ks.length) : pairsOf ks Ts (List.range ks.length) = ks.zip Ts := by
  apply List.ext_getElem
  · simp [pairsOf, h]
  · intro i h1 h2
    have hi : i < ks.length := by simpa [pairsOf] using h1
    simp [pairsOf, List.getD, hi, h]
theorem pairs_perm {ks : List ByteArray} {Ts : List VT} {ps : List Nat} (h : Ts.length = ks.length) (hp : ps.Perm (List.range ks.length)) : (pairsOf ks Ts ps).Perm (ks.zip Ts) := by
  rw [← pairs_range h]
  exact hp.map _
theorem pairs_get {ks : List ByteArray} {Ts : List VT} {ps : List Nat} {i : Nat} (hi : i < ps.length) (h1 : i < (pairsOf ks Ts ps).length) : (pairsOf ks Ts ps)[i].1 = ks.getD (ps.getD i 0) ⟨#[]⟩ := by
  simp [pairsOf, List.getD, hi]
theorem pairs_length {ks : List ByteArray} {Ts : List VT} {ps : List Nat} : (pairsOf ks Ts ps).length = ps.length := by simp [pairsOf]
/-- No key twice side by side: strictly in order. -/
theorem pairs_sorted {ks : List ByteArray} {Ts : List VT} {ps : List Nat} (hp : PlacesOk ks ps) (hd : ∀ j, j + 1 < ps.length → Differ ks ps j) : (pairsOf ks Ts ps).Pairwise bLtP := by
  have hadj : ∀ j, j + 1 < ps.length → bLt (ks.getD (ps.getD j 0) ⟨#[]⟩) (ks.getD (ps.getD (j + 1) 0) ⟨#[]⟩) = true := fun j hj => by
    have h1 := hp.2 j (j + 1) (by omega) hj
    have h2 := hd j hj
    unfold Differ at h2
    rcases bLt_total (a := ks.getD (ps.getD j 0) ⟨#[]⟩) (b := ks.getD (ps.getD (j + 1) 0) ⟨#[]⟩) (fun e => by rw [key_eq.2 e] at h2; cases h2) with h | h
    · exact h
    · rw [h] at h1; cases h1
  have hall : ∀ d i, i + d + 1 < ps.length → bLt (ks.getD (ps.getD i 0) ⟨#[]⟩) (ks.getD (ps.getD (i + d + 1) 0) ⟨#[]⟩) = true := by
    intro d
    induction d with
    | zero => intro i hi; exact hadj i hi
    | succ d ih =>
      intro i hi
      exact bLt_trans (ih i (by omega)) (hadj (i + d + 1) hi)
  rw [List.pairwise_iff_getElem]
  intro i j hi hj hij
  unfold bLtP
  rw [pairs_length] at hi hj
  rw [pairs_get hi, pairs_get hj]
  have := hall (j - i - 1) i (by omega)
  rwa [show i + (j - i - 1) + 1 = j by omega] at this
theorem sorted_nodup {l : List (ByteArray × VT)} (h : l.Pairwise bLtP) : (l.map Prod.fst).Nodup := by
  rw [List.Nodup, List.pairwise_map]
  refine h.imp ?_
  intro a b hab e
  unfold bLtP at hab
  rw [e, bLt_irrefl] at hab
  cases hab
theorem make_some {ks : List ByteArray} {Ts : List VT} {ps : List Nat} (h : Ts.length = ks.length) (hp : PlacesOk ks ps) (hd : ∀ j, j + 1 < ps.length → Differ ks ps j) : docObj ks Ts = some (pairsOf ks Ts ps) := by
  have hs := pairs_sorted (Ts := Ts) hp hd
  have hpm := pairs_perm h hp.1
  cases hz : docObj ks Ts with
  | none =>
    have := putAll_none _ _ hz (by simp)
    rw [List.nil_append] at this
    exact absurd ((hpm.map Prod.fst).nodup_iff.1 (sorted_nodup hs)) this
  | some z =>
    obtain ⟨h1, h2⟩ := putAll_some (lt := bLt) (fun a b c h h' => bLt_trans h h') (fun a b h => bLt_total h) (ks.zip Ts) [] z hz List.Pairwise.nil
    rw [List.nil_append] at h2
    have he := sorted_one (lt := bLtP) (fun a => by unfold bLtP; rw [bLt_irrefl]; simp) (fun a b c h h' => bLt_trans h h') (h2.trans hpm.symm) h1 hs
    rw [he]
theorem make_none {ks : List ByteArray} {Ts : List VT} {ps : List Nat} (h : Ts.length = ks.length) (hp : PlacesOk ks ps) (hd : ∃ j, j + 1 < ps.length ∧ ¬ Differ ks ps j) : docObj ks Ts = none := by
  have hpm := pairs_perm h hp.1
  cases hz : docObj ks Ts with
  | none => rfl
  | some z =>
    obtain ⟨h1, h2⟩ := putAll_some (lt := bLt) (fun a b c h h' => bLt_trans h h') (fun a b h => bLt_total h) (ks.zip Ts) [] z hz List.Pairwise.nil
    rw [List.nil_append] at h2
    have hn : ((pairsOf ks Ts ps).map Prod.fst).Nodup := ((h2.trans hpm.symm).map Prod.fst).nodup_iff.1 (sorted_nodup h1)
    obtain ⟨j, hj, hne⟩ := hd
    have he : ks.getD (ps.getD j 0) ⟨#[]⟩ = ks.getD (ps.getD (j + 1) 0) ⟨#[]⟩ := by
      apply key_eq.1
      cases hq : ((ks.getD (ps.getD j 0) ⟨#[]⟩).toList == (ks.getD (ps.getD (j + 1) 0) ⟨#[]⟩).toList)
      · exact absurd hq hne
      · rfl
    rw [List.Nodup, List.pairwise_iff_getElem] at hn
    have hl : ((pairsOf ks Ts ps).map Prod.fst).length = ps.length := by simp [pairsOf]
    have := hn j (j + 1) (by omega) (by omega) (by omega)
    rw [List.getElem_map, List.getElem_map, pairs_get (by omega), pairs_get (by omega)] at this
    exact absurd he this
/-- The program's keys and trees, as pairs. -/
theorem keyL_all {ks : List ByteArray} {Ts : List VT} {ps : List Nat} : keyL ks ps ps.length = (pairsOf ks Ts ps).map Prod.fst ∧ treeL Ts ps ps.length = (pairsOf ks Ts ps).map Prod.snd := by
  unfold keyL treeL pairsOf
  rw [List.take_length, List.map_map, List.map_map]
  exact ⟨rfl, rfl⟩
end Go.Proofs.YtnmfoedfllmclaaGreatDoor
namespace Go.Proofs.YtnmfoedfllmclaaGreatDoor
set_option linter.unusedVariables false

/-- What is wrong, and how many bytes are left there. -/
abbrev Bad := Int × Nat
/-- A blank, a digit. -/
def blankB (c : UInt8) : Bool := c == 32 || c == 9 || c == 10 || c == 13
def digJ (c : UInt8) : Bool := 48 ≤ c && c ≤ 57
def skipB (R : List UInt8) : List UInt8 := R.dropWhile blankB
/-- A hexadecimal digit's number. -/
def hexD (c : UInt8) : Option Nat := if 48 ≤ c.toNat ∧ c.toNat ≤ 57 then some (c.toNat - 48) else if 97 ≤ c.toNat ∧ c.toNat ≤ 102 then some (c.toNat - 87) else if 65 ≤ c.toNat ∧ c.toNat ≤ 70 then some (c.toNat - 55) else none
def hexN : List UInt8 → Nat → Option Nat
  | [], n => some n
  | c :: l, n => match hexD c with | none => none | some d => hexN l (n * 16 + d)
/-- The number of the \u that stands here, or -1. -/
def unitL : List UInt8 → Int
  | 92 :: 117 :: a :: b :: c :: d :: _ => match hexN [a, b, c, d] 0 with | none => -1 | some n => (n : Int)
  | _ => -1
/-- What one escape stands for, behind letters. -/
def pairL (R : List UInt8) : Except Int (Int × List UInt8) :=
  if Utf8.valid (unitL R) then .ok (unitL R, R.drop 6)
  else if unitL R - 55296 < 0 ∨ 1024 ≤ unitL R - 55296 ∨ unitL (R.drop 6) - 56320 < 0 ∨ 1024 ≤ unitL (R.drop 6) - 56320 then .error 30
  else .ok (65536 + (unitL R - 55296) * 1024 + (unitL (R.drop 6) - 56320), R.drop 12)
def letterJ (c : UInt8) : Option Int := if c = 34 then some 34 else if c = 92 then some 92 else if c = 98 then some 8 else if c = 102 then some 12 else if c = 110 then some 10 else if c = 114 then some 13 else if c = 116 then some 9 else none
def escJ (R : List UInt8) : Except Int (Int × List UInt8) := match R with
  | 92 :: c :: r => if c = 47 then .ok (47, r) else match letterJ c with | some x => .ok (x, r) | none => pairL R
  | _ => pairL R
/-- What stands for one rune of a text. -/
def runeJ (R : List UInt8) : Except Int (Int × List UInt8) := match R with
  | [] => .error 30
  | c :: _ => if c < 32 then .error 30 else if c = 92 then escJ R else
    let d := Utf8.decode ⟨R.toArray⟩ 0
    if d.1 = 65533 ∧ d.2 = 1 then .error 31 else .ok ((d.1 : Int), R.drop d.2)
/-- A text's bytes, to its quote. -/
def textJ : Nat → List UInt8 → List UInt8 → Except Bad (List UInt8 × List UInt8)
  | 0, R, _ => .error (30, R.length)
  | f + 1, R, acc => if Lib.hasPrefix R [34] then .ok (acc, R.drop 1) else match runeJ R with
    | .error c => .error (c, R.length)
    | .ok (x, R') => textJ f R' (acc ++ Lib.encodeRune x)
/-- From the quote on. -/
def quotedJ (R : List UInt8) : Except Bad (ByteArray × List UInt8) := match textJ R.length (R.drop 1) [] with
  | .error e => .error e
  | .ok (b, R') => if 16384 < b.length then .error (3, R.length) else .ok (⟨b.toArray⟩, R')
/-- A number. -/
def digsJ (D : List UInt8) : List UInt8 := if Lib.hasPrefix D [48] then [48] else D.takeWhile digJ
def numJ (R : List UInt8) : Except Bad (ByteArray × List UInt8) :=
  let D := if Lib.hasPrefix R [45] then R.drop 1 else R
  if D.head?.any digJ then
    if 100 < (digsJ D).length then .error (3, R.length)
    else .ok (⟨(if digsJ D = [48] then [48] else R.take (R.length - D.length + (digsJ D).length)).toArray⟩, D.drop (digsJ D).length)
  else .error (30, D.length)
def nullT : VT := .node 0 false ⟨#[]⟩ [] []
def boolT (b : Bool) : VT := .node 2 b ⟨#[]⟩ [] []
def intT (t : ByteArray) : VT := .node 3 false t [] []
def textT (t : ByteArray) : VT := .node 4 false t [] []
def listT (l : List VT) : VT := .node 5 false ⟨#[]⟩ l []
def objT (l : List (ByteArray × VT)) : VT := .node 6 false ⟨#[]⟩ (l.map Prod.snd) (l.map Prod.fst)
def wordJ (R : List UInt8) : Except Bad (VT × List UInt8) :=
  if Lib.hasPrefix R [110, 117, 108, 108] then .ok (nullT, R.drop 4)
  else if Lib.hasPrefix R [116, 114, 117, 101] then .ok (boolT true, R.drop 4)
  else if Lib.hasPrefix R [102, 97, 108, 115, 101] then .ok (boolT false, R.drop 5)
  else .error (30, R.length)
/-- A reader: of what is left and how many values have begun. -/
abbrev RdJ (α : Type) := List UInt8 → Nat → Except Bad (α × List UInt8 × Nat)
/-- Comma by comma, to the end. -/
def seqJ {σ : Type} (rd : σ → RdJ σ) (q : UInt8) : Nat → σ → RdJ σ
  | 0, _, _, _ => .error (0, 0)
  | f + 1, st, R, n => match rd st R n with
    | .error e => .error e
    | .ok (st', R', n') => if Lib.hasPrefix (skipB R') [q] then .ok (st', (skipB R').drop 1, n')
      else if Lib.hasPrefix (skipB R') [44] then seqJ rd q f st' ((skipB R').drop 1) n'
      else .error (30, (skipB R').length)
/-- From the opening sign on. -/
def eachJ {σ : Type} (rd : σ → RdJ σ) (q : UInt8) (st : σ) : RdJ σ := fun R n =>
  if Lib.hasPrefix (skipB (R.drop 1)) [q] then .ok (st, (skipB (R.drop 1)).drop 1, n)
  else seqJ rd q R.length st (skipB (R.drop 1)) n
def itemJ (rd : RdJ VT) (st : List VT) : RdJ (List VT) := fun R n => match rd R n with
  | .error e => .error e
  | .ok (T, R', n') => .ok (st ++ [T], R', n')
/-- A key, that isn't among those ahead. -/
def keyJ (ks : List ByteArray) (R : List UInt8) : Except Bad (ByteArray × List UInt8) :=
  if Lib.hasPrefix (skipB R) [34] then match quotedJ (skipB R) with
    | .error e => .error e
    | .ok (k, R') => if ks.contains k then .error (2, (skipB R).length) else .ok (k, R')
  else .error (30, (skipB R).length)
def pairJ (rd : RdJ VT) (st : List (ByteArray × VT)) : RdJ (List (ByteArray × VT)) := fun R n => match keyJ (st.map Prod.fst) R with
  | .error e => .error e
  | .ok (k, R1) => if Lib.hasPrefix (skipB R1) [58] then match rd ((skipB R1).drop 1) n with
      | .error e => .error e
      | .ok (T, R', n') => .ok (st ++ [(k, T)], R', n')
    else .error (30, (skipB R1).length)
/-- An object's tree. -/
def madeT (st : List (ByteArray × VT)) : VT := match docObj (st.map Prod.fst) (st.map Prod.snd) with | some z => objT z | none => noTree
/-- A value, d levels at most. -/
def valJ : Nat → RdJ VT
  | 0 => fun R n => .error (7, (skipB R).length)
  | d + 1 => fun R n => if n = 2000 then .error (3, (skipB R).length) else match skipB R with
    | [] => .error (30, 0)
    | c :: r => if c = 34 then match quotedJ (c :: r) with
          | .error e => .error e
          | .ok (t, R') => .ok (textT t, R', n + 1)
      else if c = 91 then match eachJ (itemJ (valJ d)) 93 [] (c :: r) (n + 1) with
          | .error e => .error e
          | .ok (l, R', n') => .ok (listT l, R', n')
      else if c = 123 then match eachJ (pairJ (valJ d)) 125 [] (c :: r) (n + 1) with
          | .error e => .error e
          | .ok (l, R', n') => .ok (madeT l, R', n')
      else if c = 45 ∨ digJ c = true then match numJ (c :: r) with
          | .error e => .error e
          | .ok (t, R') => .ok (intT t, R', n + 1)
      else match wordJ (c :: r) with
          | .error e => .error e
          | .ok (T, R') => .ok (T, R', n + 1)
/-- A whole text. -/
def wholeJ (t : ByteArray) : Except Bad VT :=
  if 65536 < t.size then .error (3, t.size) else match valJ 24 t.data.toList 0 with
    | .error e => .error e
    | .ok (T, R, _) => if skipB R = [] then .ok T else .error (30, (skipB R).length)
end Go.Proofs.YtnmfoedfllmclaaGreatDoor
namespace Go.Proofs.YtnmfoedfllmclaaGreatDoor
set_option linter.unusedVariables false

/-- What may not stand behind a number. -/
def badH : List UInt8 → Bool
  | c :: _ => digJ c || c == 46 || c == 101 || c == 69
  | [] => false
def numD (R : List UInt8) : Except Bad (ByteArray × List UInt8) := match numJ R with
  | .error e => .error e
  | .ok (t, R') => if badH R' then .error (30, R'.length) else .ok (t, R')
def valD : Nat → RdJ VT
  | 0 => fun R n => .error (7, (skipB R).length)
  | d + 1 => fun R n => if n = 2000 then .error (3, (skipB R).length) else match skipB R with
    | [] => .error (30, 0)
    | c :: r => if c = 34 then match quotedJ (c :: r) with
          | .error e => .error e
          | .ok (t, R') => .ok (textT t, R', n + 1)
      else if c = 91 then match eachJ (itemJ (valD d)) 93 [] (c :: r) (n + 1) with
          | .error e => .error e
          | .ok (l, R', n') => .ok (listT l, R', n')
      else if c = 123 then match eachJ (pairJ (valD d)) 125 [] (c :: r) (n + 1) with
          | .error e => .error e
          | .ok (l, R', n') => .ok (madeT l, R', n')
      else if c = 45 ∨ digJ c = true then match numD (c :: r) with
          | .error e => .error e
          | .ok (t, R') => .ok (intT t, R', n + 1)
      else match wordJ (c :: r) with
          | .error e => .error e
          | .ok (T, R') => .ok (T, R', n + 1)
def wholeD (t : ByteArray) : Except Bad VT :=
  if 65536 < t.size then .error (3, t.size) else match valD 24 t.data.toList 0 with
    | .error e => .error e
    | .ok (T, R, _) => if skipB R = [] then .ok T else .error (30, (skipB R).length)
def SimJ {α : Type} (x y : Except Bad (α × List UInt8 × Nat)) : Prop := x = y ∨ ∃ T R' n', x = .ok (T, R', n') ∧ badH R' = true ∧ y = .error (30, R'.length)
theorem bad_skip {R : List UInt8} (h : badH R = true) : skipB R = R := by
  cases R with
  | nil => cases h
  | cons c r =>
    unfold skipB
    rw [List.dropWhile_cons, if_neg]
    intro hb
    unfold blankB at hb
    unfold badH digJ at h
    simp at hb
    rcases hb with ((rfl | rfl) | rfl) | rfl <;> simp at h
theorem bad_pre {R : List UInt8} {q : UInt8} (h : badH R = true) (hq : q = 93 ∨ q = 125 ∨ q = 44) : Lib.hasPrefix R [q] = false := by
  cases R with
  | nil => cases h
  | cons c r =>
    have hne : ¬ q = c := by
      rintro rfl
      unfold badH digJ at h
      rcases hq with rfl | rfl | rfl <;> simp at h
    simp [Lib.hasPrefix, List.isPrefixOf, hne]
theorem seq_sim {σ : Type} {rd rd' : σ → RdJ σ} {q : UInt8} (hq : q = 93 ∨ q = 125) (h : ∀ st R n, SimJ (rd st R n) (rd' st R n)) : ∀ (f : Nat) (st : σ) (R : List UInt8) (n : Nat), seqJ rd q f st R n = seqJ rd' q f st R n
  | 0, st, R, n => by unfold seqJ; rfl
  | f + 1, st, R, n => by
    have ih := seq_sim hq h f
    unfold seqJ
    rcases h st R n with e | ⟨st', R', n', e1, hb, e2⟩
    · rw [e]
      cases rd' st R n with
      | error b => rfl
      | ok y =>
        obtain ⟨st', R', n'⟩ := y
        simp only [ih]
    · rw [e1, e2]
      simp only
      rw [bad_skip hb, if_neg (by rw [bad_pre hb (by rcases hq with h | h <;> simp [h])]; decide), if_neg (by rw [bad_pre hb (by simp)]; decide)]
theorem each_sim {σ : Type} {rd rd' : σ → RdJ σ} {q : UInt8} (hq : q = 93 ∨ q = 125) (h : ∀ st R n, SimJ (rd st R n) (rd' st R n)) (st : σ) (R : List UInt8) (n : Nat) : eachJ rd q st R n = eachJ rd' q st R n := by
  unfold eachJ
  rw [seq_sim hq h]
theorem item_sim {rd rd' : RdJ VT} (h : ∀ R n, SimJ (rd R n) (rd' R n)) (st : List VT) (R : List UInt8) (n : Nat) : SimJ (itemJ rd st R n) (itemJ rd' st R n) := by
  unfold itemJ
  rcases h R n with e | ⟨T, R', n', e1, hb, e2⟩
  · exact .inl (by rw [e])
  · exact .inr ⟨st ++ [T], R', n', by rw [e1], hb, by rw [e2]⟩
theorem pair_sim {rd rd' : RdJ VT} (h : ∀ R n, SimJ (rd R n) (rd' R n)) (st : List (ByteArray × VT)) (R : List UInt8) (n : Nat) : SimJ (pairJ rd st R n) (pairJ rd' st R n) := by
  unfold pairJ
  cases keyJ (st.map Prod.fst) R with
  | error b => exact .inl rfl
  | ok y =>
    obtain ⟨k, R1⟩ := y
    simp only
    split
    · rcases h ((skipB R1).drop 1) n with e | ⟨T, R', n', e1, hb, e2⟩
      · exact .inl (by rw [e])
      · exact .inr ⟨st ++ [(k, T)], R', n', by rw [e1], hb, by rw [e2]⟩
    · exact .inl rfl
theorem val_sim : ∀ (d : Nat) (R : List UInt8) (n : Nat), SimJ (valJ d R n) (valD d R n)
  | 0, R, n => .inl (by unfold valJ valD; rfl)
  | d + 1, R, n => by
    have ih := val_sim d
    unfold valJ valD
    split
    · exact .inl rfl
    · cases skipB R with
      | nil => exact .inl rfl
      | cons c r =>
        simp only
        split
        · exact .inl rfl
        · split
          · exact .inl (by rw [each_sim (.inl rfl) (item_sim ih)] <;> (generalize eachJ (itemJ (valD d)) 93 [] (c :: r) (n + 1) = z; cases z <;> rfl))
          · split
            · exact .inl (by rw [each_sim (.inr rfl) (pair_sim ih)] <;> (generalize eachJ (pairJ (valD d)) 125 [] (c :: r) (n + 1) = z; cases z <;> rfl))
            · split
              · unfold numD
                cases hn : numJ (c :: r) with
                | error b => exact .inl rfl
                | ok y =>
                  obtain ⟨t, R'⟩ := y
                  simp only
                  cases hb : badH R' with
                  | true => exact .inr ⟨intT t, R', n + 1, rfl, hb, by rw [if_pos rfl]⟩
                  | false => exact .inl (by rw [if_neg (by decide)])
              · exact .inl rfl
/-- They read alike. -/
theorem whole_sim (t : ByteArray) : wholeJ t = wholeD t := by
  unfold wholeJ wholeD
  split
  · rfl
  · rcases val_sim 24 t.data.toList 0 with e | ⟨T, R', n', e1, hb, e2⟩
    · rw [e] <;> (generalize valD 24 t.data.toList 0 = z; cases z <;> rfl)
    · rw [e1, e2]
      simp only
      rw [bad_skip hb, if_neg]
      rintro rfl
      cases hb
end Go.Proofs.YtnmfoedfllmclaaGreatDoor
