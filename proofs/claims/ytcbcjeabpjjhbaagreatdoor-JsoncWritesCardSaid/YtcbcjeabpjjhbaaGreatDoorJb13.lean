/- value.goodKeys · Objects of any keys: what is put in one by one, and what is sorted, are one · What is read of a JSON text: plain functions of the bytes that are left · A reader in memory; what is thrown -/
import Derived.Laws.RangeAny
import Derived.Lib.Strings
import Derived.Lib.RuneBytes
import Derived.RangeFuncBox
import Derived.Deep.QuietTactic
import Derived.BigQuiet
import Derived.IntWalk
import Derived.Test.YtcbcjeabpjjhbaaGreatDoorJb01
import Derived.Test.YtcbcjeabpjjhbaaGreatDoorJb03
import Derived.Test.YtcbcjeabpjjhbaaGreatDoorJb04
import Derived.Test.YtcbcjeabpjjhbaaGreatDoorJb10
import Derived.Test.YtcbcjeabpjjhbaaGreatDoorJb12
namespace Go.Proofs.YtcbcjeabpjjhbaaGreatDoor
open Go.RowKit
set_option linter.unusedVariables false

/-- The key at place j is as it should be. -/
def keyOk (ks : List ByteArray) (j : Nat) : Prop := (ks.getD j ⟨#[]⟩).size ≤ 16384 ∧ (0 < j → bLt (ks.getD (j - 1) ⟨#[]⟩) (ks.getD j ⟨#[]⟩) = true)
theorem keysOk_iff : ∀ ks : List ByteArray, keysOk ks = true ↔ ∀ j, j < ks.length → keyOk ks j
  | [] => by simp [keysOk]
  | [a] => by
    unfold keysOk keyOk
    rw [decide_eq_true_iff]
    constructor
    · intro h j hj
      obtain rfl : j = 0 := by simp at hj; omega
      exact ⟨h, fun h => by omega⟩
    · intro h; exact (h 0 (by simp)).1
  | a :: b :: l => by
    have ih := keysOk_iff (b :: l)
    unfold keysOk
    rw [Bool.and_eq_true_iff, Bool.and_eq_true_iff, decide_eq_true_iff, ih]
    constructor
    · rintro ⟨⟨h1, h2⟩, h3⟩ j hj
      match j with
      | 0 => exact ⟨h1, fun h => by omega⟩
      | 1 => exact ⟨(h3 0 (by simp)).1, fun _ => h2⟩
      | j + 2 =>
        have := h3 (j + 1) (by simpa using hj)
        exact ⟨this.1, fun _ => this.2 (by omega)⟩
    · intro h
      refine ⟨⟨(h 0 (by simp)).1, (h 1 (by simp)).2 (by omega)⟩, fun j hj => ?_⟩
      have h1 := h (j + 1) (by simpa using hj)
      refine ⟨h1.1, fun hp => ?_⟩
      have := h1.2 (by omega)
      rw [show j + 1 - 1 = j - 1 + 1 by omega] at this
      exact this
theorem keysOk_yes {ks : List ByteArray} (h : ∀ j, j < ks.length → keyOk ks j) : keysOk ks = true := (keysOk_iff ks).2 h
theorem keysOk_no {ks : List ByteArray} {j : Nat} (hj : j < ks.length) (h : ¬ keyOk ks j) : keysOk ks = false := by
  cases e : keysOk ks
  · rfl
  · exact absurd ((keysOk_iff ks).1 e j hj) h

theorem bLt_asymm {a b : ByteArray} (h : bLt a b = true) : bLt b a = false := by
  unfold bLt at *
  simp only [decide_eq_true_eq, decide_eq_false_iff_not] at *
  exact List.lt_asymm h
theorem bLt_ne {a b : ByteArray} (h : bLt a b = true) : (b.toList == a.toList) = false := by
  rw [beq_eq_false_iff_ne]
  intro e
  rw [ByteArray.toList_eq, ByteArray.toList_eq] at e
  unfold bLt at h
  rw [e, decide_eq_true_iff] at h
  exact List.lt_irrefl _ h
theorem bLt_same {a b : ByteArray} (h : bLt a b = false) (h' : bLt b a = false) : (b.toList == a.toList) = true := by
  rw [beq_iff_eq, ByteArray.toList_eq, ByteArray.toList_eq]
  unfold bLt at *
  simp only [decide_eq_false_iff_not, List.not_lt] at *
  exact List.le_antisymm h h'
set_option maxRecDepth 100000 in
set_option maxHeartbeats 2000000 in
theorem goodKeys_any {B : Nat} {w : World} {v : Value} {ks : List ByteArray} (h : StrsAt B w v ks) : Calls Tryz.prog 70 #[v] w fun e w' => e = .returned (.bool (keysOk ks)) ∧ w = w' := by
  obtain ⟨ad, cap, rfl, hnc, hcap, hc⟩ := h
  have HC := Lib.hid hc
  obtain ⟨n, hn⟩ : ∃ n, ks.length = n := ⟨_, rfl⟩
  have HN := Lib.hid hn
  rw [hn] at hnc hcap ⊢
  clear hc hn
  obtain ⟨r, hr⟩ : ∃ r, keysOk ks = r := ⟨_, rfl⟩
  have HR := Lib.hid hr
  rw [hr]
  clear hr
  go_enter Tryz.func70, Tryz.ntmps70
  go_wp2
  go_loop [7] (fun jv => ∃ j : Nat, jv = .int .i64 j ∧ j ≤ n ∧ Hid (∀ i, i < j → keyOk ks i)) (fun jv => n - (intOf jv).toNat)
  case atStart => exact ⟨0, rfl, by omega, Lib.hid (fun i h => by omega)⟩
  case round =>
    obtain ⟨j, rfl, hj, HI⟩ := hrel
    by_cases hlt : j < n
    · have hjl : j < ks.length := by have := HN.out; omega
      obtain ⟨g, o, rfl, -, hcs⟩ := HC.out (by omega)
      have hcell := hcs j hjl
      have ed : ks.getD j ⟨#[]⟩ = ks[j] := by simp [List.getD, hjl]
      obtain ⟨kj, hkj⟩ : ∃ kj, ks[j] = kj := ⟨_, rfl⟩
      rw [hkj] at hcell ed
      have HE := Lib.hid ed
      have i1 : (0 : Int) ≤ (j : Int) := by omega
      have i2 : (j : Int) < (n : Int) := by omega
      clear ed hkj
      by_cases hsz : kj.size ≤ 16384
      · rcases Nat.eq_zero_or_pos j with hj0 | hj0
        · subst hj0
          rw [Nat.add_zero] at hcell
          clear hcs
          go_wp2
          go_round
          case rel => exact ⟨1, by go_num, by omega, Lib.hid (fun i hi => by
            obtain rfl : i = 0 := by omega
            exact ⟨by rw [HE.out]; exact hsz, fun h => by omega⟩)⟩
          case measure => simp [intOf]; omega
        · obtain ⟨l, rfl⟩ : ∃ l, j = l + 1 := ⟨j - 1, by omega⟩
          have hll : l < ks.length := by omega
          have hcl := hcs l hll
          have edl : ks.getD l ⟨#[]⟩ = ks[l] := by simp [List.getD, hll]
          obtain ⟨kl, hkl⟩ : ∃ kl, ks[l] = kl := ⟨_, rfl⟩
          rw [hkl] at hcl edl
          have HEl := Lib.hid edl
          have i3 : (0 : Int) ≤ (l : Int) := by omega
          have i4 : (l : Int) < (n : Int) := by omega
          have hbl := bLess_eq kj kl
          clear edl hkl hcs
          cases hb : bLt kl kj
          · have HB := Lib.hid hb
            have HF : Hid (r = false) := Lib.hid (by
              rw [← HR.out]
              refine keysOk_no hjl (fun h => ?_)
              have := h.2 (by omega)
              rw [Nat.add_sub_cancel, HEl.out, HE.out, HB.out] at this
              cases this)
            cases hb2 : bLt kj kl
            · rw [hb2] at hbl
              have heq : (kj.toList == kl.toList) = true := bLt_same hb hb2
              clear hb hb2
              go_wp2
              go_ret
              exact ⟨by rw [HF.out]; rfl, rfl⟩
            · rw [hb2] at hbl
              clear hb hb2
              go_wp2
              go_ret
              exact ⟨by rw [HF.out]; rfl, rfl⟩
          · have HB := Lib.hid hb
            rw [bLt_asymm hb] at hbl
            have heq : (kj.toList == kl.toList) = false := bLt_ne hb
            clear hb
            go_wp2
            go_round
            case rel => exact ⟨l + 1 + 1, by go_num, by omega, Lib.hid (fun i hi => by
              rcases Nat.eq_or_lt_of_le (show i ≤ l + 1 by omega) with h | h
              · subst h; exact ⟨by rw [HE.out]; exact hsz, fun _ => by rw [Nat.add_sub_cancel, HEl.out, HE.out]; exact HB.out⟩
              · exact HI.out i h)⟩
            case measure => simp [intOf]; omega
      · have HF : Hid (r = false) := Lib.hid (by
          rw [← HR.out]
          refine keysOk_no hjl (fun h => hsz ?_)
          have := h.1
          rw [HE.out] at this
          exact this)
        clear hcs
        go_wp2
        go_ret
        exact ⟨by rw [HF.out]; rfl, rfl⟩
    · have HT : Hid (r = true) := Lib.hid (by rw [← HR.out]; exact keysOk_yes (fun j hj => HI.out j (by have := HN.out; omega)))
      go_wp2
      go_ret
      exact ⟨by rw [HT.out]; rfl, rfl⟩
end Go.Proofs.YtcbcjeabpjjhbaaGreatDoor
namespace Go.Proofs.YtcbcjeabpjjhbaaGreatDoor
open Go.RowKit
set_option linter.unusedVariables false

theorem key_eq {a b : ByteArray} : (a.toList == b.toList) = true ↔ a = b := by
  rw [ByteArray.toList_eq, ByteArray.toList_eq, beq_iff_eq]
  constructor
  · intro h
    cases a; cases b
    congr 1
    exact Array.toList_inj.1 h
  · rintro rfl; rfl
theorem bLt_total {a b : ByteArray} (h : a ≠ b) : bLt a b = true ∨ bLt b a = true := by
  cases h1 : bLt a b
  · cases h2 : bLt b a
    · exact absurd (key_eq.1 (bLt_same h1 h2)).symm h
    · exact .inr rfl
  · exact .inl rfl
def bLtP (a b : ByteArray × VT) : Prop := bLt a.1 b.1 = true

theorem zip_ins (key : ByteArray) (x : VT) : ∀ (K : List ByteArray) (Y : List VT), K.length = Y.length → (insK key K).zip (insI key x K Y) = insP bLt (key, x) (K.zip Y)
  | [], [], _ => by simp [insK, insI, insP]
  | [], _ :: _, h => by simp at h
  | _ :: _, [], h => by simp at h
  | a :: l, y :: m, h => by
    have ih := zip_ins key x l m (by simpa using h)
    unfold insK insI
    simp only [List.zip_cons_cons]
    unfold insP
    split
    · simp
    · simp only [List.zip_cons_cons, ih]
/-- What the document's Object makes. -/
def docObj (ks : List ByteArray) (Ts : List VT) : Option (List (ByteArray × VT)) := putAll bLt [] (ks.zip Ts)
/-- Places in the order of their keys. -/
def PlacesOk (ks : List ByteArray) (ps : List Nat) : Prop := ps.Perm (List.range ks.length) ∧ ∀ i j, i < j → j < ps.length → bLt (ks.getD (ps.getD j 0) ⟨#[]⟩) (ks.getD (ps.getD i 0) ⟨#[]⟩) = false
def pairsOf (ks : List ByteArray) (Ts : List VT) (ps : List Nat) : List (ByteArray × VT) := ps.map fun p => (ks.getD p ⟨#[]⟩, Ts.getD p noTree)
theorem pairs_range {ks : List ByteArray} {Ts : List VT} (h : Ts.length = ks.length) : pairsOf ks Ts (List.range ks.length) = ks.zip Ts := by
  apply List.ext_getElem
  · simp [pairsOf, h]
  · intro i h1 h2
    have hi : i < ks.length := by simpa [pairsOf] using h1
    simp [pairsOf, List.getD, hi, h]
theorem pairs_perm {ks : List ByteArray} {Ts : List VT} {ps : List Nat} (h : Ts.length = ks.length) (hp : ps.Perm (List.range ks.length)) : (pairsOf ks Ts ps).Perm (ks.zip Ts) := by
  rw [← pairs_range h]
  exact hp.map _
theorem pairs_get {ks : List ByteArray} {Ts : List VT} {ps : List Nat} {i : Nat} (hi : i < ps.length) (h1 : i < (pairsOf ks Ts ps).length) : (pairsOf ks Ts ps)[i].1 = ks.getD (ps.getD i 0) ⟨#[]⟩ := by
  simp [pairsOf, List.getD, hi]
theorem pairs_length {ks : List ByteArray} {Ts : List VT} {ps : List Nat} : (pairsOf ks Ts ps).length = ps.length := by simp [pairsOf]
/-- No key twice side by side: strictly in order. -/
theorem pairs_sorted {ks : List ByteArray} {Ts : List VT} {ps : List Nat} (hp : PlacesOk ks ps) (hd : ∀ j, j + 1 < ps.length → Differ ks ps j) : (pairsOf ks Ts ps).Pairwise bLtP := by
  have hadj : ∀ j, j + 1 < ps.length → bLt (ks.getD (ps.getD j 0) ⟨#[]⟩) (ks.getD (ps.getD (j + 1) 0) ⟨#[]⟩) = true := fun j hj => by
    have h1 := hp.2 j (j + 1) (by omega) hj
    have h2 := hd j hj
    unfold Differ at h2
    rcases bLt_total (a := ks.getD (ps.getD j 0) ⟨#[]⟩) (b := ks.getD (ps.getD (j + 1) 0) ⟨#[]⟩) (fun e => by rw [key_eq.2 e] at h2; cases h2) with h | h
    · exact h
    · rw [h] at h1; cases h1
  have hall : ∀ d i, i + d + 1 < ps.length → bLt (ks.getD (ps.getD i 0) ⟨#[]⟩) (ks.getD (ps.getD (i + d + 1) 0) ⟨#[]⟩) = true := by
    intro d
    induction d with
    | zero => intro i hi; exact hadj i hi
    | succ d ih =>
      intro i hi
      exact bLt_trans (ih i (by omega)) (hadj (i + d + 1) hi)
  rw [List.pairwise_iff_getElem]
  intro i j hi hj hij
  unfold bLtP
  rw [pairs_length] at hi hj
  rw [pairs_get hi, pairs_get hj]
  have := hall (j - i - 1) i (by omega)
  rwa [show i + (j - i - 1) + 1 = j by omega] at this
theorem sorted_nodup {l : List (ByteArray × VT)} (h : l.Pairwise bLtP) : (l.map Prod.fst).Nodup := by
  rw [List.Nodup, List.pairwise_map]
  refine h.imp ?_
  intro a b hab e
  unfold bLtP at hab
  rw [e, bLt_irrefl] at hab
  cases hab
theorem make_some {ks : List ByteArray} {Ts : List VT} {ps : List Nat} (h : Ts.length = ks.length) (hp : PlacesOk ks ps) (hd : ∀ j, j + 1 < ps.length → Differ ks ps j) : docObj ks Ts = some (pairsOf ks Ts ps) := by
  have hs := pairs_sorted (Ts := Ts) hp hd
  have hpm := pairs_perm h hp.1
  cases hz : docObj ks Ts with
  | none =>
    have := putAll_none _ _ hz (by simp)
    rw [List.nil_append] at this
    exact absurd ((hpm.map Prod.fst).nodup_iff.1 (sorted_nodup hs)) this
  | some z =>
    obtain ⟨h1, h2⟩ := putAll_some (lt := bLt) (fun a b c h h' => bLt_trans h h') (fun a b h => bLt_total h) (ks.zip Ts) [] z hz List.Pairwise.nil
    rw [List.nil_append] at h2
    have he := sorted_one (lt := bLtP) (fun a => by unfold bLtP; rw [bLt_irrefl]; simp) (fun a b c h h' => bLt_trans h h') (h2.trans hpm.symm) h1 hs
    rw [he]
theorem make_none {ks : List ByteArray} {Ts : List VT} {ps : List Nat} (h : Ts.length = ks.length) (hp : PlacesOk ks ps) (hd : ∃ j, j + 1 < ps.length ∧ ¬ Differ ks ps j) : docObj ks Ts = none := by
  have hpm := pairs_perm h hp.1
  cases hz : docObj ks Ts with
  | none => rfl
  | some z =>
    obtain ⟨h1, h2⟩ := putAll_some (lt := bLt) (fun a b c h h' => bLt_trans h h') (fun a b h => bLt_total h) (ks.zip Ts) [] z hz List.Pairwise.nil
    rw [List.nil_append] at h2
    have hn : ((pairsOf ks Ts ps).map Prod.fst).Nodup := ((h2.trans hpm.symm).map Prod.fst).nodup_iff.1 (sorted_nodup h1)
    obtain ⟨j, hj, hne⟩ := hd
    have he : ks.getD (ps.getD j 0) ⟨#[]⟩ = ks.getD (ps.getD (j + 1) 0) ⟨#[]⟩ := by
      apply key_eq.1
      cases hq : ((ks.getD (ps.getD j 0) ⟨#[]⟩).toList == (ks.getD (ps.getD (j + 1) 0) ⟨#[]⟩).toList)
      · exact absurd hq hne
      · rfl
    rw [List.Nodup, List.pairwise_iff_getElem] at hn
    have hl : ((pairsOf ks Ts ps).map Prod.fst).length = ps.length := by simp [pairsOf]
    have := hn j (j + 1) (by omega) (by omega) (by omega)
    rw [List.getElem_map, List.getElem_map, pairs_get (by omega), pairs_get (by omega)] at this
    exact absurd he this
/-- The program's keys and trees, as pairs. -/
theorem keyL_all {ks : List ByteArray} {Ts : List VT} {ps : List Nat} : keyL ks ps ps.length = (pairsOf ks Ts ps).map Prod.fst ∧ treeL Ts ps ps.length = (pairsOf ks Ts ps).map Prod.snd := by
  unfold keyL treeL pairsOf
  rw [List.take_length, List.map_map, List.map_map]
  exact ⟨rfl, rfl⟩
end Go.Proofs.YtcbcjeabpjjhbaaGreatDoor
namespace Go.Proofs.YtcbcjeabpjjhbaaGreatDoor
set_option linter.unusedVariables false

/-- What is wrong, and how many bytes are left there. -/
abbrev Bad := Int × Nat
/-- A blank, a digit. -/
def blankB (c : UInt8) : Bool := c == 32 || c == 9 || c == 10 || c == 13
def digJ (c : UInt8) : Bool := 48 ≤ c && c ≤ 57
def skipB (R : List UInt8) : List UInt8 := R.dropWhile blankB
/-- A hexadecimal digit's number. -/
def hexD (c : UInt8) : Option Nat := if 48 ≤ c.toNat ∧ c.toNat ≤ 57 then some (c.toNat - 48) else if 97 ≤ c.toNat ∧ c.toNat ≤ 102 then some (c.toNat - 87) else if 65 ≤ c.toNat ∧ c.toNat ≤ 70 then some (c.toNat - 55) else none
def hexN : List UInt8 → Nat → Option Nat
  | [], n => some n
  | c :: l, n => match hexD c with | none => none | some d => hexN l (n * 16 + d)
/-- The number of the \u that stands here, or -1. -/
def unitL : List UInt8 → Int
  | 92 :: 117 :: a :: b :: c :: d :: _ => match hexN [a, b, c, d] 0 with | none => -1 | some n => (n : Int)
  | _ => -1
/-- What one escape stands for, behind letters. -/
def pairL (R : List UInt8) : Except Int (Int × List UInt8) :=
  if Utf8.valid (unitL R) then .ok (unitL R, R.drop 6)
  else if unitL R - 55296 < 0 ∨ 1024 ≤ unitL R - 55296 ∨ unitL (R.drop 6) - 56320 < 0 ∨ 1024 ≤ unitL (R.drop 6) - 56320 then .error 30
  else .ok (65536 + (unitL R - 55296) * 1024 + (unitL (R.drop 6) - 56320), R.drop 12)
def letterJ (c : UInt8) : Option Int := if c = 34 then some 34 else if c = 92 then some 92 else if c = 98 then some 8 else if c = 102 then some 12 else if c = 110 then some 10 else if c = 114 then some 13 else if c = 116 then some 9 else none
def escJ (R : List UInt8) : Except Int (Int × List UInt8) := match R with
  | 92 :: c :: r => if c = 47 then .ok (47, r) else match letterJ c with | some x => .ok (x, r) | none => pairL R
  | _ => pairL R
/-- What stands for one rune of a text. -/
def runeJ (R : List UInt8) : Except Int (Int × List UInt8) := match R with
  | [] => .error 30
  | c :: _ => if c < 32 then .error 30 else if c = 92 then escJ R else
    let d := Utf8.decode ⟨R.toArray⟩ 0
    if d.1 = 65533 ∧ d.2 = 1 then .error 31 else .ok ((d.1 : Int), R.drop d.2)
/-- A text's bytes, to its quote. -/
def textJ : Nat → List UInt8 → List UInt8 → Except Bad (List UInt8 × List UInt8)
  | 0, R, _ => .error (30, R.length)
  | f + 1, R, acc => if Lib.hasPrefix R [34] then .ok (acc, R.drop 1) else match runeJ R with
    | .error c => .error (c, R.length)
    | .ok (x, R') => textJ f R' (acc ++ Lib.encodeRune x)
/-- From the quote on. -/
def quotedJ (R : List UInt8) : Except Bad (ByteArray × List UInt8) := match textJ R.length (R.drop 1) [] with
  | .error e => .error e
  | .ok (b, R') => if 16384 < b.length then .error (3, R.length) else .ok (⟨b.toArray⟩, R')
/-- A number. -/
def digsJ (D : List UInt8) : List UInt8 := if Lib.hasPrefix D [48] then [48] else D.takeWhile digJ
def numJ (R : List UInt8) : Except Bad (ByteArray × List UInt8) :=
  let D := if Lib.hasPrefix R [45] then R.drop 1 else R
  if D.head?.any digJ then
    if 100 < (digsJ D).length then .error (3, R.length)
    else .ok (⟨(if digsJ D = [48] then [48] else R.take (R.length - D.length + (digsJ D).length)).toArray⟩, D.drop (digsJ D).length)
  else .error (30, D.length)
def nullT : VT := .node 0 false ⟨#[]⟩ [] []
def boolT (b : Bool) : VT := .node 2 b ⟨#[]⟩ [] []
def intT (t : ByteArray) : VT := .node 3 false t [] []
def textT (t : ByteArray) : VT := .node 4 false t [] []
def listT (l : List VT) : VT := .node 5 false ⟨#[]⟩ l []
def objT (l : List (ByteArray × VT)) : VT := .node 6 false ⟨#[]⟩ (l.map Prod.snd) (l.map Prod.fst)
def wordJ (R : List UInt8) : Except Bad (VT × List UInt8) :=
  if Lib.hasPrefix R [110, 117, 108, 108] then .ok (nullT, R.drop 4)
  else if Lib.hasPrefix R [116, 114, 117, 101] then .ok (boolT true, R.drop 4)
  else if Lib.hasPrefix R [102, 97, 108, 115, 101] then .ok (boolT false, R.drop 5)
  else .error (30, R.length)
/-- A reader: of what is left and how many values have begun. -/
abbrev RdJ (α : Type) := List UInt8 → Nat → Except Bad (α × List UInt8 × Nat)
/-- Comma by comma, to the end. -/
def seqJ {σ : Type} (rd : σ → RdJ σ) (q : UInt8) : Nat → σ → RdJ σ
  | 0, _, _, _ => .error (0, 0)
  | f + 1, st, R, n => match rd st R n with
    | .error e => .error e
    | .ok (st', R', n') => if Lib.hasPrefix (skipB R') [q] then .ok (st', (skipB R').drop 1, n')
      else if Lib.hasPrefix (skipB R') [44] then seqJ rd q f st' ((skipB R').drop 1) n'
      else .error (30, (skipB R').length)
/-- From the opening sign on. -/
def eachJ {σ : Type} (rd : σ → RdJ σ) (q : UInt8) (st : σ) : RdJ σ := fun R n =>
  if Lib.hasPrefix (skipB (R.drop 1)) [q] then .ok (st, (skipB (R.drop 1)).drop 1, n)
  else seqJ rd q R.length st (skipB (R.drop 1)) n
def itemJ (rd : RdJ VT) (st : List VT) : RdJ (List VT) := fun R n => match rd R n with
  | .error e => .error e
  | .ok (T, R', n') => .ok (st ++ [T], R', n')
/-- A key, that isn't among those ahead. -/
def keyJ (ks : List ByteArray) (R : List UInt8) : Except Bad (ByteArray × List UInt8) :=
  if Lib.hasPrefix (skipB R) [34] then match quotedJ (skipB R) with
    | .error e => .error e
    | .ok (k, R') => if ks.contains k then .error (2, (skipB R).length) else .ok (k, R')
  else .error (30, (skipB R).length)
def pairJ (rd : RdJ VT) (st : List (ByteArray × VT)) : RdJ (List (ByteArray × VT)) := fun R n => match keyJ (st.map Prod.fst) R with
  | .error e => .error e
  | .ok (k, R1) => if Lib.hasPrefix (skipB R1) [58] then match rd ((skipB R1).drop 1) n with
      | .error e => .error e
      | .ok (T, R', n') => .ok (st ++ [(k, T)], R', n')
    else .error (30, (skipB R1).length)
/-- An object's tree. -/
def madeT (st : List (ByteArray × VT)) : VT := match docObj (st.map Prod.fst) (st.map Prod.snd) with | some z => objT z | none => noTree
/-- A value, d levels at most. -/
def valJ : Nat → RdJ VT
  | 0 => fun R n => .error (7, (skipB R).length)
  | d + 1 => fun R n => if n = 2000 then .error (3, (skipB R).length) else match skipB R with
    | [] => .error (30, 0)
    | c :: r => if c = 34 then match quotedJ (c :: r) with
          | .error e => .error e
          | .ok (t, R') => .ok (textT t, R', n + 1)
      else if c = 91 then match eachJ (itemJ (valJ d)) 93 [] (c :: r) (n + 1) with
          | .error e => .error e
          | .ok (l, R', n') => .ok (listT l, R', n')
      else if c = 123 then match eachJ (pairJ (valJ d)) 125 [] (c :: r) (n + 1) with
          | .error e => .error e
          | .ok (l, R', n') => .ok (madeT l, R', n')
      else if c = 45 ∨ digJ c = true then match numJ (c :: r) with
          | .error e => .error e
          | .ok (t, R') => .ok (intT t, R', n + 1)
      else match wordJ (c :: r) with
          | .error e => .error e
          | .ok (T, R') => .ok (T, R', n + 1)
/-- A whole text. -/
def wholeJ (t : ByteArray) : Except Bad VT :=
  if 65536 < t.size then .error (3, t.size) else match valJ 24 t.data.toList 0 with
    | .error e => .error e
    | .ok (T, R, _) => if skipB R = [] then .ok T else .error (30, (skipB R).length)
end Go.Proofs.YtcbcjeabpjjhbaaGreatDoor
namespace Go.Proofs.YtcbcjeabpjjhbaaGreatDoor
open Go.RowKit
set_option linter.unusedVariables false

/-- All blocks that were there but R are as they were. -/
structure Aside (R : Nat) (W w' : World) : Prop where
  os : w'.os = W.os
  tape : w'.tape = W.tape
  output : w'.output = W.output
  size : W.heap.size ≤ w'.heap.size
  block : ∀ k, k < W.heap.size → k ≠ R → w'.heap[k]? = W.heap[k]?
theorem Aside.refl (R : Nat) (W : World) : Aside R W W := ⟨rfl, rfl, rfl, Nat.le_refl _, fun _ _ _ => rfl⟩
theorem Aside.trans {R : Nat} {a b c : World} (h : Aside R a b) (k : Aside R b c) : Aside R a c :=
  ⟨k.os.trans h.os, k.tape.trans h.tape, k.output.trans h.output, Nat.le_trans h.size k.size, fun i hi hr => (k.block i (Nat.lt_of_lt_of_le hi h.size) hr).trans (h.block i hi hr)⟩
theorem Aside.below {R B : Nat} {W w' : World} (h : Aside R W w') (hB : B ≤ W.heap.size) (hR : B ≤ R) : Below B W w' := ⟨h.os, h.tape, h.output, h.size, fun k hk => h.block k (by omega) (by omega)⟩
theorem Aside.of {R : Nat} {W w' : World} (h : Below W.heap.size W w') : Aside R W w' := ⟨h.os, h.tape, h.output, h.size, fun k hk _ => h.block k hk⟩
theorem Aside.set {R : Nat} {W w' : World} (h : Aside R W w') (j : Nat) (u : Value) : Aside R W (w'.setCell ⟨R, j, none⟩ u) :=
  ⟨h.os, h.tape, h.output, by simpa using h.size, fun k hk hr => by rw [Below.heap_setCell w' ⟨R, j, none⟩ u k hr]; exact h.block k hk hr⟩
theorem Aside.draw {R : Nat} {W w' : World} (h : Aside R W w') (n : Nat) : Aside R W (w'.drewN n) := ⟨h.os, h.tape, h.output, h.size, h.block⟩
theorem Blk.aside {R Q : Nat} {W w' : World} {cs : Array Value} {t : TypeId} (h : Blk W Q cs t) (ha : Aside R W w') (hne : Q ≠ R) : Blk w' Q cs t := (ha.block Q h.lt hne).trans h
theorem below_drewN (W : World) (n : Nat) : Below W.heap.size W (W.drewN n) := ⟨rfl, rfl, rfl, Nat.le_refl _, fun _ _ => rfl⟩

/-- The rest of a text, from a byte on. -/
def rest (t : ByteArray) (a : Nat) : List UInt8 := t.data.toList.drop a
theorem rest_length (t : ByteArray) (a : Nat) : (rest t a).length = t.size - a := by unfold rest; simp
theorem rest_extract (t : ByteArray) (a : Nat) : (t.extract a t.size).data.toList = rest t a := Lib.extract_to_end t a
theorem rest_add (t : ByteArray) (a m : Nat) : rest t (a + m) = (rest t a).drop m := by unfold rest; rw [List.drop_drop]
theorem rest_nil {t : ByteArray} {a : Nat} (h : t.size ≤ a) : rest t a = [] := by unfold rest; exact List.drop_of_length_le (by simpa using h)
theorem rest_cons {t : ByteArray} {a : Nat} (h : a < t.size) : rest t a = (t[a]'h) :: rest t (a + 1) := by
  unfold rest
  rw [List.drop_eq_getElem_cons (by simpa using h)]
  rfl
theorem rest_back {t : ByteArray} {a : Nat} (h : a ≤ t.size) : t.size - (rest t a).length = a := by rw [rest_length]; omega
theorem pre_le {t : ByteArray} {a : Nat} {p : ByteArray} (h : Lib.hasPrefix (rest t a) p.data.toList = true) : p.size ≤ t.size - a := by
  have := List.IsPrefix.length_le (List.isPrefixOf_iff_prefix.1 h)
  rw [rest_length] at this
  simpa using this

/-- The reader at P stands at byte a of the text, n values have begun. -/
def Rdr (W : World) (P : Nat) (t : ByteArray) (a n : Nat) : Prop := Blk W P #[.string t, .int .i64 ((a : Nat) : Int), .int .i64 ((n : Nat) : Int)] 53 ∧ a ≤ t.size ∧ t.size ≤ 65536 ∧ n ≤ 2000
/-- It has gone on: all else is as it was. -/
def Went (W W' : World) (P : Nat) (t : ByteArray) (a n : Nat) : Prop := Aside P W W' ∧ Rdr W' P t a n
theorem Went.trans {W W1 W2 : World} {P : Nat} {t : ByteArray} {a b n m : Nat} (h : Went W W1 P t a n) (k : Went W1 W2 P t b m) : Went W W2 P t b m := ⟨h.1.trans k.1, k.2⟩
theorem Rdr.below {W W' : World} {P : Nat} {t : ByteArray} {a n : Nat} (h : Rdr W P t a n) (hb : Below W.heap.size W W') : Rdr W' P t a n := ⟨h.1.below hb, h.2⟩
theorem Rdr.stays {W W' : World} {P : Nat} {t : ByteArray} {a n : Nat} (h : Rdr W P t a n) (hb : Below W.heap.size W W') : Went W W' P t a n := ⟨Aside.of hb, h.below hb⟩
theorem Rdr.same {W : World} {P : Nat} {t : ByteArray} {a n : Nat} (h : Rdr W P t a n) : Went W W P t a n := ⟨Aside.refl P W, h⟩
theorem Rdr.moves {W : World} {P : Nat} {t : ByteArray} {a b n : Nat} (h : Rdr W P t a n) (hb : b ≤ t.size) : Went W (W.setCell ⟨P, 1, none⟩ (.int .i64 (b : Int))) P t b n :=
  ⟨(Aside.refl P W).set 1 _, by have := h.1.set 1 (.int .i64 (b : Int)); simpa using this, hb, h.2.2⟩
theorem Rdr.begins {W : World} {P : Nat} {t : ByteArray} {a n : Nat} (h : Rdr W P t a n) (hn : n < 2000) : Went W (W.setCell ⟨P, 2, none⟩ (.int .i64 ((n + 1 : Nat) : Int))) P t a (n + 1) :=
  ⟨(Aside.refl P W).set 2 _, by have := h.1.set 2 (.int .i64 ((n + 1 : Nat) : Int)); simpa using this, h.2.1, h.2.2.1, by omega⟩

/-- A *api.Diag is thrown: what is wrong, and so many bytes are left there. -/
def Thrown (W : World) (P : Nat) (t : ByteArray) (b : Bad) (e : Ending) (w' : World) : Prop := ∃ D, e = .panicked [{ v := .iface 34 (.pointer (some ⟨D, 0, none⟩)), recovered := false }] ∧ W.heap.size ≤ D ∧ Blk w' D #[.int .i64 b.1, .string ⟨#[]⟩, .int .i64 ((t.size - b.2 : Nat) : Int)] 48 ∧ Aside P W w'
theorem Thrown.after {W W1 w' : World} {P : Nat} {t : ByteArray} {b : Bad} {e : Ending} (h : Thrown W1 P t b e w') (ha : Aside P W W1) : Thrown W P t b e w' := by
  obtain ⟨D, h1, h2, h3, h4⟩ := h
  exact ⟨D, h1, Nat.le_trans ha.size h2, h3, ha.trans h4⟩
/-- How a call of the reader ends: V says what it answers. -/
def Ends {α : Type} (W : World) (P : Nat) (t : ByteArray) (V : α → Value → World → Prop) (r : Except Bad (α × List UInt8 × Nat)) (e : Ending) (w' : World) : Prop :=
  match r with
  | .ok (x, R', n') => ∃ v a', e = .returned v ∧ V x v w' ∧ Went W w' P t a' n' ∧ rest t a' = R'
  | .error b => Thrown W P t b e w'
theorem Ends.after {α : Type} {W W1 w' : World} {P a n : Nat} {t : ByteArray} {V : α → Value → World → Prop} {r : Except Bad (α × List UInt8 × Nat)} {e : Ending} (hw : Went W W1 P t a n) (h : Ends W1 P t V r e w') : Ends W P t V r e w' := by
  cases r with
  | error b => exact Thrown.after h hw.1
  | ok y =>
    obtain ⟨v, a', h1, h2, h3, h4⟩ := h
    exact ⟨v, a', h1, h2, hw.trans h3, h4⟩
theorem pre_head {R : List UInt8} {q : UInt8} : Lib.hasPrefix R [q] = true ↔ ∃ r, R = q :: r := by
  cases R with
  | nil => simp [Lib.hasPrefix]
  | cons c r =>
    simp [Lib.hasPrefix, List.isPrefixOf]
    exact eq_comm
theorem str_eq {s : ByteArray} {l : List UInt8} (h : s.data.toList = l) : s = ⟨l.toArray⟩ := by
  cases s
  congr 1
  apply Array.toList_inj.1
  simpa using h

theorem below_drew (w : World) : Below w.heap.size w w.drew := ⟨rfl, rfl, rfl, Nat.le_refl _, fun _ _ => rfl⟩
end Go.Proofs.YtcbcjeabpjjhbaaGreatDoor
