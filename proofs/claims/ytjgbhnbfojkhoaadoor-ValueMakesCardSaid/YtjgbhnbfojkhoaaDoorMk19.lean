/- cmp.Compare of strings, slices.Compare of lists of strings · A key put or dropped in its place: the document's way and the program's are one -/
import Derived.Handy
import Derived.Test.YtjgbhnbfojkhoaaDoorMk05
import Derived.Test.YtjgbhnbfojkhoaaDoorMk09
import Derived.Test.YtjgbhnbfojkhoaaDoorMk17
import Derived.Test.YtjgbhnbfojkhoaaDoorMk18
namespace Go.Proofs.YtjgbhnbfojkhoaaDoor
open Go.RowKit
set_option linter.unusedVariables false

theorem cmpNanS_any (a : ByteArray) (w : World) : Calls Tryd.prog 63 #[.string a] w fun e w' => e = .returned (.bool false) ∧ w = w' := by
  go_enter Tryd.func63, Tryd.ntmps63
  go_wp2
  go_ret
  exact ⟨by simp, rfl⟩
theorem cmpS_lt {a b : ByteArray} (h : bLt a b = true) : cmpS a b = -1 := by
  have h1 : a.data.toList < b.data.toList := by unfold bLt at h; simpa using h
  have h2 := (compareBytes_neg _ _).2 h1
  have h3 := bytes_range a.data.toList b.data.toList
  unfold cmpS
  omega
theorem cmpS_gt {a b : ByteArray} (h : bLt b a = true) : cmpS a b = 1 := by
  rw [cmpS_anti b a, cmpS_lt h]; rfl
theorem cmpS_eq {a b : ByteArray} (h1 : bLt a b = false) (h2 : bLt b a = false) : cmpS a b = 0 := by
  have n1 : ¬ cmpS a b < 0 := fun h => by
    have := (compareBytes_neg _ _).1 h
    unfold bLt at h1
    simp at h1
    exact h1 this
  have n2 : ¬ cmpS b a < 0 := fun h => by
    have := (compareBytes_neg _ _).1 h
    unfold bLt at h2
    simp at h2
    exact h2 this
  have := cmpS_anti a b
  omega
theorem cmpString_any (a b : ByteArray) (w : World) : Calls Tryd.prog 70 #[.string a, .string b] w fun e w' => e = .returned (.int .i64 (cmpS a b)) ∧ w = w' := by
  have HN := Lib.hid (fun x W => cmpNanS_any x W)
  have h1 := bLess_eq a b
  have h2 := bLess_eq b a
  rcases Bool.eq_false_or_eq_true (bLt a b) with h | h
  · rw [cmpS_lt h]
    rw [h] at h1
    go_enter Tryd.func70, Tryd.ntmps70
    go_wp2_with (go_at_call 63; refine (HN.out _ _).mono ?_; rintro e w' ⟨rfl, rfl⟩)
    go_ret
    exact ⟨rfl, rfl⟩
  · rcases Bool.eq_false_or_eq_true (bLt b a) with h' | h'
    · have he : (a.toList == b.toList) = false := by
        rw [← Bool.not_eq_true, ← cmpS_zero, cmpS_gt h']; decide
      rw [cmpS_gt h']
      rw [h] at h1
      rw [h'] at h2
      go_enter Tryd.func70, Tryd.ntmps70
      go_wp2_with (go_at_call 63; refine (HN.out _ _).mono ?_; rintro e w' ⟨rfl, rfl⟩)
      go_ret
      exact ⟨rfl, rfl⟩
    · have he : (a.toList == b.toList) = true := (cmpS_zero a b).1 (cmpS_eq h h')
      rw [cmpS_eq h h']
      rw [h] at h1
      rw [h'] at h2
      go_enter Tryd.func70, Tryd.ntmps70
      go_wp2_with (go_at_call 63; refine (HN.out _ _).mono ?_; rintro e w' ⟨rfl, rfl⟩)
      go_ret
      exact ⟨rfl, rfl⟩

/-- The rest of a comparison. -/
theorem cmpKs_rest {ks ms : List ByteArray} {j : Nat} (h1 : j < ks.length) (h2 : j < ms.length) : cmpKs (ks.drop j) (ms.drop j) = if cmpS ks[j] ms[j] = 0 then cmpKs (ks.drop (j + 1)) (ms.drop (j + 1)) else cmpS ks[j] ms[j] := by
  rw [List.drop_eq_getElem_cons h1, List.drop_eq_getElem_cons h2]
  conv => lhs; unfold cmpKs
theorem cmpKs_long {ks ms : List ByteArray} {j : Nat} (h1 : j < ks.length) (h2 : ms.length ≤ j) : cmpKs (ks.drop j) (ms.drop j) = 1 := by
  rw [List.drop_eq_getElem_cons h1, List.drop_eq_nil_of_le h2]
  unfold cmpKs; rfl
theorem cmpKs_short {ks ms : List ByteArray} {j : Nat} (h1 : ks.length ≤ j) (h2 : j < ms.length) : cmpKs (ks.drop j) (ms.drop j) = -1 := by
  rw [List.drop_eq_getElem_cons h2, List.drop_eq_nil_of_le h1]
  unfold cmpKs; rfl
theorem cmpKs_done {ks ms : List ByteArray} {j : Nat} (h1 : ks.length ≤ j) (h2 : ms.length ≤ j) : cmpKs (ks.drop j) (ms.drop j) = 0 := by
  rw [List.drop_eq_nil_of_le h1, List.drop_eq_nil_of_le h2]
  unfold cmpKs; rfl

set_option maxRecDepth 100000 in
set_option maxHeartbeats 2000000 in
theorem compareKeys_any {B : Nat} {w : World} {u v : Value} {ks ms : List ByteArray} (hk : StrsAt B w u ks) (hm : StrsAt B w v ms) (W : World) (hb : Below B w W) : Calls Tryd.prog 58 #[u, v] W fun e w' => e = .returned (.int .i64 (cmpKs ks ms)) ∧ W = w' := by
  have HS := Lib.hid (fun a b W => cmpString_any a b W)
  have hkW := hk.below hb
  have hmW := hm.below hb
  obtain ⟨adk, capk, rfl, hkc, hkl, hkp⟩ := hkW
  obtain ⟨adm, capm, rfl, hmc, hml, hmp⟩ := hmW
  have HKP := Lib.hid hkp
  have HMP := Lib.hid hmp
  obtain ⟨r, hr⟩ : ∃ r, cmpKs ks ms = r := ⟨_, rfl⟩
  rw [hr]
  have HR0 : Hid (cmpKs (ks.drop 0) (ms.drop 0) = r) := Lib.hid hr
  obtain ⟨n, hn⟩ : ∃ n, ks.length = n := ⟨_, rfl⟩
  obtain ⟨m, hm⟩ : ∃ m, ms.length = m := ⟨_, rfl⟩
  have HN := Lib.hid hn
  have HM := Lib.hid hm
  rw [hn] at hkc hkl ⊢
  rw [hm] at hmc hml ⊢
  clear hkp hmp hr hn hm hb hk
  go_enter Tryd.func58, Tryd.ntmps58
  go_wp2_with fail
  go_loop [11] (fun jv => ∃ j : Nat, jv = .int .i64 j ∧ j ≤ n ∧ j ≤ m ∧ Hid (cmpKs (ks.drop j) (ms.drop j) = r)) (fun jv => n - (intOf jv).toNat)
  case atStart => exact ⟨0, rfl, by omega, by omega, HR0⟩
  case round =>
    obtain ⟨j, rfl, hj, hjm, HI⟩ := hrel
    have i1 : (0 : Int) ≤ (j : Int) := by omega
    by_cases hlt : j < n
    · have i2 : (j : Int) < (n : Int) := by omega
      have hjk : j < ks.length := by have := HN.out; omega
      by_cases hltm : j < m
      · have i3 : (j : Int) < (m : Int) := by omega
        have hjm' : j < ms.length := by have := HM.out; omega
        obtain ⟨gk, ok, rfl, hgk, hck⟩ := HKP.out (by omega)
        obtain ⟨gm, om, rfl, hgm, hcm⟩ := HMP.out (by omega)
        have ck := hck j hjk
        have cm := hcm j hjm'
        have hst := cmpKs_rest hjk hjm'
        rw [HI.out] at hst
        obtain ⟨x, hx⟩ : ∃ x, ks[j] = x := ⟨_, rfl⟩
        obtain ⟨y, hy⟩ : ∃ y, ms[j] = y := ⟨_, rfl⟩
        rw [hx] at ck
        rw [hy] at cm
        rw [hx, hy] at hst
        have HC := Lib.hid (HS.out x y W)
        clear hck hcm hx hy HS
        generalize cmpS x y = z at HC hst
        by_cases hz : z = 0
        · subst hz
          rw [if_pos rfl] at hst
          have HST := Lib.hid hst
          clear hst
          go_wp2_with (go_at_call 70; refine HC.out.mono ?_; rintro e w' ⟨rfl, rfl⟩)
          go_round
          case rel => exact ⟨j + 1, by go_num, by omega, by omega, Lib.hid HST.out.symm⟩
          case measure => simp [intOf]; omega
        · rw [if_neg hz] at hst
          have hz1 : (z == 0) = false := beq_eq_false_iff_ne.2 hz
          have hz2 : (z != 0) = true := by simp only [bne, hz1]; rfl
          have HST := Lib.hid hst
          clear hst
          go_wp2_with (go_at_call 70; refine HC.out.mono ?_; rintro e w' ⟨rfl, rfl⟩)
          go_ret
          exact ⟨by rw [HST.out]; rfl, rfl⟩
      · have HF : Hid (r = 1) := Lib.hid (by rw [← HI.out]; exact cmpKs_long hjk (by have := HM.out; omega))
        obtain rfl : j = m := by omega
        obtain ⟨gk, ok, rfl, hgk, hck⟩ := HKP.out (by omega)
        have ck := hck j hjk
        generalize ks[j] = x at ck
        clear hck
        go_wp2_with fail
        go_ret
        exact ⟨by rw [HF.out]; rfl, rfl⟩
    · obtain rfl : j = n := by omega
      by_cases hltm : j < m
      · have i3 : (j : Int) < (m : Int) := by omega
        have HF : Hid (r = -1) := Lib.hid (by rw [← HI.out]; exact cmpKs_short (by have := HN.out; omega) (by have := HM.out; omega))
        go_wp2_with fail
        go_ret
        exact ⟨by rw [HF.out]; rfl, rfl⟩
      · obtain rfl : j = m := by omega
        have HF : Hid (r = 0) := Lib.hid (by rw [← HI.out]; exact cmpKs_done (by have := HN.out; omega) (by have := HM.out; omega))
        go_wp2_with fail
        go_ret
        exact ⟨by rw [HF.out]; rfl, rfl⟩
end Go.Proofs.YtjgbhnbfojkhoaaDoor
namespace Go.Proofs.YtjgbhnbfojkhoaaDoor
open Go.RowKit
set_option linter.unusedVariables false

theorem same_of_not {a b : ByteArray} (h1 : bLt a b = false) (h2 : bLt b a = false) : (a.toList == b.toList) = true := (cmpS_zero a b).1 (cmpS_eq h1 h2)
theorem differ_of_lt {a b : ByteArray} (h : bLt a b = true) : (a.toList == b.toList) = false := by
  rw [← Bool.not_eq_true, ← cmpS_zero, cmpS_lt h]; decide
theorem differ_of_gt {a b : ByteArray} (h : bLt b a = true) : (a.toList == b.toList) = false := by
  rw [← Bool.not_eq_true, ← cmpS_zero, cmpS_gt h]; decide
theorem not_lt_of_gt {a b : ByteArray} (h : bLt b a = true) : bLt a b = false := by
  rcases Bool.eq_false_or_eq_true (bLt a b) with h' | h'
  · have := bLt_trans h h'
    rw [bLt_irrefl] at this; cases this
  · exact h'
theorem same_lt {a b c : ByteArray} (h : (a.toList == b.toList) = true) (h2 : bLt a c = true) : bLt b c = true := by
  have e : a.data.toList = b.data.toList := by rw [← ByteArray.toList_eq, ← ByteArray.toList_eq]; exact beq_iff_eq.1 h
  unfold bLt at *
  rw [← e]; exact h2
theorem Rising.tail {a : ByteArray} {l : List ByteArray} (h : Rising (a :: l)) : Rising l := fun i j hi hj hij => by
  have := h (i + 1) (j + 1) (by simpa using hi) (by simpa using hj) (by omega)
  simpa using this
theorem Rising.head {a : ByteArray} {l : List ByteArray} (h : Rising (a :: l)) : ∀ b ∈ l, bLt a b = true := fun b hb => by
  obtain ⟨j, hj, rfl⟩ := List.mem_iff_getElem.1 hb
  have := h 0 (j + 1) (by simp) (by simpa using hj) (by omega)
  simpa using this
theorem dropK_none {key : ByteArray} : ∀ {l : List ByteArray}, (∀ b ∈ l, (b.toList == key.toList) = false) → dropK key l = l
  | [], _ => rfl
  | a :: l, h => by
    unfold dropK
    rw [if_neg (by rw [h a List.mem_cons_self]; decide), dropK_none (fun b hb => h b (List.mem_cons_of_mem _ hb))]
theorem dropI_none {α : Type} {key : ByteArray} : ∀ {l : List ByteArray} {m : List α}, l.length = m.length → (∀ b ∈ l, (b.toList == key.toList) = false) → dropI key l m = m
  | [], [], _, _ => rfl
  | [], _ :: _, h, _ => by simp at h
  | _ :: _, [], h, _ => by simp at h
  | a :: l, y :: m, hl, h => by
    unfold dropI
    rw [if_neg (by rw [h a List.mem_cons_self]; decide), dropI_none (by simpa using hl) (fun b hb => h b (List.mem_cons_of_mem _ hb))]
theorem insK_front {key : ByteArray} : ∀ {l : List ByteArray}, (∀ b ∈ l, bLt key b = true) → insK key l = key :: l
  | [], _ => rfl
  | a :: l, h => by unfold insK; rw [if_pos (h a List.mem_cons_self)]
theorem insI_front {α : Type} {key : ByteArray} {x : α} : ∀ {l : List ByteArray} {m : List α}, l.length = m.length → (∀ b ∈ l, bLt key b = true) → insI key x l m = x :: m
  | [], [], _, _ => rfl
  | [], _ :: _, h, _ => by simp at h
  | _ :: _, [], h, _ => by simp at h
  | a :: l, y :: m, hl, h => by unfold insI; rw [if_pos (h a List.mem_cons_self)]
def one (b : Bool) : Nat := if b then 1 else 0
theorem KeyPlace.tail {a key : ByteArray} {l : List ByteArray} {p : Nat} (h : KeyPlace (a :: l) key (p + 1)) : KeyPlace l key p ∧ bLt a key = true := by
  obtain ⟨h1, h2, h3⟩ := h
  refine ⟨⟨by simpa using h1, fun x hx hxp => ?_, fun x hx hxp => ?_⟩, ?_⟩
  · have := h2 (x + 1) (by simpa using hx) (by omega); simpa using this
  · have := h3 (x + 1) (by simpa using hx) (by omega); simpa using this
  · have := h2 0 (by simp) (by omega); simpa using this
theorem hasAt_tail {a key : ByteArray} {l : List ByteArray} {p : Nat} : hasAt (a :: l) key (p + 1) = hasAt l key p := by unfold hasAt; simp
/-- The document's put is a put in the key's place. -/
theorem put_place {α : Type} {key : ByteArray} {x : α} : ∀ {ks : List ByteArray} {ys : List α} {p : Nat}, ks.length = ys.length → Rising ks → KeyPlace ks key p →
    insK key (dropK key ks) = ks.take p ++ key :: ks.drop (p + one (hasAt ks key p)) ∧ insI key x (dropK key ks) (dropI key ks ys) = ys.take p ++ x :: ys.drop (p + one (hasAt ks key p))
  | [], [], p, _, _, hp => by
    obtain rfl : p = 0 := by have := hp.1; simpa using this
    simp [dropK, dropI, insK, insI]
  | [], _ :: _, _, h, _, _ => by simp at h
  | _ :: _, [], _, h, _, _ => by simp at h
  | a :: l, y :: m, 0, hl, hr, hp => by
    have hl' : l.length = m.length := by simpa using hl
    have hge : bLt a key = false := by have := hp.2.2 0 (by simp) (Nat.le_refl _); simpa using this
    have hh : hasAt (a :: l) key 0 = (a.toList == key.toList) := by unfold hasAt; simp
    cases hs : (a.toList == key.toList)
    · have hgt : bLt key a = true := by
        rcases Bool.eq_false_or_eq_true (bLt key a) with h | h
        · exact h
        · rw [same_of_not hge h] at hs; cases hs
      have hall : ∀ b ∈ a :: l, bLt key b = true := fun b hb => by
        rcases List.mem_cons.1 hb with rfl | hb
        · exact hgt
        · exact bLt_trans hgt (hr.head b hb)
      have hnone : ∀ b ∈ a :: l, (b.toList == key.toList) = false := fun b hb => differ_of_gt (hall b hb)
      rw [dropK_none hnone, dropI_none hl hnone, insK_front hall, insI_front hl hall, hh, hs]
      simp [one]
    · have hall : ∀ b ∈ l, bLt key b = true := fun b hb => same_lt hs (hr.head b hb)
      have hnone : ∀ b ∈ l, (b.toList == key.toList) = false := fun b hb => differ_of_gt (hall b hb)
      have e1 : dropK key (a :: l) = l := by unfold dropK; rw [if_pos hs, dropK_none hnone]
      have e2 : dropI key (a :: l) (y :: m) = m := by unfold dropI; rw [if_pos hs, dropI_none hl' hnone]
      rw [e1, e2, insK_front hall, insI_front hl' hall, hh, hs]
      simp [one]
  | a :: l, y :: m, p + 1, hl, hr, hp => by
    obtain ⟨hp', hlt⟩ := hp.tail
    obtain ⟨i1, i2⟩ := put_place (x := x) (ks := l) (ys := m) (p := p) (by simpa using hl) hr.tail hp'
    have hs := differ_of_lt hlt
    have hng := not_lt_of_gt hlt
    have e1 : dropK key (a :: l) = a :: dropK key l := by conv => lhs; unfold dropK; rw [if_neg (by rw [hs]; decide)]
    have e2 : dropI key (a :: l) (y :: m) = y :: dropI key l m := by conv => lhs; unfold dropI; rw [if_neg (by rw [hs]; decide)]
    have e3 : insK key (a :: dropK key l) = a :: insK key (dropK key l) := by conv => lhs; unfold insK; rw [if_neg (by rw [hng]; decide)]
    have e4 : insI key x (a :: dropK key l) (y :: dropI key l m) = y :: insI key x (dropK key l) (dropI key l m) := by conv => lhs; unfold insI; rw [if_neg (by rw [hng]; decide)]
    rw [e1, e2, e3, e4, i1, i2, hasAt_tail, show p + 1 + one (hasAt l key p) = (p + one (hasAt l key p)) + 1 by omega]
    simp
/-- The document's drop is a drop at the key's place. -/
theorem drop_place {α : Type} {key : ByteArray} : ∀ {ks : List ByteArray} {ys : List α} {p : Nat}, ks.length = ys.length → Rising ks → KeyPlace ks key p →
    dropK key ks = ks.take p ++ ks.drop (p + one (hasAt ks key p)) ∧ dropI key ks ys = ys.take p ++ ys.drop (p + one (hasAt ks key p))
  | [], [], p, _, _, hp => by simp [dropK, dropI]
  | [], _ :: _, _, h, _, _ => by simp at h
  | _ :: _, [], _, h, _, _ => by simp at h
  | a :: l, y :: m, 0, hl, hr, hp => by
    have hl' : l.length = m.length := by simpa using hl
    have hge : bLt a key = false := by have := hp.2.2 0 (by simp) (Nat.le_refl _); simpa using this
    have hh : hasAt (a :: l) key 0 = (a.toList == key.toList) := by unfold hasAt; simp
    cases hs : (a.toList == key.toList)
    · have hgt : bLt key a = true := by
        rcases Bool.eq_false_or_eq_true (bLt key a) with h | h
        · exact h
        · rw [same_of_not hge h] at hs; cases hs
      have hnone : ∀ b ∈ a :: l, (b.toList == key.toList) = false := fun b hb => by
        rcases List.mem_cons.1 hb with rfl | hb
        · exact hs
        · exact differ_of_gt (bLt_trans hgt (hr.head b hb))
      rw [dropK_none hnone, dropI_none hl hnone, hh, hs]
      simp [one]
    · have hnone : ∀ b ∈ l, (b.toList == key.toList) = false := fun b hb => differ_of_gt (same_lt hs (hr.head b hb))
      have e1 : dropK key (a :: l) = l := by unfold dropK; rw [if_pos hs, dropK_none hnone]
      have e2 : dropI key (a :: l) (y :: m) = m := by unfold dropI; rw [if_pos hs, dropI_none hl' hnone]
      rw [e1, e2, hh, hs]
      simp [one]
  | a :: l, y :: m, p + 1, hl, hr, hp => by
    obtain ⟨hp', hlt⟩ := hp.tail
    obtain ⟨i1, i2⟩ := drop_place (ks := l) (ys := m) (p := p) (by simpa using hl) hr.tail hp'
    have hs := differ_of_lt hlt
    have e1 : dropK key (a :: l) = a :: dropK key l := by conv => lhs; unfold dropK; rw [if_neg (by rw [hs]; decide)]
    have e2 : dropI key (a :: l) (y :: m) = y :: dropI key l m := by conv => lhs; unfold dropI; rw [if_neg (by rw [hs]; decide)]
    rw [e1, e2, i1, i2, hasAt_tail, show p + 1 + one (hasAt l key p) = (p + one (hasAt l key p)) + 1 by omega]
    simp
/-- Where the key is not, it is nowhere. -/
theorem none_of_place {key : ByteArray} {ks : List ByteArray} {p : Nat} (hr : Rising ks) (hp : KeyPlace ks key p) (h : hasAt ks key p = false) : ∀ i (hi : i < ks.length), (ks[i].toList == key.toList) = false := fun i hi => by
  rcases Nat.lt_trichotomy i p with h1 | h1 | h1
  · exact differ_of_lt (hp.2.1 i hi h1)
  · subst h1
    rw [hasAt_in hi] at h; exact h
  · have hpl : p < ks.length := by omega
    have h2 := hr p i hpl hi h1
    have h3 := hp.2.2 p hpl (Nat.le_refl _)
    exact differ_of_gt (bLt_trans' h2 h3)
/-- Where the key is, there alone it is. -/
theorem place_only {key : ByteArray} {ks : List ByteArray} {i j : Nat} (hr : Rising ks) (hi : i < ks.length) (hj : j < ks.length) (h1 : (ks[i].toList == key.toList) = true) (h2 : (ks[j].toList == key.toList) = true) : i = j := by
  have e : (ks[i].toList == ks[j].toList) = true := by rw [beq_iff_eq] at *; rw [h1, h2]
  rcases Nat.lt_trichotomy i j with h | h | h
  · rw [differ_of_lt (hr i j hi hj h)] at e; cases e
  · exact h
  · rw [differ_of_gt (hr j i hj hi h)] at e; cases e
theorem keysOk_rising : ∀ {ks : List ByteArray}, keysOk ks = true → Rising ks
  | [], _ => fun i j hi _ _ => by simp at hi
  | [a], _ => fun i j hi hj hij => by simp at hi hj; omega
  | a :: b :: l, h => by
    unfold keysOk at h
    obtain ⟨h1, h2⟩ := Bool.and_eq_true_iff.1 h
    obtain ⟨-, h3⟩ := Bool.and_eq_true_iff.1 h1
    have ih := keysOk_rising h2
    intro i j hi hj hij
    have hhead : ∀ c ∈ b :: l, bLt a c = true := fun c hc => by
      rcases List.mem_cons.1 hc with rfl | hc
      · exact h3
      · exact bLt_trans h3 (ih.head c hc)
    match i, j with
    | 0, j + 1 => simpa using hhead _ (List.getElem_mem (by simpa using hj))
    | i + 1, j + 1 =>
      have := ih i j (by simpa using hi) (by simpa using hj) (by omega)
      simpa using this
end Go.Proofs.YtjgbhnbfojkhoaaDoor
