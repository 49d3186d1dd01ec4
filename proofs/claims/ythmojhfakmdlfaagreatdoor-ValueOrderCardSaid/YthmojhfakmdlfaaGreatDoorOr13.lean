/- cmp.Compare of strings, slices.Compare of lists of strings · value.Cmp of values without items and keys · slices.CompareFunc of items -/
import Derived.Handy
import Derived.Test.YthmojhfakmdlfaaGreatDoorOr05
import Derived.Test.YthmojhfakmdlfaaGreatDoorOr08
import Derived.Test.YthmojhfakmdlfaaGreatDoorOr11
import Derived.Test.YthmojhfakmdlfaaGreatDoorOr12
namespace Go.Proofs.YthmojhfakmdlfaaGreatDoor
open Go.RowKit
set_option linter.unusedVariables false

theorem cmpNanS_any (a : ByteArray) (w : World) : Calls Tryz.prog 120 #[.string a] w fun e w' => e = .returned (.bool false) ∧ w = w' := by
  go_enter Tryz.func120, Tryz.ntmps120
  go_wp2
  go_ret
  exact ⟨by simp, rfl⟩
theorem cmpS_lt {a b : ByteArray} (h : bLt a b = true) : cmpS a b = -1 := by
  have h1 : a.data.toList < b.data.toList := by unfold bLt at h; simpa using h
  have h2 := (compareBytes_neg _ _).2 h1
  have h3 := bytes_range a.data.toList b.data.toList
  unfold cmpS
  omega
theorem cmpS_gt {a b : ByteArray} (h : bLt b a = true) : cmpS a b = 1 := by
  rw [cmpS_anti b a, cmpS_lt h]; rfl
theorem cmpS_eq {a b : ByteArray} (h1 : bLt a b = false) (h2 : bLt b a = false) : cmpS a b = 0 := by
  have n1 : ¬ cmpS a b < 0 := fun h => by
    have := (compareBytes_neg _ _).1 h
    unfold bLt at h1
    simp at h1
    exact h1 this
  have n2 : ¬ cmpS b a < 0 := fun h => by
    have := (compareBytes_neg _ _).1 h
    unfold bLt at h2
    simp at h2
    exact h2 this
  have := cmpS_anti a b
  omega
theorem cmpString_any (a b : ByteArray) (w : World) : Calls Tryz.prog 114 #[.string a, .string b] w fun e w' => e = .returned (.int .i64 (cmpS a b)) ∧ w = w' := by
  have HN := Lib.hid (fun x W => cmpNanS_any x W)
  have h1 := bLess_eq a b
  have h2 := bLess_eq b a
  rcases Bool.eq_false_or_eq_true (bLt a b) with h | h
  · rw [cmpS_lt h]
    rw [h] at h1
    go_enter Tryz.func114, Tryz.ntmps114
    go_wp2_with (go_at_call 120; refine (HN.out _ _).mono ?_; rintro e w' ⟨rfl, rfl⟩)
    go_ret
    exact ⟨rfl, rfl⟩
  · rcases Bool.eq_false_or_eq_true (bLt b a) with h' | h'
    · have he : (a.toList == b.toList) = false := by
        rw [← Bool.not_eq_true, ← cmpS_zero, cmpS_gt h']; decide
      rw [cmpS_gt h']
      rw [h] at h1
      rw [h'] at h2
      go_enter Tryz.func114, Tryz.ntmps114
      go_wp2_with (go_at_call 120; refine (HN.out _ _).mono ?_; rintro e w' ⟨rfl, rfl⟩)
      go_ret
      exact ⟨rfl, rfl⟩
    · have he : (a.toList == b.toList) = true := (cmpS_zero a b).1 (cmpS_eq h h')
      rw [cmpS_eq h h']
      rw [h] at h1
      rw [h'] at h2
      go_enter Tryz.func114, Tryz.ntmps114
      go_wp2_with (go_at_call 120; refine (HN.out _ _).mono ?_; rintro e w' ⟨rfl, rfl⟩)
      go_ret
      exact ⟨rfl, rfl⟩

/-- The rest of a comparison. -/
theorem cmpKs_rest {ks ms : List ByteArray} {j : Nat} (h1 : j < ks.length) (h2 : j < ms.length) : cmpKs (ks.drop j) (ms.drop j) = if cmpS ks[j] ms[j] = 0 then cmpKs (ks.drop (j + 1)) (ms.drop (j + 1)) else cmpS ks[j] ms[j] := by
  rw [List.drop_eq_getElem_cons h1, List.drop_eq_getElem_cons h2]
  conv => lhs; unfold cmpKs
theorem cmpKs_long {ks ms : List ByteArray} {j : Nat} (h1 : j < ks.length) (h2 : ms.length ≤ j) : cmpKs (ks.drop j) (ms.drop j) = 1 := by
  rw [List.drop_eq_getElem_cons h1, List.drop_eq_nil_of_le h2]
  unfold cmpKs; rfl
theorem cmpKs_short {ks ms : List ByteArray} {j : Nat} (h1 : ks.length ≤ j) (h2 : j < ms.length) : cmpKs (ks.drop j) (ms.drop j) = -1 := by
  rw [List.drop_eq_getElem_cons h2, List.drop_eq_nil_of_le h1]
  unfold cmpKs; rfl
theorem cmpKs_done {ks ms : List ByteArray} {j : Nat} (h1 : ks.length ≤ j) (h2 : ms.length ≤ j) : cmpKs (ks.drop j) (ms.drop j) = 0 := by
  rw [List.drop_eq_nil_of_le h1, List.drop_eq_nil_of_le h2]
  unfold cmpKs; rfl

set_option maxRecDepth 100000 in
set_option maxHeartbeats 2000000 in
theorem compareKeys_any {B : Nat} {w : World} {u v : Value} {ks ms : List ByteArray} (hk : StrsAt B w u ks) (hm : StrsAt B w v ms) (W : World) (hb : Below B w W) : Calls Tryz.prog 78 #[u, v] W fun e w' => e = .returned (.int .i64 (cmpKs ks ms)) ∧ W = w' := by
  have HS := Lib.hid (fun a b W => cmpString_any a b W)
  have hkW := hk.below hb
  have hmW := hm.below hb
  obtain ⟨adk, capk, rfl, hkc, hkl, hkp⟩ := hkW
  obtain ⟨adm, capm, rfl, hmc, hml, hmp⟩ := hmW
  have HKP := Lib.hid hkp
  have HMP := Lib.hid hmp
  obtain ⟨r, hr⟩ : ∃ r, cmpKs ks ms = r := ⟨_, rfl⟩
  rw [hr]
  have HR0 : Hid (cmpKs (ks.drop 0) (ms.drop 0) = r) := Lib.hid hr
  obtain ⟨n, hn⟩ : ∃ n, ks.length = n := ⟨_, rfl⟩
  obtain ⟨m, hm⟩ : ∃ m, ms.length = m := ⟨_, rfl⟩
  have HN := Lib.hid hn
  have HM := Lib.hid hm
  rw [hn] at hkc hkl ⊢
  rw [hm] at hmc hml ⊢
  clear hkp hmp hr hn hm hb hk
  go_enter Tryz.func78, Tryz.ntmps78
  go_wp2_with fail
  go_loop [11] (fun jv => ∃ j : Nat, jv = .int .i64 j ∧ j ≤ n ∧ j ≤ m ∧ Hid (cmpKs (ks.drop j) (ms.drop j) = r)) (fun jv => n - (intOf jv).toNat)
  case atStart => exact ⟨0, rfl, by omega, by omega, HR0⟩
  case round =>
    obtain ⟨j, rfl, hj, hjm, HI⟩ := hrel
    have i1 : (0 : Int) ≤ (j : Int) := by omega
    by_cases hlt : j < n
    · have i2 : (j : Int) < (n : Int) := by omega
      have hjk : j < ks.length := by have := HN.out; omega
      by_cases hltm : j < m
      · have i3 : (j : Int) < (m : Int) := by omega
        have hjm' : j < ms.length := by have := HM.out; omega
        obtain ⟨gk, ok, rfl, hgk, hck⟩ := HKP.out (by omega)
        obtain ⟨gm, om, rfl, hgm, hcm⟩ := HMP.out (by omega)
        have ck := hck j hjk
        have cm := hcm j hjm'
        have hst := cmpKs_rest hjk hjm'
        rw [HI.out] at hst
        obtain ⟨x, hx⟩ : ∃ x, ks[j] = x := ⟨_, rfl⟩
        obtain ⟨y, hy⟩ : ∃ y, ms[j] = y := ⟨_, rfl⟩
        rw [hx] at ck
        rw [hy] at cm
        rw [hx, hy] at hst
        have HC := Lib.hid (HS.out x y W)
        clear hck hcm hx hy HS
        generalize cmpS x y = z at HC hst
        by_cases hz : z = 0
        · subst hz
          rw [if_pos rfl] at hst
          have HST := Lib.hid hst
          clear hst
          go_wp2_with (go_at_call 114; refine HC.out.mono ?_; rintro e w' ⟨rfl, rfl⟩)
          go_round
          case rel => exact ⟨j + 1, by go_num, by omega, by omega, Lib.hid HST.out.symm⟩
          case measure => simp [intOf]; omega
        · rw [if_neg hz] at hst
          have hz1 : (z == 0) = false := beq_eq_false_iff_ne.2 hz
          have hz2 : (z != 0) = true := by simp only [bne, hz1]; rfl
          have HST := Lib.hid hst
          clear hst
          go_wp2_with (go_at_call 114; refine HC.out.mono ?_; rintro e w' ⟨rfl, rfl⟩)
          go_ret
          exact ⟨by rw [HST.out]; rfl, rfl⟩
      · have HF : Hid (r = 1) := Lib.hid (by rw [← HI.out]; exact cmpKs_long hjk (by have := HM.out; omega))
        obtain rfl : j = m := by omega
        obtain ⟨gk, ok, rfl, hgk, hck⟩ := HKP.out (by omega)
        have ck := hck j hjk
        generalize ks[j] = x at ck
        clear hck
        go_wp2_with fail
        go_ret
        exact ⟨by rw [HF.out]; rfl, rfl⟩
    · obtain rfl : j = n := by omega
      by_cases hltm : j < m
      · have i3 : (j : Int) < (m : Int) := by omega
        have HF : Hid (r = -1) := Lib.hid (by rw [← HI.out]; exact cmpKs_short (by have := HN.out; omega) (by have := HM.out; omega))
        go_wp2_with fail
        go_ret
        exact ⟨by rw [HF.out]; rfl, rfl⟩
      · obtain rfl : j = m := by omega
        have HF : Hid (r = 0) := Lib.hid (by rw [← HI.out]; exact cmpKs_done (by have := HN.out; omega) (by have := HM.out; omega))
        go_wp2_with fail
        go_ret
        exact ⟨by rw [HF.out]; rfl, rfl⟩
end Go.Proofs.YthmojhfakmdlfaaGreatDoor
namespace Go.Proofs.YthmojhfakmdlfaaGreatDoor
open Go.RowKit

theorem nanKind_any (a : Int) (w : World) : Calls Tryz.prog 73 #[.int .i64 a] w fun e w' => e = .returned (.bool false) ∧ w = w' := by
  go_enter Tryz.func73, Tryz.ntmps73
  go_wp2
  go_ret
  exact ⟨by simp, rfl⟩
theorem cmpKind_any (a b : Int) (w : World) : Calls Tryz.prog 41 #[.int .i64 a, .int .i64 b] w fun e w' => e = .returned (.int .i64 (sgnI a b)) ∧ w = w' := by
  have HN := Lib.hid (fun x W => nanKind_any x W)
  unfold sgnI
  rcases (show a < b ∨ (¬ a < b ∧ b < a) ∨ (¬ a < b ∧ ¬ b < a) by omega) with h | ⟨h, h'⟩ | ⟨h, h'⟩
  · rw [if_pos h]
    go_enter Tryz.func41, Tryz.ntmps41
    go_wp2_with (go_at_call 73; refine (HN.out _ _).mono ?_; rintro e w' ⟨rfl, rfl⟩)
    go_ret
    exact ⟨rfl, rfl⟩
  · rw [if_neg h, if_pos h']
    go_enter Tryz.func41, Tryz.ntmps41
    go_wp2_with (go_at_call 73; refine (HN.out _ _).mono ?_; rintro e w' ⟨rfl, rfl⟩)
    go_ret
    exact ⟨rfl, rfl⟩
  · rw [if_neg h, if_neg h']
    go_enter Tryz.func41, Tryz.ntmps41
    go_wp2_with (go_at_call 73; refine (HN.out _ _).mono ?_; rintro e w' ⟨rfl, rfl⟩)
    go_ret
    exact ⟨rfl, rfl⟩
set_option maxHeartbeats 1000000 in
theorem vCmp_kinds (k l : Int) (b c : Bool) (s t : ByteArray) (h : k ≠ l) (w : World) : Calls Tryz.prog 13 #[scal k b s, scal l c t] w fun e w' => e = .returned (.int .i64 (sgnI k l)) ∧ Below w.heap.size w w' := by
  have HC := Lib.hid (fun W => cmpKind_any k l W)
  generalize sgnI k l = z at HC ⊢
  have hne : (k == l) = false := beq_eq_false_iff_ne.2 h
  unfold scal
  go_enter Tryz.func13, Tryz.ntmps13
  go_wp2_with (go_at_call 41; refine (HC.out _).mono ?_; rintro e w' ⟨rfl, rfl⟩)
  go_ret
  exact ⟨rfl, ((Below.refl _ _).alloc (Nat.le_refl _) _).alloc (by simp) _⟩
set_option maxHeartbeats 1000000 in
theorem vCmp_ints {a b : Int} (ha : Fits a) (hb : Fits b) (w : World) : Calls Tryz.prog 13 #[scal 3 false (str a), scal 3 false (str b)] w fun e w' => e = .returned (.int .i64 (sgnI a b)) ∧ Below w.heap.size w w' := by
  have HC := Lib.hid (fun W => Cmp_good ha hb (w := W))
  generalize sgnI a b = z at HC ⊢
  generalize str a = s at HC ⊢
  generalize str b = t at HC ⊢
  clear ha hb
  unfold scal
  have hb0 := ((Below.refl w.heap.size w).alloc (Nat.le_refl _) (.cells #[.int .i64 3, .bool false, .string s, .slice none 0 0, .slice none 0 0] 26)).alloc (by simp) (.cells #[.int .i64 3, .bool false, .string t, .slice none 0 0, .slice none 0 0] 26)
  go_enter Tryz.func13, Tryz.ntmps13
  go_wp2_with (go_at_call 43; refine (HC.out _).mono ?_; rintro e w1 ⟨rfl, hb⟩)
  go_ret
  exact ⟨rfl, hb0.trans (hb.mono hb0.size)⟩
set_option maxHeartbeats 1000000 in
theorem vCmp_texts (s t : ByteArray) (w : World) : Calls Tryz.prog 13 #[scal 4 false s, scal 4 false t] w fun e w' => e = .returned (.int .i64 (Lib.compareBytes s.data.toList t.data.toList)) ∧ Below w.heap.size w w' := by
  have HC := Lib.hid (fun W => Tryz.strings_Compare s t W)
  unfold scal
  go_enter Tryz.func13, Tryz.ntmps13
  go_wp2_with (go_at_call 44; refine (HC.out _).mono ?_; rintro e w' ⟨rfl, rfl⟩)
  go_ret
  exact ⟨rfl, ((Below.refl _ _).alloc (Nat.le_refl _) _).alloc (by simp) _⟩
end Go.Proofs.YthmojhfakmdlfaaGreatDoor
namespace Go.Proofs.YthmojhfakmdlfaaGreatDoor
open Go.RowKit
set_option linter.unusedVariables false

theorem cmpL_rest {l m : List VT} {j : Nat} (h1 : j < l.length) (h2 : j < m.length) : cmpL (l.drop j) (m.drop j) = if cmpT l[j] m[j] = 0 then cmpL (l.drop (j + 1)) (m.drop (j + 1)) else cmpT l[j] m[j] := by
  rw [List.drop_eq_getElem_cons h1, List.drop_eq_getElem_cons h2]
  conv => lhs; unfold cmpL
theorem cmpL_long {l m : List VT} {j : Nat} (h1 : j < l.length) (h2 : m.length ≤ j) : cmpL (l.drop j) (m.drop j) = 1 := by
  rw [List.drop_eq_getElem_cons h1, List.drop_eq_nil_of_le h2]
  unfold cmpL; rfl
theorem cmpL_short {l m : List VT} {j : Nat} (h1 : l.length ≤ j) (h2 : j < m.length) : cmpL (l.drop j) (m.drop j) = -1 := by
  rw [List.drop_eq_getElem_cons h2, List.drop_eq_nil_of_le h1]
  unfold cmpL; rfl
theorem cmpL_done {l m : List VT} {j : Nat} (h1 : l.length ≤ j) (h2 : m.length ≤ j) : cmpL (l.drop j) (m.drop j) = 0 := by
  rw [List.drop_eq_nil_of_le h1, List.drop_eq_nil_of_le h2]
  unfold cmpL; rfl

set_option maxRecDepth 100000 in
set_option maxHeartbeats 4000000 in
theorem cmpItems_of {B : Nat} {w : World} {its its' : List VT} {ad ad' : Option Addr} {cap g o cap' g' o' : Nat} {ik ik' : Nat → Int} {ib ib' : Nat → Bool} {it it' : Nat → ByteArray} {ii iv ii' iv' : Nat → Value}
    (ha : 0 < its.length → ad = some ⟨g, o, none⟩ ∧ g < B)
    (hcell : ∀ j, j < its.length → Five w g (o + j * 5) (.int .i64 (ik j)) (.bool (ib j)) (.string (it j)) (ii j) (iv j))
    (hrec : ∀ j (h : j < its.length), Is B w (.agg #[.int .i64 (ik j), .bool (ib j), .string (it j), ii j, iv j]) its[j])
    (ha' : 0 < its'.length → ad' = some ⟨g', o', none⟩ ∧ g' < B)
    (hcell' : ∀ j, j < its'.length → Five w g' (o' + j * 5) (.int .i64 (ik' j)) (.bool (ib' j)) (.string (it' j)) (ii' j) (iv' j))
    (hrec' : ∀ j (h : j < its'.length), Is B w (.agg #[.int .i64 (ik' j), .bool (ib' j), .string (it' j), ii' j, iv' j]) its'[j])
    (hn : its.length ≤ 140737488355328) (hn' : its'.length ≤ 140737488355328)
    (ih : ∀ j (h : j < its.length) (h' : j < its'.length) (W : World), Below B w W → B ≤ W.heap.size → Calls Tryz.prog 13 #[.agg #[.int .i64 (ik j), .bool (ib j), .string (it j), ii j, iv j], .agg #[.int .i64 (ik' j), .bool (ib' j), .string (it' j), ii' j, iv' j]] W fun e w' => e = .returned (.int .i64 (cmpT its[j] its'[j])) ∧ Below W.heap.size W w') :
    ∀ (W : World), Below B w W → B ≤ W.heap.size → Calls Tryz.prog 45 #[.slice ad its.length cap, .slice ad' its'.length cap', .func (.func 13) #[] #[]] W fun e w' => e = .returned (.int .i64 (cmpL its its')) ∧ Below W.heap.size W w' := by
  intro W hb hBW
  have HA := Lib.hid ha
  have HC := Lib.hid hcell
  have HIS := Lib.hid hrec
  have HA' := Lib.hid ha'
  have HC' := Lib.hid hcell'
  have HIS' := Lib.hid hrec'
  have IH := Lib.hid ih
  obtain ⟨r, hr⟩ : ∃ r, cmpL its its' = r := ⟨_, rfl⟩
  rw [hr]
  have HR0 : Hid (cmpL (its.drop 0) (its'.drop 0) = r) := Lib.hid hr
  obtain ⟨n, hnn⟩ : ∃ n, its.length = n := ⟨_, rfl⟩
  obtain ⟨m, hmm⟩ : ∃ m, its'.length = m := ⟨_, rfl⟩
  have HN := Lib.hid hnn
  have HM := Lib.hid hmm
  rw [hnn] at hn ⊢
  rw [hmm] at hn' ⊢
  clear ha hcell hrec ha' hcell' hrec' ih hr hnn hmm
  go_enter Tryz.func45, Tryz.ntmps45
  go_wp2_with fail
  go_loopw [13] (fun jv wr => ∃ j : Nat, jv = .int .i64 j ∧ j ≤ n ∧ j ≤ m ∧ Hid (cmpL (its.drop j) (its'.drop j) = r) ∧ Hid (Below W.heap.size W wr)) (fun jv _ => n - (intOf jv).toNat)
  case atStart => exact ⟨0, rfl, by omega, by omega, HR0, Lib.hid (Below.refl _ _)⟩
  case round =>
    obtain ⟨j, rfl, hj, hjm, HI, HB⟩ := hrel
    have i1 : (0 : Int) ≤ (j : Int) := by omega
    by_cases hlt : j < n
    · have i2 : (j : Int) < (n : Int) := by omega
      have hjk : j < its.length := by have := HN.out; omega
      obtain ⟨rfl, hg⟩ := HA.out (by omega)
      have hBr : Below B w wr := hb.trans (HB.out.mono hBW)
      have h5 := (HC.out j hjk).below hg hBr
      have e0 := h5.1
      have e1 := h5.2.1
      have e2 := h5.2.2.1
      have e3 := h5.2.2.2.1
      have e4 := h5.2.2.2.2
      clear h5
      have hsh := (HIS.out j hjk).shape
      obtain ⟨k1, b1, t1, ai, ni, ci, ak, nk2, ck2, esh⟩ := hsh
      simp only [Value.agg.injEq, Array.mk.injEq, List.cons.injEq, and_true] at esh
      obtain ⟨-, -, -, exi, exv⟩ := esh
      by_cases hltm : j < m
      · have i3 : (j : Int) < (m : Int) := by omega
        have hjm' : j < its'.length := by have := HM.out; omega
        obtain ⟨rfl, hg'⟩ := HA'.out (by omega)
        have h5 := (HC'.out j hjm').below hg' hBr
        have d0 := h5.1
        have d1 := h5.2.1
        have d2 := h5.2.2.1
        have d3 := h5.2.2.2.1
        have d4 := h5.2.2.2.2
        clear h5
        have hsh := (HIS'.out j hjm').shape
        obtain ⟨k1', b1', t1', ai', ni', ci', ak', nk2', ck2', esh'⟩ := hsh
        simp only [Value.agg.injEq, Array.mk.injEq, List.cons.injEq, and_true] at esh'
        obtain ⟨-, -, -, exi', exv'⟩ := esh'
        have hst := cmpL_rest hjk hjm'
        rw [HI.out] at hst
        have hIH := IH.out j hjk hjm'
        rw [exi, exv, exi', exv'] at hIH
        rw [exi] at e3
        rw [exv] at e4
        rw [exi'] at d3
        rw [exv'] at d4
        generalize ik j = y0 at e0 hIH
        generalize ib j = y1 at e1 hIH
        generalize it j = y2 at e2 hIH
        generalize ik' j = z0 at d0 hIH
        generalize ib' j = z1 at d1 hIH
        generalize it' j = z2 at d2 hIH
        have hb1 := below_new wr (.cells #[.int .i64 y0, .bool y1, .string y2, .slice ai ni ci, .slice ak nk2 ck2] 26)
        have hb2 := hb1.alloc hb1.size (.cells #[.int .i64 z0, .bool z1, .string z2, .slice ai' ni' ci', .slice ak' nk2' ck2'] 26)
        replace d0 := cells_keep hb1 d0
        replace d1 := cells_keep hb1 d1
        replace d2 := cells_keep hb1 d2
        replace d3 := cells_keep hb1 d3
        replace d4 := cells_keep hb1 d4
        have HCa := Lib.hid (hIH _ (hBr.trans (hb2.mono (Nat.le_trans hBW HB.out.size))) (Nat.le_trans (Nat.le_trans hBW HB.out.size) hb2.size))
        have HB2 := Lib.hid (HB.out.trans (hb2.mono HB.out.size))
        have hK1 := (Blk.new wr #[.int .i64 y0, .bool y1, .string y2, .slice ai ni ci, .slice ak nk2 ck2] 26).alloc (.cells #[.int .i64 z0, .bool z1, .string z2, .slice ai' ni' ci', .slice ak' nk2' ck2'] 26)
        have q0 := hK1.cell 0
        have q1 := hK1.cell 1
        have q2 := hK1.cell 2
        have q3 := hK1.cell 3
        have q4 := hK1.cell 4
        clear hIH hb1 hb2 hBr exi exv exi' exv' hK1
        generalize cmpT its[j] its'[j] = z at HCa hst
        by_cases hz : z = 0
        · subst hz
          rw [if_pos rfl] at hst
          have HST := Lib.hid hst
          clear hst
          go_wp2_with (go_at_call 13; refine HCa.out.mono ?_; rintro e w2 ⟨rfl, hb2⟩)
          go_roundw
          case rel => exact ⟨j + 1, by go_num, by omega, by omega, Lib.hid HST.out.symm, Lib.hid (HB2.out.trans (hb2.mono HB2.out.size))⟩
          case measure => simp [intOf]; omega
        · rw [if_neg hz] at hst
          have hz1 : (z == 0) = false := beq_eq_false_iff_ne.2 hz
          have hz2 : (z != 0) = true := by simp only [bne, hz1]; rfl
          have HST := Lib.hid hst
          clear hst
          go_wp2_with (go_at_call 13; refine HCa.out.mono ?_; rintro e w2 ⟨rfl, hb2⟩)
          go_ret
          exact ⟨by rw [HST.out]; rfl, HB2.out.trans (hb2.mono HB2.out.size)⟩
      · have HF : Hid (r = 1) := Lib.hid (by rw [← HI.out]; exact cmpL_long hjk (by have := HM.out; omega))
        obtain rfl : j = m := by omega
        rw [exi] at e3
        rw [exv] at e4
        generalize ik j = y0 at e0
        generalize ib j = y1 at e1
        generalize it j = y2 at e2
        have hb1 := below_new wr (.cells #[.int .i64 y0, .bool y1, .string y2, .slice ai ni ci, .slice ak nk2 ck2] 26)
        have HB2 := Lib.hid (HB.out.trans (hb1.mono HB.out.size))
        clear exi exv hb1 hBr
        go_wp2_with fail
        go_ret
        exact ⟨by rw [HF.out]; rfl, HB2.out⟩
    · obtain rfl : j = n := by omega
      by_cases hltm : j < m
      · have i3 : (j : Int) < (m : Int) := by omega
        have HF : Hid (r = -1) := Lib.hid (by rw [← HI.out]; exact cmpL_short (by have := HN.out; omega) (by have := HM.out; omega))
        go_wp2_with fail
        go_ret
        exact ⟨by rw [HF.out]; rfl, HB.out⟩
      · obtain rfl : j = m := by omega
        have HF : Hid (r = 0) := Lib.hid (by rw [← HI.out]; exact cmpL_done (by have := HN.out; omega) (by have := HM.out; omega))
        go_wp2_with fail
        go_ret
        exact ⟨by rw [HF.out]; rfl, HB.out⟩
end Go.Proofs.YthmojhfakmdlfaaGreatDoor
