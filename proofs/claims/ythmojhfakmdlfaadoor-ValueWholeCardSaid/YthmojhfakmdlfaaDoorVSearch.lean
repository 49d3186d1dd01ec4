/- slices.BinarySearch of texts. -/
import Derived.Test.YthmojhfakmdlfaaDoorVVals
import Derived.Sort.Walk0
namespace Go.Proofs.YthmojhfakmdlfaaDoor
open Go.RowKit
set_option linter.unusedVariables false

/-- A slice of texts, of whatever memory below block B. -/
def StrsAt (B : Nat) (W : World) (v : Value) (ks : List ByteArray) : Prop := ∃ ad cap, v = .slice ad ks.length cap ∧ ks.length ≤ cap ∧ ks.length ≤ 140737488355328 ∧ (0 < ks.length → ∃ g o, ad = some ⟨g, o, none⟩ ∧ g < B ∧ ∀ j (h : j < ks.length), W.cell? ⟨g, o + j, none⟩ = some (.string ks[j]))
theorem StrsAt.below {B : Nat} {W W' : World} {v : Value} {ks : List ByteArray} (h : StrsAt B W v ks) (hb : Below B W W') : StrsAt B W' v ks := by
  obtain ⟨ad, cap, h1, h2, h3, h4⟩ := h
  refine ⟨ad, cap, h1, h2, h3, fun hp => ?_⟩
  obtain ⟨g, o, h5, h6, h7⟩ := h4 hp
  exact ⟨g, o, h5, h6, fun j hj => (hb.cell (p := ⟨g, o + j, none⟩) h6).trans (h7 j hj)⟩
theorem StrsAt.mono {B B' : Nat} {W : World} {v : Value} {ks : List ByteArray} (h : StrsAt B W v ks) (hB : B ≤ B') : StrsAt B' W v ks := by
  obtain ⟨ad, cap, h1, h2, h3, h4⟩ := h
  refine ⟨ad, cap, h1, h2, h3, fun hp => ?_⟩
  obtain ⟨g, o, h5, h6, h7⟩ := h4 hp
  exact ⟨g, o, h5, by omega, h7⟩
/-- Of two texts: the first is the lesser. -/
def bLt (a b : ByteArray) : Bool := decide (a.data.toList < b.data.toList)
theorem bLess_eq (a b : ByteArray) : Op.bytesLess a.toList b.toList = bLt a b := by rw [bytesLess_eq, ByteArray.toList_eq, ByteArray.toList_eq]; rfl

theorem lessString_any (a b : ByteArray) (w : World) : Calls Tryd.prog 51 #[.string a, .string b] w fun e w' => e = .returned (.bool (bLt a b)) ∧ w = w' := by
  have hb := bLess_eq a b
  go_enter Tryd.func51, Tryd.ntmps51
  go_wp2
  go_ret
  exact ⟨rfl, rfl⟩
/-- Texts rising. -/
def Rising (ks : List ByteArray) : Prop := ∀ i j (hi : i < ks.length) (hj : j < ks.length), i < j → bLt ks[i] ks[j] = true
theorem bLt_trans {a b c : ByteArray} (h1 : bLt a b = true) (h2 : bLt b c = true) : bLt a c = true := by
  unfold bLt at *
  simp only [decide_eq_true_eq] at *
  exact List.lt_trans h1 h2
theorem bLt_trans' {a b c : ByteArray} (h1 : bLt b c = true) (h2 : bLt b a = false) : bLt a c = true := by
  unfold bLt at *
  simp only [decide_eq_true_eq, decide_eq_false_iff_not] at *
  exact List.lt_of_le_of_lt (List.not_lt.1 h2) h1
/-- Where a key stands or would stand. -/
def KeyPlace (ks : List ByteArray) (key : ByteArray) (p : Nat) : Prop := p ≤ ks.length ∧ (∀ x (h : x < ks.length), x < p → bLt ks[x] key = true) ∧ (∀ x (h : x < ks.length), p ≤ x → bLt ks[x] key = false)
/-- Does the key stand at p? -/
def hasAt (ks : List ByteArray) (key : ByteArray) (p : Nat) : Bool := match ks[p]? with | some k => k.toList == key.toList | none => false
theorem hasAt_in {ks : List ByteArray} {key : ByteArray} {p : Nat} (h : p < ks.length) : hasAt ks key p = (ks[p].toList == key.toList) := by unfold hasAt; rw [List.getElem?_eq_getElem h]
theorem hasAt_out {ks : List ByteArray} {key : ByteArray} {p : Nat} (h : ks.length ≤ p) : hasAt ks key p = false := by unfold hasAt; rw [List.getElem?_eq_none h]

theorem nanString_any (a : ByteArray) (w : World) : Calls Tryd.prog 52 #[.string a] w fun e w' => e = .returned (.bool false) ∧ w = w' := by
  go_enter Tryd.func52, Tryd.ntmps52
  go_wp2
  go_ret
  exact ⟨by simp, rfl⟩
/-- What a search finds. -/
def Found (ks : List ByteArray) (key : ByteArray) (w : World) (e : Ending) (w' : World) : Prop := ∃ p : Nat, KeyPlace ks key p ∧ e = .returned (.tuple #[.int .i64 p, .bool (hasAt ks key p)]) ∧ w = w'

set_option maxRecDepth 100000 in
set_option maxHeartbeats 1000000 in
theorem search_any {B : Nat} {w : World} {v : Value} {ks : List ByteArray} (key : ByteArray) (h : StrsAt B w v ks) (hr : Rising ks) : Calls Tryd.prog 38 #[v, .string key] w fun e w' => Found ks key w e w' := by
  obtain ⟨ad, cap, rfl, hnc, hcap, hc⟩ := h
  have HC := Lib.hid hc
  have HR := Lib.hid hr
  have HL := Lib.hid (fun x W => lessString_any x key W)
  have HN := Lib.hid (fun x W => nanString_any x W)
  clear hc hr
  obtain ⟨n, hn⟩ : ∃ n, ks.length = n := ⟨_, rfl⟩
  have HNN := Lib.hid hn
  rw [hn] at hnc hcap ⊢
  clear hn
  go_enter Tryd.func38, Tryd.ntmps38
  go_wp2
  go_loop [7, 8] (fun iv jv => ∃ i j : Nat, iv = .int .i64 i ∧ jv = .int .i64 j ∧ i ≤ j ∧ j ≤ n ∧ Hid ((∀ x (h : x < ks.length), x < i → bLt ks[x] key = true) ∧ (∀ x (h : x < ks.length), j ≤ x → bLt ks[x] key = false))) (fun iv jv => (intOf jv).toNat - (intOf iv).toNat)
  case atStart => exact ⟨0, n, rfl, rfl, by omega, by omega, Lib.hid ⟨fun x _ h => by omega, fun x h h' => by have := HNN.out; omega⟩⟩
  case round =>
    obtain ⟨i, j, rfl, rfl, hij, hjn, HI⟩ := hrel
    by_cases hlt : i < j
    · obtain ⟨m, hm⟩ : ∃ m, (i + j) / 2 = m := ⟨_, rfl⟩
      have hmn : m < n := by omega
      have hml : m < ks.length := by have := HNN.out; omega
      obtain ⟨g, o, rfl, -, hcs⟩ := HC.out (by omega)
      have hcell := hcs m hml
      obtain ⟨km, hkm⟩ : ∃ km, ks[m] = km := ⟨_, rfl⟩
      rw [hkm] at hcell
      have HK := Lib.hid hkm
      have hmi : i ≤ m := by omega
      have hmj : m < j := by omega
      clear hcs hkm
      have HLm := Lib.hid (fun W => HL.out km W)
      cases hb : bLt km key
      · rw [hb] at HLm
        have HB := Lib.hid hb
        clear hb
        go_wp2_with (go_at_call 51; refine (HLm.out _).mono ?_; rintro e w' ⟨rfl, rfl⟩)
        go_round
        case rel => exact ⟨i, m, rfl, by rw [← hm]; go_num, hmi, by omega, Lib.hid ⟨HI.out.1, fun x hx hmx => by
          rcases Nat.eq_or_lt_of_le hmx with h' | h'
          · subst h'; rw [HK.out]; exact HB.out
          · cases hq : bLt ks[x] key
            · rfl
            · have h1 := HR.out m x hml hx h'
              rw [HK.out] at h1
              rw [bLt_trans h1 hq] at HB
              exact absurd HB.out (by decide)⟩⟩
        case measure => simp [intOf]; omega
      · rw [hb] at HLm
        have HB := Lib.hid hb
        clear hb
        go_wp2_with (go_at_call 51; refine (HLm.out _).mono ?_; rintro e w' ⟨rfl, rfl⟩)
        go_round
        case rel => exact ⟨m + 1, j, by rw [← hm]; go_num, rfl, by omega, hjn, Lib.hid ⟨fun x hx hmx => by
          rcases Nat.eq_or_lt_of_le (show x ≤ m by omega) with h' | h'
          · subst h'; rw [HK.out]; exact HB.out
          · have h1 := HR.out x m hx hml h'
            rw [HK.out] at h1
            exact bLt_trans h1 HB.out, HI.out.2⟩⟩
        case measure => simp [intOf]; omega
    · obtain rfl : i = j := by omega
      have HP : Hid (KeyPlace ks key i) := Lib.hid ⟨by have := HNN.out; omega, fun x hx h => HI.out.1 x hx h, fun x hx h => HI.out.2 x hx h⟩
      by_cases hin : i < n
      · have hil : i < ks.length := by have := HNN.out; omega
        have HA := Lib.hid (hasAt_in (key := key) hil)
        obtain ⟨g, o, rfl, -, hcs⟩ := HC.out (by omega)
        have hcell := hcs i hil
        obtain ⟨km, hkm⟩ : ∃ km, ks[i] = km := ⟨_, rfl⟩
        rw [hkm] at hcell HA
        have HN1 := Lib.hid (fun W => HN.out km W)
        clear hcs hkm
        cases hq : (km.toList == key.toList)
        · rw [hq] at HA
          go_wp2_with (go_at_call 52; refine (HN1.out _).mono ?_; rintro e w' ⟨rfl, rfl⟩)
          refine bodyPost_ret (v := .tuple #[.int .i64 i, .bool false]) ?_ rfl ⟨i, HP.out, by rw [HA.out], rfl⟩
          simp [results, Tryd.results38, go_sem]
        · rw [hq] at HA
          go_wp2
          refine bodyPost_ret (v := .tuple #[.int .i64 i, .bool true]) ?_ rfl ⟨i, HP.out, by rw [HA.out], rfl⟩
          simp [results, Tryd.results38, go_sem]
      · have HA := Lib.hid (hasAt_out (ks := ks) (key := key) (p := i) (by have := HNN.out; omega))
        go_wp2
        refine bodyPost_ret (v := .tuple #[.int .i64 i, .bool false]) ?_ rfl ⟨i, HP.out, by rw [HA.out], rfl⟩
        simp [results, Tryd.results38, go_sem]
end Go.Proofs.YthmojhfakmdlfaaDoor
