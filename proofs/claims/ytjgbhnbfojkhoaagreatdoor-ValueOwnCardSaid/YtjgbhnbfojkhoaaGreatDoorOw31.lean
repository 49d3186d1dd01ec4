/- A good value's parts · purlinref02.At, purlinref02.Get -/
import Derived.Handy
import Derived.Test.YtjgbhnbfojkhoaaGreatDoorOw08
import Derived.Test.YtjgbhnbfojkhoaaGreatDoorOw09
import Derived.Test.YtjgbhnbfojkhoaaGreatDoorOw10
import Derived.Test.YtjgbhnbfojkhoaaGreatDoorOw17
import Derived.Test.YtjgbhnbfojkhoaaGreatDoorOw28
import Derived.Test.YtjgbhnbfojkhoaaGreatDoorOw30
namespace Go.Proofs.YtjgbhnbfojkhoaaGreatDoor
open Go.RowKit
set_option linter.unusedVariables false

theorem sizeL_len : ∀ l : List VT, l.length ≤ sizeL l
  | [] => by simp
  | x :: l => by
    have := sizeL_len l
    have := sizeT_pos x
    unfold sizeL
    simp only [List.length_cons]
    omega
/-- A good value: an object has no truth and no text, as many keys as items, rising. -/
theorem good_parts {k : Int} {b : Bool} {t : ByteArray} {its : List VT} {ks : List ByteArray} (h : goodT (.node k b t its ks) = true) : (k = 6 → ks.length = its.length) ∧ (k = 6 → Rising ks) ∧ (k = 6 → b = false ∧ t.toList = []) ∧ ks.length ≤ 900000 ∧ smallT (.node k b t its ks) := by
  have hsm := goodT_small h
  have hp := (goodT_parts h).2.2
  unfold plainT at hp
  have ha := (Bool.and_eq_true_iff.1 hp).1
  have hsz := (goodT_parts h).1
  refine ⟨fun e => ?_, fun e => ?_, fun e => ?_, ?_, hsm⟩
  · subst e
    unfold aloneT at ha
    simp at ha
    exact ha.2.1.2
  · subst e
    unfold aloneT at ha
    simp at ha
    exact keysOk_rising ha.2.2
  · subst e
    unfold aloneT at ha
    simp at ha
    exact ⟨ha.1, ha.2.1.1⟩
  · have h6 : k = 6 ∨ ks = [] := by
      by_cases e : k = 6
      · exact .inl e
      · refine .inr ?_
        unfold aloneT at ha
        have h2 := (Bool.and_eq_true_iff.1 ha).2
        by_cases e1 : k = 0 ∨ k = 1 ∨ k = 2
        · rw [if_pos e1] at h2; simp at h2; exact h2.2
        · rw [if_neg e1] at h2
          by_cases e3 : k = 3
          · rw [if_pos e3] at h2; simp at h2; exact h2.2
          · rw [if_neg e3] at h2
            by_cases e4 : k = 4
            · rw [if_pos e4] at h2; simp at h2; exact h2.2
            · rw [if_neg e4] at h2
              by_cases e5 : k = 5
              · rw [if_pos e5] at h2; simp at h2; exact h2.2
              · rw [if_neg e5, if_neg e] at h2; cases h2
    rcases h6 with e | e
    · subst e
      have e2 : ks.length = its.length := by unfold aloneT at ha; simp at ha; exact ha.2.1.2
      have l1 := sizeL_len its
      unfold sizeT at hsz
      omega
    · rw [e]; simp
end Go.Proofs.YtjgbhnbfojkhoaaGreatDoor
namespace Go.Proofs.YtjgbhnbfojkhoaaGreatDoor
open Go.RowKit
set_option linter.unusedVariables false

/-- Where a key stands first; -1: nowhere. -/
def AtIs (ks : List ByteArray) (key : ByteArray) (r : Int) : Prop := (r = -1 ∧ ∀ i (h : i < ks.length), (ks[i].toList == key.toList) = false) ∨ ∃ (j : Nat) (h : j < ks.length), r = (j : Int) ∧ (ks[j].toList == key.toList) = true

set_option maxRecDepth 100000 in
set_option maxHeartbeats 2000000 in
theorem rAt_any {B : Nat} {w : World} {k : Int} {b : Bool} {t key : ByteArray} {ad : Option Addr} {len cap : Nat} {kv : Value} {ks : List ByteArray} (hkv : StrsAt B w kv ks)
    (W : World) (hb : Below B w W) (hBW : B ≤ W.heap.size) : Calls Tryz.prog 52 #[.agg #[.int .i64 k, .bool b, .string t, .slice ad len cap, kv], .string key] W fun e w' => (∃ r, e = .returned (.int .i64 r) ∧ AtIs ks key r) ∧ Below W.heap.size W w' := by
  obtain ⟨adk, capk, rfl, hkc, hkl, hkp⟩ := hkv.below hb
  have HKP := Lib.hid hkp
  have HBW := Lib.hid hBW
  obtain ⟨n, hn⟩ : ∃ n, ks.length = n := ⟨_, rfl⟩
  have HN := Lib.hid hn
  rw [hn] at hkc hkl ⊢
  clear hkp hn hkv hb
  have hk0 := Blk.new W #[.int .i64 k, .bool b, .string t, .slice ad len cap, .slice adk n capk] 26
  have hb0 := below_new W (.cells #[.int .i64 k, .bool b, .string t, .slice ad len cap, .slice adk n capk] 26)
  have HS0 : Hid (Below W.heap.size W (W.alloc (.cells #[.int .i64 k, .bool b, .string t, .slice ad len cap, .slice adk n capk] 26)) ∧ Blk (W.alloc (.cells #[.int .i64 k, .bool b, .string t, .slice ad len cap, .slice adk n capk] 26)) W.heap.size #[.int .i64 k, .bool b, .string t, .slice ad len cap, .slice adk n capk] 26) := Lib.hid ⟨hb0, hk0⟩
  clear hk0 hb0
  go_enter Tryz.func52, Tryz.ntmps52
  go_wp2_with fail
  go_loop [9] (fun jv => ∃ j : Nat, jv = .int .i64 j ∧ j ≤ n ∧ Hid (∀ i (h : i < ks.length), i < j → (ks[i].toList == key.toList) = false)) (fun jv => n - (intOf jv).toNat)
  case atStart => exact ⟨0, rfl, by omega, Lib.hid (fun i _ h => by omega)⟩
  case round =>
    obtain ⟨j, rfl, hj, HI⟩ := hrel
    have i1 : (0 : Int) ≤ (j : Int) := by omega
    by_cases hlt : j < n
    · have i2 : (j : Int) < (n : Int) := by omega
      have hjk : j < ks.length := by have := HN.out; omega
      obtain ⟨gk, ok, rfl, hgk, hck⟩ := HKP.out (by omega)
      have ck := (HS0.out.1.cell (p := ⟨gk, ok + j, none⟩) (by have := HBW.out; show gk < _; omega)).trans (hck j hjk)
      have q4 := HS0.out.2.cell 4
      obtain ⟨x, hx⟩ : ∃ x, ks[j] = x := ⟨_, rfl⟩
      rw [hx] at ck
      have HX := Lib.hid hx
      clear hck hx
      cases hd : (x.toList == key.toList)
      · have HD := Lib.hid hd
        go_wp2_with fail
        go_round
        case rel =>
          refine ⟨j + 1, by go_num, by omega, Lib.hid (fun i hi hij => ?_)⟩
          rcases Nat.eq_or_lt_of_le (show i ≤ j by omega) with h | h
          · subst h; rw [HX.out]; exact HD.out
          · exact HI.out i hi h
        case measure => simp [intOf]; omega
      · have HF : Hid (AtIs ks key (j : Int)) := Lib.hid (.inr ⟨j, hjk, rfl, by rw [HX.out]; exact hd⟩)
        go_wp2_with fail
        go_ret
        exact ⟨⟨_, rfl, HF.out⟩, HS0.out.1⟩
    · have HF : Hid (AtIs ks key (-1)) := Lib.hid (.inl ⟨rfl, fun i hi => HI.out i hi (by have := HN.out; omega)⟩)
      go_wp2_with fail
      go_ret
      exact ⟨⟨_, rfl, HF.out⟩, HS0.out.1⟩

/-- What Get says of an object, or of what is none. -/
def Got (k : Int) (ks : List ByteArray) (its : List VT) (key : ByteArray) (T : VT) (ok : Bool) : Prop :=
  (ok = true ∧ k = 6 ∧ ∃ (j : Nat) (h : j < ks.length) (h' : j < its.length), (ks[j].toList == key.toList) = true ∧ T = its[j]) ∨ (ok = false ∧ T = .node 0 false ⟨#[]⟩ [] [] ∧ (k ≠ 6 ∨ ∀ i (h : i < ks.length), (ks[i].toList == key.toList) = false))
theorem null_is (B : Nat) (W : World) : Is B W (.agg nil5) (.node 0 false ⟨#[]⟩ [] []) :=
  Is.mk 0 false ⟨#[]⟩ [] [] none 0 (.slice none 0 0) 0 0 (fun _ => 0) (fun _ => false) (fun _ => ⟨#[]⟩) (fun _ => undef) (fun _ => undef) ⟨none, 0, rfl, by simp, by simp, fun h => absurd h (by simp)⟩ (by simp) (by simp) (fun h => absurd h (by simp)) (fun j h => absurd h (by simp)) (fun j h => absurd h (by simp))
set_option maxRecDepth 100000 in
set_option maxHeartbeats 4000000 in
theorem rGet_any {B : Nat} {w : World} {v : Value} {k : Int} {b : Bool} {t key : ByteArray} {its : List VT} {ks : List ByteArray} (h : Is B w v (.node k b t its ks)) (hl : k = 6 → ks.length = its.length)
    (W : World) (hb : Below B w W) (hBW : B ≤ W.heap.size) : Calls Tryz.prog 18 #[v, .string key] W fun e w' => (∃ v' T ok, e = .returned (.tuple #[v', .bool ok]) ∧ Is B w v' T ∧ Got k ks its key T ok) ∧ Below W.heap.size W w' := by
  obtain ⟨kv, iv, ys, rfl, hkv, hiv, rfl⟩ := h.parts
  obtain ⟨adi, capi, rfl, hic, hil, hip, hok⟩ := hiv
  have en : nil5 = #[.int .i64 0, .bool false, .string ⟨#[]⟩, .slice none 0 0, .slice none 0 0] := rfl
  have hAt := fun W' (hb' : Below W.heap.size W W') => rAt_any (k := k) (b := b) (t := t) (key := key) (ad := adi) (len := ys.length) (cap := capi) hkv W' (hb.trans (hb'.mono hBW)) (Nat.le_trans hBW hb'.size)
  have HIP := Lib.hid hip
  have HOK := Lib.hid hok
  have HBb := Lib.hid hb
  have HBW := Lib.hid hBW
  obtain ⟨adk, capk, rfl, -⟩ := hkv
  have hl' : k = 6 → ks.length = ys.length := fun h => by simpa using hl h
  have HL := Lib.hid hl'
  obtain ⟨n, hn⟩ : ∃ n, ys.length = n := ⟨_, rfl⟩
  have HN := Lib.hid hn
  rw [hn] at hic hil hAt ⊢
  obtain ⟨nk, hnk⟩ : ∃ nk, ks.length = nk := ⟨_, rfl⟩
  have HNK := Lib.hid hnk
  rw [hnk] at hAt ⊢
  clear hip hok hl hl' hn hb hBW h hnk
  have hb0 : Below W.heap.size W ((W.alloc (.cells #[.int .i64 k, .bool b, .string t, .slice adi n capi, .slice adk nk capk] 26)).alloc (.cells nil5 26)) := box2_below
  have hA0 := (Blk.new W #[.int .i64 k, .bool b, .string t, .slice adi n capi, .slice adk nk capk] 26).alloc (.cells nil5 26)
  have hR0 : Blk ((W.alloc (.cells #[.int .i64 k, .bool b, .string t, .slice adi n capi, .slice adk nk capk] 26)).alloc (.cells nil5 26)) (W.heap.size + 1) nil5 26 := by have := Blk.new (W.alloc (.cells #[.int .i64 k, .bool b, .string t, .slice adi n capi, .slice adk nk capk] 26)) nil5 26; simpa using this
  have HAc := Lib.hid (hAt _ hb0)
  have HS0 : Hid (Below W.heap.size W ((W.alloc (.cells #[.int .i64 k, .bool b, .string t, .slice adi n capi, .slice adk nk capk] 26)).alloc (.cells nil5 26)) ∧ Blk ((W.alloc (.cells #[.int .i64 k, .bool b, .string t, .slice adi n capi, .slice adk nk capk] 26)).alloc (.cells nil5 26)) W.heap.size #[.int .i64 k, .bool b, .string t, .slice adi n capi, .slice adk nk capk] 26 ∧ Blk ((W.alloc (.cells #[.int .i64 k, .bool b, .string t, .slice adi n capi, .slice adk nk capk] 26)).alloc (.cells nil5 26)) (W.heap.size + 1) nil5 26) := Lib.hid ⟨hb0, hA0, hR0⟩
  rw [en] at HAc HS0
  clear hAt hb0 hA0 hR0
  go_enter Tryz.func18, Tryz.ntmps18
  go_wp2_with fail
  go_at_call 52; refine HAc.out.mono ?_; rintro e w1 ⟨⟨r, rfl, hr⟩, hb1⟩
  have HS1 : Hid (Below W.heap.size W w1 ∧ Blk w1 W.heap.size #[.int .i64 k, .bool b, .string t, .slice adi n capi, .slice adk nk capk] 26 ∧ Blk w1 (W.heap.size + 1) #[.int .i64 0, .bool false, .string ⟨#[]⟩, .slice none 0 0, .slice none 0 0] 26) := Lib.hid ⟨HS0.out.1.trans (hb1.mono HS0.out.1.size), HS0.out.2.1.below hb1, HS0.out.2.2.below hb1⟩
  have f0 := HS1.out.2.2.frozen 0
  have f1 := HS1.out.2.2.frozen 1
  have f2 := HS1.out.2.2.frozen 2
  have f3 := HS1.out.2.2.frozen 3
  have f4 := HS1.out.2.2.frozen 4
  have r0 := HS1.out.2.2.cell 0
  have r1 := HS1.out.2.2.cell 1
  have r2 := HS1.out.2.2.cell 2
  have r3 := HS1.out.2.2.cell 3
  have r4 := HS1.out.2.2.cell 4
  have q0 := HS1.out.2.1.cell 0
  have q3 := HS1.out.2.1.cell 3
  clear hb1 HS0 HAc
  have NONE : ∀ (hh : k ≠ 6 ∨ ∀ i (h : i < ks.length), (ks[i].toList == key.toList) = false), ∃ v' T ok, (Ending.returned (.tuple #[.agg #[.int .i64 0, .bool false, .string ⟨#[]⟩, .slice none 0 0, .slice none 0 0], .bool false]) : Ending) = .returned (.tuple #[v', .bool ok]) ∧ Is B w v' T ∧ Got k ks (ys.map It.T) key T ok := fun hh => ⟨_, _, _, rfl, null_is B w, .inr ⟨rfl, rfl, hh⟩⟩
  have HNONE := Lib.hid NONE
  clear NONE
  have h5 := HS1.out.2.2.set5 (.int .i64 0) (.bool false) (.string ⟨#[]⟩) (.slice none 0 0) (.slice none 0 0)
  have hbf := below_set5 HS1.out.1 (B := W.heap.size + 1) (by omega) (.int .i64 0) (.bool false) (.string ⟨#[]⟩) (.slice none 0 0) (.slice none 0 0)
  have H5 := Lib.hid h5
  have HBF := Lib.hid hbf
  clear h5 hbf
  by_cases hk6 : k = 6
  · rcases hr with ⟨rfl, hno⟩ | ⟨j, hjk, rfl, hyes⟩
    · have HNO := Lib.hid (HNONE.out (.inr hno))
      clear HNONE hno
      go_wp2
      have d0 := H5.out.cell 0
      have d1 := H5.out.cell 1
      have d2 := H5.out.cell 2
      have d3 := H5.out.cell 3
      have d4 := H5.out.cell 4
      refine bodyPost_ret (v := .tuple #[.agg #[.int .i64 0, .bool false, .string ⟨#[]⟩, .slice none 0 0, .slice none 0 0], .bool false]) ?_ rfl ⟨HNO.out, HBF.out⟩
      simp [results, Tryz.results18, go_sem, d0, d1, d2, d3, d4]
    · subst hk6
      have hjy : j < ys.length := by rw [← HL.out rfl]; exact hjk
      have hjn : j < n := by have := HN.out; omega
      obtain ⟨gi, oi, rfl, hgi, hci⟩ := HIP.out (by omega)
      have i1 : (0 : Int) ≤ (j : Int) := by omega
      have i2 : (j : Int) < (n : Int) := by omega
      have h6 := (hci j hjy).below hgi (HBb.out.trans (HS1.out.1.mono HBW.out))
      have hoke := HOK.out ys[j] (List.getElem_mem hjy)
      have HGOT : Hid (Got 6 ks (ys.map It.T) key ys[j].T true) := Lib.hid (.inl ⟨rfl, rfl, j, hjk, by simpa using hjy, hyes, by simp⟩)
      obtain ⟨e, he⟩ : ∃ e, ys[j] = e := ⟨_, rfl⟩
      rw [he] at h6 hoke HGOT
      obtain ⟨ai, ni, ci, ak, nk2, ck2, exi, exy⟩ := hoke.shape
      have HOE : Hid (Is B w (.agg #[.int .i64 e.k, .bool e.b, .string e.t, .slice ai ni ci, .slice ak nk2 ck2]) e.T) := Lib.hid (by have := hoke; unfold It.Ok It.val at this; rw [exi, exy] at this; exact this)
      rw [exi, exy] at h6
      generalize e.k = y0 at h6 HOE
      generalize e.b = y1 at h6 HOE
      generalize e.t = y2 at h6 HOE
      obtain ⟨e0, e1, e2, e3, e4⟩ := h6
      have h7 := HS1.out.2.2.set5 (.int .i64 y0) (.bool y1) (.string y2) (.slice ai ni ci) (.slice ak nk2 ck2)
      have hbf := below_set5 HS1.out.1 (B := W.heap.size + 1) (by omega) (.int .i64 y0) (.bool y1) (.string y2) (.slice ai ni ci) (.slice ak nk2 ck2)
      have H7 := Lib.hid h7
      have HBF7 := Lib.hid hbf
      clear h7 hbf hoke exi exy hci he hyes HNONE
      go_wp2
      have d0 := H7.out.cell 0
      have d1 := H7.out.cell 1
      have d2 := H7.out.cell 2
      have d3 := H7.out.cell 3
      have d4 := H7.out.cell 4
      refine bodyPost_ret (v := .tuple #[.agg #[.int .i64 y0, .bool y1, .string y2, .slice ai ni ci, .slice ak nk2 ck2], .bool true]) ?_ rfl ⟨⟨_, _, _, rfl, HOE.out, HGOT.out⟩, HBF7.out⟩
      simp [results, Tryz.results18, go_sem, d0, d1, d2, d3, d4]
  · have kk6 : (k == 6) = false := beq_eq_false_iff_ne.2 hk6
    have kk6' : (k != 6) = true := by simp only [bne, kk6]; rfl
    have HNO := Lib.hid (HNONE.out (.inl hk6))
    clear HNONE
    rcases hr with ⟨rfl, hno⟩ | ⟨j, hjk, rfl, hyes⟩
    · clear hno
      go_wp2
      have d0 := H5.out.cell 0
      have d1 := H5.out.cell 1
      have d2 := H5.out.cell 2
      have d3 := H5.out.cell 3
      have d4 := H5.out.cell 4
      refine bodyPost_ret (v := .tuple #[.agg #[.int .i64 0, .bool false, .string ⟨#[]⟩, .slice none 0 0, .slice none 0 0], .bool false]) ?_ rfl ⟨HNO.out, HBF.out⟩
      simp [results, Tryz.results18, go_sem, d0, d1, d2, d3, d4]
    · have i1 : (0 : Int) ≤ (j : Int) := by omega
      clear hyes
      go_wp2
      have d0 := H5.out.cell 0
      have d1 := H5.out.cell 1
      have d2 := H5.out.cell 2
      have d3 := H5.out.cell 3
      have d4 := H5.out.cell 4
      refine bodyPost_ret (v := .tuple #[.agg #[.int .i64 0, .bool false, .string ⟨#[]⟩, .slice none 0 0, .slice none 0 0], .bool false]) ?_ rfl ⟨HNO.out, HBF.out⟩
      simp [results, Tryz.results18, go_sem, d0, d1, d2, d3, d4]
end Go.Proofs.YtjgbhnbfojkhoaaGreatDoor
