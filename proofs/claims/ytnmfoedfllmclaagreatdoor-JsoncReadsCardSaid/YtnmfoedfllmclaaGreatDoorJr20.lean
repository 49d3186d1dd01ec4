/- value.goodWithin · value.Good · Known: value's and the document's; value.Size · Encode: any value -/
import Derived.RegionTactic
import Derived.Test.YtnmfoedfllmclaaGreatDoorJr03
import Derived.Test.YtnmfoedfllmclaaGreatDoorJr19
namespace Go.Proofs.YtnmfoedfllmclaaGreatDoor
open Go.RowKit
set_option linter.unusedVariables false

/-- All blocks that were there but R are as they were. -/
structure AsideV (R : Nat) (W w' : World) : Prop where
  os : w'.os = W.os
  tape : w'.tape = W.tape
  output : w'.output = W.output
  size : W.heap.size ≤ w'.heap.size
  block : ∀ k, k < W.heap.size → k ≠ R → w'.heap[k]? = W.heap[k]?
theorem AsideV.refl (R : Nat) (W : World) : AsideV R W W := ⟨rfl, rfl, rfl, Nat.le_refl _, fun _ _ _ => rfl⟩
theorem AsideV.trans {R : Nat} {a b c : World} (h : AsideV R a b) (k : AsideV R b c) : AsideV R a c :=
  ⟨k.os.trans h.os, k.tape.trans h.tape, k.output.trans h.output, Nat.le_trans h.size k.size, fun i hi hr => (k.block i (Nat.lt_of_lt_of_le hi h.size) hr).trans (h.block i hi hr)⟩
theorem AsideV.below {R B : Nat} {W w' : World} (h : AsideV R W w') (hB : B ≤ W.heap.size) (hR : B ≤ R) : Below B W w' := ⟨h.os, h.tape, h.output, h.size, fun k hk => h.block k (by omega) (by omega)⟩
theorem AsideV.of {R : Nat} {W w' : World} (h : Below W.heap.size W w') : AsideV R W w' := ⟨h.os, h.tape, h.output, h.size, fun k hk _ => h.block k hk⟩
theorem AsideV.set {R : Nat} {W w' : World} (h : AsideV R W w') (j : Nat) (u : Value) : AsideV R W (w'.setCell ⟨R, j, none⟩ u) :=
  ⟨h.os, h.tape, h.output, by simpa using h.size, fun k hk hr => by rw [Below.heap_setCell w' ⟨R, j, none⟩ u k hr]; exact h.block k hk hr⟩
theorem AsideV.draw {R : Nat} {W w' : World} (h : AsideV R W w') (n : Nat) : AsideV R W (w'.drewN n) := ⟨h.os, h.tape, h.output, h.size, h.block⟩
theorem Blk.asideV {R Q : Nat} {W w' : World} {cs : Array Value} {t : TypeId} (h : Blk W Q cs t) (ha : AsideV R W w') (hne : Q ≠ R) : Blk w' Q cs t := (ha.block Q h.lt hne).trans h

/-- What goodWithin answers. -/
def Tells (d r R : Nat) (T : VT) (W : World) (e : Ending) (w' : World) : Prop := ∃ (b : Bool) (r' : Int), e = .returned (.bool b) ∧ (b = true ↔ within d r T) ∧ (b = true → r' = (r : Int) - ((sizeT T : Nat) : Int) + 1) ∧ Blk w' R #[.int .i64 r'] 3 ∧ AsideV R W w'

theorem within_next {k : Int} {b : Bool} {t : ByteArray} {its : List VT} {ks : List ByteArray} {len r m rj j : Nat} (hj : j < its.length) (hl : its.length = len) (hs : rj + (len - j) + sizeL (its.take j) = r) : (within (m + 1) r (.node k b t its ks) → within m rj its[j]) ∧ (within m rj its[j] → (rj + 1 - sizeT its[j]) + (len - (j + 1)) + sizeL (its.take (j + 1)) = r) := by
  have h1 := sizeL_take hj
  have h2 := sizeL_split its (j + 1)
  have h3 := sizeL_ge (its.drop (j + 1))
  rw [List.length_drop] at h3
  constructor
  · intro h
    obtain ⟨a, b, -, c⟩ := within_node.1 h
    exact ⟨deepL_at hj a, by omega, plainL_at hj c⟩
  · rintro ⟨-, a, -⟩
    omega

set_option maxRecDepth 100000 in
set_option maxHeartbeats 4000000 in
theorem within_any {B : Nat} {w : World} {v : Value} {T : VT} (h : Is B w v T) : ∀ (d r R : Nat) (W : World), d ≤ 1000 → r ≤ 1000000 → Below B w W → B ≤ W.heap.size → B ≤ R → Blk W R #[.int .i64 (r : Int)] 3 → Calls Tryz.prog 32 #[v, .int .i64 (d : Int), .pointer (some ⟨R, 0, none⟩)] W fun e w' => Tells d r R T W e w' := by
  induction h with
  | mk k b t its ks ad cap kv g o ik ib it ii iv hk hc hnl ha hcell hrec ih =>
    intro d r R W hd hr hb hBW hBR hRk
    have HIS : Hid (∀ j (h : j < its.length), Is B w (.agg #[.int .i64 (ik j), .bool (ib j), .string (it j), ii j, iv j]) its[j]) := Lib.hid hrec
    have hIs := Is.mk k b t its ks ad cap kv g o ik ib it ii iv hk hc hnl ha hcell hrec
    have HAl := Lib.hid (fun W' (hb' : Below B w W') (hB' : B ≤ W'.heap.size) => alone_any hIs W' hb' hB')
    obtain ⟨al, hal⟩ : ∃ al, aloneT (.node k b t its ks) = al := ⟨_, rfl⟩
    rw [hal] at HAl
    have HAL := Lib.hid hal
    obtain ⟨adk, capk, rfl, -⟩ := hk
    have HA := Lib.hid ha
    have HC := Lib.hid hcell
    have IH := Lib.hid ih
    obtain ⟨len, hlen⟩ : ∃ len, its.length = len := ⟨_, rfl⟩
    obtain ⟨nk, hnk⟩ : ∃ nk, ks.length = nk := ⟨_, rfl⟩
    have HL := Lib.hid hlen
    have hge := sizeL_ge its
    rw [hlen] at hc hnl hge HAl ⊢
    rw [hnk] at HAl ⊢
    have HGE := Lib.hid hge
    clear ha hcell hrec ih hlen hnk hal hIs hge
    have hk0 := Blk.new W #[.int .i64 k, .bool b, .string t, .slice ad len cap, .slice adk nk capk] 26
    have hb0 := below_new W (.cells #[.int .i64 k, .bool b, .string t, .slice ad len cap, .slice adk nk capk] 26)
    have hR0 := hRk.alloc (.cells #[.int .i64 k, .bool b, .string t, .slice ad len cap, .slice adk nk capk] 26)
    have c0 := hR0.cell 0
    have f0 := hR0.frozen 0
    have c3 := hk0.cell 3
    have hRlt : R < W.heap.size := hRk.lt
    have hne : R ≠ W.heap.size := by omega
    go_enter Tryz.func32, Tryz.ntmps32
    go_wp2_with fail
    go_region
    have hsz : (W.setCell ⟨R, 0, none⟩ (.int .i64 ((r : Int) - (len : Int)))).heap.size = W.heap.size := by simp
    obtain ⟨W1, hW1⟩ : ∃ W1, ((W.setCell ⟨R, 0, none⟩ (.int .i64 ((r : Int) - (len : Int)))).alloc (.cells #[.int .i64 k, .bool b, .string t, .slice ad len cap, .slice adk nk capk] 26)).drew = W1 := ⟨_, rfl⟩
    have hA1 : AsideV R W W1 := by
      have h1 := (AsideV.refl R W).set 0 (.int .i64 ((r : Int) - (len : Int)))
      have h2 := h1.trans (AsideV.of (below_new _ (.cells #[.int .i64 k, .bool b, .string t, .slice ad len cap, .slice adk nk capk] 26)))
      rw [← hW1]
      exact ⟨h2.os, h2.tape, h2.output, h2.size, h2.block⟩
    have hR1 : Blk W1 R #[.int .i64 ((r : Int) - (len : Int))] 3 := by
      rw [← hW1]
      have h1 := (hRk.set 0 (.int .i64 ((r : Int) - (len : Int)))).alloc (.cells #[.int .i64 k, .bool b, .string t, .slice ad len cap, .slice adk nk capk] 26)
      have h2 : Blk ((W.setCell ⟨R, 0, none⟩ (.int .i64 ((r : Int) - (len : Int)))).alloc (.cells #[.int .i64 k, .bool b, .string t, .slice ad len cap, .slice adk nk capk] 26)) R #[.int .i64 ((r : Int) - (len : Int))] 3 := by simpa using h1
      exact h2
    have hK1 : Blk W1 W.heap.size #[.int .i64 k, .bool b, .string t, .slice ad len cap, .slice adk nk capk] 26 := by
      rw [← hW1]
      have h1 := Blk.new (W.setCell ⟨R, 0, none⟩ (.int .i64 ((r : Int) - (len : Int)))) #[.int .i64 k, .bool b, .string t, .slice ad len cap, .slice adk nk capk] 26
      rw [hsz] at h1
      exact h1
    clear hk0 hb0 hR0 c0 f0 c3 hsz
    have HA1 := Lib.hid hA1
    have HR1 := Lib.hid hR1
    have HK1 := Lib.hid hK1
    have c0 := hR1.cell 0
    clear hA1 hR1 hK1
    rcases Nat.eq_zero_or_pos d with hd0 | hd0
    · subst hd0
      go_wp2
      go_ret
      exact ⟨false, _, rfl, ⟨fun h => by (cases h), fun h => absurd h not_within_zero⟩, fun h => by (cases h), HR1.out, HA1.out⟩
    · obtain ⟨m, rfl⟩ : ∃ m, d = m + 1 := ⟨d - 1, by omega⟩
      by_cases hneg : r < len
      · have hn2 : ((r : Int) - (len : Int)) < 0 := by omega
        have HNW : Hid (¬ within (m + 1) r (.node k b t its ks)) := Lib.hid (fun h => by
          have := (within_node.1 h).2.1
          have := HGE.out
          omega)
        go_wp2
        go_ret
        exact ⟨false, _, rfl, ⟨fun h => by (cases h), fun h => absurd h HNW.out⟩, fun h => by (cases h), HR1.out, HA1.out⟩
      · have hn2 : ¬ ((r : Int) - (len : Int)) < 0 := by omega
        have HAl1 := Lib.hid (HAl.out W1 (hb.trans (HA1.out.below hBW hBR)) (Nat.le_trans hBW HA1.out.size))
        have q0 := HK1.out.cell 0
        have q1 := HK1.out.cell 1
        have q2 := HK1.out.cell 2
        have q3 := HK1.out.cell 3
        have q4 := HK1.out.cell 4
        cases al
        · have HNW : Hid (¬ within (m + 1) r (.node k b t its ks)) := Lib.hid (fun h => by
            have := (within_node.1 h).2.2.1
            rw [HAL.out] at this
            cases this)
          go_wp2_with (go_at_call 52; refine HAl1.out.mono ?_; rintro e W2 ⟨rfl, hb2⟩)
          go_ret
          exact ⟨false, _, rfl, ⟨fun h => by (cases h), fun h => absurd h HNW.out⟩, fun h => by (cases h), HR1.out.below hb2, HA1.out.trans (AsideV.of hb2)⟩
        · go_wp2_with (go_at_call 52; refine HAl1.out.mono ?_; rintro e W2 ⟨rfl, hb2⟩; have hK2 := HK1.out.below hb2; have hR2 := HR1.out.below hb2; have hA2 := HA1.out.trans (AsideV.of hb2); have p3 := hK2.cell 3)
          go_loopw [33] (fun jv wr => ∃ (j rj : Nat), jv = .int .i64 j ∧ j ≤ len ∧ rj ≤ r ∧ Hid (rj + (len - j) + sizeL (its.take j) = r) ∧ Hid (withinL m its j) ∧ Hid (Blk wr R #[.int .i64 (rj : Int)] 3) ∧ Hid (AsideV R W wr) ∧ Hid (Blk wr W.heap.size #[.int .i64 k, .bool b, .string t, .slice ad len cap, .slice adk nk capk] 26)) (fun jv _ => len - (intOf jv).toNat)
          case atStart => exact ⟨0, r - len, rfl, by omega, by omega, Lib.hid (by simp [sizeL]; omega), Lib.hid (fun i _ h => by omega), Lib.hid (by rw [show ((r - len : Nat) : Int) = (r : Int) - (len : Int) by omega]; exact hR2), Lib.hid hA2, Lib.hid hK2⟩
          case round =>
            obtain ⟨j, rj, rfl, hj, hrj, HS, HW, HR, HAs, HK⟩ := hrel
            clear q0 q1 q2 q3 q4 c0 p3 hK2 hR2 hA2 hb2
            by_cases hlt : j < len
            · have hjl : j < its.length := by have := HL.out; omega
              obtain ⟨rfl, hg⟩ := HA.out (by omega)
              have hBr : Below B w wr := hb.trans (HAs.out.below hBW hBR)
              have h5 := (HC.out j hjl).below hg hBr
              have e0 := h5.1
              have e1 := h5.2.1
              have e2 := h5.2.2.1
              have e3 := h5.2.2.2.1
              have e4 := h5.2.2.2.2
              have hIH := IH.out j hjl m rj R
              have i1 : (0 : Int) ≤ (j : Int) := by omega
              have i2 : (j : Int) < (len : Int) := by omega
              clear h5
              generalize hxi : ii j = vi at e3 hIH
              generalize hxv : iv j = vv at e4 hIH
              have hsh := (HIS.out j hjl).shape
              rw [hxi, hxv] at hsh
              obtain ⟨_, _, _, ai, ni, ci, ak, nk2, ck2, esh⟩ := hsh
              cases esh
              have hbi := below_new wr (.cells #[.int .i64 (ik j), .bool (ib j), .string (it j), .slice ai ni ci, .slice ak nk2 ck2] 26)
              have HCa := Lib.hid (hIH (wr.alloc (.cells #[.int .i64 (ik j), .bool (ib j), .string (it j), .slice ai ni ci, .slice ak nk2 ck2] 26)) (by omega) (by omega) (hBr.trans (hbi.mono (Nat.le_trans hBW HAs.out.size))) (Nat.le_trans (Nat.le_trans hBW HAs.out.size) hbi.size) hBR (HR.out.below hbi))
              have HKi := Lib.hid (HK.out.below hbi)
              have HAi := Lib.hid (HAs.out.trans (AsideV.of hbi))
              clear hIH hBr hbi
              have HXW := Lib.hid (within_next (k := k) (b := b) (t := t) (ks := ks) (len := len) (r := r) (m := m) (rj := rj) hjl HL.out HS.out)
              go_wp2_with fail
              go_at_call 32; refine HCa.out.mono ?_; rintro e w3 ⟨b3, r3, rfl, hi3, hr3, hk3, ha3⟩
              have HA3 := Lib.hid (HAi.out.trans ha3)
              have HK3 := Lib.hid (HKi.out.asideV ha3 (Ne.symm hne))
              have HR3 := Lib.hid hk3
              have HI3 := Lib.hid hi3
              have HE3 := Lib.hid hr3
              clear hk3 ha3 hi3 hr3
              cases b3
              · have HNW : Hid (¬ within (m + 1) r (.node k b t its ks)) := Lib.hid (fun h => by
                  have := HI3.out.2 (HXW.out.1 h)
                  cases this)
                go_wp2
                go_ret
                exact ⟨false, _, rfl, ⟨fun h => by (cases h), fun h => absurd h HNW.out⟩, fun h => by (cases h), HR3.out, HA3.out⟩
              · have hin := HI3.out.1 rfl
                have hq := HXW.out.2 hin
                have hr3e := HE3.out rfl
                have HIn := Lib.hid hin
                have HQ := Lib.hid hq
                have HR4 : Hid (Blk w3 R #[.int .i64 ((rj + 1 - sizeT its[j] : Nat) : Int)] 3) := Lib.hid (by
                  have hle := hin.2.1
                  rw [show ((rj + 1 - sizeT its[j] : Nat) : Int) = r3 by rw [hr3e]; omega]
                  exact HR3.out)
                have hpos := sizeT_pos its[j]
                have hle4 : rj + 1 - sizeT its[j] ≤ r := by omega
                have HLE4 := Lib.hid hle4
                clear hin hq hr3e hpos hle4
                go_wp2
                go_roundw
                case rel =>
                  have hw4 : withinL m its (j + 1) := fun i hi hij => by
                    rcases Nat.eq_or_lt_of_le (show i ≤ j by omega) with h | h
                    · subst h; exact ⟨HIn.out.1, HIn.out.2.2⟩
                    · exact HW.out i hi h
                  first
                    | exact ⟨j + 1, rj + 1 - sizeT its[j], by go_num, by omega, HLE4.out, HQ, Lib.hid hw4, HR4, HA3, HK3⟩
                    | (repeat apply Exists.intro
                       refine ⟨?_, rfl⟩
                       exact ⟨j + 1, rj + 1 - sizeT its[j], by go_num, by omega, HLE4.out, HQ, Lib.hid hw4, HR4, HA3, HK3⟩)
                case measure => simp [intOf]; omega
            · have hjn : its.length ≤ j := by have := HL.out; omega
              have hS := HS.out
              rw [List.take_of_length_le hjn] at hS
              have HEnd : Hid (within (m + 1) r (.node k b t its ks) ∧ ((rj : Nat) : Int) = (r : Int) - ((sizeT (.node k b t its ks) : Nat) : Int) + 1) := Lib.hid (by
                have hs : sizeT (.node k b t its ks) = 1 + sizeL its := by unfold sizeT; rfl
                exact ⟨within_node.2 ⟨deepL_all (fun i hi => (HW.out i hi (by omega)).1), by omega, HAL.out, plainL_all (fun i hi => (HW.out i hi (by omega)).2)⟩, by rw [hs]; omega⟩)
              clear hS
              go_wp2
              go_ret
              exact ⟨true, (rj : Int), rfl, ⟨fun _ => HEnd.out.1, fun _ => rfl⟩, fun _ => HEnd.out.2, HR.out, HAs.out⟩
end Go.Proofs.YtnmfoedfllmclaaGreatDoor
namespace Go.Proofs.YtnmfoedfllmclaaGreatDoor
open Go.RowKit
set_option linter.unusedVariables false

instance (d r : Nat) (T : VT) : Decidable (within d r T) := by unfold within; infer_instance

set_option maxRecDepth 100000 in
set_option maxHeartbeats 1000000 in
theorem vGood_any {B : Nat} {w : World} {v : Value} {T : VT} (h : Is B w v T) (W : World) (hb : Below B w W) (hBW : B ≤ W.heap.size) : Calls Tryz.prog 15 #[v] W fun e w' => e = .returned (.bool (decide (within 24 1999 T))) ∧ Below W.heap.size W w' := by
  obtain ⟨k, b, t, ad, n, cap, adk, nk, capk, rfl⟩ := h.shape
  have hb0 := below_new W (.cells #[.int .i64 k, .bool b, .string t, .slice ad n cap, .slice adk nk capk] 26)
  have hb1 := hb0.alloc hb0.size (.cells #[.int .i64 1999] 3)
  have hR := Blk.new (W.alloc (.cells #[.int .i64 k, .bool b, .string t, .slice ad n cap, .slice adk nk capk] 26)) #[.int .i64 1999] 3
  rw [show (W.alloc (.cells #[.int .i64 k, .bool b, .string t, .slice ad n cap, .slice adk nk capk] 26)).heap.size = W.heap.size + 1 by simp] at hR
  have HW := Lib.hid (within_any h 24 1999 (W.heap.size + 1) _ (by omega) (by omega) (hb.trans (hb1.mono hBW)) (Nat.le_trans hBW hb1.size) (by omega) hR)
  have HB := Lib.hid hb1
  clear h hb0 hb1 hR
  obtain ⟨q, hq⟩ : ∃ q, decide (within 24 1999 T) = q := ⟨_, rfl⟩
  rw [hq]
  have HQ := Lib.hid hq
  clear hq
  go_enter Tryz.func15, Tryz.ntmps15
  go_wp2_with (go_at_call 32; refine HW.out.mono ?_; rintro e w3 ⟨b3, r3, rfl, hi3, hr3, hk3, ha3⟩)
  go_ret
  refine ⟨?_, ?_⟩
  · rw [← HQ.out]
    cases b3
    · rw [decide_eq_false (fun h => by have := hi3.2 h; cases this)]; rfl
    · rw [decide_eq_true (hi3.1 rfl)]; rfl
  · have := HB.out.trans ((ha3.below (B := W.heap.size) HB.out.size (by omega)))
    exact this
end Go.Proofs.YtnmfoedfllmclaaGreatDoor
namespace Go.Proofs.YtnmfoedfllmclaaGreatDoor
open Go.RowKit
set_option linter.unusedVariables false

mutual
/-- Without an unknown within. -/
def knownT : VT → Bool
  | .node k _ _ its _ => !(k == 1) && knownL its
def knownL : List VT → Bool
  | [] => true
  | x :: l => knownT x && knownL l
end
theorem knownL_all : ∀ {l : List VT}, (∀ j (h : j < l.length), knownT l[j] = true) → knownL l = true
  | [], _ => rfl
  | x :: l, h => by
    have h0 : knownT x = true := h 0 (by simp)
    unfold knownL
    rw [h0, knownL_all (fun j hj => h (j + 1) (by simpa using hj))]
    rfl
theorem knownL_not : ∀ {l : List VT} {j : Nat} (h : j < l.length), knownT l[j] = false → knownL l = false
  | x :: l, 0, _, e => by
    unfold knownL
    have : knownT x = false := e
    rw [this]; rfl
  | x :: l, j + 1, h, e => by
    unfold knownL
    rw [knownL_not (l := l) (by simpa using h) e]
    simp

set_option maxRecDepth 100000 in
set_option maxHeartbeats 2000000 in
theorem vKnown_any {B : Nat} {w : World} {v : Value} {T : VT} (h : Is B w v T) : ∀ (W : World), Below B w W → B ≤ W.heap.size → Calls Tryz.prog 16 #[v] W fun e w' => e = .returned (.bool (knownT T)) ∧ Below W.heap.size W w' := by
  induction h with
  | mk k b t its ks ad cap kv g o ik ib it ii iv hk hc hnl ha hcell hrec ih =>
    intro W hb hBW
    obtain ⟨adk, capk, rfl, -⟩ := hk
    have HA := Lib.hid ha
    have HC := Lib.hid hcell
    have IH := Lib.hid ih
    have HIS := Lib.hid hrec
    obtain ⟨len, hlen⟩ : ∃ len, its.length = len := ⟨_, rfl⟩
    obtain ⟨nk, hnk⟩ : ∃ nk, ks.length = nk := ⟨_, rfl⟩
    have HL := Lib.hid hlen
    rw [hlen] at hc hnl ⊢
    rw [hnk]
    clear ha hcell hrec ih hlen hnk
    have hk0 := Blk.new W #[.int .i64 k, .bool b, .string t, .slice ad len cap, .slice adk nk capk] 26
    have hb0 := below_new W (.cells #[.int .i64 k, .bool b, .string t, .slice ad len cap, .slice adk nk capk] 26)
    by_cases hk1 : k = 1
    · subst hk1
      have HT : Hid (knownT (.node 1 b t its ks) = false) := Lib.hid (by unfold knownT; rfl)
      go_enter Tryz.func16, Tryz.ntmps16
      go_wp2
      go_ret
      exact ⟨by rw [HT.out]; rfl, hb0⟩
    · have hk2 : (k == 1) = false := beq_eq_false_iff_ne.2 hk1
      have HT : Hid (knownT (.node k b t its ks) = knownL its) := Lib.hid (by unfold knownT; rw [hk2]; rfl)
      rw [HT.out]
      obtain ⟨r, hr⟩ : ∃ r, knownL its = r := ⟨_, rfl⟩
      rw [hr]
      have HR := Lib.hid hr
      clear hr HT hk1
      have HB0 := Lib.hid hb0
      clear hk0 hb0
      go_enter Tryz.func16, Tryz.ntmps16
      go_wp2
      go_loopw [11] (fun jv wr => ∃ j : Nat, jv = .int .i64 j ∧ j ≤ len ∧ Hid (∀ i (h : i < its.length), i < j → knownT its[i] = true) ∧ Hid (Below W.heap.size W wr)) (fun jv _ => len - (intOf jv).toNat)
      case atStart => exact ⟨0, rfl, by omega, Lib.hid (fun i _ h => by omega), HB0⟩
      case round =>
        obtain ⟨j, rfl, hj, HI, HB⟩ := hrel
        clear HB0
        by_cases hlt : j < len
        · have hjl : j < its.length := by have := HL.out; omega
          obtain ⟨rfl, hg⟩ := HA.out (by omega)
          have hBr : Below B w wr := hb.trans (HB.out.mono hBW)
          have h5 := (HC.out j hjl).below hg hBr
          have e0 := h5.1
          have e1 := h5.2.1
          have e2 := h5.2.2.1
          have e3 := h5.2.2.2.1
          have e4 := h5.2.2.2.2
          have hIH := IH.out j hjl
          have i1 : (0 : Int) ≤ (j : Int) := by omega
          have i2 : (j : Int) < (len : Int) := by omega
          clear h5
          obtain ⟨d, hd⟩ : ∃ d, knownT its[j] = d := ⟨_, rfl⟩
          rw [hd] at hIH
          have HDd := Lib.hid hd
          clear hd
          generalize hxi : ii j = vi at e3 hIH
          generalize hxv : iv j = vv at e4 hIH
          have hsh := (HIS.out j hjl).shape
          rw [hxi, hxv] at hsh
          obtain ⟨_, _, _, ai, ni, ci, ak, nk2, ck2, esh⟩ := hsh
          cases esh
          have hbi := below_new wr (.cells #[.int .i64 (ik j), .bool (ib j), .string (it j), .slice ai ni ci, .slice ak nk2 ck2] 26)
          have HCa := Lib.hid (hIH (wr.alloc (.cells #[.int .i64 (ik j), .bool (ib j), .string (it j), .slice ai ni ci, .slice ak nk2 ck2] 26)) (hBr.trans (hbi.mono (Nat.le_trans hBW HB.out.size))) (Nat.le_trans (Nat.le_trans hBW HB.out.size) hbi.size))
          have HBi := Lib.hid (HB.out.trans (hbi.mono HB.out.size))
          clear hIH hBr hbi
          cases d
          · have HF : Hid (r = false) := Lib.hid (by rw [← HR.out]; exact knownL_not hjl HDd.out)
            go_wp2_with (go_at_call 16; refine HCa.out.mono ?_; rintro e w2 ⟨rfl, hb2⟩)
            go_ret
            exact ⟨by rw [HF.out]; rfl, HBi.out.trans (hb2.mono HBi.out.size)⟩
          · go_wp2_with (go_at_call 16; refine HCa.out.mono ?_; rintro e w2 ⟨rfl, hb2⟩)
            go_roundw
            case rel =>
              refine ⟨j + 1, by go_num, by omega, Lib.hid (fun i hi hij => ?_), Lib.hid (HBi.out.trans (hb2.mono HBi.out.size))⟩
              rcases Nat.eq_or_lt_of_le (show i ≤ j by omega) with h | h
              · subst h; exact HDd.out
              · exact HI.out i hi h
            case measure => simp [intOf]; omega
        · have HT : Hid (r = true) := Lib.hid (by rw [← HR.out]; exact knownL_all (fun i hi => HI.out i hi (by have := HL.out; omega)))
          go_wp2
          go_ret
          exact ⟨by rw [HT.out]; rfl, HB.out⟩

end Go.Proofs.YtnmfoedfllmclaaGreatDoor
namespace Go.Proofs.YtnmfoedfllmclaaGreatDoor
open Go.RowKit Go.Shelf
set_option linter.unusedVariables false

open Classical in
noncomputable def encR (T : VT) : ByteArray × Int := if within 24 1999 T then (if knownT T = true then (if utfT T = true then (if 65536 < (appV T []).length then (⟨#[]⟩, 3) else (⟨(appV T []).toArray⟩, 0)) else (⟨#[]⟩, 31)) else (⟨#[]⟩, 20)) else (⟨#[]⟩, 1)
def EncE (W : World) (r : ByteArray × Int) (e : Ending) (w' : World) : Prop := e = .returned (.tuple #[.string r.1, .int .i64 r.2]) ∧ Below W.heap.size W w'
theorem row_nil (B : Nat) (w : World) : Row B w (.slice none 0 0) [] := ⟨rfl, .inl ⟨rfl, rfl⟩⟩
theorem conv_row {B : Nat} {w : World} {ad : Option Addr} {cap : Nat} {L : List UInt8} (h : Row B w (.slice ad L.length cap) L) : (convert 44 9 (.slice ad L.length cap)).run Tryz.prog w = .ok (.string ⟨L.toArray⟩) w := by
  rcases h.2 with ⟨h1, h2⟩ | ⟨g, cap', cur, h1, h3, h4, h5, h6, h7, h8⟩
  · obtain rfl : L = [] := List.length_eq_zero_iff.1 h2
    cases h1
    exact run_convert_bytes_nil (P := Tryz.prog) w 44 5 Tryz.underlying44 Tryz.underlying5 0 0 9 Tryz.underlying9
  · cases h1
    refine run_convert_bytes_back (P := Tryz.prog) w 44 9 5 ⟨g, 0, none⟩ cap L Tryz.underlying44 Tryz.underlying5 Tryz.underlying9 (fun j hj => ?_)
    exact World.ownsRow.cells h (g := g) rfl j (.int .u8 (L[j].toNat : Int)) (by simp [Lib.byteCells, hj])
set_option maxRecDepth 100000 in
set_option maxHeartbeats 4000000 in
theorem encode_any {B : Nat} {w W : World} {v : Value} {T : VT} (h : Is B w v T) (hb : Below B w W) (hBW : B ≤ W.heap.size) (hR : ReadyJ W) : Calls Tryz.prog 8 #[v] W (EncE W (encR T)) := by
  obtain ⟨k, b, t, ad, n, cap, adk, nk, capk, rfl⟩ := h.shape
  obtain ⟨Wz, hWz⟩ : ∃ Wz, W.alloc (.cells #[.int .i64 k, .bool b, .string t, .slice ad n cap, .slice adk nk capk] 26) = Wz := ⟨_, rfl⟩
  have hk0 : Blk Wz W.heap.size #[.int .i64 k, .bool b, .string t, .slice ad n cap, .slice adk nk capk] 26 := by rw [← hWz]; exact Blk.new _ _ _
  have HZ : Hid (Below W.heap.size W Wz) := by rw [← hWz]; exact Lib.hid (below_new0 _ _)
  have HI := Lib.hid h
  have HBW := Lib.hid hb
  have HR := Lib.hid (hR.below HZ.out)
  have HK := Lib.hid hk0
  have c0 := hk0.cell 0
  have c1 := hk0.cell 1
  have c2 := hk0.cell 2
  have c3 := hk0.cell 3
  have c4 := hk0.cell 4
  have HG := Lib.hid (vGood_any h Wz (hb.trans (HZ.out.mono hBW)) (Nat.le_trans hBW HZ.out.size))
  clear h hb hR hk0
  by_cases hw : within 24 1999 T
  · rw [decide_eq_true hw] at HG
    have HW := Lib.hid hw
    clear hw
    go_enter Tryz.func8, Tryz.ntmps8
    go_wp2_with (go_at_call 15; refine HG.out.mono ?_; rintro e w1 ⟨rfl, hb1⟩; have d0 := (HK.out.below hb1).cell 0; have d1 := (HK.out.below hb1).cell 1; have d2 := (HK.out.below hb1).cell 2; have d3 := (HK.out.below hb1).cell 3; have d4 := (HK.out.below hb1).cell 4; refine Hid.out ?_)
    refine Lib.hid ?_
    have HB1 : Hid (Below W.heap.size W w1) := Lib.hid (HZ.out.trans (hb1.mono HZ.out.size))
    have HK1 := Lib.hid (HK.out.below hb1)
    have HR1 := Lib.hid (HR.out.below hb1)
    have HN := Lib.hid (vKnown_any HI.out w1 (HBW.out.trans (HB1.out.mono hBW)) (Nat.le_trans hBW HB1.out.size))
    clear hb1 c0 c1 c2 c3 c4
    cases hkn : knownT T
    · rw [hkn] at HN
      have HX : Hid (encR T = (⟨#[]⟩, 20)) := Lib.hid (by unfold encR; rw [if_pos HW.out, if_neg (by rw [hkn]; decide)])
      clear hkn
      go_wp2_with (go_at_call 16; refine HN.out.mono ?_; rintro e w2 ⟨rfl, hb2⟩)
      refine bodyPost_ret (v := .tuple #[.string ⟨#[]⟩, .int .i64 20]) (by simp [results, Tryz.results8, go_sem]) rfl ?_
      rw [HX.out]
      exact ⟨rfl, HB1.out.trans (hb2.mono HB1.out.size)⟩
    · rw [hkn] at HN
      have HKN := Lib.hid hkn
      clear hkn
      go_wp2_with (go_at_call 16; refine HN.out.mono ?_; rintro e w2 ⟨rfl, hb2⟩; have e0 := (HK1.out.below hb2).cell 0; have e1 := (HK1.out.below hb2).cell 1; have e2 := (HK1.out.below hb2).cell 2; have e3 := (HK1.out.below hb2).cell 3; have e4 := (HK1.out.below hb2).cell 4; refine Hid.out ?_)
      refine Lib.hid ?_
      have HB2 : Hid (Below W.heap.size W w2) := Lib.hid (HB1.out.trans (hb2.mono HB1.out.size))
      have HK2 := Lib.hid (HK1.out.below hb2)
      have HR2 := Lib.hid (HR1.out.below hb2)
      have HU := Lib.hid (allUTF8_any HI.out (plain_short T HW.out.2.2) w2 (HBW.out.trans (HB2.out.mono hBW)) (Nat.le_trans hBW HB2.out.size) HR2.out)
      clear hb2 d0 d1 d2 d3 d4
      cases hut : utfT T
      · rw [hut] at HU
        have HX : Hid (encR T = (⟨#[]⟩, 31)) := Lib.hid (by unfold encR; rw [if_pos HW.out, if_pos HKN.out, if_neg (by rw [hut]; decide)])
        clear hut
        go_wp2_with (go_at_call 17; refine HU.out.mono ?_; rintro e w3 ⟨rfl, hb3⟩)
        refine bodyPost_ret (v := .tuple #[.string ⟨#[]⟩, .int .i64 31]) (by simp [results, Tryz.results8, go_sem]) rfl ?_
        rw [HX.out]
        exact ⟨rfl, HB2.out.trans (hb3.mono HB2.out.size)⟩
      · rw [hut] at HU
        have HUT := Lib.hid hut
        clear hut
        go_wp2_with (go_at_call 17; refine HU.out.mono ?_; rintro e w3 ⟨rfl, hb3⟩; have q0 := (HK2.out.below hb3).cell 0; have q1 := (HK2.out.below hb3).cell 1; have q2 := (HK2.out.below hb3).cell 2; have q3 := (HK2.out.below hb3).cell 3; have q4 := (HK2.out.below hb3).cell 4; refine Hid.out ?_)
        refine Lib.hid ?_
        have HB3 : Hid (Below W.heap.size W w3) := Lib.hid (HB2.out.trans (hb3.mono HB2.out.size))
        have hlen := appV_len T [] HW.out.2.2
        have hsz := HW.out.2.1
        simp only [List.length_nil] at hlen
        have HA := Lib.hid (appValue_any HI.out (plain_even T HW.out.2.2) w3.heap.size w3 (.slice none 0 0) [] (HBW.out.trans (HB3.out.mono hBW)) (Nat.le_trans hBW HB3.out.size) (Nat.le_refl _) (row_nil _ _) (by omega))
        clear hb3 e0 e1 e2 e3 e4
        obtain ⟨X, hX⟩ : ∃ X, appV T [] = X := ⟨_, rfl⟩
        rw [hX] at HA hlen
        have HX := Lib.hid hX
        clear hX
        go_wp2_with fail
        go_at_call 18; refine HA.out.mono ?_; rintro e w4 ⟨v4, rfl, hr4, hb4, ho4⟩
        obtain ⟨ad4, cap4, hv4⟩ := row_shape hr4
        subst hv4
        have hcv := conv_row hr4
        have HB4 : Hid (Below W.heap.size W w4) := Lib.hid (HB3.out.trans (hb4.mono HB3.out.size))
        clear hr4 hb4 ho4
        by_cases hl : 65536 < X.length
        · have HE : Hid (encR T = (⟨#[]⟩, 3)) := Lib.hid (by unfold encR; rw [if_pos HW.out, if_pos HKN.out, if_pos HUT.out, HX.out, if_pos hl])
          have i0 : (65536 : Int) < (X.length : Int) := by omega
          clear hl
          go_wp2
          refine bodyPost_ret (v := .tuple #[.string ⟨#[]⟩, .int .i64 3]) (by simp [results, Tryz.results8, go_sem]) rfl ?_
          rw [HE.out]
          exact ⟨rfl, HB4.out⟩
        · have HE : Hid (encR T = (⟨X.toArray⟩, 0)) := Lib.hid (by unfold encR; rw [if_pos HW.out, if_pos HKN.out, if_pos HUT.out, HX.out, if_neg hl])
          have i0 : ¬ (65536 : Int) < (X.length : Int) := by omega
          clear hl
          go_wp2
          refine bodyPost_ret (v := .tuple #[.string ⟨X.toArray⟩, .int .i64 0]) (by simp [results, Tryz.results8, go_sem]) rfl ?_
          rw [HE.out]
          exact ⟨rfl, HB4.out⟩
  · rw [decide_eq_false hw] at HG
    have HX : Hid (encR T = (⟨#[]⟩, 1)) := Lib.hid (by unfold encR; rw [if_neg hw])
    clear hw
    go_enter Tryz.func8, Tryz.ntmps8
    go_wp2_with (go_at_call 15; refine HG.out.mono ?_; rintro e w1 ⟨rfl, hb1⟩)
    refine bodyPost_ret (v := .tuple #[.string ⟨#[]⟩, .int .i64 1]) (by simp [results, Tryz.results8, go_sem]) rfl ?_
    rw [HX.out]
    exact ⟨rfl, HZ.out.trans (hb1.mono HZ.out.size)⟩
end Go.Proofs.YtnmfoedfllmclaaGreatDoor
