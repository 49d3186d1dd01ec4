/- value.Good · purlinref02.Good; that it says what value.Good says · What a good tree is · value.members and value.Get of any value -/
import Derived.Test.YtjgbhnbfojkhoaaGreatDoorKe11
import Derived.Test.YtjgbhnbfojkhoaaGreatDoorKe17
import Derived.Test.YtjgbhnbfojkhoaaGreatDoorKe19
import Derived.Test.YtjgbhnbfojkhoaaGreatDoorKe21
import Derived.Test.YtjgbhnbfojkhoaaGreatDoorKe23
namespace Go.Proofs.YtjgbhnbfojkhoaaGreatDoor
open Go.RowKit
set_option linter.unusedVariables false

instance (d r : Nat) (T : VT) : Decidable (within d r T) := by unfold within; infer_instance

set_option maxRecDepth 100000 in
set_option maxHeartbeats 1000000 in
theorem vGood_any {B : Nat} {w : World} {v : Value} {T : VT} (h : Is B w v T) (W : World) (hb : Below B w W) (hBW : B ≤ W.heap.size) : Calls Tryz.prog 58 #[v] W fun e w' => e = .returned (.bool (decide (within 24 1999 T))) ∧ Below W.heap.size W w' := by
  obtain ⟨k, b, t, ad, n, cap, adk, nk, capk, rfl⟩ := h.shape
  have hb0 := below_new W (.cells #[.int .i64 k, .bool b, .string t, .slice ad n cap, .slice adk nk capk] 26)
  have hb1 := hb0.alloc hb0.size (.cells #[.int .i64 1999] 3)
  have hR := Blk.new (W.alloc (.cells #[.int .i64 k, .bool b, .string t, .slice ad n cap, .slice adk nk capk] 26)) #[.int .i64 1999] 3
  rw [show (W.alloc (.cells #[.int .i64 k, .bool b, .string t, .slice ad n cap, .slice adk nk capk] 26)).heap.size = W.heap.size + 1 by simp] at hR
  have HW := Lib.hid (within_any h 24 1999 (W.heap.size + 1) _ (by omega) (by omega) (hb.trans (hb1.mono hBW)) (Nat.le_trans hBW hb1.size) (by omega) hR)
  have HB := Lib.hid hb1
  clear h hb0 hb1 hR
  obtain ⟨q, hq⟩ : ∃ q, decide (within 24 1999 T) = q := ⟨_, rfl⟩
  rw [hq]
  have HQ := Lib.hid hq
  clear hq
  go_enter Tryz.func58, Tryz.ntmps58
  go_wp2_with (go_at_call 88; refine HW.out.mono ?_; rintro e w3 ⟨b3, r3, rfl, hi3, hr3, hk3, ha3⟩)
  go_ret
  refine ⟨?_, ?_⟩
  · rw [← HQ.out]
    cases b3
    · rw [decide_eq_false (fun h => by have := hi3.2 h; cases this)]; rfl
    · rw [decide_eq_true (hi3.1 rfl)]; rfl
  · have := HB.out.trans ((ha3.below (B := W.heap.size) HB.out.size (by omega)))
    exact this
end Go.Proofs.YtjgbhnbfojkhoaaGreatDoor
namespace Go.Proofs.YtjgbhnbfojkhoaaGreatDoor
open Go.RowKit
set_option linter.unusedVariables false

/-- A good tree, as the document has it. -/
def goodT (T : VT) : Bool := decide (sizeT T ≤ 2000) && deepT 24 T && plainT T
theorem goodT_long {T : VT} {z : Int} (h : SizeIs T z) (hz : ¬ z ≤ 2000) : goodT T = false := by
  unfold goodT
  cases hd : deepT 24 T
  · simp
  · obtain ⟨-, -, h3, -⟩ := h 24 (by omega) hd
    have : ¬ sizeT T ≤ 2000 := fun hs => hz (by have := h3 hs; omega)
    simp [this]
theorem goodT_deep {T : VT} (hd : deepT 24 T = false) : goodT T = false := by unfold goodT; rw [hd]; simp
theorem goodT_plain {T : VT} {z : Int} {p : Bool} (h : SizeIs T z) (hz : z ≤ 2000) (hd : deepT 24 T = true) (hp : plainT T = p) : goodT T = p := by
  obtain ⟨-, -, -, h4⟩ := h 24 (by omega) hd
  have : sizeT T ≤ 2000 := by
    rcases Nat.lt_or_ge 2000 (sizeT T) with hs | hs
    · have := h4 hs; omega
    · exact hs
  unfold goodT
  rw [hd, hp]
  simp [this]
theorem goodT_within (T : VT) : goodT T = decide (within 24 1999 T) := by
  rw [Bool.eq_iff_iff, decide_eq_true_iff]
  unfold goodT within
  rw [Bool.and_eq_true, Bool.and_eq_true, decide_eq_true_iff]
  constructor
  · rintro ⟨⟨a, b⟩, c⟩; exact ⟨b, by omega, c⟩
  · rintro ⟨a, b, c⟩; exact ⟨⟨by omega, a⟩, c⟩

set_option maxRecDepth 100000 in
set_option maxHeartbeats 2000000 in
theorem rGood_any {B : Nat} {w : World} {v : Value} {T : VT} (h : Is B w v T) (W : World) (hb : Below B w W) (hBW : B ≤ W.heap.size) : Calls Tryz.prog 12 #[v] W fun e w' => e = .returned (.bool (goodT T)) ∧ Below W.heap.size W w' := by
  have HS := Lib.hid (fun W' (hb' : Below B w W') (hB' : B ≤ W'.heap.size) => size_any h W' hb' hB')
  have HD := Lib.hid (fun W' (hb' : Below B w W') (hB' : B ≤ W'.heap.size) => deep_any h 24 W' (by omega) hb' hB')
  have HP := Lib.hid (fun W' (hb' : Below B w W') (hB' : B ≤ W'.heap.size) => plain_any h W' hb' hB')
  obtain ⟨k, b, t, ad, n, cap, adk, nk, capk, rfl⟩ := h.shape
  obtain ⟨g, hg⟩ : ∃ g, goodT T = g := ⟨_, rfl⟩
  have HG := Lib.hid hg
  rw [hg]
  clear hg h
  have hb0 := below_new W (.cells #[.int .i64 k, .bool b, .string t, .slice ad n cap, .slice adk nk capk] 26)
  have hk0 := Blk.new W #[.int .i64 k, .bool b, .string t, .slice ad n cap, .slice adk nk capk] 26
  have HB0 := Lib.hid hb0
  have HK0 := Lib.hid hk0
  have HS1 := Lib.hid (HS.out _ (hb.trans (hb0.mono hBW)) (Nat.le_trans hBW hb0.size))
  clear hb0 hk0 HS
  have HBW := Lib.hid hBW
  have HBb := Lib.hid hb
  clear hBW hb
  go_enter Tryz.func12, Tryz.ntmps12
  go_wp2_with fail
  go_at_call 38; refine HS1.out.mono ?_; rintro e w2 ⟨⟨z, rfl, hz⟩, hb2⟩
  have HZ := Lib.hid hz
  have HB2 := Lib.hid (HB0.out.trans (hb2.mono HB0.out.size))
  have HK2 := Lib.hid (HK0.out.below hb2)
  have HD2 := Lib.hid (HD.out w2 (HBb.out.trans (HB2.out.mono HBW.out)) (Nat.le_trans HBW.out HB2.out.size))
  have hw2 : W.heap.size < w2.heap.size := HK2.out.lt
  have q0 := HK2.out.cell 0
  have q1 := HK2.out.cell 1
  have q2 := HK2.out.cell 2
  have q3 := HK2.out.cell 3
  have q4 := HK2.out.cell 4
  clear hz hb2
  by_cases hz2 : z ≤ 2000
  · obtain ⟨d, hd⟩ : ∃ d, deepT 24 T = d := ⟨_, rfl⟩
    rw [hd] at HD2
    have HDd := Lib.hid hd
    clear hd
    cases d
    · have HF : Hid (g = false) := Lib.hid (HG.out.symm.trans (goodT_deep HDd.out))
      go_wp2_with (go_at_call 39; refine HD2.out.mono ?_; rintro e w3 ⟨rfl, hb3⟩)
      go_ret
      exact ⟨by rw [HF.out]; rfl, HB2.out.trans (hb3.mono HB2.out.size)⟩
    · go_wp2_with fail
      go_at_call 39; refine HD2.out.mono ?_; rintro e w3 ⟨rfl, hb3⟩
      clear q0 q1 q2 q3 q4 hw2
      have HB3 := Lib.hid (HB2.out.trans (hb3.mono HB2.out.size))
      have HK3 := Lib.hid (HK2.out.below hb3)
      have HP3 := Lib.hid (HP.out w3 (HBb.out.trans (HB3.out.mono HBW.out)) (Nat.le_trans HBW.out HB3.out.size))
      have hw3 : W.heap.size < w3.heap.size := HK3.out.lt
      have q0 := HK3.out.cell 0
      have q1 := HK3.out.cell 1
      have q2 := HK3.out.cell 2
      have q3 := HK3.out.cell 3
      have q4 := HK3.out.cell 4
      clear hb3
      obtain ⟨p, hp⟩ : ∃ p, plainT T = p := ⟨_, rfl⟩
      rw [hp] at HP3
      have HF : Hid (g = p) := Lib.hid (HG.out.symm.trans (goodT_plain HZ.out hz2 HDd.out hp))
      clear hp
      go_wp2_with (go_at_call 40; refine HP3.out.mono ?_; rintro e w4 ⟨rfl, hb4⟩)
      go_ret
      exact ⟨by rw [HF.out]; rfl, HB3.out.trans (hb4.mono HB3.out.size)⟩
  · have HF : Hid (g = false) := Lib.hid (HG.out.symm.trans (goodT_long HZ.out hz2))
    have hz3 : decide (z ≤ 2000) = false := decide_eq_false hz2
    go_wp2_with fail
    go_ret
    exact ⟨by rw [HF.out]; rfl, HB2.out⟩
end Go.Proofs.YtjgbhnbfojkhoaaGreatDoor
namespace Go.Proofs.YtjgbhnbfojkhoaaGreatDoor
open Go.RowKit
set_option linter.unusedVariables false

/-- A good tree is small. -/
theorem small_good : ∀ (n : Nat) (T : VT), deepT n T = true → plainT T = true → sizeT T ≤ 2000 → smallT T
  | 0, .node k b t its ks, h, _, _ => by unfold deepT at h; cases h
  | n + 1, .node k b t its ks, hd, hp, hs => by
    have e : sizeT (.node k b t its ks) = 1 + sizeL its := by unfold sizeT; rfl
    rw [e] at hs
    have hge := sizeL_ge its
    unfold deepT at hd
    unfold plainT at hp
    obtain ⟨hal, hpl⟩ := Bool.and_eq_true_iff.1 hp
    rw [smallT_node]
    refine ⟨by omega, ?_, fun x hx => ?_⟩
    · unfold aloneT at hal
      have hal2 := (Bool.and_eq_true_iff.1 hal).2
      split at hal2
      · simp at hal2; rw [hal2.2]; simp
      · split at hal2
        · simp at hal2; rw [hal2.2]; simp
        · split at hal2
          · simp at hal2; rw [hal2.2]; simp
          · split at hal2
            · simp at hal2; rw [hal2.2]; simp
            · split at hal2
              · simp at hal2; omega
              · cases hal2
    · obtain ⟨j, hj, rfl⟩ := List.mem_iff_getElem.1 hx
      have h1 := sizeL_split its (j + 1)
      have h2 := sizeL_take hj
      exact small_good n _ (deepL_at hj hd) (plainL_at hj hpl) (by omega)
theorem goodT_parts {T : VT} (h : goodT T = true) : sizeT T ≤ 2000 ∧ deepT 24 T = true ∧ plainT T = true := by
  unfold goodT at h
  simp only [Bool.and_eq_true, decide_eq_true_eq] at h
  exact ⟨h.1.1, h.1.2, h.2⟩
theorem goodT_small {T : VT} (h : goodT T = true) : smallT T := by
  obtain ⟨a, b, c⟩ := goodT_parts h
  exact small_good 24 T b c a

end Go.Proofs.YtjgbhnbfojkhoaaGreatDoor
namespace Go.Proofs.YtjgbhnbfojkhoaaGreatDoor
open Go.RowKit
set_option linter.unusedVariables false

set_option maxRecDepth 100000 in
set_option maxHeartbeats 1000000 in
theorem members_other {k : Int} (hk6 : k ≠ 6) {adk adi : Option Addr} {n nk capk capi : Nat} (w : World) (b : Bool) (t : ByteArray) :
    Calls Tryz.prog 50 #[.agg #[.int .i64 k, .bool b, .string t, .slice adi n capi, .slice adk nk capk]] w fun e w' => e = .returned (.tuple #[.slice none 0 0, .slice none 0 0]) ∧ Below w.heap.size w w' := by
  have kk6 : (k == 6) = false := beq_eq_false_iff_ne.2 hk6
  have kk6' : (k != 6) = true := by simp only [bne, kk6]; rfl
  go_enter Tryz.func50, Tryz.ntmps50
  go_wp2
  refine bodyPost_ret (v := .tuple #[.slice none 0 0, .slice none 0 0]) ?_ rfl ⟨rfl, below_new _ _⟩
  simp [results, Tryz.results50, go_sem]
theorem strs_nil (B : Nat) (W : World) : StrsAt B W (.slice none 0 0) [] := ⟨none, 0, rfl, by simp, by simp, fun h => absurd h (by simp)⟩
theorem items_nil (B : Nat) (W : World) : ItemsAt B W (.slice none 0 0) [] := ⟨none, 0, rfl, by simp, by simp, fun h => absurd h (by simp), fun e he => by cases he⟩
/-- What members answers. -/
theorem memb_any {B : Nat} {w : World} {v : Value} {k : Int} {b : Bool} {t : ByteArray} {its : List VT} {ks : List ByteArray} (h : Is B w v (.node k b t its ks)) (hl : k = 6 → ks.length = its.length) :
    ∃ kvm ivm km ym, (∀ W, Calls Tryz.prog 50 #[v] W fun e w' => e = .returned (.tuple #[kvm, ivm]) ∧ Below W.heap.size W w') ∧ StrsAt B w kvm km ∧ ItemsAt B w ivm ym ∧ km.length = ym.length ∧ ((k = 6 ∧ km = ks ∧ ym.map It.T = its) ∨ (k ≠ 6 ∧ km = [] ∧ ym = [])) := by
  obtain ⟨kv, iv, ys, rfl, hkv, hiv, rfl⟩ := h.parts
  by_cases hk6 : k = 6
  · subst hk6
    have hll : ks.length = ys.length := by simpa using hl rfl
    refine ⟨kv, iv, ks, ys, fun W => ?_, hkv, hiv, hll, .inl ⟨rfl, rfl, rfl⟩⟩
    obtain ⟨adk, capk, rfl, hkc, -⟩ := hkv
    obtain ⟨adi, capi, rfl, hic, -⟩ := hiv
    rw [← hll] at hic ⊢
    exact members_obj hkc hic W b t
  · obtain ⟨adk, capk, rfl, -⟩ := hkv
    obtain ⟨adi, capi, rfl, -⟩ := hiv
    exact ⟨_, _, [], [], fun W => members_other hk6 W b t, strs_nil B w, items_nil B w, rfl, .inr ⟨hk6, rfl, rfl⟩⟩

theorem null_fresh (lo B : Nat) (W : World) : Fresh lo B W (.agg nil5) (.node 0 false ⟨#[]⟩ [] []) :=
  Fresh.mk 0 false ⟨#[]⟩ [] [] none 0 (.slice none 0 0) 0 0 (fun _ => 0) (fun _ => false) (fun _ => ⟨#[]⟩) (fun _ => undef) (fun _ => undef) ⟨none, 0, rfl, by simp, by simp, fun h => absurd h (by simp)⟩ (by simp) (by simp) (fun h => absurd h (by simp)) (fun j h => absurd h (by simp)) (fun j h => absurd h (by simp))
set_option maxRecDepth 100000 in
set_option maxHeartbeats 4000000 in
theorem vGet_any {B : Nat} {w : World} {v : Value} {k : Int} {b : Bool} {t key : ByteArray} {its : List VT} {ks : List ByteArray} (h : Is B w v (.node k b t its ks)) (hl : k = 6 → ks.length = its.length) (hr : k = 6 → Rising ks) (hsm : smallT (.node k b t its ks))
    (W : World) (hb : Below B w W) (hBW : B ≤ W.heap.size) : Calls Tryz.prog 17 #[v, .string key] W fun e w' => (∃ v' T ok, e = .returned (.tuple #[v', .bool ok]) ∧ Fresh W.heap.size w'.heap.size w' v' T ∧ Got k ks its key T ok) ∧ Below W.heap.size W w' := by
  obtain ⟨kvm, ivm, km, ym, hM, hS, hI, hlen, hrel⟩ := memb_any h hl
  have hrm : Rising km := by
    rcases hrel with ⟨e1, rfl, -⟩ | ⟨-, rfl, -⟩
    · exact hr e1
    · exact fun i j hi _ _ => by simp at hi
  obtain ⟨-, -, hsm3⟩ := smallT_node.1 hsm
  have hsmy : ∀ e ∈ ym, smallT e.T := by
    rcases hrel with ⟨-, -, rfl⟩ | ⟨-, -, rfl⟩
    · exact fun e he => hsm3 _ (List.mem_map.2 ⟨e, he, rfl⟩)
    · exact fun e he => by cases he
  have HSr := Lib.hid (fun W (hb : Below B w W) => search_any key (hS.below hb) hrm)
  have HM := Lib.hid hM
  obtain ⟨adk, capk, rfl, hkc, hkl, -⟩ := hS
  obtain ⟨adi, capi, rfl, hic, hil, hip, hok⟩ := hI
  have HIP := Lib.hid hip
  have HCL := Lib.hid (fun (e : It) (he : e ∈ ym) (W' : World) (hb' : Below B w W') (hB' : B ≤ W'.heap.size) => clone_any (hok e he) (hsmy e he) W' hb' hB')
  have HOK := Lib.hid hok
  have HREL := Lib.hid hrel
  have HRM := Lib.hid hrm
  rw [← hlen] at hic hil HM
  have HLE := Lib.hid hlen
  obtain ⟨n, hn⟩ : ∃ n, km.length = n := ⟨_, rfl⟩
  have HN := Lib.hid hn
  rw [hn] at hkc hkl hic hil HSr HM
  obtain ⟨kb, bb, tb, adb, nb, capb, adbk, nbk, capbk, rfl⟩ := h.shape
  have HBb := Lib.hid hb
  have HBW := Lib.hid hBW
  clear hM hip hok hrel hrm hsm3 hsmy hlen hn hsm hl hr h hb hBW
  have en : nil5 = #[.int .i64 0, .bool false, .string ⟨#[]⟩, .slice none 0 0, .slice none 0 0] := rfl
  have hb0 : Below W.heap.size W ((W.alloc (.cells #[.int .i64 kb, .bool bb, .string tb, .slice adb nb capb, .slice adbk nbk capbk] 26)).alloc (.cells nil5 26)) := box2_below
  have hR0 : Blk ((W.alloc (.cells #[.int .i64 kb, .bool bb, .string tb, .slice adb nb capb, .slice adbk nbk capbk] 26)).alloc (.cells nil5 26)) (W.heap.size + 1) nil5 26 := by have := Blk.new (W.alloc (.cells #[.int .i64 kb, .bool bb, .string tb, .slice adb nb capb, .slice adbk nbk capbk] 26)) nil5 26; simpa using this
  have HB0 := Lib.hid hb0
  have HR0 := Lib.hid hR0
  rw [en] at HB0 HR0
  clear hb0 hR0
  go_enter Tryz.func17, Tryz.ntmps17
  go_wp2_with fail
  go_at_call 50; refine (HM.out _).mono ?_; rintro e w1 ⟨rfl, hb1⟩
  have HB1 := Lib.hid (HB0.out.trans (hb1.mono HB0.out.size))
  have HR1 := Lib.hid (HR0.out.below hb1)
  clear hb1 HB0 HR0
  go_wp2_with fail
  go_at_call 51; refine (HSr.out _ (HBb.out.trans (HB1.out.mono HBW.out))).mono ?_; rintro e w2 ⟨p, hp, rfl, rfl⟩
  have HP := Lib.hid hp
  clear hp
  have q0 := HR1.out.cell 0
  have q1 := HR1.out.cell 1
  have q2 := HR1.out.cell 2
  have q3 := HR1.out.cell 3
  have q4 := HR1.out.cell 4
  have f0 := HR1.out.frozen 0
  have f1 := HR1.out.frozen 1
  have f2 := HR1.out.frozen 2
  have f3 := HR1.out.frozen 3
  have f4 := HR1.out.frozen 4
  cases hh : hasAt km key p
  · have HGOT : Hid (Got k ks its key (.node 0 false ⟨#[]⟩ [] []) false) := Lib.hid (.inr ⟨rfl, rfl, by
      rcases HREL.out with ⟨e1, e2, -⟩ | ⟨e1, -⟩
      · refine .inr ?_
        rw [← e2]
        exact none_of_place HRM.out HP.out hh
      · exact .inl e1⟩)
    have h5 := HR1.out.set5 (.int .i64 0) (.bool false) (.string ⟨#[]⟩) (.slice none 0 0) (.slice none 0 0)
    have d0 := h5.cell 0
    have d1 := h5.cell 1
    have d2 := h5.cell 2
    have d3 := h5.cell 3
    have d4 := h5.cell 4
    clear hh
    go_wp2
    refine bodyPost_ret (v := .tuple #[.agg #[.int .i64 0, .bool false, .string ⟨#[]⟩, .slice none 0 0, .slice none 0 0], .bool false]) ?_ rfl ⟨⟨_, _, _, rfl, null_fresh _ _ _, HGOT.out⟩, below_set5 HB1.out (by omega) _ _ _ _ _⟩
    simp [results, Tryz.results17, go_sem, d0, d1, d2, d3, d4]
  · have hpk : p < km.length := by
      rcases Nat.lt_or_ge p km.length with h | h
      · exact h
      · rw [hasAt_out h] at hh; cases hh
    have hpn : p < n := by have := HN.out; omega
    have hpy : p < ym.length := by have := HLE.out; omega
    have hey : (km[p].toList == key.toList) = true := by rw [hasAt_in hpk] at hh; exact hh
    have HGOT : Hid (Got k ks its key ym[p].T true) := Lib.hid (by
      rcases HREL.out with ⟨e1, e2, e3⟩ | ⟨-, e2, -⟩
      · subst e2
        subst e3
        exact .inl ⟨rfl, e1, p, hpk, by simpa using hpy, hey, by simp⟩
      · subst e2; simp at hpk)
    obtain ⟨g, o, rfl, hg, hcs⟩ := HIP.out (by omega)
    have hc := (hcs p hpy).below hg (HBb.out.trans (HB1.out.mono HBW.out))
    have hoke := HOK.out ym[p] (List.getElem_mem hpy)
    have hcl := HCL.out ym[p] (List.getElem_mem hpy) w1 (HBb.out.trans (HB1.out.mono HBW.out)) (Nat.le_trans HBW.out HB1.out.size)
    obtain ⟨e, he⟩ : ∃ e, ym[p] = e := ⟨_, rfl⟩
    rw [he] at hc hoke hcl HGOT
    obtain ⟨ai, ni, ci, ak, nk2, ck2, exi, exy⟩ := hoke.shape
    unfold It.val at hcl
    rw [exi, exy] at hc hcl
    have HCl := Lib.hid hcl
    generalize e.k = y0 at hc HCl
    generalize e.b = y1 at hc HCl
    generalize e.t = y2 at hc HCl
    obtain ⟨e0, e1, e2, e3, e4⟩ := hc
    have i1 : (0 : Int) ≤ (p : Int) := by omega
    have i2 : (p : Int) < (n : Int) := by omega
    clear hh hcs he hoke hcl exi exy hey HSr HCL
    go_wp2_with fail
    go_at_call 25; refine HCl.out.mono ?_; rintro e w3 ⟨v', rfl, hf, hb3⟩
    obtain ⟨k', b', t', ad', n', cap', adk', nk', capk', rfl⟩ := hf.shape
    have HB3 := Lib.hid (HB1.out.trans (hb3.mono HB1.out.size))
    have HR3 := Lib.hid (HR1.out.below hb3)
    have HF := Lib.hid hf
    have hlt1 := HR1.out.lt
    clear q0 q1 q2 q3 q4 f0 f1 f2 f3 f4 e0 e1 e2 e3 e4 hb3 hf
    have q0 := HR3.out.cell 0
    have q1 := HR3.out.cell 1
    have q2 := HR3.out.cell 2
    have q3 := HR3.out.cell 3
    have q4 := HR3.out.cell 4
    have f0 := HR3.out.frozen 0
    have f1 := HR3.out.frozen 1
    have f2 := HR3.out.frozen 2
    have f3 := HR3.out.frozen 3
    have f4 := HR3.out.frozen 4
    have h5 := HR3.out.set5 (.int .i64 k') (.bool b') (.string t') (.slice ad' n' cap') (.slice adk' nk' capk')
    have d0 := h5.cell 0
    have d1 := h5.cell 1
    have d2 := h5.cell 2
    have d3 := h5.cell 3
    have d4 := h5.cell 4
    go_wp2
    refine bodyPost_ret (v := .tuple #[.agg #[.int .i64 k', .bool b', .string t', .slice ad' n' cap', .slice adk' nk' capk'], .bool true]) ?_ rfl ⟨⟨_, _, _, rfl, HF.out.keep (fun g h1 h2 => set5_other w3 (W.heap.size + 1) 0 _ _ _ _ _ (by omega)) HB1.out.size (by simp), HGOT.out⟩, below_set5 HB3.out (by omega) _ _ _ _ _⟩
    simp [results, Tryz.results17, go_sem, d0, d1, d2, d3, d4]
end Go.Proofs.YtjgbhnbfojkhoaaGreatDoor
