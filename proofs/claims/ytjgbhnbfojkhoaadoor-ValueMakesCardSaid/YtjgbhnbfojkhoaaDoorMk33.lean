/- value.Good · purlinref02.Good; that it says what value.Good says · What a good tree is · ValueMakes: both Objects answer the same, whatever the keys and items · What the rows' condition on the table of powers of ten gives the walks -/
import Derived.Test.YtjgbhnbfojkhoaaDoorRows
import Derived.Lib.AppendIntMem
import Derived.Lib.LaidTab
import Derived.ProofKit
import Derived.LaidMore
import Derived.OpenShut
import Derived.Test.YtjgbhnbfojkhoaaDoorMk10
import Derived.Test.YtjgbhnbfojkhoaaDoorMk12
import Derived.Test.YtjgbhnbfojkhoaaDoorMk28
import Derived.Test.YtjgbhnbfojkhoaaDoorMk30
import Derived.Test.YtjgbhnbfojkhoaaDoorMk32
namespace Go.Proofs.YtjgbhnbfojkhoaaDoor
open Go.RowKit
set_option linter.unusedVariables false

instance (d r : Nat) (T : VT) : Decidable (within d r T) := by unfold within; infer_instance

set_option maxRecDepth 100000 in
set_option maxHeartbeats 1000000 in
theorem vGood_any {B : Nat} {w : World} {v : Value} {T : VT} (h : Is B w v T) (W : World) (hb : Below B w W) (hBW : B ≤ W.heap.size) : Calls Tryd.prog 7 #[v] W fun e w' => e = .returned (.bool (decide (within 24 1999 T))) ∧ Below W.heap.size W w' := by
  obtain ⟨k, b, t, ad, n, cap, adk, nk, capk, rfl⟩ := h.shape
  have hb0 := below_new W (.cells #[.int .i64 k, .bool b, .string t, .slice ad n cap, .slice adk nk capk] 26)
  have hb1 := hb0.alloc hb0.size (.cells #[.int .i64 1999] 3)
  have hR := Blk.new (W.alloc (.cells #[.int .i64 k, .bool b, .string t, .slice ad n cap, .slice adk nk capk] 26)) #[.int .i64 1999] 3
  rw [show (W.alloc (.cells #[.int .i64 k, .bool b, .string t, .slice ad n cap, .slice adk nk capk] 26)).heap.size = W.heap.size + 1 by simp] at hR
  have HW := Lib.hid (within_any h 24 1999 (W.heap.size + 1) _ (by omega) (by omega) (hb.trans (hb1.mono hBW)) (Nat.le_trans hBW hb1.size) (by omega) hR)
  have HB := Lib.hid hb1
  clear h hb0 hb1 hR
  obtain ⟨q, hq⟩ : ∃ q, decide (within 24 1999 T) = q := ⟨_, rfl⟩
  rw [hq]
  have HQ := Lib.hid hq
  clear hq
  go_enter Tryd.func7, Tryd.ntmps7
  go_wp2_with (go_at_call 26; refine HW.out.mono ?_; rintro e w3 ⟨b3, r3, rfl, hi3, hr3, hk3, ha3⟩)
  go_ret
  refine ⟨?_, ?_⟩
  · rw [← HQ.out]
    cases b3
    · rw [decide_eq_false (fun h => by have := hi3.2 h; cases this)]; rfl
    · rw [decide_eq_true (hi3.1 rfl)]; rfl
  · have := HB.out.trans ((ha3.below (B := W.heap.size) HB.out.size (by omega)))
    exact this
end Go.Proofs.YtjgbhnbfojkhoaaDoor
namespace Go.Proofs.YtjgbhnbfojkhoaaDoor
open Go.RowKit
set_option linter.unusedVariables false

/-- A good tree, as the document has it. -/
def goodT (T : VT) : Bool := decide (sizeT T ≤ 2000) && deepT 24 T && plainT T
theorem goodT_long {T : VT} {z : Int} (h : SizeIs T z) (hz : ¬ z ≤ 2000) : goodT T = false := by
  unfold goodT
  cases hd : deepT 24 T
  · simp
  · obtain ⟨-, -, h3, -⟩ := h 24 (by omega) hd
    have : ¬ sizeT T ≤ 2000 := fun hs => hz (by have := h3 hs; omega)
    simp [this]
theorem goodT_deep {T : VT} (hd : deepT 24 T = false) : goodT T = false := by unfold goodT; rw [hd]; simp
theorem goodT_plain {T : VT} {z : Int} {p : Bool} (h : SizeIs T z) (hz : z ≤ 2000) (hd : deepT 24 T = true) (hp : plainT T = p) : goodT T = p := by
  obtain ⟨-, -, -, h4⟩ := h 24 (by omega) hd
  have : sizeT T ≤ 2000 := by
    rcases Nat.lt_or_ge 2000 (sizeT T) with hs | hs
    · have := h4 hs; omega
    · exact hs
  unfold goodT
  rw [hd, hp]
  simp [this]
theorem goodT_within (T : VT) : goodT T = decide (within 24 1999 T) := by
  rw [Bool.eq_iff_iff, decide_eq_true_iff]
  unfold goodT within
  rw [Bool.and_eq_true, Bool.and_eq_true, decide_eq_true_iff]
  constructor
  · rintro ⟨⟨a, b⟩, c⟩; exact ⟨b, by omega, c⟩
  · rintro ⟨a, b, c⟩; exact ⟨⟨by omega, a⟩, c⟩

set_option maxRecDepth 100000 in
set_option maxHeartbeats 2000000 in
theorem rGood_any {B : Nat} {w : World} {v : Value} {T : VT} (h : Is B w v T) (W : World) (hb : Below B w W) (hBW : B ≤ W.heap.size) : Calls Tryd.prog 8 #[v] W fun e w' => e = .returned (.bool (goodT T)) ∧ Below W.heap.size W w' := by
  have HS := Lib.hid (fun W' (hb' : Below B w W') (hB' : B ≤ W'.heap.size) => size_any h W' hb' hB')
  have HD := Lib.hid (fun W' (hb' : Below B w W') (hB' : B ≤ W'.heap.size) => deep_any h 24 W' (by omega) hb' hB')
  have HP := Lib.hid (fun W' (hb' : Below B w W') (hB' : B ≤ W'.heap.size) => plain_any h W' hb' hB')
  obtain ⟨k, b, t, ad, n, cap, adk, nk, capk, rfl⟩ := h.shape
  obtain ⟨g, hg⟩ : ∃ g, goodT T = g := ⟨_, rfl⟩
  have HG := Lib.hid hg
  rw [hg]
  clear hg h
  have hb0 := below_new W (.cells #[.int .i64 k, .bool b, .string t, .slice ad n cap, .slice adk nk capk] 26)
  have hk0 := Blk.new W #[.int .i64 k, .bool b, .string t, .slice ad n cap, .slice adk nk capk] 26
  have HB0 := Lib.hid hb0
  have HK0 := Lib.hid hk0
  have HS1 := Lib.hid (HS.out _ (hb.trans (hb0.mono hBW)) (Nat.le_trans hBW hb0.size))
  clear hb0 hk0 HS
  have HBW := Lib.hid hBW
  have HBb := Lib.hid hb
  clear hBW hb
  go_enter Tryd.func8, Tryd.ntmps8
  go_wp2_with fail
  go_at_call 20; refine HS1.out.mono ?_; rintro e w2 ⟨⟨z, rfl, hz⟩, hb2⟩
  have HZ := Lib.hid hz
  have HB2 := Lib.hid (HB0.out.trans (hb2.mono HB0.out.size))
  have HK2 := Lib.hid (HK0.out.below hb2)
  have HD2 := Lib.hid (HD.out w2 (HBb.out.trans (HB2.out.mono HBW.out)) (Nat.le_trans HBW.out HB2.out.size))
  have hw2 : W.heap.size < w2.heap.size := HK2.out.lt
  have q0 := HK2.out.cell 0
  have q1 := HK2.out.cell 1
  have q2 := HK2.out.cell 2
  have q3 := HK2.out.cell 3
  have q4 := HK2.out.cell 4
  clear hz hb2
  by_cases hz2 : z ≤ 2000
  · obtain ⟨d, hd⟩ : ∃ d, deepT 24 T = d := ⟨_, rfl⟩
    rw [hd] at HD2
    have HDd := Lib.hid hd
    clear hd
    cases d
    · have HF : Hid (g = false) := Lib.hid (HG.out.symm.trans (goodT_deep HDd.out))
      go_wp2_with (go_at_call 27; refine HD2.out.mono ?_; rintro e w3 ⟨rfl, hb3⟩)
      go_ret
      exact ⟨by rw [HF.out]; rfl, HB2.out.trans (hb3.mono HB2.out.size)⟩
    · go_wp2_with fail
      go_at_call 27; refine HD2.out.mono ?_; rintro e w3 ⟨rfl, hb3⟩
      clear q0 q1 q2 q3 q4 hw2
      have HB3 := Lib.hid (HB2.out.trans (hb3.mono HB2.out.size))
      have HK3 := Lib.hid (HK2.out.below hb3)
      have HP3 := Lib.hid (HP.out w3 (HBb.out.trans (HB3.out.mono HBW.out)) (Nat.le_trans HBW.out HB3.out.size))
      have hw3 : W.heap.size < w3.heap.size := HK3.out.lt
      have q0 := HK3.out.cell 0
      have q1 := HK3.out.cell 1
      have q2 := HK3.out.cell 2
      have q3 := HK3.out.cell 3
      have q4 := HK3.out.cell 4
      clear hb3
      obtain ⟨p, hp⟩ : ∃ p, plainT T = p := ⟨_, rfl⟩
      rw [hp] at HP3
      have HF : Hid (g = p) := Lib.hid (HG.out.symm.trans (goodT_plain HZ.out hz2 HDd.out hp))
      clear hp
      go_wp2_with (go_at_call 28; refine HP3.out.mono ?_; rintro e w4 ⟨rfl, hb4⟩)
      go_ret
      exact ⟨by rw [HF.out]; rfl, HB3.out.trans (hb4.mono HB3.out.size)⟩
  · have HF : Hid (g = false) := Lib.hid (HG.out.symm.trans (goodT_long HZ.out hz2))
    have hz3 : decide (z ≤ 2000) = false := decide_eq_false hz2
    go_wp2_with fail
    go_ret
    exact ⟨by rw [HF.out]; rfl, HB2.out⟩
end Go.Proofs.YtjgbhnbfojkhoaaDoor
namespace Go.Proofs.YtjgbhnbfojkhoaaDoor
open Go.RowKit
set_option linter.unusedVariables false

/-- A good tree is small. -/
theorem small_good : ∀ (n : Nat) (T : VT), deepT n T = true → plainT T = true → sizeT T ≤ 2000 → smallT T
  | 0, .node k b t its ks, h, _, _ => by unfold deepT at h; cases h
  | n + 1, .node k b t its ks, hd, hp, hs => by
    have e : sizeT (.node k b t its ks) = 1 + sizeL its := by unfold sizeT; rfl
    rw [e] at hs
    have hge := sizeL_ge its
    unfold deepT at hd
    unfold plainT at hp
    obtain ⟨hal, hpl⟩ := Bool.and_eq_true_iff.1 hp
    rw [smallT_node]
    refine ⟨by omega, ?_, fun x hx => ?_⟩
    · unfold aloneT at hal
      have hal2 := (Bool.and_eq_true_iff.1 hal).2
      split at hal2
      · simp at hal2; rw [hal2.2]; simp
      · split at hal2
        · simp at hal2; rw [hal2.2]; simp
        · split at hal2
          · simp at hal2; rw [hal2.2]; simp
          · split at hal2
            · simp at hal2; rw [hal2.2]; simp
            · split at hal2
              · simp at hal2; omega
              · cases hal2
    · obtain ⟨j, hj, rfl⟩ := List.mem_iff_getElem.1 hx
      have h1 := sizeL_split its (j + 1)
      have h2 := sizeL_take hj
      exact small_good n _ (deepL_at hj hd) (plainL_at hj hpl) (by omega)
theorem goodT_parts {T : VT} (h : goodT T = true) : sizeT T ≤ 2000 ∧ deepT 24 T = true ∧ plainT T = true := by
  unfold goodT at h
  simp only [Bool.and_eq_true, decide_eq_true_eq] at h
  exact ⟨h.1.1, h.1.2, h.2⟩
theorem goodT_small {T : VT} (h : goodT T = true) : smallT T := by
  obtain ⟨a, b, c⟩ := goodT_parts h
  exact small_good 24 T b c a

end Go.Proofs.YtjgbhnbfojkhoaaDoor
namespace Go.Proofs.YtjgbhnbfojkhoaaDoor
open Go.RowKit
set_option linter.unusedVariables false

def nullT : VT := .node 0 false ⟨#[]⟩ [] []
theorem null_is0 (B : Nat) (W : World) : Is B W (.agg #[.int .i64 0, .bool false, .string ⟨#[]⟩, .slice none 0 0, .slice none 0 0]) nullT :=
  Is.mk 0 false ⟨#[]⟩ [] [] none 0 (.slice none 0 0) 0 0 (fun _ => 0) (fun _ => false) (fun _ => ⟨#[]⟩) (fun _ => undef) (fun _ => undef) (strs_nil0 B W) (by simp) (by simp) (fun h => absurd h (by simp)) (fun j h => absurd h (by simp)) (fun j h => absurd h (by simp))
/-- An object, or what is wrong: a value that is the tree, and the number. -/
def MakesT (TT : VT) (c : Int) (W : World) (e : Ending) (w' : World) : Prop := ∃ v', e = .returned (.tuple #[v', .int .i64 c]) ∧ Is w'.heap.size w' v' TT ∧ Below W.heap.size W w'
theorem makes_of {W : World} {ks : List ByteArray} {Ts : List VT} {e : Ending} {w' : World} (h : DocEnds W ks Ts e w') : MakesT (match docObj ks Ts with | some z => .node 6 false ⟨#[]⟩ (z.map Prod.snd) (z.map Prod.fst) | none => nullT) (match docObj ks Ts with | some _ => 0 | none => 2) W e w' := by
  rcases h with ⟨v', z, hz, rfl, hi, hb⟩ | ⟨hz, rfl, hb⟩
  · rw [hz]; exact ⟨v', rfl, hi, hb⟩
  · rw [hz]; exact ⟨_, rfl, null_is0 _ _, hb⟩
theorem makes_fix {W : World} {kv iv : Value} {ks : List ByteArray} {xs : List It} (hk : StrsAt W.heap.size W kv ks) (hx : ItemsAt W.heap.size W iv xs) (hsm : ∀ e ∈ xs, smallT e.T) (hbig : ks.length ≤ 900000) : ∃ TT c,
    (∀ W' kv', Below W.heap.size W W' → StrsAt W'.heap.size W' kv' ks → Calls Tryd.prog 9 #[kv', iv] W' (MakesT TT c W')) ∧ (∀ W', Below W.heap.size W W' → Calls Tryd.prog 10 #[kv, iv] W' (MakesT TT c W')) := by
  by_cases hl : xs.length = ks.length
  · refine ⟨_, _, fun W' kv' hb hk' => (vObject_doc hk' ((hx.below hb).mono hb.size) hsm hl hbig).mono fun e w' h => makes_of h, fun W' hb => (rObject_any ((hk.below hb).mono hb.size) ((hx.below hb).mono hb.size) hl hbig).mono fun e w' h => makes_of h⟩
  · obtain ⟨adx, capx, rfl, -⟩ := hx
    obtain ⟨ad, cap, rfl, -⟩ := hk
    refine ⟨nullT, 1, fun W' kv' hb hk' => ?_, fun W' hb => ?_⟩
    · obtain ⟨ad', cap', rfl, -⟩ := hk'
      refine (object_len (fun e => hl e.symm)).mono ?_
      rintro e w' ⟨rfl, hb'⟩
      exact ⟨_, rfl, null_is0 _ _, hb'⟩
    · refine (rObject_len (fun e => hl e.symm)).mono ?_
      rintro e w' ⟨rfl, hb'⟩
      exact ⟨_, rfl, null_is0 _ _, hb'⟩
end Go.Proofs.YtjgbhnbfojkhoaaDoor
namespace Go.Proofs.YtjgbhnbfojkhoaaDoor
open Go.ChangeShapes Go.WideShapes Go.ChangeAt Go.WideMaps Go.WideElems Go.RowKit

/-- The table of powers of ten stands, now and wherever nothing below B turned. -/
def Tab (B : Nat) (w : World) : Prop := Lib.TabBelow Tryd.prog B w "internal/strconv.uint64pow10" .u64 Lib.pow10Tab
theorem Tab.here {B : Nat} {w : World} (h : Tab B w) : Lib.TabIs Tryd.prog w "internal/strconv.uint64pow10" .u64 Lib.pow10Tab := Lib.TabBelow.here h
theorem Tab.mono {B B' : Nat} {w : World} (h : Tab B w) (hB : B ≤ B') : Tab B' w := fun w' hb => h w' (hb.mono hB)
theorem Tab.below {B B' : Nat} {w w' : World} (h : Tab B w) (hb : Below B' w w') (hB : B ≤ B') : Tab B w' := Lib.TabBelow.on h (hb.mono hB)
/-- The three tables that the rows list. -/
def laid3 : List (String × DataW Unit) := [("math/bits.deBruijn32tab", Rows.laid_math_bits_deBruijn32tab), ("math/bits.deBruijn64tab", Rows.laid_math_bits_deBruijn64tab), ("internal/strconv.uint64pow10", Rows.laid_internal_strconv_uint64pow10)]
theorem own : ownKnob Tryd.prog.godebug = none := by kernel_rfl
theorem gPow : Tryd.prog.globalNamed "internal/strconv.uint64pow10" = some 1 := by kernel_rfl

set_option maxRecDepth 100000 in
theorem door_met (os : Os) (args : Array Value) : laidMetH Tryd.prog laid3 ((World.doorLaid Tryd.prog 400 os).forCall (fun _ _ => 0) ⟨#[], args, []⟩).memory :=
  laidMetH_of_parts3 (fuel := 8) (laidMet_of_run' 8 (by kernel_rfl) (by kernel_rfl)) (by kernel_rfl) (by kernel_rfl)

theorem tyPow : (Tryd.prog.globals[ 1 ]?).map (·.type) = some 125 := by kernel_rfl

theorem tab_of_laid {W : World} (h : laidMetH Tryd.prog laid3 W) : Tab W.heap.size W := by
  rw [MakeChecks.laidMetH_plain _ _ _ (by kernel_rfl)] at h
  obtain ⟨ps, ⟨g0, t0, cs0, f0, p0, q0, hg0, ht0, hv0, hd0, ⟨g1, t1, cs1, f1, p1, q1, hg1, ht1, hv1, hd1, ⟨g2, t2, cs2, f2, p2, q2, hg2, ht2, hv2, hd2, _, _⟩, _⟩, _⟩, _⟩ := h
  obtain rfl := Option.some.inj (gPow.symm.trans hg2)
  obtain rfl := Option.some.inj (tyPow.symm.trans ht2)
  refine Lib.tabBelow_of_tabIs ?_
  unfold Lib.TabIs
  rw [hv2, ← Lib.cells_of_tab (n := 20) (e := 100) (k := .u64) (zs := Lib.pow10Tab) Tryd.underlying125 Tryd.underlying100 (by kernel_rfl) (by kernel_rfl) hd2]

end Go.Proofs.YtjgbhnbfojkhoaaDoor
