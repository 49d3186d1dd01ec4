/- value.List; the sizes of a good value; a list of two. -/
import Derived.Test.YthmojhfakmdlfaaDoorVClone
import Derived.Test.YthmojhfakmdlfaaDoorVKnown
import Derived.Test.YthmojhfakmdlfaaDoorVRefGood
namespace Go.Proofs.YthmojhfakmdlfaaDoor
open Go.RowKit
set_option linter.unusedVariables false

set_option maxRecDepth 100000 in
set_option maxHeartbeats 4000000 in
theorem list_any {B : Nat} {w : World} {its : List VT} {ad : Option Addr} {cap g o : Nat} {ik : Nat → Int} {ib : Nat → Bool} {it : Nat → ByteArray} {ii iv : Nat → Value} (hsm : its.length ≤ 1000000) (hsi : ∀ x ∈ its, smallT x)
    (ha : 0 < its.length → ad = some ⟨g, o, none⟩ ∧ g < B)
    (hcell : ∀ j, j < its.length → Five w g (o + j * 5) (.int .i64 (ik j)) (.bool (ib j)) (.string (it j)) (ii j) (iv j))
    (hrec : ∀ j (h : j < its.length), Is B w (.agg #[.int .i64 (ik j), .bool (ib j), .string (it j), ii j, iv j]) its[j])
    (W : World) (hb : Below B w W) (hBW : B ≤ W.heap.size) : Calls Tryd.prog 18 #[.slice ad its.length cap] W (Clones (.node 5 false ⟨#[]⟩ its []) W) := by
  have en : nil5 = #[.int .i64 0, .bool false, .string ⟨#[]⟩, .slice none 0 0, .slice none 0 0] := rfl
  have hb0 := below_new W (.cells nil5 26)
  have hr0 := Blk.new W nil5 26
  have HZ0 : Hid ((W.alloc (.cells nil5 26)).heap.size = W.heap.size + 1) := Lib.hid (by simp)
  have HAll := Lib.hid (cloneAll_of (cap := cap) hsm ha hcell hrec (fun j hj => clone_any (hrec j hj) (hsi _ (List.getElem_mem hj))) (W.alloc (.cells nil5 26)) (hb.trans (hb0.mono hBW)) (Nat.le_trans hBW hb0.size))
  obtain ⟨len, hlen⟩ : ∃ len, its.length = len := ⟨_, rfl⟩
  have HL := Lib.hid hlen
  rw [hlen] at HAll ⊢
  have HSM := Lib.hid hsm
  rw [en] at hb0 hr0 HZ0 HAll
  have HB0 := Lib.hid hb0
  have HR0 := Lib.hid hr0
  clear hsm hsi ha hcell hrec hlen hb0 hr0 hb hBW
  go_enter Tryd.func18, Tryd.ntmps18
  go_wp2_with fail
  go_at_call 35; refine HAll.out.mono ?_; rintro e w1 ⟨ad', cap', rfl, hitf, hb1⟩
  rw [HL.out]
  have HIT := Lib.hid hitf
  have HBx1 := Lib.hid hb1
  have HB1 := Lib.hid (HB0.out.trans (hb1.mono HB0.out.size))
  have hr1 := HR0.out.below hb1
  have HR1 := Lib.hid hr1
  have r0 := hr1.cell 0
  have r1 := hr1.cell 1
  have r2 := hr1.cell 2
  have r3 := hr1.cell 3
  have r4 := hr1.cell 4
  have s0 := hr1.frozen 0
  have s1 := hr1.frozen 1
  have s2 := hr1.frozen 2
  have s3 := hr1.frozen 3
  have s4 := hr1.frozen 4
  clear hitf hb1 hr1
  go_wp2_with fail
  have HR3 := HR1.out.set5 (.int .i64 5) (.bool false) (.string ⟨#[]⟩) (.slice ad' len cap') (.slice none 0 0)
  have d0 := HR3.cell 0
  have d1 := HR3.cell 1
  have d2 := HR3.cell 2
  have d3 := HR3.cell 3
  have d4 := HR3.cell 4
  have hfin : Clones (.node 5 false ⟨#[]⟩ its []) W (.returned (.agg #[.int .i64 5, .bool false, .string ⟨#[]⟩, .slice ad' len cap', .slice none 0 0])) (set5 w1 W.heap.size 0 (.int .i64 5) (.bool false) (.string ⟨#[]⟩) (.slice ad' len cap') (.slice none 0 0)) := by
    refine ⟨_, rfl, ?_, below_set5at HB1.out (Nat.le_refl _) _ _ _ _ _ _⟩
    have hz := HZ0.out
    have hx1 := HBx1.out.size
    have hks : StrsF W.heap.size W.heap.size W (.slice none 0 0) [] := ⟨none, 0, rfl, by simp, by simp, fun h => absurd h (by simp)⟩
    have hf := fresh_of (lo0 := W.heap.size) (k := 5) (b := false) (t := ⟨#[]⟩) (w3 := set5 w1 W.heap.size 0 (.int .i64 5) (.bool false) (.string ⟨#[]⟩) (.slice ad' len cap') (.slice none 0 0)) hks HIT.out (by have := HSM.out; have := HL.out; omega) (fun g h1 h2 => by omega) (fun g h1 h2 => set5_other _ _ _ _ _ _ _ _ (by omega)) (Nat.le_refl _) (by omega) (by rw [set5_size]; have := HB1.out.size; omega) (by rw [set5_size]; exact Nat.le_refl _)
    rw [HL.out] at hf
    exact hf
  refine bodyPost_ret (v := .agg #[.int .i64 5, .bool false, .string ⟨#[]⟩, .slice ad' len cap', .slice none 0 0]) ?_ rfl hfin
  simp [results, Tryd.results18, go_sem, d0, d1, d2, d3, d4]

/-- A good tree is small. -/
theorem small_good : ∀ (n : Nat) (T : VT), deepT n T = true → plainT T = true → sizeT T ≤ 2000 → smallT T
  | 0, .node k b t its ks, h, _, _ => by unfold deepT at h; cases h
  | n + 1, .node k b t its ks, hd, hp, hs => by
    have e : sizeT (.node k b t its ks) = 1 + sizeL its := by unfold sizeT; rfl
    rw [e] at hs
    have hge := sizeL_ge its
    unfold deepT at hd
    unfold plainT at hp
    obtain ⟨hal, hpl⟩ := Bool.and_eq_true_iff.1 hp
    rw [smallT_node]
    refine ⟨by omega, ?_, fun x hx => ?_⟩
    · unfold aloneT at hal
      have hal2 := (Bool.and_eq_true_iff.1 hal).2
      split at hal2
      · simp at hal2; rw [hal2.2]; simp
      · split at hal2
        · simp at hal2; rw [hal2.2]; simp
        · split at hal2
          · simp at hal2; rw [hal2.2]; simp
          · split at hal2
            · simp at hal2; rw [hal2.2]; simp
            · split at hal2
              · simp at hal2; omega
              · cases hal2
    · obtain ⟨j, hj, rfl⟩ := List.mem_iff_getElem.1 hx
      have h1 := sizeL_split its (j + 1)
      have h2 := sizeL_take hj
      exact small_good n _ (deepL_at hj hd) (plainL_at hj hpl) (by omega)
theorem goodT_parts {T : VT} (h : goodT T = true) : sizeT T ≤ 2000 ∧ deepT 24 T = true ∧ plainT T = true := by
  unfold goodT at h
  simp only [Bool.and_eq_true, decide_eq_true_eq] at h
  exact ⟨h.1.1, h.1.2, h.2⟩
theorem goodT_small {T : VT} (h : goodT T = true) : smallT T := by
  obtain ⟨a, b, c⟩ := goodT_parts h
  exact small_good 24 T b c a

theorem vSize_good {B : Nat} {w : World} {v : Value} {T : VT} (h : Is B w v T) (hg : goodT T = true) (W : World) (hb : Below B w W) (hBW : B ≤ W.heap.size) : Calls Tryd.prog 19 #[v] W fun e w' => e = .returned (.int .i64 (sizeT T : Int)) ∧ Below W.heap.size W w' :=
  (vSize_any h W hb hBW).mono fun _ _ ⟨⟨z, he, hz⟩, hb'⟩ => ⟨by rw [he, hz (goodT_parts hg).1], hb'⟩
theorem rSize_good {B : Nat} {w : World} {v : Value} {T : VT} (h : Is B w v T) (hg : goodT T = true) (W : World) (hb : Below B w W) (hBW : B ≤ W.heap.size) : Calls Tryd.prog 20 #[v] W fun e w' => e = .returned (.int .i64 (sizeT T : Int)) ∧ Below W.heap.size W w' :=
  (size_any h W hb hBW).mono fun _ _ ⟨⟨z, he, hz⟩, hb'⟩ => ⟨by rw [he, (hz 24 (by omega) (goodT_parts hg).2.1).2.2.1 (goodT_parts hg).1], hb'⟩

/-- A list of one value twice. -/
theorem list_two {B : Nat} {w : World} {k : Int} {b : Bool} {t : ByteArray} {x y : Value} {T : VT} (h : Is B w (.agg #[.int .i64 k, .bool b, .string t, x, y]) T) (hs : smallT T) (W : World) (hb : Below B w W) (hBW : B ≤ W.heap.size) (X : Nat) (hX : Blk W X #[.int .i64 k, .bool b, .string t, x, y, .int .i64 k, .bool b, .string t, x, y] 26) :
    Calls Tryd.prog 18 #[.slice (some ⟨X, 0, none⟩) 2 2] W (Clones (.node 5 false ⟨#[]⟩ [T, T] []) W) := by
  have hI : Is W.heap.size W (.agg #[.int .i64 k, .bool b, .string t, x, y]) T := (h.later hb).wide hBW
  refine list_any (its := [T, T]) (g := X) (o := 0) (ik := fun _ => k) (ib := fun _ => b) (it := fun _ => t) (ii := fun _ => x) (iv := fun _ => y) (B := W.heap.size) (w := W) (by simp) (fun z hz => by simp at hz; rw [hz]; exact hs) (fun _ => ⟨rfl, hX.lt⟩) (fun j hj => ?_) (fun j hj => ?_) W (Below.refl _ _) (Nat.le_refl _)
  · have hj2 : j < 2 := hj
    rcases (show j = 0 ∨ j = 1 by omega) with rfl | rfl
    · exact ⟨hX.cell 0, hX.cell 1, hX.cell 2, hX.cell 3, hX.cell 4⟩
    · exact ⟨hX.cell 5, hX.cell 6, hX.cell 7, hX.cell 8, hX.cell 9⟩
  · have hj2 : j < 2 := hj
    rcases (show j = 0 ∨ j = 1 by omega) with rfl | rfl
    · exact hI
    · exact hI
end Go.Proofs.YthmojhfakmdlfaaDoor
