/- Values: the scalars. -/
import Derived.Test.YthmojhfakmdlfaaDoorVCmp
namespace Go.Proofs.YthmojhfakmdlfaaDoor
open Go.RowKit

/-- A value without items and keys. -/
def scal (k : Int) (b : Bool) (t : ByteArray) : Value := .agg #[.int .i64 k, .bool b, .string t, .slice none 0 0, .slice none 0 0]
theorem below_new (w : World) (o : Obj) : Below w.heap.size w (w.alloc o) := (Below.refl _ _).alloc (Nat.le_refl _) _

theorem vNull_any (w : World) : Calls Tryd.prog 25 #[] w fun e w' => e = .returned (scal 0 false ⟨#[]⟩) ∧ Below w.heap.size w w' := by
  go_enter Tryd.func25, Tryd.ntmps25
  go_wp2
  refine bodyPost_ret (v := scal 0 false ⟨#[]⟩) ?_ rfl ⟨rfl, below_new _ _⟩
  simp [results, Tryd.results25, go_sem, scal]
theorem vText_any (t : ByteArray) (w : World) : Calls Tryd.prog 17 #[.string t] w fun e w' => e = .returned (scal 4 false t) ∧ Below w.heap.size w w' := by
  go_enter Tryd.func17, Tryd.ntmps17
  go_wp2
  refine bodyPost_ret (v := scal 4 false t) ?_ rfl ⟨rfl, below_new _ _⟩
  simp [results, Tryd.results17, go_sem, scal]
theorem vBool_any (b : Bool) (w : World) : Calls Tryd.prog 14 #[.bool b] w fun e w' => e = .returned (scal 2 b ⟨#[]⟩) ∧ Below w.heap.size w w' := by
  go_enter Tryd.func14, Tryd.ntmps14
  go_wp2
  refine bodyPost_ret (v := scal 2 b ⟨#[]⟩) ?_ rfl ⟨rfl, below_new _ _⟩
  simp [results, Tryd.results14, go_sem, scal]


theorem Blk.set5 {W : World} {B : Nat} {a0 a1 a2 a3 a4 : Value} {t : TypeId} (h : Blk W B #[a0, a1, a2, a3, a4] t) (b0 b1 b2 b3 b4 : Value) : Blk (((((W.setCell ⟨B, 0, none⟩ b0).setCell ⟨B, 1, none⟩ b1).setCell ⟨B, 2, none⟩ b2).setCell ⟨B, 3, none⟩ b3).setCell ⟨B, 4, none⟩ b4) B #[b0, b1, b2, b3, b4] t := by
  have := ((((h.set 0 b0).set 1 b1).set 2 b2).set 3 b3).set 4 b4
  simpa using this
theorem below_set5 {lo : Nat} {w W : World} {B : Nat} (h : Below lo w W) (hB : lo ≤ B) (b0 b1 b2 b3 b4 : Value) : Below lo w (((((W.setCell ⟨B, 0, none⟩ b0).setCell ⟨B, 1, none⟩ b1).setCell ⟨B, 2, none⟩ b2).setCell ⟨B, 3, none⟩ b3).setCell ⟨B, 4, none⟩ b4) :=
  ((((h.setCell (p := ⟨B, 0, none⟩) hB b0).setCell (p := ⟨B, 1, none⟩) hB b1).setCell (p := ⟨B, 2, none⟩) hB b2).setCell (p := ⟨B, 3, none⟩) hB b3).setCell (p := ⟨B, 4, none⟩) hB b4

theorem Of_small {n : Nat} (h1 : n < 100) {w : World} :
    Calls Tryd.prog 33 #[.int .i64 (n : Int)] w fun e w' => e = .returned (.string (str (n : Int))) ∧ Below w.heap.size w w' := by
  have HI := Lib.hid (Tryd.strconv_Itoa_small n h1 w)
  have e : (⟨(Lib.decDigits n).toArray⟩ : ByteArray) = str (n : Int) := by unfold str Lib.itoa; rw [if_neg (by omega), Int.toNat_natCast]
  rw [e] at HI
  go_enter Tryd.func33, Tryd.ntmps33
  go_wp2_with (go_at_call 50; refine HI.out.mono ?_; rintro e w' ⟨rfl, rfl⟩)
  go_ret
  exact ⟨rfl, Below.refl _ _⟩
/-- The cells of a null value. -/
def nil5 : Array Value := #[.int .i64 0, .bool false, .string ⟨#[]⟩, .slice none 0 0, .slice none 0 0]
set_option maxHeartbeats 400000 in
/-- Int, where num.Of is as told. -/
theorem vInt_of {n : Int} {t : ByteArray} {w : World} (h : Hid (∀ W, Below w.heap.size w W → Calls Tryd.prog 33 #[.int .i64 n] W fun e w' => e = .returned (.string t) ∧ Below W.heap.size W w')) : Calls Tryd.prog 12 #[.int .i64 n] w fun e w' => e = .returned (scal 3 false t) ∧ Below w.heap.size w w' := by
  have HI := Lib.hid (h.out _ (below_new w (.cells nil5 26)))
  have hk := Blk.new w nil5 26
  have hb0 := below_new w (.cells nil5 26)
  unfold nil5 at HI hk hb0
  go_enter Tryd.func12, Tryd.ntmps12
  go_wp2_with (go_at_call 33; refine HI.out.mono ?_; rintro e w1 ⟨rfl, hb⟩; have hk1 := hk.below hb; have c0 := hk1.cell 0; have c1 := hk1.cell 1; have c2 := hk1.cell 2; have c3 := hk1.cell 3; have c4 := hk1.cell 4; have f0 := hk1.frozen 0; have f1 := hk1.frozen 1; have f2 := hk1.frozen 2; have f3 := hk1.frozen 3; have f4 := hk1.frozen 4)
  have hk2 := hk1.set5 (.int .i64 3) (.bool false) (.string t) (.slice none 0 0) (.slice none 0 0)
  have d0 := hk2.cell 0
  have d1 := hk2.cell 1
  have d2 := hk2.cell 2
  have d3 := hk2.cell 3
  have d4 := hk2.cell 4
  refine bodyPost_ret (v := scal 3 false t) ?_ rfl ⟨rfl, below_set5 (hb0.trans (hb.mono hb0.size)) (Nat.le_refl _) _ _ _ _ _⟩
  simp [results, Tryd.results12, go_sem, scal, d0, d1, d2, d3, d4]
end Go.Proofs.YthmojhfakmdlfaaDoor
