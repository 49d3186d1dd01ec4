/- put: a token more. -/
import Derived.Test.YtpdepdigacpfiaaDoorLSame
import Derived.Test.YtpdepdigacpfiaaDoorLCntSpec
namespace Go.Proofs.YtpdepdigacpfiaaDoor
open Go.RowKit Go.Shelf
set_option linter.unusedVariables false

/-- What put reads and writes. -/
structure Env (lo : Nat) (w : World) (P3 P5 P6 P7 d : Nat) (gap text : ByteArray) (want : List Tk) : Prop where
  dress : Blk w P3 #[.int .i64 (d : Int)] 3
  gap : Blk w P5 #[.string gap] 9
  text : Blk w P6 #[.string text] 9
  want : ∃ v, Blk w P7 #[v] 23 ∧ w.ownsRow lo 32 3 v want.length (tkCells want)
theorem Blk.grown {w w' : World} {B : Nat} {cs : Array Value} {t : TypeId} {row : Option Nat} (h : Blk w B cs t) (hg : w.grownBy w' row) (hne : some B ≠ row) : Blk w' B cs t := (hg.block B h.lt hne).trans h
theorem ownsRow_other {w : World} {lo n e size : Nat} {v : Value} {xs : List Value} (h : w.ownsRow lo e size v n xs) {p : Addr} (hp : p.block < lo) (u : Value) : (w.setCell p u).ownsRow lo e size v n xs := by
  obtain ⟨h1, h2⟩ := h
  refine ⟨h1, ?_⟩
  rcases h2 with h2 | ⟨g, cap, cur, rfl, h3, h4, h5⟩
  · exact .inl h2
  · refine .inr ⟨g, cap, cur, rfl, h3, ?_, h5⟩
    rw [Below.heap_setCell _ _ _ _ (by omega)]
    exact h4
theorem row_slice {w : World} {lo e size n : Nat} {v : Value} {xs : List Value} (h : w.ownsRow lo e size v (n + 1) xs) : ∃ g cap, v = .slice (some ⟨g, 0, none⟩) (n + 1) cap := by
  rcases h.2 with ⟨-, h2⟩ | ⟨g, cap, cur, rfl, -⟩
  · omega
  · exact ⟨g, cap, rfl⟩
theorem below_set {B : Nat} {W w : World} {p : Addr} (h : Below B W w) (hp : B ≤ p.block) (u : Value) : Below B W (w.setCell p u) := h.setCell hp u

set_option maxRecDepth 100000 in
set_option maxHeartbeats 8000000 in
theorem put_plain {w : World} {lo P3 P5 P6 P7 d B : Nat} {gap text s : ByteArray} {want : List Tk} {k : Int} (h : Env lo w P3 P5 P6 P7 d gap text want) (h3 : P3 < lo) (h5 : P5 < lo) (h6 : P6 < lo) (h7 : P7 < lo) (hlo : lo ≤ w.heap.size)
    (hd35 : P3 ≠ P6 ∧ P3 ≠ P7) (hd56 : P5 ≠ P6 ∧ P5 ≠ P7) (hd67 : P6 ≠ P7) (hB : B ≤ P3 ∧ B ≤ P5 ∧ B ≤ P6 ∧ B ≤ P7) (hts : text.size ≤ 100000) (hss : s.size ≤ 10) (hgs : gap.size ≤ 10) (hwl : want.length ≤ 10000) (hd : d ≠ 7) :
    Calls Tryd.prog 11 #[.int .i64 k, .string s, .pointer (some ⟨P7, 0, none⟩), .pointer (some ⟨P6, 0, none⟩), .pointer (some ⟨P5, 0, none⟩), .pointer (some ⟨P3, 0, none⟩)] w fun e w' => e = .returned (.tuple #[]) ∧ Below B w w' ∧ Env lo w' P3 P5 P6 P7 d gap (text ++ (s ++ gap)) (want ++ [⟨k, s, text.size⟩]) := by
  obtain ⟨i0, hi, hz0, hz1, hz2⟩ := info_parts infoTok
  obtain ⟨e3, e5, e6, v, e7, hrow⟩ := h
  have E3 := Lib.hid e3
  have E5 := Lib.hid e5
  have E6 := Lib.hid e6
  have E7 := Lib.hid e7
  have c3 := e3.cell 0
  have c5 := e5.cell 0
  have c6 := e6.cell 0
  have c7 := e7.cell 0
  have hrow1 := hrow.alloc (.cells #[.int .i64 k, .string s, .int .i64 (text.size : Int)] 32)
  clear e3 e5 e6 e7 hrow
  have hsz1 : ¬ 9223372036854775807 < s.size + gap.size := by omega
  have hsz2 : ¬ 9223372036854775807 < text.size + (s ++ gap).size := by rw [ByteArray.size_append]; omega
  have hsz3 : ¬ 9223372036854775807 < text.size + (s.size + gap.size) := by omega
  have q7 : ((d : Int) == 7) = false := beq_eq_false_iff_ne.2 (by omega)
  go_enter Tryd.func11, Tryd.ntmps11
  go_wp2_with (at_builtin; refine wpList_append_own _ rfl _ _ 23 rfl lo 32 i0 (.agg #[.int .i64 0, .string ⟨#[]⟩, .int .i64 0]) 3 32 Tryd.underlying23 hi hz0 hz1 hz2 rfl (by decide) _ _ _ rfl hrow1 ⟨w.heap.size, 0, none⟩ 1 1 [.int .i64 k, .string s, .int .i64 (text.size : Int)] rfl rfl (cell_three _ _ _ _ _) (by intro u hu; simp at hu; rcases hu with rfl | rfl | rfl <;> rfl) (by unfold maxLen; omega) (by omega) (by simp; omega) ?_; intro v' w6 hown' hgrow _; refine Hid.out ?_)
  refine Lib.hid ?_
  obtain ⟨g', cap', rfl⟩ := row_slice hown'
  have hnr : ∀ P, P < lo → some P ≠ v.ownBlock := fun P hP e => by have := own_base hrow1 _ e.symm; omega
  have b3 := (E3.out.alloc (.cells #[.int .i64 k, .string s, .int .i64 (text.size : Int)] 32)).grown hgrow (hnr _ h3)
  have b5 := (E5.out.alloc (.cells #[.int .i64 k, .string s, .int .i64 (text.size : Int)] 32)).grown hgrow (hnr _ h5)
  have b6 := (E6.out.alloc (.cells #[.int .i64 k, .string s, .int .i64 (text.size : Int)] 32)).grown hgrow (hnr _ h6)
  have b7 := (E7.out.alloc (.cells #[.int .i64 k, .string s, .int .i64 (text.size : Int)] 32)).grown hgrow (hnr _ h7)
  have hBw : B ≤ w.heap.size := by have := hB.1; omega
  have HB6 : Hid (Below B w w6) := Lib.hid (((Below.refl B w).alloc hBw _).grown hgrow (by simp; omega) (fun q hq => by have := own_base hrow1 q hq; omega))
  have d7 := b7.cell 0
  have f7 := b7.frozen 0
  obtain ⟨w7, hw7⟩ : ∃ w7, w6.setCell ⟨P7, 0, none⟩ (.slice (some ⟨g', 0, none⟩) (want.length + 1) cap') = w7 := ⟨_, rfl⟩
  have D3 := b3.other (p := ⟨P7, 0, none⟩) hd35.2 (.slice (some ⟨g', 0, none⟩) (want.length + 1) cap')
  have D5 := b5.other (p := ⟨P7, 0, none⟩) hd56.2 (.slice (some ⟨g', 0, none⟩) (want.length + 1) cap')
  have D6 := b6.other (p := ⟨P7, 0, none⟩) hd67 (.slice (some ⟨g', 0, none⟩) (want.length + 1) cap')
  have D7 := b7.set 0 (.slice (some ⟨g', 0, none⟩) (want.length + 1) cap')
  have DR := ownsRow_other hown' (p := ⟨P7, 0, none⟩) h7 (.slice (some ⟨g', 0, none⟩) (want.length + 1) cap')
  have HB7 := Lib.hid (below_set (p := ⟨P7, 0, none⟩) HB6.out hB.2.2.2 (.slice (some ⟨g', 0, none⟩) (want.length + 1) cap'))
  rw [hw7] at D3 D5 D6 D7 DR HB7
  have HDR := Lib.hid DR
  have HD7 := Lib.hid D7
  have HD5 := Lib.hid D5
  have HD3 := Lib.hid D3
  have HD6 := Lib.hid D6
  have g5 := D5.cell 0
  have g6 := D6.cell 0
  have g6f := D6.frozen 0
  obtain ⟨w8, hw8⟩ : ∃ w8, w7.setCell ⟨P6, 0, none⟩ (.string (text ++ (s ++ gap))) = w8 := ⟨_, rfl⟩
  have F3 := HD3.out.other (p := ⟨P6, 0, none⟩) hd35.1 (.string (text ++ (s ++ gap)))
  have F5 := HD5.out.other (p := ⟨P6, 0, none⟩) hd56.1 (.string (text ++ (s ++ gap)))
  have F6 := HD6.out.set 0 (.string (text ++ (s ++ gap)))
  have F7 := HD7.out.other (p := ⟨P6, 0, none⟩) (Ne.symm hd67) (.string (text ++ (s ++ gap)))
  have FR := ownsRow_other HDR.out (p := ⟨P6, 0, none⟩) h6 (.string (text ++ (s ++ gap)))
  have HB8 := Lib.hid (below_set (p := ⟨P6, 0, none⟩) HB7.out hB.2.2.1 (.string (text ++ (s ++ gap))))
  rw [hw8] at F3 F5 F6 F7 FR HB8
  have HF3 := Lib.hid F3
  have HF5 := Lib.hid F5
  have HF6 := Lib.hid F6
  have HF7 := Lib.hid F7
  have HFR := Lib.hid FR
  have g3 := F3.cell 0
  clear c3 c5 c6 c7 b3 b5 b6 b7 D3 D5 D6 D7 DR F3 F5 F6 F7 FR hown' hrow1 hnr HDR HD7 HD5 HD3 HD6 HB6 HB7 E3 E5 E6 E7 hi hz0 hz1 hz2
  go_wp2
  go_end0
  refine ⟨rfl, HB8.out, HF3.out, HF5.out, HF6.out, _, HF7.out, ?_⟩
  rw [tkCells_app, List.length_append]
  exact HFR.out
set_option maxRecDepth 100000 in
set_option maxHeartbeats 8000000 in
theorem put_seven {w : World} {lo P3 P5 P6 P7 d B : Nat} {gap text s : ByteArray} {want : List Tk} {k : Int} (h : Env lo w P3 P5 P6 P7 d gap text want) (h3 : P3 < lo) (h5 : P5 < lo) (h6 : P6 < lo) (h7 : P7 < lo) (hlo : lo ≤ w.heap.size)
    (hd35 : P3 ≠ P6 ∧ P3 ≠ P7) (hd56 : P5 ≠ P6 ∧ P5 ≠ P7) (hd67 : P6 ≠ P7) (hB : B ≤ P3 ∧ B ≤ P5 ∧ B ≤ P6 ∧ B ≤ P7) (hts : text.size ≤ 100000) (hss : s.size ≤ 10) (hgs : gap.size ≤ 10) (hwl : want.length ≤ 10000) (hd : d = 7) (hs1 : 1 ≤ s.size) :
    Calls Tryd.prog 11 #[.int .i64 k, .string s, .pointer (some ⟨P7, 0, none⟩), .pointer (some ⟨P6, 0, none⟩), .pointer (some ⟨P5, 0, none⟩), .pointer (some ⟨P3, 0, none⟩)] w fun e w' => e = .returned (.tuple #[]) ∧ Below B w w' ∧ Env lo w' P3 P5 P6 P7 d gap (text ++ (s ++ gap)) (want ++ [⟨k, s, text.size⟩] ++ [⟨5, ⟨#[10]⟩, (text ++ (s ++ gap)).size - 1⟩]) := by
  obtain ⟨i0, hi, hz0, hz1, hz2⟩ := info_parts infoTok
  obtain ⟨e3, e5, e6, v, e7, hrow⟩ := h
  have E3 := Lib.hid e3
  have E5 := Lib.hid e5
  have E6 := Lib.hid e6
  have E7 := Lib.hid e7
  have c3 := e3.cell 0
  have c5 := e5.cell 0
  have c6 := e6.cell 0
  have c7 := e7.cell 0
  have hrow1 := hrow.alloc (.cells #[.int .i64 k, .string s, .int .i64 (text.size : Int)] 32)
  clear e3 e5 e6 e7 hrow
  have hsz1 : ¬ 9223372036854775807 < s.size + gap.size := by omega
  have hsz2 : ¬ 9223372036854775807 < text.size + (s ++ gap).size := by rw [ByteArray.size_append]; omega
  have hsz3 : ¬ 9223372036854775807 < text.size + (s.size + gap.size) := by omega
  have q7 : ((d : Int) == 7) = true := beq_iff_eq.2 (by omega)
  obtain ⟨T, hT⟩ : ∃ T, text ++ (s ++ gap) = T := ⟨_, rfl⟩
  have hTs : T.size = text.size + (s.size + gap.size) := by rw [← hT, ByteArray.size_append, ByteArray.size_append]
  obtain ⟨m, hm⟩ : ∃ m, T.size - 1 = m := ⟨_, rfl⟩
  have hmi : (T.size : Int) - 1 = (m : Int) := by omega
  have hTl : T.size ≤ 200000 := by omega
  rw [hT, hm]
  have HM := Lib.hid hm
  clear hm hTs
  go_enter Tryd.func11, Tryd.ntmps11
  go_wp2_with (at_builtin; refine wpList_append_own _ rfl _ _ 23 rfl lo 32 i0 (.agg #[.int .i64 0, .string ⟨#[]⟩, .int .i64 0]) 3 32 Tryd.underlying23 hi hz0 hz1 hz2 rfl (by decide) _ _ _ rfl hrow1 ⟨w.heap.size, 0, none⟩ 1 1 [.int .i64 k, .string s, .int .i64 (text.size : Int)] rfl rfl (cell_three _ _ _ _ _) (by intro u hu; simp at hu; rcases hu with rfl | rfl | rfl <;> rfl) (by unfold maxLen; omega) (by omega) (by simp; omega) ?_; intro v' w6 hown' hgrow _; refine Hid.out ?_)
  refine Lib.hid ?_
  obtain ⟨g', cap', rfl⟩ := row_slice hown'
  have hnr : ∀ P, P < lo → some P ≠ v.ownBlock := fun P hP e => by have := own_base hrow1 _ e.symm; omega
  have b3 := (E3.out.alloc (.cells #[.int .i64 k, .string s, .int .i64 (text.size : Int)] 32)).grown hgrow (hnr _ h3)
  have b5 := (E5.out.alloc (.cells #[.int .i64 k, .string s, .int .i64 (text.size : Int)] 32)).grown hgrow (hnr _ h5)
  have b6 := (E6.out.alloc (.cells #[.int .i64 k, .string s, .int .i64 (text.size : Int)] 32)).grown hgrow (hnr _ h6)
  have b7 := (E7.out.alloc (.cells #[.int .i64 k, .string s, .int .i64 (text.size : Int)] 32)).grown hgrow (hnr _ h7)
  have hBw : B ≤ w.heap.size := by have := hB.1; omega
  have HB6 : Hid (Below B w w6) := Lib.hid (((Below.refl B w).alloc hBw _).grown hgrow (by simp; omega) (fun q hq => by have := own_base hrow1 q hq; omega))
  have d7 := b7.cell 0
  have f7 := b7.frozen 0
  obtain ⟨w7, hw7⟩ : ∃ w7, w6.setCell ⟨P7, 0, none⟩ (.slice (some ⟨g', 0, none⟩) (want.length + 1) cap') = w7 := ⟨_, rfl⟩
  have D3 := b3.other (p := ⟨P7, 0, none⟩) hd35.2 (.slice (some ⟨g', 0, none⟩) (want.length + 1) cap')
  have D5 := b5.other (p := ⟨P7, 0, none⟩) hd56.2 (.slice (some ⟨g', 0, none⟩) (want.length + 1) cap')
  have D6 := b6.other (p := ⟨P7, 0, none⟩) hd67 (.slice (some ⟨g', 0, none⟩) (want.length + 1) cap')
  have D7 := b7.set 0 (.slice (some ⟨g', 0, none⟩) (want.length + 1) cap')
  have DR := ownsRow_other hown' (p := ⟨P7, 0, none⟩) h7 (.slice (some ⟨g', 0, none⟩) (want.length + 1) cap')
  have HB7 := Lib.hid (below_set (p := ⟨P7, 0, none⟩) HB6.out hB.2.2.2 (.slice (some ⟨g', 0, none⟩) (want.length + 1) cap'))
  rw [hw7] at D3 D5 D6 D7 DR HB7
  have HDR := Lib.hid DR
  have HD7 := Lib.hid D7
  have HD5 := Lib.hid D5
  have HD3 := Lib.hid D3
  have HD6 := Lib.hid D6
  have g5 := D5.cell 0
  have g6 := D6.cell 0
  have g6f := D6.frozen 0
  obtain ⟨w8, hw8⟩ : ∃ w8, w7.setCell ⟨P6, 0, none⟩ (.string T) = w8 := ⟨_, rfl⟩
  have F3 := HD3.out.other (p := ⟨P6, 0, none⟩) hd35.1 (.string T)
  have F5 := HD5.out.other (p := ⟨P6, 0, none⟩) hd56.1 (.string T)
  have F6 := HD6.out.set 0 (.string T)
  have F7 := HD7.out.other (p := ⟨P6, 0, none⟩) (Ne.symm hd67) (.string T)
  have FR := ownsRow_other HDR.out (p := ⟨P6, 0, none⟩) h6 (.string T)
  have HB8 := Lib.hid (below_set (p := ⟨P6, 0, none⟩) HB7.out hB.2.2.1 (.string T))
  rw [hw8] at F3 F5 F6 F7 FR HB8
  have HF3 := Lib.hid F3
  have HF5 := Lib.hid F5
  have HF6 := Lib.hid F6
  have HF7 := Lib.hid F7
  have HFR := Lib.hid FR
  have g3 := F3.cell 0
  have g6' := F6.cell 0
  have g7' := F7.cell 0
  have hl9 : w.heap.size ≤ w8.heap.size := HB8.out.size
  have hrow2 := HFR.out.alloc (.cells #[.int .i64 5, .string ⟨#[10]⟩, .int .i64 (m : Int)] 32)
  clear c3 c5 c6 c7 b3 b5 b6 b7 D3 D5 D6 D7 DR F3 F5 F6 F7 FR hown' hrow1 hnr HDR HD7 HD5 HD3 HD6 HB6 HB7 E3 E5 E6 E7
  go_wp2_with (at_builtin; refine wpList_append_own _ rfl _ _ 23 rfl lo 32 i0 (.agg #[.int .i64 0, .string ⟨#[]⟩, .int .i64 0]) 3 32 Tryd.underlying23 hi hz0 hz1 hz2 rfl (by decide) _ _ _ rfl hrow2 ⟨w8.heap.size, 0, none⟩ 1 1 [.int .i64 5, .string ⟨#[10]⟩, .int .i64 (m : Int)] rfl rfl (cell_three _ _ _ _ _) (by intro u hu; simp at hu; rcases hu with rfl | rfl | rfl <;> rfl) (by unfold maxLen; omega) (by omega) (by simp; omega) ?_; intro v9 w9 hown9 hgrow9 _; refine Hid.out ?_)
  refine Lib.hid ?_
  obtain ⟨g9, cap9, rfl⟩ := row_slice hown9
  have hnr : ∀ P, P < lo → some P ≠ (Value.slice (some ⟨g', 0, none⟩) (want.length + 1) cap').ownBlock := fun P hP e => by have := own_base hrow2 _ e.symm; omega
  have b3 := (HF3.out.alloc (.cells #[.int .i64 5, .string ⟨#[10]⟩, .int .i64 (m : Int)] 32)).grown hgrow9 (hnr _ h3)
  have b5 := (HF5.out.alloc (.cells #[.int .i64 5, .string ⟨#[10]⟩, .int .i64 (m : Int)] 32)).grown hgrow9 (hnr _ h5)
  have b6 := (HF6.out.alloc (.cells #[.int .i64 5, .string ⟨#[10]⟩, .int .i64 (m : Int)] 32)).grown hgrow9 (hnr _ h6)
  have b7 := (HF7.out.alloc (.cells #[.int .i64 5, .string ⟨#[10]⟩, .int .i64 (m : Int)] 32)).grown hgrow9 (hnr _ h7)
  have HB9 : Hid (Below B w w9) := Lib.hid ((HB8.out.alloc (by omega) _).grown hgrow9 (by simp; omega) (fun q hq => by have := own_base hrow2 q hq; omega))
  have d7' := b7.cell 0
  have f7' := b7.frozen 0
  obtain ⟨w10, hw10⟩ : ∃ w10, w9.setCell ⟨P7, 0, none⟩ (.slice (some ⟨g9, 0, none⟩) (want.length + 1 + 1) cap9) = w10 := ⟨_, rfl⟩
  have D3 := b3.other (p := ⟨P7, 0, none⟩) hd35.2 (.slice (some ⟨g9, 0, none⟩) (want.length + 1 + 1) cap9)
  have D5 := b5.other (p := ⟨P7, 0, none⟩) hd56.2 (.slice (some ⟨g9, 0, none⟩) (want.length + 1 + 1) cap9)
  have D6 := b6.other (p := ⟨P7, 0, none⟩) hd67 (.slice (some ⟨g9, 0, none⟩) (want.length + 1 + 1) cap9)
  have D7 := b7.set 0 (.slice (some ⟨g9, 0, none⟩) (want.length + 1 + 1) cap9)
  have DR := ownsRow_other hown9 (p := ⟨P7, 0, none⟩) h7 (.slice (some ⟨g9, 0, none⟩) (want.length + 1 + 1) cap9)
  have HB10 := Lib.hid (below_set (p := ⟨P7, 0, none⟩) HB9.out hB.2.2.2 (.slice (some ⟨g9, 0, none⟩) (want.length + 1 + 1) cap9))
  rw [hw10] at D3 D5 D6 D7 DR HB10
  have HDR := Lib.hid DR
  have HD7 := Lib.hid D7
  have HD5 := Lib.hid D5
  have HD3 := Lib.hid D3
  have HD6 := Lib.hid D6
  clear b3 b5 b6 b7 D3 D5 D6 D7 DR hown9 hrow2 hnr HB9 hi hz0 hz1 hz2
  go_wp2
  go_end0
  refine ⟨rfl, HB10.out, HD3.out, HD5.out, HD6.out, _, HD7.out, ?_⟩
  rw [tkCells_app, tkCells_app, List.length_append, List.length_append]
  exact HDR.out
end Go.Proofs.YtpdepdigacpfiaaDoor
