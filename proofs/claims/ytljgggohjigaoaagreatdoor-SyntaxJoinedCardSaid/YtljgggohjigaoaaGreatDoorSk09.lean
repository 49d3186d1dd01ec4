/- The parser's small steps: skipped, wanted · The parser's small steps: a kind wanted; lines · One level deeper: what a function value reads · A file in memory: rows of expressions and blocks, each list a row of its own -/
import Derived.Laws.AppendOwn
import Derived.Test.YtljgggohjigaoaaGreatDoorSk08
namespace Go.Proofs.YtljgggohjigaoaaGreatDoor
open Go.RowKit Go.Shelf
set_option linter.unusedVariables false

/-- What is thrown: a diagnosis in new memory. -/
def ThrewP (W : World) (P : Nat) (bd : Bd) (e : Ending) (w' : World) : Prop := ∃ D, e = .panicked [{ v := .iface 29 (.pointer (some ⟨D, 0, none⟩)), recovered := false }] ∧ W.heap.size ≤ D ∧ Blk w' D #[.int .i64 bd.1, .string ⟨#[]⟩, .int .i64 (bd.2 : Int)] 34 ∧ Aside P W w'
section
variable {W : World} {P F g dp : Nat} {over : Bool} {l : List Tk}
set_option maxRecDepth 100000 in
set_option maxHeartbeats 4000000 in
theorem pskip_no {w : ByteArray} (h : ParAt W P F g dp over l) (hg : GoodT l) (hi : isW w (headT (peekL over l)) = false) : Calls Tryz.prog 74 #[.pointer (some ⟨P, 0, none⟩), .string w] W fun e w' => e = .returned (.bool false) ∧ ParAt w' P F g dp over (peekL over l) ∧ Aside P W w' := by
 have HI := Lib.hid (pis_any w h hg)
 rw [hi] at HI
 clear h hg hi
 go_enter Tryz.func74, Tryz.ntmps74
 go_wp2_with (go_at_call 102; refine HI.out.mono ?_; rintro e w2 ⟨rfl, hp2, ha2⟩)
 go_ret
 exact ⟨rfl, hp2, ha2⟩
set_option maxRecDepth 100000 in
set_option maxHeartbeats 4000000 in
theorem pskip_yes {w : ByteArray} (h : ParAt W P F g dp over l) (hg : GoodT l) (hw : w ≠ ⟨#[]⟩) (hi : isW w (headT (peekL over l)) = true) : Calls Tryz.prog 74 #[.pointer (some ⟨P, 0, none⟩), .string w] W fun e w' => e = .returned (.bool true) ∧ ParAt w' P F g dp over ((peekL over l).drop 1) ∧ Aside P W w' := by
 have HI := Lib.hid (pis_any w h hg)
 have HK := Lib.hid (hg.taken (isW_kind hg hw hi)).ne
 rw [hi] at HI
 clear h hg hi hw
 go_enter Tryz.func74, Tryz.ntmps74
 go_wp2_with (go_at_call 102; refine HI.out.mono ?_; rintro e w2 ⟨rfl, hp2, ha2⟩; refine Hid.out ?_)
 refine Lib.hid ?_
 have HT := Lib.hid (ptake_any hp2 (by rw [peek_idem]; exact HK.out))
 rw [peek_idem] at HT
 have HA2 := Lib.hid ha2
 clear hp2 ha2
 go_wp2_with (go_at_call 53; refine HT.out.mono ?_; rintro e w3 ⟨rfl, hp3, ha3⟩)
 go_ret
 exact ⟨rfl, hp3, HA2.out.trans ha3⟩
set_option maxRecDepth 100000 in
set_option maxHeartbeats 4000000 in
theorem want_yes {w : ByteArray} (h : ParAt W P F g dp over l) (hg : GoodT l) (hw : w ≠ ⟨#[]⟩) (hi : isW w (headT (peekL over l)) = true) : Calls Tryz.prog 99 #[.pointer (some ⟨P, 0, none⟩), .string w] W fun e w' => e = .returned (tkV (headT (peekL over l))) ∧ ParAt w' P F g dp over ((peekL over l).drop 1) ∧ Aside P W w' := by
 have hal := (Below.refl _ W).alloc (Nat.le_refl _) (.cells tk0 75)
 have HS0 : Hid (Blk (W.alloc (.cells tk0 75)) W.heap.size tk0 75 ∧ Below W.heap.size W (W.alloc (.cells tk0 75)) ∧ P < W.heap.size ∧ g < W.heap.size) := Lib.hid ⟨Blk.new _ _ _, hal, h.ranks.1, h.ranks.2.1⟩
 have HI : Hid (Calls Tryz.prog 102 #[.pointer (some ⟨P, 0, none⟩), .string w] (W.alloc (.cells #[.int .i64 0, .string ⟨#[]⟩, .int .i64 0] 75)) (fun e w' => e = .returned (.bool true) ∧ ParAt w' P F g dp over (peekL over l) ∧ Aside P (W.alloc (.cells tk0 75)) w')) := Lib.hid (by
  have := pis_any w (h.below hal) hg
  rw [hi] at this
  exact this)
 have HK := Lib.hid (hg.taken (isW_kind hg hw hi)).ne
 obtain ⟨t, ht⟩ : ∃ t, headT (peekL over l) = t := ⟨_, rfl⟩
 have HHT := Lib.hid ht
 rw [ht]
 clear h hg hi hw hal ht
 go_enter Tryz.func99, Tryz.ntmps99
 go_wp2_with (go_at_call 102; refine HI.out.mono ?_; rintro e w2 ⟨rfl, hp2, ha2⟩; refine Hid.out ?_)
 refine Lib.hid ?_
 have HT := Lib.hid (ptake_any hp2 (by rw [peek_idem]; exact HK.out))
 rw [peek_idem, HHT.out] at HT
 have HA2 := Lib.hid ha2
 have hb2 : Blk w2 W.heap.size tk0 75 := (ha2.block _ HS0.out.1.lt (by have := HS0.out.2.2.1; omega)).trans HS0.out.1
 have HB2 := Lib.hid hb2
 clear hp2 ha2 hb2
 go_wp2_with (go_at_call 53; refine HT.out.mono ?_; rintro e w3 ⟨rfl, hp3, ha3⟩; refine Hid.out ?_)
 refine Lib.hid ?_
 have hb3 : Blk w3 W.heap.size #[.int .i64 0, .string ⟨#[]⟩, .int .i64 0] 75 := (ha3.block _ HB2.out.lt (by have := HS0.out.2.2.1; omega)).trans HB2.out
 have z0 := hb3.cell 0
 have z1 := hb3.cell 1
 have z2 := hb3.cell 2
 have y0 := hb3.frozen 0
 have y1 := hb3.frozen 1
 have y2 := hb3.frozen 2
 have hqe := hb3.put3 (.int .i64 t.k) (.string t.x) (.int .i64 (t.at_ : Int))
 have r0 := hqe.cell 0
 have r1 := hqe.cell 1
 have r2 := hqe.cell 2
 have HP3 := Lib.hid hp3
 have HA3 := Lib.hid ha3
 clear hqe hb3 hp3 ha3
 go_wp2_with fail
 refine bodyPost_ret (by simp [results, Tryz.results99, go_sem, r0, r1, r2]; try rfl) rfl ?_
 have hrk := HP3.out.ranks
 have hP := HS0.out.2.2.1
 have hg : g ≠ W.heap.size := by have := HS0.out.2.2.2; omega
 exact ⟨rfl, HP3.out.same (by simp) (heap3 _ (by omega) _ _ _) (heap3 _ hg _ _ _), ((((((Aside.of HS0.out.2.1).trans HA2.out).trans HA3.out).setFar (Nat.le_refl _) _).setFar (Nat.le_refl _) _).setFar (Nat.le_refl _) _)⟩
set_option maxRecDepth 100000 in
set_option maxHeartbeats 4000000 in
theorem want_no {w : ByteArray} (h : ParAt W P F g dp over l) (hg : GoodT l) (hi : isW w (headT (peekL over l)) = false) : Calls Tryz.prog 99 #[.pointer (some ⟨P, 0, none⟩), .string w] W (ThrewP W P (50, (headT (peekL over l)).at_)) := by
 have hal := (Below.refl _ W).alloc (Nat.le_refl _) (.cells tk0 75)
 have HS0 : Hid (Below W.heap.size W (W.alloc (.cells tk0 75))) := Lib.hid hal
 have HI : Hid (Calls Tryz.prog 102 #[.pointer (some ⟨P, 0, none⟩), .string w] (W.alloc (.cells #[.int .i64 0, .string ⟨#[]⟩, .int .i64 0] 75)) (fun e w' => e = .returned (.bool false) ∧ ParAt w' P F g dp over (peekL over l) ∧ Aside P (W.alloc (.cells tk0 75)) w')) := Lib.hid (by
  have := pis_any w (h.below hal) hg
  rw [hi] at this
  exact this)
 have HG := Lib.hid (hg.peek over)
 clear h hg hi hal
 go_enter Tryz.func99, Tryz.ntmps99
 go_wp2_with (go_at_call 102; refine HI.out.mono ?_; rintro e w2 ⟨rfl, hp2, ha2⟩; refine Hid.out ?_)
 refine Lib.hid ?_
 have HT := Lib.hid (refusal_any hp2 HG.out)
 rw [peek_idem] at HT
 have HA2 := Lib.hid ha2
 clear hp2 ha2
 go_wp2_with (go_at_call 59; refine HT.out.mono ?_; rintro e w3 ⟨D, rfl, hD, hd3, ha3⟩)
 refine ⟨rfl, ?_⟩
 have h1 := HS0.out.size
 have h2 := HA2.out.size
 exact ⟨D, rfl, by omega, hd3, ((Aside.of HS0.out).trans HA2.out).trans ha3⟩
end
end Go.Proofs.YtljgggohjigaoaaGreatDoor
namespace Go.Proofs.YtljgggohjigaoaaGreatDoor
open Go.RowKit Go.Shelf
set_option linter.unusedVariables false

section
variable {W : World} {P F g dp : Nat} {over : Bool} {l : List Tk}
set_option maxRecDepth 100000 in
set_option maxHeartbeats 4000000 in
theorem wkind_yes {k : Int} (hk0 : k ≠ 0) (h : ParAt W P F g dp over l) (hg : GoodT l) (hi : (headT (peekL over l)).k = k) : Calls Tryz.prog 35 #[.pointer (some ⟨P, 0, none⟩), .int .i64 k] W fun e w' => e = .returned (tkV (headT (peekL over l))) ∧ ParAt w' P F g dp over ((peekL over l).drop 1) ∧ Aside P W w' := by
 have hal := (Below.refl _ W).alloc (Nat.le_refl _) (.cells tk0 75)
 have HS0 : Hid (Blk (W.alloc (.cells tk0 75)) W.heap.size tk0 75 ∧ Below W.heap.size W (W.alloc (.cells tk0 75)) ∧ P < W.heap.size ∧ g < W.heap.size) := Lib.hid ⟨Blk.new _ _ _, hal, h.ranks.1, h.ranks.2.1⟩
 obtain ⟨t, ht⟩ : ∃ t, headT (peekL over l) = t := ⟨_, rfl⟩
 have HHT := Lib.hid ht
 have HI : Hid (Calls Tryz.prog 52 #[.pointer (some ⟨P, 0, none⟩)] (W.alloc (.cells #[.int .i64 0, .string ⟨#[]⟩, .int .i64 0] 75)) (fun e w' => e = .returned (tkV t) ∧ ParAt w' P F g dp over (peekL over l) ∧ Aside P (W.alloc (.cells tk0 75)) w')) := Lib.hid (by
  have := peek_any (h.below hal) (hg.peek over).ne
  rw [ht] at this
  exact this)
 have HK := Lib.hid (hg.taken (over := over) (by rw [hi]; exact hk0)).ne
 rw [ht] at hi ⊢
 have e1 : (t.k != k) = false := by simp [hi]
 have hfl : ∀ w : World, (Instr.field 75 (tkV t) 0).run Tryz.prog w = .ok (.int .i64 t.k) w := fun _ => rfl
 clear h hg hi hal ht hk0
 go_enter Tryz.func35, Tryz.ntmps35
 go_wp2_with (go_at_call 52; refine HI.out.mono ?_; rintro e w2 ⟨rfl, hp2, ha2⟩; refine Hid.out ?_)
 refine Lib.hid ?_
 have HT := Lib.hid (ptake_any hp2 (by rw [peek_idem]; exact HK.out))
 rw [peek_idem, HHT.out] at HT
 have HA2 := Lib.hid ha2
 have hb2 : Blk w2 W.heap.size tk0 75 := (ha2.block _ HS0.out.1.lt (by have := HS0.out.2.2.1; omega)).trans HS0.out.1
 have HB2 := Lib.hid hb2
 clear hp2 ha2 hb2
 go_wp2_with (go_at_call 53; refine HT.out.mono ?_; rintro e w3 ⟨rfl, hp3, ha3⟩; refine Hid.out ?_)
 refine Lib.hid ?_
 have hb3 : Blk w3 W.heap.size #[.int .i64 0, .string ⟨#[]⟩, .int .i64 0] 75 := (ha3.block _ HB2.out.lt (by have := HS0.out.2.2.1; omega)).trans HB2.out
 have z0 := hb3.cell 0
 have z1 := hb3.cell 1
 have z2 := hb3.cell 2
 have y0 := hb3.frozen 0
 have y1 := hb3.frozen 1
 have y2 := hb3.frozen 2
 have hqe := hb3.put3 (.int .i64 t.k) (.string t.x) (.int .i64 (t.at_ : Int))
 have r0 := hqe.cell 0
 have r1 := hqe.cell 1
 have r2 := hqe.cell 2
 have HP3 := Lib.hid hp3
 have HA3 := Lib.hid ha3
 clear hqe hb3 hp3 ha3
 go_wp2_with fail
 refine bodyPost_ret (by simp [results, Tryz.results35, go_sem, r0, r1, r2]; try rfl) rfl ?_
 have hrk := HP3.out.ranks
 have hP := HS0.out.2.2.1
 have hg : g ≠ W.heap.size := by have := HS0.out.2.2.2; omega
 exact ⟨rfl, HP3.out.same (by simp) (heap3 _ (by omega) _ _ _) (heap3 _ hg _ _ _), ((((((Aside.of HS0.out.2.1).trans HA2.out).trans HA3.out).setFar (Nat.le_refl _) _).setFar (Nat.le_refl _) _).setFar (Nat.le_refl _) _)⟩
set_option maxRecDepth 100000 in
set_option maxHeartbeats 4000000 in
theorem wkind_no {k : Int} (h : ParAt W P F g dp over l) (hg : GoodT l) (hi : (headT (peekL over l)).k ≠ k) : Calls Tryz.prog 35 #[.pointer (some ⟨P, 0, none⟩), .int .i64 k] W (ThrewP W P (50, (headT (peekL over l)).at_)) := by
 have hal := (Below.refl _ W).alloc (Nat.le_refl _) (.cells tk0 75)
 have HS0 : Hid (Below W.heap.size W (W.alloc (.cells tk0 75))) := Lib.hid hal
 have HG := Lib.hid (hg.peek over)
 obtain ⟨t, ht⟩ : ∃ t, headT (peekL over l) = t := ⟨_, rfl⟩
 have HHT := Lib.hid ht
 have HI : Hid (Calls Tryz.prog 52 #[.pointer (some ⟨P, 0, none⟩)] (W.alloc (.cells #[.int .i64 0, .string ⟨#[]⟩, .int .i64 0] 75)) (fun e w' => e = .returned (tkV t) ∧ ParAt w' P F g dp over (peekL over l) ∧ Aside P (W.alloc (.cells tk0 75)) w')) := Lib.hid (by
  have := peek_any (h.below hal) (hg.peek over).ne
  rw [ht] at this
  exact this)
 rw [ht] at hi ⊢
 have e1 : (t.k != k) = true := by simp [hi]
 have hfl : ∀ w : World, (Instr.field 75 (tkV t) 0).run Tryz.prog w = .ok (.int .i64 t.k) w := fun _ => rfl
 clear h hg hi hal ht
 go_enter Tryz.func35, Tryz.ntmps35
 go_wp2_with (go_at_call 52; refine HI.out.mono ?_; rintro e w2 ⟨rfl, hp2, ha2⟩; refine Hid.out ?_)
 refine Lib.hid ?_
 have HT := Lib.hid (refusal_any hp2 HG.out)
 rw [peek_idem, HHT.out] at HT
 have HA2 := Lib.hid ha2
 clear hp2 ha2
 go_wp2_with (go_at_call 59; refine HT.out.mono ?_; rintro e w3 ⟨D, rfl, hD, hd3, ha3⟩)
 refine ⟨rfl, ?_⟩
 have h1 := HS0.out.size
 have h2 := HA2.out.size
 exact ⟨D, rfl, by omega, hd3, ((Aside.of HS0.out).trans HA2.out).trans ha3⟩
set_option maxRecDepth 100000 in
set_option maxHeartbeats 4000000 in
/-- All lines that are next. -/
theorem lines_any (h : ParAt W P F g dp over l) (hg : GoodT l) : Calls Tryz.prog 51 #[.pointer (some ⟨P, 0, none⟩)] W fun e w' => e = .returned (.bool (linesL over l).1) ∧ ParAt w' P F g dp over (linesL over l).2 ∧ GoodT (linesL over l).2 ∧ Aside P W w' := by
 have HP := Lib.hid h
 have HG := Lib.hid hg
 obtain ⟨R, hR⟩ : ∃ R, (linesL over l) = R := ⟨_, rfl⟩
 have HR := Lib.hid hR
 rw [hR]
 clear h hg hR
 go_enter Tryz.func51, Tryz.ntmps51
 go_wp2_with fail
 go_loopg [3] l.length (fun gf s3 wx => ∃ (l' : List Tk) (b : Bool), s3 = .bool b ∧ Hid (ParAt wx P F g dp over l' ∧ GoodT l' ∧ (b || (linesL over l').1, (linesL over l').2) = R ∧ Aside P W wx) ∧ l'.length ≤ gf)
 case atStart => exact ⟨l, false, rfl, Lib.hid ⟨HP.out, HG.out, by rw [← HR.out]; rfl, Aside.refl _ _⟩, Nat.le_refl _⟩
 case round =>
  obtain ⟨l', b, rfl, HL, hlen⟩ := hrel
  clear HP HG HR
  have HPK := Lib.hid (peek_any HL.out.1 (HL.out.2.1.peek over).ne)
  obtain ⟨t, m, htl⟩ : ∃ t m, peekL over l' = t :: m := by
   cases hc : peekL over l' with
   | nil => exact absurd hc (HL.out.2.1.peek over).ne
   | cons t m => exact ⟨t, m, rfl⟩
  have HTL := Lib.hid htl
  have hht : headT (peekL over l') = t := by rw [htl]; rfl
  rw [hht] at HPK
  have hfl : ∀ w : World, (Instr.field 75 (tkV t) 0).run Tryz.prog w = .ok (.int .i64 t.k) w := fun _ => rfl
  have HHT := Lib.hid hht
  clear htl hht
  by_cases h5 : t.k = 5
  ·have e5 : (t.k == 5) = true := by simp [h5]
   have HLI : Hid (isLine t = true) := Lib.hid (by simp [isLine, h5])
   have HK : Hid (GoodT m) := Lib.hid (by
    have := HL.out.2.1.taken (over := over) (by rw [HHT.out, h5]; decide)
    rw [HTL.out] at this
    exact this)
   have HLE : Hid (m.length < l'.length) := Lib.hid (by
    have h1 : (peekL over l').length ≤ l'.length := by
     unfold peekL
     split
     ·exact (List.dropWhile_suffix _).length_le
     ·exact Nat.le_refl _
    rw [HTL.out] at h1
    simp at h1
    omega)
   have HEQ : Hid (((linesL over l').1 = true) ∧ (linesL over l').2 = (linesL over m).2) := Lib.hid (by
    unfold linesL
    simp only [HTL.out]
    have h1 : headT (t :: m) = t := rfl
    rw [h1, HLI.out]
    simp only [List.isEmpty_cons, Bool.not_false, Bool.and_true, if_true]
    refine ⟨trivial, ?_⟩
    rw [List.dropWhile_cons_of_pos HLI.out]
    cases over with
    | false =>
     show m.dropWhile isLine = (if (isLine (headT m) && !m.isEmpty) = true then (true, m.dropWhile isLine) else (false, m)).2
     split
     ·rfl
     ·rename_i h
      cases m with
      | nil => rfl
      | cons a q =>
       have : ¬ isLine a = true := by simpa [headT] using h
       rw [List.dropWhile_cons_of_neg this]
    | true =>
     exfalso
     have h2 : peekL true l' = l'.dropWhile isLine := rfl
     have h3 := HTL.out
     rw [h2] at h3
     have := List.head?_dropWhile_not (p := isLine) l'
     rw [h3] at this
     simp [HLI.out] at this)
   clear h5
   obtain ⟨g', rfl⟩ : ∃ g', gk = g' + 1 := ⟨gk - 1, by have := HLE.out; omega⟩
   go_wp2_with fail
   go_at_call 52; refine HPK.out.mono ?_; rintro e w2 ⟨rfl, hp2, ha2⟩
   have HT := Lib.hid (ptake_any hp2 (by rw [peek_idem, HTL.out]; exact HK.out.ne))
   rw [peek_idem, HTL.out] at HT
   have HA2 := Lib.hid ha2
   clear hp2 ha2
   go_wp2_with fail
   go_at_call 53; refine HT.out.mono ?_; rintro e w3 ⟨rfl, hp3, ha3⟩
   have HP3 := Lib.hid hp3
   have HA3 := Lib.hid ha3
   clear hp3 ha3
   go_wp2_with fail
   go_roundg g'
   case measure => omega
   case rel => exact ⟨m, true, rfl, Lib.hid ⟨HP3.out, HK.out, by rw [← HL.out.2.2.1, HEQ.out.1, HEQ.out.2]; simp, (HL.out.2.2.2.trans HA2.out).trans HA3.out⟩, by have := HLE.out; omega⟩
  ·have e5 : (t.k == 5) = false := by simp [h5]
   have HE : Hid (linesL over l' = (false, t :: m)) := Lib.hid (by
    unfold linesL
    simp only [HTL.out]
    have h1 : headT (t :: m) = t := rfl
    have h2 : isLine t = false := by simp [isLine, h5]
    rw [h1, h2]
    rfl)
   have HGP : Hid (GoodT (t :: m)) := Lib.hid (by rw [← HTL.out]; exact HL.out.2.1.peek over)
   clear h5
   go_wp2_with fail
   go_at_call 52; refine HPK.out.mono ?_; rintro e w2 ⟨rfl, hp2, ha2⟩
   rw [HTL.out] at hp2
   have HP2 := Lib.hid hp2
   have HA2 := Lib.hid ha2
   clear hp2 ha2
   go_wp2_with fail
   go_ret
   have hq := HL.out.2.2.1
   rw [HE.out] at hq
   rw [← hq]
   exact ⟨by simp, HP2.out, HGP.out, HL.out.2.2.2.trans HA2.out⟩
end
end Go.Proofs.YtljgggohjigaoaaGreatDoor
namespace Go.Proofs.YtljgggohjigaoaaGreatDoor
open Go.RowKit Go.Shelf
set_option linter.unusedVariables false

/-- A closure's ending: it has returned, and the parser's block stands so deep; or it has thrown. -/
def ReadsK (P F dp : Nat) (R : World → Prop) (T : Value → World → Prop) (e : Ending) (w : World) : Prop :=
 (e = .returned (.tuple #[]) ∧ R w ∧ ∃ tv ov, Blk w P #[tv, .bool ov, .int .i64 (dp : Int), .pointer (some ⟨F, 0, none⟩)] 64) ∨ ∃ v, e = .panicked [{ v := v, recovered := false }] ∧ T v w
set_option maxRecDepth 100000 in
set_option maxHeartbeats 4000000 in
theorem deeper_too {W : World} {P F : Nat} {tv : Value} {ov : Bool} (h : Blk W P #[tv, .bool ov, .int .i64 24, .pointer (some ⟨F, 0, none⟩)] 64) (a : Int) (fv : Value) : Calls Tryz.prog 100 #[.pointer (some ⟨P, 0, none⟩), .int .i64 a, fv] W fun e w' => ∃ D, e = .panicked [{ v := .iface 29 (.pointer (some ⟨D, 0, none⟩)), recovered := false }] ∧ W.heap.size ≤ D ∧ Blk w' D #[.int .i64 7, .string ⟨#[]⟩, .int .i64 a] 34 ∧ Below W.heap.size W w' := by
 have k2 := h.cell 2
 have HD := Lib.hid (fun w => diag_any 7 a w)
 clear h
 go_enter Tryz.func100, Tryz.ntmps100
 go_wp2_with (go_at_call 31; refine (HD.out _).mono ?_; rintro e w3 ⟨rfl, hd3, hb3⟩)
 refine ⟨rfl, ?_⟩
 exact ⟨_, rfl, Nat.le_refl _, hd3, hb3⟩
set_option maxRecDepth 100000 in
set_option maxHeartbeats 4000000 in
theorem deeper_any {W : World} {P F dp : Nat} {tv : Value} {ov : Bool} (h : Blk W P #[tv, .bool ov, .int .i64 (dp : Int), .pointer (some ⟨F, 0, none⟩)] 64) (hdp : dp < 24) (a : Int) {g : Nat} {lb : Array Value} (eg : ∀ args w, (callFunc g args).run Tryz.prog w = .ok (.enter g args) w) {R : World → Prop} {T : Value → World → Prop}
  (hc : Calls Tryz.prog g lb (W.setCell ⟨P, 2, none⟩ (.int .i64 ((dp : Int) + 1))) (ReadsK P F (dp + 1) R T)) :
  Calls Tryz.prog 100 #[.pointer (some ⟨P, 0, none⟩), .int .i64 a, .func (.func g) #[] lb] W fun e w' => (e = .returned (.tuple #[]) ∧ ∃ w1, R w1 ∧ (∃ tv' ov', Blk w1 P #[tv', .bool ov', .int .i64 ((dp + 1 : Nat) : Int), .pointer (some ⟨F, 0, none⟩)] 64) ∧ w' = w1.setCell ⟨P, 2, none⟩ (.int .i64 (dp : Int))) ∨ ∃ v, e = .panicked [{ v := v, recovered := false }] ∧ T v w' := by
 have k2 := h.cell 2
 have f2 := h.frozen 2
 have e24 : ((dp : Int) == 24) = false := by simp; omega
 have i0 : (dp : Int) < 24 := by omega
 have HC := Lib.hid hc
 clear h hc
 go_enter Tryz.func100, Tryz.ntmps100
 go_wp2_with fail
 go_at_fn g; refine HC.out.mono ?_
 rintro e w2 (⟨rfl, hR, tv', ov', hB⟩ | ⟨v, rfl, hT⟩)
 ·have b2 := hB.cell 2
  have g2 := hB.frozen 2
  have HR2 := Lib.hid hR
  have HB2 := Lib.hid hB
  have i3 : ((dp : Int) + 1) - 1 = (dp : Int) := by omega
  rw [show ((dp + 1 : Nat) : Int) = (dp : Int) + 1 by omega] at b2
  clear hR hB
  go_wp2_with fail
  first | go_end0 | go_ret
  exact .inl ⟨rfl, w2, HR2.out, ⟨tv', ov', HB2.out⟩, rfl⟩
 ·refine ⟨rfl, ?_⟩
  exact .inr ⟨v, rfl, hT⟩
end Go.Proofs.YtljgggohjigaoaaGreatDoor
namespace Go.Proofs.YtljgggohjigaoaaGreatDoor
open Go.RowKit Go.Shelf
set_option linter.unusedVariables false

/-- The block that a row lies in, if it has one. -/
def ownB (v : Value) : List Nat := match v.ownBlock with | some g => [g] | none => []
theorem mem_ownB {v : Value} {g : Nat} : g ∈ ownB v ↔ v.ownBlock = some g := by
 unfold ownB
 cases v.ownBlock with
 | none => simp
 | some q => simp [eq_comm]
theorem ownB_nodup (v : Value) : (ownB v).Nodup := by
 unfold ownB
 cases v.ownBlock <;> simp
/-- An expression in memory. -/
structure ExM where
 e : Ex
 av : Value
 kv : Value
def ExM.cells (m : ExM) : List Value := [.int .i64 m.e.k, .string m.e.x, m.av, m.kv, .int .i64 (m.e.at_ : Int)]
def ExM.foot (m : ExM) : List Nat := ownB m.av ++ ownB m.kv
def intsV (l : List Nat) : List Value := l.map fun (i : Nat) => Value.int .i64 (i : Int)
structure ExM.Ok (lo : Nat) (W : World) (m : ExM) : Prop where
 args : W.ownsRow lo 3 1 m.av m.e.args.length (intsV m.e.args)
 keys : W.ownsRow lo 9 1 m.kv m.e.keys.length (m.e.keys.map Value.string)
def AtS.cells (a : AtS) : List Value := [.string a.n, .int .i64 (a.e : Int), .int .i64 (a.at_ : Int)]
/-- A block in memory. -/
structure BlM where
 b : Bl
 lv : Value
 av : Value
 bv : Value
def BlM.cells (m : BlM) : List Value := [.string m.b.t, m.lv, m.av, m.bv, .int .i64 (m.b.at_ : Int)]
def BlM.foot (m : BlM) : List Nat := ownB m.lv ++ (ownB m.av ++ ownB m.bv)
structure BlM.Ok (lo : Nat) (W : World) (m : BlM) : Prop where
 labels : W.ownsRow lo 9 1 m.lv m.b.labels.length (m.b.labels.map Value.string)
 attrs : W.ownsRow lo 43 3 m.av m.b.attrs.length (m.b.attrs.flatMap AtS.cells)
 blocks : W.ownsRow lo 3 1 m.bv m.b.blocks.length (intsV m.b.blocks)
/-- A file in memory: three rows. -/
structure FileM where
 ev : Value
 bv : Value
 tv : Value
 ms : List ExM
 ns : List BlM
 /-- A mark: Top stays. -/
 lk : Bool := false
def FileM.rest (m : FileM) (F : Nat) : List Nat := F :: (ownB m.bv ++ (ownB m.tv ++ (m.ns.flatMap BlM.foot ++ m.ms.flatMap ExM.foot)))
def FileM.foot (m : FileM) (F : Nat) : List Nat := ownB m.ev ++ m.rest F
structure FileOk (W : World) (F lo : Nat) (m : FileM) (f : Fi) : Prop where
 box : Blk W F #[m.ev, m.bv, m.tv] 28
 exprs : W.ownsRow lo 38 5 m.ev m.ms.length (m.ms.flatMap ExM.cells)
 blocks : W.ownsRow lo 41 5 m.bv m.ns.length (m.ns.flatMap BlM.cells)
 top : W.ownsRow lo 3 1 m.tv f.top.length (intsV f.top)
 es : m.ms.map ExM.e = f.exprs
 bs : m.ns.map BlM.b = f.blocks
 eok : ∀ x ∈ m.ms, x.Ok lo W
 bok : ∀ x ∈ m.ns, x.Ok lo W
 nodup : (m.foot F).Nodup
theorem row_same {w w' : World} {B e size n : Nat} {v : Value} {xs : List Value} (h : w.ownsRow B e size v n xs) (hs : ∀ g, v.ownBlock = some g → w'.heap[g]? = w.heap[g]?) : w'.ownsRow B e size v n xs := by
 obtain ⟨h1, h2⟩ := h
 refine ⟨h1, ?_⟩
 rcases h2 with h2 | ⟨g, cap, cur, rfl, h3, h4, h5⟩
 ·exact .inl h2
 ·exact .inr ⟨g, cap, cur, rfl, h3, (hs g rfl).trans h4, h5⟩
theorem row_lt {w : World} {B e size n : Nat} {v : Value} {xs : List Value} (h : w.ownsRow B e size v n xs) {g : Nat} (hg : v.ownBlock = some g) : B ≤ g ∧ g < w.heap.size := World.ownsRow.lt h g hg
theorem ExM.Ok.keep {lo : Nat} {W W' : World} {m : ExM} (h : m.Ok lo W) (hs : ∀ g ∈ m.foot, W'.heap[g]? = W.heap[g]?) : m.Ok lo W' :=
 ⟨row_same h.args (fun g hg => hs g (List.mem_append.2 (.inl (mem_ownB.2 hg)))), row_same h.keys (fun g hg => hs g (List.mem_append.2 (.inr (mem_ownB.2 hg))))⟩
theorem BlM.Ok.keep {lo : Nat} {W W' : World} {m : BlM} (h : m.Ok lo W) (hs : ∀ g ∈ m.foot, W'.heap[g]? = W.heap[g]?) : m.Ok lo W' :=
 ⟨row_same h.labels (fun g hg => hs g (List.mem_append.2 (.inl (mem_ownB.2 hg)))), row_same h.attrs (fun g hg => hs g (List.mem_append.2 (.inr (List.mem_append.2 (.inl (mem_ownB.2 hg)))))), row_same h.blocks (fun g hg => hs g (List.mem_append.2 (.inr (List.mem_append.2 (.inr (mem_ownB.2 hg))))))⟩
theorem ExM.Ok.lt {lo : Nat} {W : World} {m : ExM} (h : m.Ok lo W) : ∀ g ∈ m.foot, lo ≤ g ∧ g < W.heap.size := fun g hg => by
 rcases List.mem_append.1 hg with h1 | h1
 ·exact row_lt h.args (mem_ownB.1 h1)
 ·exact row_lt h.keys (mem_ownB.1 h1)
theorem BlM.Ok.lt {lo : Nat} {W : World} {m : BlM} (h : m.Ok lo W) : ∀ g ∈ m.foot, lo ≤ g ∧ g < W.heap.size := fun g hg => by
 rcases List.mem_append.1 hg with h1 | h1
 ·exact row_lt h.labels (mem_ownB.1 h1)
 ·rcases List.mem_append.1 h1 with h1 | h1
  ·exact row_lt h.attrs (mem_ownB.1 h1)
  ·exact row_lt h.blocks (mem_ownB.1 h1)
section
variable {W W' : World} {F lo : Nat} {m : FileM} {f : Fi}
theorem mem_foot {g : Nat} : g ∈ m.foot F ↔ m.ev.ownBlock = some g ∨ g = F ∨ m.bv.ownBlock = some g ∨ m.tv.ownBlock = some g ∨ (∃ x ∈ m.ns, g ∈ x.foot) ∨ ∃ x ∈ m.ms, g ∈ x.foot := by
 unfold FileM.foot FileM.rest
 simp only [List.mem_append, List.mem_cons, mem_ownB, List.mem_flatMap]
theorem FileOk.lt (h : FileOk W F lo m f) : ∀ g ∈ m.foot F, g < W.heap.size ∧ (g = F ∨ lo ≤ g) := fun g hg => by
 rcases mem_foot.1 hg with h1 | h1 | h1 | h1 | ⟨x, hx, h1⟩ | ⟨x, hx, h1⟩
 ·exact ⟨(row_lt h.exprs h1).2, .inr (row_lt h.exprs h1).1⟩
 ·subst h1; exact ⟨h.box.lt, .inl rfl⟩
 ·exact ⟨(row_lt h.blocks h1).2, .inr (row_lt h.blocks h1).1⟩
 ·exact ⟨(row_lt h.top h1).2, .inr (row_lt h.top h1).1⟩
 ·exact ⟨((h.bok x hx).lt g h1).2, .inr ((h.bok x hx).lt g h1).1⟩
 ·exact ⟨((h.eok x hx).lt g h1).2, .inr ((h.eok x hx).lt g h1).1⟩
/-- What isn't touched stays. -/
theorem FileOk.keep (h : FileOk W F lo m f) (hs : ∀ g ∈ m.foot F, W'.heap[g]? = W.heap[g]?) : FileOk W' F lo m f :=
 ⟨(hs F (mem_foot.2 (.inr (.inl rfl)))).trans h.box, row_same h.exprs (fun g hg => hs g (mem_foot.2 (.inl hg))), row_same h.blocks (fun g hg => hs g (mem_foot.2 (.inr (.inr (.inl hg))))), row_same h.top (fun g hg => hs g (mem_foot.2 (.inr (.inr (.inr (.inl hg)))))), h.es, h.bs,
  fun x hx => (h.eok x hx).keep (fun g hg => hs g (mem_foot.2 (.inr (.inr (.inr (.inr (.inr ⟨x, hx, hg⟩))))))), fun x hx => (h.bok x hx).keep (fun g hg => hs g (mem_foot.2 (.inr (.inr (.inr (.inr (.inl ⟨x, hx, hg⟩))))))), h.nodup⟩
/-- An expression more: behind the append, and its store. -/
theorem FileOk.addE {w3 : World} {g2 cap2 : Nat} {x : ExM} {o : Obj} (h : FileOk W F lo m f) (hF : F < lo) (hlo : lo ≤ W.heap.size) (hx : x.Ok lo W) (hxf : ∀ g ∈ x.foot, g ∉ m.foot F) (hxn : x.foot.Nodup)
  (hown : w3.ownsRow lo 38 5 (.slice (some ⟨g2, 0, none⟩) (m.ms.length + 1) cap2) (m.ms.length + 1) (m.ms.flatMap ExM.cells ++ x.cells)) (hg : (W.alloc o).grownBy w3 m.ev.ownBlock) (hat : m.ev.ownBlock = some g2 ∨ g2 = (W.alloc o).heap.size) :
  FileOk (w3.setCell ⟨F, 0, none⟩ (.slice (some ⟨g2, 0, none⟩) (m.ms.length + 1) cap2)) F lo { m with ev := .slice (some ⟨g2, 0, none⟩) (m.ms.length + 1) cap2, ms := m.ms ++ [x] } { f with exprs := f.exprs ++ [x.e] } ∧
  (∀ g ∈ ({ m with ev := .slice (some ⟨g2, 0, none⟩) (m.ms.length + 1) cap2, ms := m.ms ++ [x] } : FileM).foot F, g ∈ m.foot F ∨ g ∈ x.foot ∨ W.heap.size ≤ g) ∧
  (∀ k, k < W.heap.size → k ∉ m.foot F → (w3.setCell ⟨F, 0, none⟩ (.slice (some ⟨g2, 0, none⟩) (m.ms.length + 1) cap2)).heap[k]? = W.heap[k]?) := by
 have hs : (W.alloc o).heap.size = W.heap.size + 1 := by simp
 have hal : ∀ k, k < W.heap.size → (W.alloc o).heap[k]? = W.heap[k]? := fun k hk => (below_new W o).block k hk
 have hne : ∀ k, k ∈ m.rest F → some k ≠ m.ev.ownBlock := fun k hk e => by
  have := h.nodup
  unfold FileM.foot at this
  exact (List.nodup_append.1 this).2.2 k (mem_ownB.2 e.symm) k hk rfl
 have hrest : ∀ k, k ∈ m.rest F → k < W.heap.size := fun k hk => (h.lt k (List.mem_append.2 (.inr hk))).1
 have hst : ∀ k, k < W.heap.size → k ≠ F → some k ≠ m.ev.ownBlock → (w3.setCell ⟨F, 0, none⟩ (.slice (some ⟨g2, 0, none⟩) (m.ms.length + 1) cap2)).heap[k]? = W.heap[k]? := fun k hk h1 h2 => by
  rw [Below.heap_setCell _ _ _ _ (by exact h1)]
  exact (hg.block k (by omega) h2).trans (hal k hk)
 have hgF : g2 ≠ F := by
  rcases hat with h1 | h1
  ·have := (row_lt h.exprs h1).1; omega
  ·have := h.box.lt; omega
 have hFr : F ∈ m.rest F := List.mem_cons_self
 have hmem : ∀ k, k ∈ m.rest F → k ≠ F → (w3.setCell ⟨F, 0, none⟩ (.slice (some ⟨g2, 0, none⟩) (m.ms.length + 1) cap2)).heap[k]? = W.heap[k]? := fun k hk h1 => hst k (hrest k hk) h1 (hne k hk)
 have hin : ∀ {g : Nat}, (m.bv.ownBlock = some g ∨ m.tv.ownBlock = some g ∨ (∃ x ∈ m.ns, g ∈ x.foot) ∨ ∃ x ∈ m.ms, g ∈ x.foot) → g ∈ m.rest F := fun {g} hk => by
  unfold FileM.rest
  simp only [List.mem_append, List.mem_cons, mem_ownB, List.mem_flatMap]
  exact .inr hk
 have hrn : (m.rest F).Nodup := by
  have := h.nodup
  unfold FileM.foot at this
  exact (List.nodup_append.1 this).2.1
 have hnF : ∀ {g : Nat}, (m.bv.ownBlock = some g ∨ m.tv.ownBlock = some g ∨ (∃ x ∈ m.ns, g ∈ x.foot) ∨ ∃ x ∈ m.ms, g ∈ x.foot) → g ≠ F := fun {g} hk e => by
  subst e
  have := hrn
  unfold FileM.rest at this
  rw [List.nodup_cons] at this
  apply this.1
  simp only [List.mem_append, mem_ownB, List.mem_flatMap]
  exact hk
 have hkeep : ∀ {g : Nat}, (m.bv.ownBlock = some g ∨ m.tv.ownBlock = some g ∨ (∃ x ∈ m.ns, g ∈ x.foot) ∨ ∃ x ∈ m.ms, g ∈ x.foot) → (w3.setCell ⟨F, 0, none⟩ (.slice (some ⟨g2, 0, none⟩) (m.ms.length + 1) cap2)).heap[g]? = W.heap[g]? := fun hk => hmem _ (hin hk) (hnF hk)
 have hxl := hx.lt
 have hg2x : g2 ∉ x.foot := fun hk => by
  rcases hat with h1 | h1
  ·exact hxf g2 hk (mem_foot.2 (.inl h1))
  ·have := (hxl g2 hk).2; omega
 have hr' : (({ m with ev := .slice (some ⟨g2, 0, none⟩) (m.ms.length + 1) cap2, ms := m.ms ++ [x] } : FileM).rest F) = m.rest F ++ x.foot := by
  unfold FileM.rest
  simp [List.flatMap_append, List.append_assoc]
 have ho : ownB (.slice (some ⟨g2, 0, none⟩) (m.ms.length + 1) cap2) = [g2] := rfl
 refine ⟨⟨?_, ?_, row_same h.blocks (fun g hg => hkeep (.inl hg)), row_same h.top (fun g hg => hkeep (.inr (.inl hg))), ?_, h.bs, fun y hy => ?_, fun y hy => (h.bok y hy).keep (fun g hg => hkeep (.inr (.inr (.inl ⟨y, hy, hg⟩)))), ?_⟩, fun k hk => ?_, fun k hk hn => hst k hk (fun e => hn (by rw [e]; exact mem_foot.2 (.inr (.inl rfl)))) (fun e => hn (mem_foot.2 (.inl e.symm)))⟩
 ·have hb : Blk w3 F #[m.ev, m.bv, m.tv] 28 := (hg.block F (by have := h.box.lt; omega) (hne F hFr)).trans ((hal F h.box.lt).trans h.box)
  have := hb.set 0 (.slice (some ⟨g2, 0, none⟩) (m.ms.length + 1) cap2)
  simpa using this
 ·rw [List.length_append, List.flatMap_append]
  simp only [List.flatMap_cons, List.flatMap_nil, List.append_nil, List.length_cons, List.length_nil]
  exact row_same hown (fun g hg => by
   obtain rfl : g2 = g := Option.some.inj hg
   exact Below.heap_setCell _ _ _ _ (by exact hgF))
 ·rw [List.map_append, h.es]; rfl
 ·rcases List.mem_append.1 hy with hy | hy
  ·exact (h.eok y hy).keep (fun g hg => hkeep (.inr (.inr (.inr ⟨y, hy, hg⟩))))
  ·rw [List.mem_singleton] at hy
   subst hy
   exact hx.keep (fun g hg => hst g (hxl g hg).2 (fun e => hxf g hg (by rw [e]; exact mem_foot.2 (.inr (.inl rfl)))) (fun e => hxf g hg (mem_foot.2 (.inl e.symm))))
 ·show (ownB _ ++ _).Nodup
  rw [hr', ho, List.nodup_append]
  refine ⟨by simp, ?_, ?_⟩
  ·rw [List.nodup_append]
   exact ⟨hrn, hxn, fun a ha b hb e => by subst e; exact hxf a hb (List.mem_append.2 (.inr ha))⟩
  ·intro a ha b hb e
   subst e
   rw [List.mem_singleton] at ha
   subst ha
   rcases List.mem_append.1 hb with hb | hb
   ·rcases hat with h1 | h1
    ·exact hne _ hb h1.symm
    ·have := hrest _ hb; omega
   ·exact hg2x hb
 ·have hk' : k ∈ ownB (.slice (some ⟨g2, 0, none⟩) (m.ms.length + 1) cap2) ++ (m.rest F ++ x.foot) := by rw [← hr']; exact hk
  rw [ho] at hk'
  rcases List.mem_append.1 hk' with hk | hk
  ·rw [List.mem_singleton] at hk
   subst hk
   rcases hat with h1 | h1
   ·exact .inl (mem_foot.2 (.inl h1))
   ·exact .inr (.inr (by omega))
  ·rcases List.mem_append.1 hk with hk | hk
   ·exact .inl (List.mem_append.2 (.inr hk))
   ·exact .inr (.inl hk)
end
end Go.Proofs.YtljgggohjigaoaaGreatDoor
