/- The parser's small steps: asked for, skipped, wanted; what can't stand there · The parser's small steps: skipped, wanted · The parser's small steps: a kind wanted; lines · One level deeper: what a function value reads -/
import Derived.Test.YtljgggohjigaoaaGreatDoorSy09
namespace Go.Proofs.YtljgggohjigaoaaGreatDoor
open Go.RowKit Go.Shelf
set_option linter.unusedVariables false

/-- Tokens with their end: it is the last, and no other is one. -/
def GoodT (l : List Tk) : Prop := ∃ l' e, l = l' ++ [e] ∧ e.k = 0 ∧ e.x = ⟨#[]⟩ ∧ ∀ t ∈ l', t.k ≠ 0
theorem GoodT.peek {l : List Tk} (h : GoodT l) (over : Bool) : GoodT (peekL over l) := by
  obtain ⟨l', e, rfl, h1, h2, h3⟩ := h
  cases over with
  | false => exact ⟨l', e, rfl, h1, h2, h3⟩
  | true =>
    unfold peekL
    simp only [if_true]
    induction l' with
    | nil =>
      have : isLine e = false := by simp [isLine, h1]
      exact ⟨[], e, by simp [this], h1, h2, fun t ht => by cases ht⟩
    | cons t l ih =>
      rw [List.cons_append]
      by_cases hl : isLine t = true
      · rw [List.dropWhile_cons_of_pos hl]
        exact ih (fun x hx => h3 x (List.mem_cons_of_mem _ hx))
      · rw [List.dropWhile_cons_of_neg hl]
        exact ⟨t :: l, e, rfl, h1, h2, h3⟩
theorem GoodT.ne {l : List Tk} (h : GoodT l) : l ≠ [] := by obtain ⟨l', e, rfl, -⟩ := h; simp
theorem GoodT.tail {t : Tk} {l : List Tk} (h : GoodT (t :: l)) (hk : t.k ≠ 0) : GoodT l := by
  obtain ⟨l', e, he, h1, h2, h3⟩ := h
  cases l' with
  | nil => simp at he; rw [he.1] at hk; exact absurd h1 hk
  | cons a m =>
    simp at he
    exact ⟨m, e, he.2, h1, h2, fun x hx => h3 x (List.mem_cons_of_mem _ hx)⟩
theorem GoodT.taken {l : List Tk} (h : GoodT l) {over : Bool} (hk : (headT (peekL over l)).k ≠ 0) : GoodT ((peekL over l).drop 1) := by
  have hp := h.peek over
  cases hc : peekL over l with
  | nil => exact absurd hc hp.ne
  | cons t m =>
    rw [hc] at hp hk
    exact hp.tail hk
theorem str_beq (a b : ByteArray) : (a.toList == b.toList) = decide (a = b) := by
  rw [ByteArray.toList_eq, ByteArray.toList_eq]
  by_cases h : a = b
  · subst h; simp
  · rw [decide_eq_false h]
    refine beq_eq_false_iff_ne.2 (fun e => h ?_)
    cases a; cases b
    congr 1
    exact Array.toList_inj.1 e
/-- No word is the end's, if it isn't empty. -/
theorem isW_kind {l : List Tk} (h : GoodT l) {over : Bool} {w : ByteArray} (hw : w ≠ ⟨#[]⟩) (hi : isW w (headT (peekL over l)) = true) : (headT (peekL over l)).k ≠ 0 := by
  obtain ⟨l', e, he, h1, h2, h3⟩ := h.peek over
  rw [he] at hi ⊢
  cases l' with
  | nil =>
    have hx : (headT ([] ++ [e])).x = ⟨#[]⟩ := h2
    unfold isW at hi
    simp only [Bool.and_eq_true, decide_eq_true_eq] at hi
    exact absurd (hi.2.symm.trans hx) hw
  | cons t m => exact h3 t List.mem_cons_self
section
variable {W : World} {P F g dp : Nat} {over : Bool} {l : List Tk}
set_option maxRecDepth 100000 in
set_option maxHeartbeats 4000000 in
theorem pis_any (w : ByteArray) (h : ParAt W P F g dp over l) (hg : GoodT l) : Calls Tryz.prog 102 #[.pointer (some ⟨P, 0, none⟩), .string w] W fun e w' => e = .returned (.bool (isW w (headT (peekL over l)))) ∧ ParAt w' P F g dp over (peekL over l) ∧ Aside P W w' := by
  have HPK := Lib.hid (peek_any h (hg.peek over).ne)
  obtain ⟨t, ht⟩ : ∃ t, headT (peekL over l) = t := ⟨_, rfl⟩
  rw [ht] at HPK ⊢
  obtain ⟨b1, hb1⟩ : ∃ b, (t.k != 3) = b := ⟨_, rfl⟩
  obtain ⟨b2, hb2⟩ : ∃ b, (t.x.toList == w.toList) = b := ⟨_, rfl⟩
  have HI : Hid (isW w t = (b1 && b2)) := Lib.hid (by
    rw [← hb1, ← hb2, str_beq]
    unfold isW
    congr 1
    by_cases h : t.k = 3 <;> simp [h])
  clear h hg ht
  go_enter Tryz.func102, Tryz.ntmps102
  go_wp2_with fail
  go_at_call 52; refine HPK.out.mono ?_; rintro e w2 ⟨rfl, hp2, ha2⟩
  have HP2 := Lib.hid hp2
  have HA2 := Lib.hid ha2
  have hk := Blk.new w2 #[.int .i64 t.k, .string t.x, .int .i64 (t.at_ : Int)] 75
  have v0 := hk.cell 0
  have v1 := hk.cell 1
  have v2 := hk.cell 2
  clear hk hp2 ha2
  cases b1 with
  | false =>
    go_wp2_with fail
    go_ret
    rw [HI.out]
    exact ⟨rfl, HP2.out.below (below_new w2 _), HA2.out.trans (Aside.of (below_new w2 _))⟩
  | true =>
    go_wp2_with fail
    go_ret
    rw [HI.out]
    exact ⟨by first | rfl | simp, HP2.out.below (below_new w2 _), HA2.out.trans (Aside.of (below_new w2 _))⟩
theorem diag_any (c p : Int) (w : World) : Calls Tryz.prog 31 #[.int .i64 c, .int .i64 p] w fun e w' => e = .returned (.pointer (some ⟨w.heap.size, 0, none⟩)) ∧ Blk w' w.heap.size #[.int .i64 c, .string ⟨#[]⟩, .int .i64 p] 34 ∧ Below w.heap.size w w' := by
  go_enter Tryz.func31, Tryz.ntmps31
  go_wp2_with fail
  go_ret
  exact ⟨rfl, Blk.new _ _ _, below_new _ _⟩
set_option maxRecDepth 100000 in
set_option maxHeartbeats 4000000 in
theorem refusal_any (h : ParAt W P F g dp over l) (hg : GoodT l) : Calls Tryz.prog 59 #[.pointer (some ⟨P, 0, none⟩)] W fun e w' => ∃ D, e = .returned (.pointer (some ⟨D, 0, none⟩)) ∧ W.heap.size ≤ D ∧ Blk w' D #[.int .i64 50, .string ⟨#[]⟩, .int .i64 ((headT (peekL over l)).at_ : Int)] 34 ∧ Aside P W w' := by
  have HPK := Lib.hid (peek_any h (hg.peek over).ne)
  obtain ⟨t, ht⟩ : ∃ t, headT (peekL over l) = t := ⟨_, rfl⟩
  rw [ht] at HPK ⊢
  clear h hg ht
  go_enter Tryz.func59, Tryz.ntmps59
  go_wp2_with fail
  go_at_call 52; refine HPK.out.mono ?_; rintro e w2 ⟨rfl, hp2, ha2⟩
  have HA2 := Lib.hid ha2
  have HD := Lib.hid (diag_any 50 (t.at_ : Int) w2)
  have hfl : ∀ w : World, (Instr.field 75 (tkV t) 2).run Tryz.prog w = .ok (.int .i64 (t.at_ : Int)) w := fun _ => rfl
  clear hp2 ha2
  go_wp2_with fail
  go_at_call 31; refine HD.out.mono ?_; rintro e w3 ⟨rfl, hd3, hb3⟩
  go_wp2_with fail
  go_ret
  exact ⟨_, rfl, HA2.out.size, hd3, HA2.out.trans (Aside.of hb3)⟩
end
end Go.Proofs.YtljgggohjigaoaaGreatDoor
namespace Go.Proofs.YtljgggohjigaoaaGreatDoor
open Go.RowKit Go.Shelf
set_option linter.unusedVariables false

/-- What is thrown: a diagnosis in new memory. -/
def ThrewP (W : World) (P : Nat) (bd : Bd) (e : Ending) (w' : World) : Prop := ∃ D, e = .panicked [{ v := .iface 29 (.pointer (some ⟨D, 0, none⟩)), recovered := false }] ∧ W.heap.size ≤ D ∧ Blk w' D #[.int .i64 bd.1, .string ⟨#[]⟩, .int .i64 (bd.2 : Int)] 34 ∧ Aside P W w'
section
variable {W : World} {P F g dp : Nat} {over : Bool} {l : List Tk}
set_option maxRecDepth 100000 in
set_option maxHeartbeats 4000000 in
theorem pskip_no {w : ByteArray} (h : ParAt W P F g dp over l) (hg : GoodT l) (hi : isW w (headT (peekL over l)) = false) : Calls Tryz.prog 74 #[.pointer (some ⟨P, 0, none⟩), .string w] W fun e w' => e = .returned (.bool false) ∧ ParAt w' P F g dp over (peekL over l) ∧ Aside P W w' := by
  have HI := Lib.hid (pis_any w h hg)
  rw [hi] at HI
  clear h hg hi
  go_enter Tryz.func74, Tryz.ntmps74
  go_wp2_with (go_at_call 102; refine HI.out.mono ?_; rintro e w2 ⟨rfl, hp2, ha2⟩)
  go_ret
  exact ⟨rfl, hp2, ha2⟩
set_option maxRecDepth 100000 in
set_option maxHeartbeats 4000000 in
theorem pskip_yes {w : ByteArray} (h : ParAt W P F g dp over l) (hg : GoodT l) (hw : w ≠ ⟨#[]⟩) (hi : isW w (headT (peekL over l)) = true) : Calls Tryz.prog 74 #[.pointer (some ⟨P, 0, none⟩), .string w] W fun e w' => e = .returned (.bool true) ∧ ParAt w' P F g dp over ((peekL over l).drop 1) ∧ Aside P W w' := by
  have HI := Lib.hid (pis_any w h hg)
  have HK := Lib.hid (hg.taken (isW_kind hg hw hi)).ne
  rw [hi] at HI
  clear h hg hi hw
  go_enter Tryz.func74, Tryz.ntmps74
  go_wp2_with (go_at_call 102; refine HI.out.mono ?_; rintro e w2 ⟨rfl, hp2, ha2⟩; refine Hid.out ?_)
  refine Lib.hid ?_
  have HT := Lib.hid (ptake_any hp2 (by rw [peek_idem]; exact HK.out))
  rw [peek_idem] at HT
  have HA2 := Lib.hid ha2
  clear hp2 ha2
  go_wp2_with (go_at_call 53; refine HT.out.mono ?_; rintro e w3 ⟨rfl, hp3, ha3⟩)
  go_ret
  exact ⟨rfl, hp3, HA2.out.trans ha3⟩
set_option maxRecDepth 100000 in
set_option maxHeartbeats 4000000 in
theorem want_yes {w : ByteArray} (h : ParAt W P F g dp over l) (hg : GoodT l) (hw : w ≠ ⟨#[]⟩) (hi : isW w (headT (peekL over l)) = true) : Calls Tryz.prog 99 #[.pointer (some ⟨P, 0, none⟩), .string w] W fun e w' => e = .returned (tkV (headT (peekL over l))) ∧ ParAt w' P F g dp over ((peekL over l).drop 1) ∧ Aside P W w' := by
  have hal := (Below.refl _ W).alloc (Nat.le_refl _) (.cells tk0 75)
  have HS0 : Hid (Blk (W.alloc (.cells tk0 75)) W.heap.size tk0 75 ∧ Below W.heap.size W (W.alloc (.cells tk0 75)) ∧ P < W.heap.size ∧ g < W.heap.size) := Lib.hid ⟨Blk.new _ _ _, hal, h.ranks.1, h.ranks.2.1⟩
  have HI : Hid (Calls Tryz.prog 102 #[.pointer (some ⟨P, 0, none⟩), .string w] (W.alloc (.cells #[.int .i64 0, .string ⟨#[]⟩, .int .i64 0] 75)) (fun e w' => e = .returned (.bool true) ∧ ParAt w' P F g dp over (peekL over l) ∧ Aside P (W.alloc (.cells tk0 75)) w')) := Lib.hid (by
    have := pis_any w (h.below hal) hg
    rw [hi] at this
    exact this)
  have HK := Lib.hid (hg.taken (isW_kind hg hw hi)).ne
  obtain ⟨t, ht⟩ : ∃ t, headT (peekL over l) = t := ⟨_, rfl⟩
  have HHT := Lib.hid ht
  rw [ht]
  clear h hg hi hw hal ht
  go_enter Tryz.func99, Tryz.ntmps99
  go_wp2_with (go_at_call 102; refine HI.out.mono ?_; rintro e w2 ⟨rfl, hp2, ha2⟩; refine Hid.out ?_)
  refine Lib.hid ?_
  have HT := Lib.hid (ptake_any hp2 (by rw [peek_idem]; exact HK.out))
  rw [peek_idem, HHT.out] at HT
  have HA2 := Lib.hid ha2
  have hb2 : Blk w2 W.heap.size tk0 75 := (ha2.block _ HS0.out.1.lt (by have := HS0.out.2.2.1; omega)).trans HS0.out.1
  have HB2 := Lib.hid hb2
  clear hp2 ha2 hb2
  go_wp2_with (go_at_call 53; refine HT.out.mono ?_; rintro e w3 ⟨rfl, hp3, ha3⟩; refine Hid.out ?_)
  refine Lib.hid ?_
  have hb3 : Blk w3 W.heap.size #[.int .i64 0, .string ⟨#[]⟩, .int .i64 0] 75 := (ha3.block _ HB2.out.lt (by have := HS0.out.2.2.1; omega)).trans HB2.out
  have z0 := hb3.cell 0
  have z1 := hb3.cell 1
  have z2 := hb3.cell 2
  have y0 := hb3.frozen 0
  have y1 := hb3.frozen 1
  have y2 := hb3.frozen 2
  have hqe := hb3.put3 (.int .i64 t.k) (.string t.x) (.int .i64 (t.at_ : Int))
  have r0 := hqe.cell 0
  have r1 := hqe.cell 1
  have r2 := hqe.cell 2
  have HP3 := Lib.hid hp3
  have HA3 := Lib.hid ha3
  clear hqe hb3 hp3 ha3
  go_wp2_with fail
  refine bodyPost_ret (by simp [results, Tryz.results99, go_sem, r0, r1, r2]; try rfl) rfl ?_
  have hrk := HP3.out.ranks
  have hP := HS0.out.2.2.1
  have hg : g ≠ W.heap.size := by have := HS0.out.2.2.2; omega
  exact ⟨rfl, HP3.out.same (by simp) (heap3 _ (by omega) _ _ _) (heap3 _ hg _ _ _), ((((((Aside.of HS0.out.2.1).trans HA2.out).trans HA3.out).setFar (Nat.le_refl _) _).setFar (Nat.le_refl _) _).setFar (Nat.le_refl _) _)⟩
set_option maxRecDepth 100000 in
set_option maxHeartbeats 4000000 in
theorem want_no {w : ByteArray} (h : ParAt W P F g dp over l) (hg : GoodT l) (hi : isW w (headT (peekL over l)) = false) : Calls Tryz.prog 99 #[.pointer (some ⟨P, 0, none⟩), .string w] W (ThrewP W P (50, (headT (peekL over l)).at_)) := by
  have hal := (Below.refl _ W).alloc (Nat.le_refl _) (.cells tk0 75)
  have HS0 : Hid (Below W.heap.size W (W.alloc (.cells tk0 75))) := Lib.hid hal
  have HI : Hid (Calls Tryz.prog 102 #[.pointer (some ⟨P, 0, none⟩), .string w] (W.alloc (.cells #[.int .i64 0, .string ⟨#[]⟩, .int .i64 0] 75)) (fun e w' => e = .returned (.bool false) ∧ ParAt w' P F g dp over (peekL over l) ∧ Aside P (W.alloc (.cells tk0 75)) w')) := Lib.hid (by
    have := pis_any w (h.below hal) hg
    rw [hi] at this
    exact this)
  have HG := Lib.hid (hg.peek over)
  clear h hg hi hal
  go_enter Tryz.func99, Tryz.ntmps99
  go_wp2_with (go_at_call 102; refine HI.out.mono ?_; rintro e w2 ⟨rfl, hp2, ha2⟩; refine Hid.out ?_)
  refine Lib.hid ?_
  have HT := Lib.hid (refusal_any hp2 HG.out)
  rw [peek_idem] at HT
  have HA2 := Lib.hid ha2
  clear hp2 ha2
  go_wp2_with (go_at_call 59; refine HT.out.mono ?_; rintro e w3 ⟨D, rfl, hD, hd3, ha3⟩)
  refine ⟨rfl, ?_⟩
  have h1 := HS0.out.size
  have h2 := HA2.out.size
  exact ⟨D, rfl, by omega, hd3, ((Aside.of HS0.out).trans HA2.out).trans ha3⟩
end
end Go.Proofs.YtljgggohjigaoaaGreatDoor
namespace Go.Proofs.YtljgggohjigaoaaGreatDoor
open Go.RowKit Go.Shelf
set_option linter.unusedVariables false

section
variable {W : World} {P F g dp : Nat} {over : Bool} {l : List Tk}
set_option maxRecDepth 100000 in
set_option maxHeartbeats 4000000 in
theorem wkind_yes {k : Int} (hk0 : k ≠ 0) (h : ParAt W P F g dp over l) (hg : GoodT l) (hi : (headT (peekL over l)).k = k) : Calls Tryz.prog 35 #[.pointer (some ⟨P, 0, none⟩), .int .i64 k] W fun e w' => e = .returned (tkV (headT (peekL over l))) ∧ ParAt w' P F g dp over ((peekL over l).drop 1) ∧ Aside P W w' := by
  have hal := (Below.refl _ W).alloc (Nat.le_refl _) (.cells tk0 75)
  have HS0 : Hid (Blk (W.alloc (.cells tk0 75)) W.heap.size tk0 75 ∧ Below W.heap.size W (W.alloc (.cells tk0 75)) ∧ P < W.heap.size ∧ g < W.heap.size) := Lib.hid ⟨Blk.new _ _ _, hal, h.ranks.1, h.ranks.2.1⟩
  obtain ⟨t, ht⟩ : ∃ t, headT (peekL over l) = t := ⟨_, rfl⟩
  have HHT := Lib.hid ht
  have HI : Hid (Calls Tryz.prog 52 #[.pointer (some ⟨P, 0, none⟩)] (W.alloc (.cells #[.int .i64 0, .string ⟨#[]⟩, .int .i64 0] 75)) (fun e w' => e = .returned (tkV t) ∧ ParAt w' P F g dp over (peekL over l) ∧ Aside P (W.alloc (.cells tk0 75)) w')) := Lib.hid (by
    have := peek_any (h.below hal) (hg.peek over).ne
    rw [ht] at this
    exact this)
  have HK := Lib.hid (hg.taken (over := over) (by rw [hi]; exact hk0)).ne
  rw [ht] at hi ⊢
  have e1 : (t.k != k) = false := by simp [hi]
  have hfl : ∀ w : World, (Instr.field 75 (tkV t) 0).run Tryz.prog w = .ok (.int .i64 t.k) w := fun _ => rfl
  clear h hg hi hal ht hk0
  go_enter Tryz.func35, Tryz.ntmps35
  go_wp2_with (go_at_call 52; refine HI.out.mono ?_; rintro e w2 ⟨rfl, hp2, ha2⟩; refine Hid.out ?_)
  refine Lib.hid ?_
  have HT := Lib.hid (ptake_any hp2 (by rw [peek_idem]; exact HK.out))
  rw [peek_idem, HHT.out] at HT
  have HA2 := Lib.hid ha2
  have hb2 : Blk w2 W.heap.size tk0 75 := (ha2.block _ HS0.out.1.lt (by have := HS0.out.2.2.1; omega)).trans HS0.out.1
  have HB2 := Lib.hid hb2
  clear hp2 ha2 hb2
  go_wp2_with (go_at_call 53; refine HT.out.mono ?_; rintro e w3 ⟨rfl, hp3, ha3⟩; refine Hid.out ?_)
  refine Lib.hid ?_
  have hb3 : Blk w3 W.heap.size #[.int .i64 0, .string ⟨#[]⟩, .int .i64 0] 75 := (ha3.block _ HB2.out.lt (by have := HS0.out.2.2.1; omega)).trans HB2.out
  have z0 := hb3.cell 0
  have z1 := hb3.cell 1
  have z2 := hb3.cell 2
  have y0 := hb3.frozen 0
  have y1 := hb3.frozen 1
  have y2 := hb3.frozen 2
  have hqe := hb3.put3 (.int .i64 t.k) (.string t.x) (.int .i64 (t.at_ : Int))
  have r0 := hqe.cell 0
  have r1 := hqe.cell 1
  have r2 := hqe.cell 2
  have HP3 := Lib.hid hp3
  have HA3 := Lib.hid ha3
  clear hqe hb3 hp3 ha3
  go_wp2_with fail
  refine bodyPost_ret (by simp [results, Tryz.results35, go_sem, r0, r1, r2]; try rfl) rfl ?_
  have hrk := HP3.out.ranks
  have hP := HS0.out.2.2.1
  have hg : g ≠ W.heap.size := by have := HS0.out.2.2.2; omega
  exact ⟨rfl, HP3.out.same (by simp) (heap3 _ (by omega) _ _ _) (heap3 _ hg _ _ _), ((((((Aside.of HS0.out.2.1).trans HA2.out).trans HA3.out).setFar (Nat.le_refl _) _).setFar (Nat.le_refl _) _).setFar (Nat.le_refl _) _)⟩
set_option maxRecDepth 100000 in
set_option maxHeartbeats 4000000 in
theorem wkind_no {k : Int} (h : ParAt W P F g dp over l) (hg : GoodT l) (hi : (headT (peekL over l)).k ≠ k) : Calls Tryz.prog 35 #[.pointer (some ⟨P, 0, none⟩), .int .i64 k] W (ThrewP W P (50, (headT (peekL over l)).at_)) := by
  have hal := (Below.refl _ W).alloc (Nat.le_refl _) (.cells tk0 75)
  have HS0 : Hid (Below W.heap.size W (W.alloc (.cells tk0 75))) := Lib.hid hal
  have HG := Lib.hid (hg.peek over)
  obtain ⟨t, ht⟩ : ∃ t, headT (peekL over l) = t := ⟨_, rfl⟩
  have HHT := Lib.hid ht
  have HI : Hid (Calls Tryz.prog 52 #[.pointer (some ⟨P, 0, none⟩)] (W.alloc (.cells #[.int .i64 0, .string ⟨#[]⟩, .int .i64 0] 75)) (fun e w' => e = .returned (tkV t) ∧ ParAt w' P F g dp over (peekL over l) ∧ Aside P (W.alloc (.cells tk0 75)) w')) := Lib.hid (by
    have := peek_any (h.below hal) (hg.peek over).ne
    rw [ht] at this
    exact this)
  rw [ht] at hi ⊢
  have e1 : (t.k != k) = true := by simp [hi]
  have hfl : ∀ w : World, (Instr.field 75 (tkV t) 0).run Tryz.prog w = .ok (.int .i64 t.k) w := fun _ => rfl
  clear h hg hi hal ht
  go_enter Tryz.func35, Tryz.ntmps35
  go_wp2_with (go_at_call 52; refine HI.out.mono ?_; rintro e w2 ⟨rfl, hp2, ha2⟩; refine Hid.out ?_)
  refine Lib.hid ?_
  have HT := Lib.hid (refusal_any hp2 HG.out)
  rw [peek_idem, HHT.out] at HT
  have HA2 := Lib.hid ha2
  clear hp2 ha2
  go_wp2_with (go_at_call 59; refine HT.out.mono ?_; rintro e w3 ⟨D, rfl, hD, hd3, ha3⟩)
  refine ⟨rfl, ?_⟩
  have h1 := HS0.out.size
  have h2 := HA2.out.size
  exact ⟨D, rfl, by omega, hd3, ((Aside.of HS0.out).trans HA2.out).trans ha3⟩
set_option maxRecDepth 100000 in
set_option maxHeartbeats 4000000 in
/-- All lines that are next. -/
theorem lines_any (h : ParAt W P F g dp over l) (hg : GoodT l) : Calls Tryz.prog 51 #[.pointer (some ⟨P, 0, none⟩)] W fun e w' => e = .returned (.bool (linesL over l).1) ∧ ParAt w' P F g dp over (linesL over l).2 ∧ GoodT (linesL over l).2 ∧ Aside P W w' := by
  have HP := Lib.hid h
  have HG := Lib.hid hg
  obtain ⟨R, hR⟩ : ∃ R, (linesL over l) = R := ⟨_, rfl⟩
  have HR := Lib.hid hR
  rw [hR]
  clear h hg hR
  go_enter Tryz.func51, Tryz.ntmps51
  go_wp2_with fail
  go_loopg [3] l.length (fun gf s3 wx => ∃ (l' : List Tk) (b : Bool), s3 = .bool b ∧ Hid (ParAt wx P F g dp over l' ∧ GoodT l' ∧ (b || (linesL over l').1, (linesL over l').2) = R ∧ Aside P W wx) ∧ l'.length ≤ gf)
  case atStart => exact ⟨l, false, rfl, Lib.hid ⟨HP.out, HG.out, by rw [← HR.out]; rfl, Aside.refl _ _⟩, Nat.le_refl _⟩
  case round =>
    obtain ⟨l', b, rfl, HL, hlen⟩ := hrel
    clear HP HG HR
    have HPK := Lib.hid (peek_any HL.out.1 (HL.out.2.1.peek over).ne)
    obtain ⟨t, m, htl⟩ : ∃ t m, peekL over l' = t :: m := by
      cases hc : peekL over l' with
      | nil => exact absurd hc (HL.out.2.1.peek over).ne
      | cons t m => exact ⟨t, m, rfl⟩
    have HTL := Lib.hid htl
    have hht : headT (peekL over l') = t := by rw [htl]; rfl
    rw [hht] at HPK
    have hfl : ∀ w : World, (Instr.field 75 (tkV t) 0).run Tryz.prog w = .ok (.int .i64 t.k) w := fun _ => rfl
    have HHT := Lib.hid hht
    clear htl hht
    by_cases h5 : t.k = 5
    · have e5 : (t.k == 5) = true := by simp [h5]
      have HLI : Hid (isLine t = true) := Lib.hid (by simp [isLine, h5])
      have HK : Hid (GoodT m) := Lib.hid (by
        have := HL.out.2.1.taken (over := over) (by rw [HHT.out, h5]; decide)
        rw [HTL.out] at this
        exact this)
      have HLE : Hid (m.length < l'.length) := Lib.hid (by
        have h1 : (peekL over l').length ≤ l'.length := by
          unfold peekL
          split
          · exact (List.dropWhile_suffix _).length_le
          · exact Nat.le_refl _
        rw [HTL.out] at h1
        simp at h1
        omega)
      have HEQ : Hid (((linesL over l').1 = true) ∧ (linesL over l').2 = (linesL over m).2) := Lib.hid (by
        unfold linesL
        simp only [HTL.out]
        have h1 : headT (t :: m) = t := rfl
        rw [h1, HLI.out]
        simp only [List.isEmpty_cons, Bool.not_false, Bool.and_true, if_true]
        refine ⟨trivial, ?_⟩
        rw [List.dropWhile_cons_of_pos HLI.out]
        cases over with
        | false =>
          show m.dropWhile isLine = (if (isLine (headT m) && !m.isEmpty) = true then (true, m.dropWhile isLine) else (false, m)).2
          split
          · rfl
          · rename_i h
            cases m with
            | nil => rfl
            | cons a q =>
              have : ¬ isLine a = true := by simpa [headT] using h
              rw [List.dropWhile_cons_of_neg this]
        | true =>
          exfalso
          have h2 : peekL true l' = l'.dropWhile isLine := rfl
          have h3 := HTL.out
          rw [h2] at h3
          have := List.head?_dropWhile_not (p := isLine) l'
          rw [h3] at this
          simp [HLI.out] at this)
      clear h5
      obtain ⟨g', rfl⟩ : ∃ g', gk = g' + 1 := ⟨gk - 1, by have := HLE.out; omega⟩
      go_wp2_with fail
      go_at_call 52; refine HPK.out.mono ?_; rintro e w2 ⟨rfl, hp2, ha2⟩
      have HT := Lib.hid (ptake_any hp2 (by rw [peek_idem, HTL.out]; exact HK.out.ne))
      rw [peek_idem, HTL.out] at HT
      have HA2 := Lib.hid ha2
      clear hp2 ha2
      go_wp2_with fail
      go_at_call 53; refine HT.out.mono ?_; rintro e w3 ⟨rfl, hp3, ha3⟩
      have HP3 := Lib.hid hp3
      have HA3 := Lib.hid ha3
      clear hp3 ha3
      go_wp2_with fail
      go_roundg g'
      case measure => omega
      case rel => exact ⟨m, true, rfl, Lib.hid ⟨HP3.out, HK.out, by rw [← HL.out.2.2.1, HEQ.out.1, HEQ.out.2]; simp, (HL.out.2.2.2.trans HA2.out).trans HA3.out⟩, by have := HLE.out; omega⟩
    · have e5 : (t.k == 5) = false := by simp [h5]
      have HE : Hid (linesL over l' = (false, t :: m)) := Lib.hid (by
        unfold linesL
        simp only [HTL.out]
        have h1 : headT (t :: m) = t := rfl
        have h2 : isLine t = false := by simp [isLine, h5]
        rw [h1, h2]
        rfl)
      have HGP : Hid (GoodT (t :: m)) := Lib.hid (by rw [← HTL.out]; exact HL.out.2.1.peek over)
      clear h5
      go_wp2_with fail
      go_at_call 52; refine HPK.out.mono ?_; rintro e w2 ⟨rfl, hp2, ha2⟩
      rw [HTL.out] at hp2
      have HP2 := Lib.hid hp2
      have HA2 := Lib.hid ha2
      clear hp2 ha2
      go_wp2_with fail
      go_ret
      have hq := HL.out.2.2.1
      rw [HE.out] at hq
      rw [← hq]
      exact ⟨by simp, HP2.out, HGP.out, HL.out.2.2.2.trans HA2.out⟩
end
end Go.Proofs.YtljgggohjigaoaaGreatDoor
namespace Go.Proofs.YtljgggohjigaoaaGreatDoor
open Go.RowKit Go.Shelf
set_option linter.unusedVariables false

/-- A closure's ending: it has returned, and the parser's block stands so deep; or it has thrown. -/
def ReadsK (P F dp : Nat) (R : World → Prop) (T : Value → World → Prop) (e : Ending) (w : World) : Prop :=
  (e = .returned (.tuple #[]) ∧ R w ∧ ∃ tv ov, Blk w P #[tv, .bool ov, .int .i64 (dp : Int), .pointer (some ⟨F, 0, none⟩)] 64) ∨ ∃ v, e = .panicked [{ v := v, recovered := false }] ∧ T v w
set_option maxRecDepth 100000 in
set_option maxHeartbeats 4000000 in
theorem deeper_too {W : World} {P F : Nat} {tv : Value} {ov : Bool} (h : Blk W P #[tv, .bool ov, .int .i64 24, .pointer (some ⟨F, 0, none⟩)] 64) (a : Int) (fv : Value) : Calls Tryz.prog 100 #[.pointer (some ⟨P, 0, none⟩), .int .i64 a, fv] W fun e w' => ∃ D, e = .panicked [{ v := .iface 29 (.pointer (some ⟨D, 0, none⟩)), recovered := false }] ∧ W.heap.size ≤ D ∧ Blk w' D #[.int .i64 7, .string ⟨#[]⟩, .int .i64 a] 34 ∧ Below W.heap.size W w' := by
  have k2 := h.cell 2
  have HD := Lib.hid (fun w => diag_any 7 a w)
  clear h
  go_enter Tryz.func100, Tryz.ntmps100
  go_wp2_with (go_at_call 31; refine (HD.out _).mono ?_; rintro e w3 ⟨rfl, hd3, hb3⟩)
  refine ⟨rfl, ?_⟩
  exact ⟨_, rfl, Nat.le_refl _, hd3, hb3⟩
set_option maxRecDepth 100000 in
set_option maxHeartbeats 4000000 in
theorem deeper_any {W : World} {P F dp : Nat} {tv : Value} {ov : Bool} (h : Blk W P #[tv, .bool ov, .int .i64 (dp : Int), .pointer (some ⟨F, 0, none⟩)] 64) (hdp : dp < 24) (a : Int) {g : Nat} {lb : Array Value} (eg : ∀ args w, (callFunc g args).run Tryz.prog w = .ok (.enter g args) w) {R : World → Prop} {T : Value → World → Prop}
    (hc : Calls Tryz.prog g lb (W.setCell ⟨P, 2, none⟩ (.int .i64 ((dp : Int) + 1))) (ReadsK P F (dp + 1) R T)) :
    Calls Tryz.prog 100 #[.pointer (some ⟨P, 0, none⟩), .int .i64 a, .func (.func g) #[] lb] W fun e w' => (e = .returned (.tuple #[]) ∧ ∃ w1, R w1 ∧ (∃ tv' ov', Blk w1 P #[tv', .bool ov', .int .i64 ((dp + 1 : Nat) : Int), .pointer (some ⟨F, 0, none⟩)] 64) ∧ w' = w1.setCell ⟨P, 2, none⟩ (.int .i64 (dp : Int))) ∨ ∃ v, e = .panicked [{ v := v, recovered := false }] ∧ T v w' := by
  have k2 := h.cell 2
  have f2 := h.frozen 2
  have e24 : ((dp : Int) == 24) = false := by simp; omega
  have i0 : (dp : Int) < 24 := by omega
  have HC := Lib.hid hc
  clear h hc
  go_enter Tryz.func100, Tryz.ntmps100
  go_wp2_with fail
  go_at_fn g; refine HC.out.mono ?_
  rintro e w2 (⟨rfl, hR, tv', ov', hB⟩ | ⟨v, rfl, hT⟩)
  · have b2 := hB.cell 2
    have g2 := hB.frozen 2
    have HR2 := Lib.hid hR
    have HB2 := Lib.hid hB
    have i3 : ((dp : Int) + 1) - 1 = (dp : Int) := by omega
    rw [show ((dp + 1 : Nat) : Int) = (dp : Int) + 1 by omega] at b2
    clear hR hB
    go_wp2_with fail
    first | go_end0 | go_ret
    exact .inl ⟨rfl, w2, HR2.out, ⟨tv', ov', HB2.out⟩, rfl⟩
  · refine ⟨rfl, ?_⟩
    exact .inr ⟨v, rfl, hT⟩
end Go.Proofs.YtljgggohjigaoaaGreatDoor
