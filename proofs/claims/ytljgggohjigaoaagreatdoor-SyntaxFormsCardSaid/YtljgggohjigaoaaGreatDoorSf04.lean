/- SyntaxForms: the counters, and the cut · SyntaxForms: a text with something wrong · SyntaxForms: what the file's parts are worth -/
import Derived.OwnWalk
import Derived.Deep.AppendLies
import Derived.Deep.RegionWith
import Derived.Deep.RegionHeld
import Derived.Test.YtljgggohjigaoaaGreatDoorSf03
import Derived.Test.YtljgggohjigaoaaGreatDoorSy39
namespace Go.Proofs.YtljgggohjigaoaaGreatDoor
open Go.RowKit Go.Shelf
set_option linter.unusedVariables false
set_option linter.unusedSimpArgs false

/-- Counters of what a row holds. -/
def Cnt (w : World) (g n : Nat) (L : List Nat) : Prop := ∃ cs, Blk w g cs 3 ∧ (∀ j, j < n → cs[j]? = some (.int .i64 (L.count j : Int))) ∧ cs.size = n
theorem Cnt.cell {w : World} {g n : Nat} {L : List Nat} (h : Cnt w g n L) {j : Nat} (hj : j < n) : w.cell? ⟨g, j, none⟩ = some (.int .i64 (L.count j : Int)) := by
  obtain ⟨cs, h1, h2, h3⟩ := h
  rw [h1.cell, h2 j hj]
theorem Cnt.frozen {w : World} {g n : Nat} {L : List Nat} (h : Cnt w g n L) (j : Nat) : w.frozen? ⟨g, j, none⟩ = false := by
  obtain ⟨cs, h1, h2, h3⟩ := h
  exact h1.frozen j
theorem Cnt.lt {w : World} {g n : Nat} {L : List Nat} (h : Cnt w g n L) : g < w.heap.size := by
  obtain ⟨cs, h1, h2, h3⟩ := h
  exact h1.lt
theorem Cnt.same {w w' : World} {g n : Nat} {L : List Nat} (h : Cnt w g n L) (hs : w'.heap[g]? = w.heap[g]?) : Cnt w' g n L := by
  obtain ⟨cs, h1, h2, h3⟩ := h
  exact ⟨cs, hs.trans h1, h2, h3⟩
theorem Cnt.inc {w : World} {g n : Nat} {L : List Nat} (h : Cnt w g n L) (a : Nat) : Cnt (w.setCell ⟨g, a, none⟩ (.int .i64 ((L.count a : Int) + 1))) g n (L ++ [a]) := by
  obtain ⟨cs, h1, h2, h3⟩ := h
  refine ⟨_, h1.set a _, fun j hj => ?_, by rw [Array.size_setIfInBounds]; exact h3⟩
  have hs := (Array.getElem?_eq_some_iff.1 (h2 j hj)).1
  rw [Array.getElem?_setIfInBounds, List.count_append, List.count_cons, List.count_nil]
  by_cases e : a = j
  · subst e
    rw [if_pos rfl, if_pos hs, if_pos (by simp)]
    simp
  · rw [if_neg e, if_neg (by simpa using e), h2 j hj]
    simp
theorem Cnt.made {w : World} {lo g n : Nat} (h : w.ownsRow lo 3 1 (.slice (some ⟨g, 0, none⟩) n n) n (madeCells (Value.int .i64 0).cells (n * 1)).toList) : Cnt w g n [] := by
  have e : (madeCells (Value.int .i64 0).cells (n * 1)).toList = List.replicate n (.int .i64 0) := by
    rw [Nat.mul_one]
    show (madeCells #[.int .i64 0] n).toList = _
    rw [toList_madeCells_one]
  rw [e] at h
  obtain ⟨h1, ⟨h2, h3⟩ | ⟨g', cap, cur, h2, h3, h4, h5, h6, h7, h8⟩⟩ := h
  · cases h2
  · injection h2 with h2 _ h2c
    injection h2 with h2
    injection h2 with h2
    subst h2
    subst h2c
    refine ⟨cur, h4, fun j hj => ?_, by simpa using h7⟩
    rw [List.take_of_length_le (by simp [h7])] at h8
    have : cur.toList[j]? = some (.int .i64 0) := by rw [h8, List.getElem?_replicate, if_pos hj]
    simpa using this
/-- A row in which all was counted once. -/
theorem Cnt.ones {w : World} {g n base : Nat} {L : List Nat} (h : Cnt w g n L) (hb : base ≤ g) (hn : n ≤ 1000000) (h1 : ∀ j, j < n → L.count j = 1) : w.ownsRow base 3 1 (.slice (some ⟨g, 0, none⟩) n n) n (List.replicate n (.int .i64 1)) := by
  obtain ⟨cs, h2, h3, h4⟩ := h
  have hcs : cs.toList = List.replicate n (.int .i64 1) := by
    refine List.ext_getElem? fun j => ?_
    by_cases hj : j < n
    · rw [Array.getElem?_toList, h3 j hj, h1 j hj, List.getElem?_replicate, if_pos hj]; rfl
    · rw [List.getElem?_eq_none (by simp; omega), List.getElem?_eq_none (by simp; omega)]
  refine ⟨by simp, .inr ⟨g, n, cs, rfl, hb, h2, Nat.le_refl _, by unfold maxLen; omega, by omega, ?_⟩⟩
  rw [List.take_of_length_le (by simp; omega)]
  exact hcs
/-- Where the walk stands: w5 is the world in which the counters are made. -/
structure FSt (w5 wx : World) (g5 g6 nE nB : Nat) (L5 L6 : List Nat) : Prop where
  below : Below w5.heap.size w5 wx
  c5 : Cnt wx g5 nE L5
  c6 : Cnt wx g6 nB L6
  h5 : w5.heap.size ≤ g5
  h6 : w5.heap.size ≤ g6
  ne : g5 ≠ g6
section
variable {w5 wx w' : World} {g5 g6 nE nB : Nat} {L5 L6 : List Nat}
theorem FSt.more (h : FSt w5 wx g5 g6 nE nB L5 L6) (hb : Below wx.heap.size wx w') : FSt w5 w' g5 g6 nE nB L5 L6 :=
  ⟨h.below.trans (hb.mono h.below.size), h.c5.same (hb.block _ h.c5.lt), h.c6.same (hb.block _ h.c6.lt), h.h5, h.h6, h.ne⟩
theorem FSt.inc5 (h : FSt w5 wx g5 g6 nE nB L5 L6) (a : Nat) : FSt w5 (wx.setCell ⟨g5, a, none⟩ (.int .i64 ((L5.count a : Int) + 1))) g5 g6 nE nB (L5 ++ [a]) L6 :=
  ⟨h.below.setCell (by exact h.h5) _, h.c5.inc a, h.c6.same (Below.heap_setCell _ _ _ _ (by exact Ne.symm h.ne)), h.h5, h.h6, h.ne⟩
theorem FSt.inc6 (h : FSt w5 wx g5 g6 nE nB L5 L6) (a : Nat) : FSt w5 (wx.setCell ⟨g6, a, none⟩ (.int .i64 ((L6.count a : Int) + 1))) g5 g6 nE nB L5 (L6 ++ [a]) :=
  ⟨h.below.setCell (by exact h.h6) _, h.c5.same (Below.heap_setCell _ _ _ _ (by exact h.ne)), h.c6.inc a, h.h5, h.h6, h.ne⟩
end
theorem cut_any {W : World} (t : ByteArray) : Calls Tryz.prog 10 #[.string t] W fun e w' => e = .returned (.string (t.extract 0 (min t.size 6000))) ∧ w' = W := by
  have i0 : (0 : Int) ≤ ((min t.size 6000 : Nat) : Int) := by omega
  have i1 : ((min t.size 6000 : Nat) : Int) ≤ (t.size : Int) := by omega
  have e1 : min (t.size : Int) 6000 = ((min t.size 6000 : Nat) : Int) := by omega
  go_enter Tryz.func10, Tryz.ntmps10
  go_wp2_with fail
  go_ret
  exact ⟨rfl, rfl⟩
end Go.Proofs.YtljgggohjigaoaaGreatDoor
namespace Go.Proofs.YtljgggohjigaoaaGreatDoor
open Go.RowKit Go.Shelf
set_option linter.unusedVariables false
set_option linter.unusedSimpArgs false

set_option maxRecDepth 100000 in
set_option maxHeartbeats 4000000 in
theorem forms_bad {W : World} {t : ByteArray} {bd : Bd} (hp : parseF (t.extract 0 (min t.size 6000)) = .error bd) (hR : ReadyP W) :
    Calls Tryz.prog 3 #[.string t] W fun e w' => e = .returned (.bool true) ∧ Below W.heap.size W w' := by
  have hpl := parse_place hp
  have HC := Lib.hid (fun w => cut_any (W := w) t)
  obtain ⟨u, hu⟩ : ∃ u, t.extract 0 (min t.size 6000) = u := ⟨_, rfl⟩
  rw [hu] at hp hpl HC
  have HP : Hid (∀ w, ReadyP w → Calls Tryz.prog 11 #[.string u] w (ParE w (.error bd))) := Lib.hid (fun w hw => by
    have := parse_any (t := u) hw
    rw [hp] at this
    exact this)
  have HA := Lib.hid (awake5 hR)
  have HR := Lib.hid hR
  have i0 : (0 : Int) ≤ (bd.2 : Int) := by omega
  have i1 : (bd.2 : Int) ≤ (u.size : Int) := by omega
  clear hp hpl hR hu
  go_enter Tryz.func3, Tryz.ntmps3
  go_wp2_with fail
  go_at_call 9; refine HA.out.mono ?_; rintro r w1 ⟨rfl, hb1⟩
  have HB1 := Lib.hid hb1
  have HCL := Lib.hid (HP.out w1 (HR.out.below hb1))
  clear hb1 HA HP HR
  go_wp2_with fail
  go_at_call 10; refine (HC.out w1).mono ?_; rintro r w2 ⟨rfl, rfl⟩
  clear HC
  go_wp2_with fail
  go_at_call 11; refine HCL.out.mono ?_
  rintro r w4 ⟨hb4, D, rfl, hD, hdb⟩
  have s45 := below_new w4 (.cells #[.slice none 0 0, .slice none 0 0, .slice none 0 0] 28)
  have b5 := Blk.new w4 #[.slice none 0 0, .slice none 0 0, .slice none 0 0] 28
  have k0 := b5.cell 0
  have k1 := b5.cell 1
  have k2 := b5.cell 2
  have d2 := (hdb.below s45).cell 2
  have HB5 := Lib.hid (HB1.out.trans ((hb4.mono HB1.out.size).trans (s45.mono (Nat.le_trans HB1.out.size hb4.size))))
  clear b5 s45 hb4 hdb hD HCL
  go_wp2_with fail
  go_ret
  exact ⟨rfl, HB5.out⟩
end Go.Proofs.YtljgggohjigaoaaGreatDoor
namespace Go.Proofs.YtljgggohjigaoaaGreatDoor
open Go.RowKit Go.Shelf
set_option linter.unusedVariables false

theorem short_of : ∀ (n : Nat) (l : List Nat), (∀ x ∈ l, x < n) → (∀ x, l.count x ≤ 1) → l.length ≤ n := by
  intro n
  induction n with
  | zero =>
    intro l h _
    cases l with
    | nil => exact Nat.le_refl _
    | cons a b => exact absurd (h a List.mem_cons_self) (Nat.not_lt_zero _)
  | succ n ih =>
    intro l h hc
    have h1 := ih (l.filter fun x => x != n) (fun x hx => by
      obtain ⟨h2, h3⟩ := List.mem_filter.1 hx
      have := h x h2
      have h4 : x ≠ n := by simpa using h3
      omega) (fun x => Nat.le_trans (List.Sublist.count_le _ List.filter_sublist) (hc x))
    have h2 := List.length_eq_countP_add_countP (fun x => x != n) (l := l)
    rw [← List.countP_eq_length_filter] at h1
    have h3 : l.countP (fun a => decide ¬ ((a != n) = true)) = l.count n := by
      unfold List.count
      refine List.countP_congr fun x _ => ?_
      simp
    have := hc n
    omega
theorem whole_dec : Dec 24 0 wholeM := by
  unfold wholeM
  refine (Dec.bind (e := 0) (items_dec (fun n x => ?_) ()) fun _ => (Dec.bind (e := 0) Dec.kind0 fun _ => Dec.pure).mono (by omega)).mono (by omega)
  exact Dec.mono (c := 0 + 0) (e := -1) (Dec.bind (c := 0) (e := 0) (block_dec 24 n) fun i s hS => Res.ok (List.suffix_refl _) (by show (pot s : Int) + 0 ≤ pot s; omega)) (by omega)
theorem parse_len {t : ByteArray} {f : Fi} (h : parseF t = .ok f) : f.exprs.length + f.blocks.length ≤ t.size ∧ t.size ≤ 16384 := by
  unfold parseF at h
  cases hs : scanL t with
  | error e => rw [hs] at h; cases h
  | ok l =>
    rw [hs] at h
    simp only at h
    cases hw : wholeM (⟨l ++ [endT t.size], false, ⟨[], [], []⟩⟩ : Ps) with
    | error e => rw [hw] at h; cases h
    | ok y =>
      obtain ⟨u, s⟩ := y
      rw [hw] at h
      cases h
      have h1 := scan_snd 24 t.size 0 hs
      rw [shift0] at h1
      have h2 := (whole_dec _ h1 u s hw).2
      have h3 := (scan_wt hs).1
      have h5 : wts (l ++ [endT t.size]) = wts l := by
        rw [wts_append]
        have : wts [endT t.size] = 0 := rfl
        omega
      unfold Go.Proofs.YtljgggohjigaoaaGreatDoor.pot at h2
      simp only [List.length_nil] at h2
      exact ⟨by omega, (scan_pos hs).1⟩
section
variable {N : Nat} {f : Fi}
theorem FOk.once {E : List Nat} (h : FOk N f [] []) (x : Nat) (hE : E.Sublist (useE f)) : E.count x ≤ 1 := by
  refine Nat.le_trans (hE.count_le x) ?_
  by_cases hx : x < f.exprs.length
  · have := h.oneE x hx; simp at this; omega
  · rw [count_none h.usedE (by omega)]; omega
theorem FOk.onceB {E : List Nat} (h : FOk N f [] []) (x : Nat) (hE : E.Sublist (useB f)) : E.count x ≤ 1 := by
  refine Nat.le_trans (hE.count_le x) ?_
  by_cases hx : x < f.blocks.length
  · have := h.oneB x hx; simp at this; omega
  · rw [count_none h.usedB (by omega)]; omega
/-- What is used by the first expressions, and the first parts of the next. -/
def preA (f : Fi) (i j : Nat) : List Nat := (f.exprs.take i).flatMap Ex.args ++ match f.exprs[i]? with
  | none => []
  | some e => e.args.take j
theorem flat_sub {α : Type} {g : α → List Nat} {l : List α} {i : Nat} {x : α} (h : l[i]? = some x) : l.flatMap g = (l.take i).flatMap g ++ (g x ++ (l.drop (i + 1)).flatMap g) := by
  have hi := (List.getElem?_eq_some_iff.1 h).1
  have hx : l[i] = x := (List.getElem?_eq_some_iff.1 h).2
  conv => lhs; rw [← List.take_append_drop i l, List.drop_eq_getElem_cons hi, hx]
  simp [List.flatMap_append, List.flatMap_cons]
theorem flat_take {α : Type} {g : α → List Nat} {l : List α} {i : Nat} {x : α} (h : l[i]? = some x) : (l.take (i + 1)).flatMap g = (l.take i).flatMap g ++ g x := by
  have hi := (List.getElem?_eq_some_iff.1 h).1
  have hx : l[i] = x := (List.getElem?_eq_some_iff.1 h).2
  rw [List.take_add_one, List.getElem?_eq_getElem hi, hx]
  simp [List.flatMap_append]
theorem make_cnt (w : World) (n : Nat) (hn : n ≤ 1000000) : ∃ w', (Instr.makeSlice 26 (.int .i64 (n : Int)) (.int .i64 (n : Int))).run Tryz.prog w = .ok (.slice (some ⟨w.heap.size, 0, none⟩) n n) w' ∧ Cnt w' w.heap.size n [] ∧ Below w.heap.size w w' := by
  obtain ⟨iI, hiI, hzI, hsI, hbI⟩ := info_of infoInt0
  obtain ⟨w', h1, h2, h3⟩ := run_make_full (P := Tryz.prog) (w := w) w.heap.size 26 3 iI (.int .i64 0) 1 Tryz.underlying26 hiI hzI hsI .i64 .i64 n (by rw [hbI]; omega) (by unfold maxLen; omega) (Nat.le_refl _)
  exact ⟨w', h1, Cnt.made h2, ⟨h3.os, h3.tape, h3.output, h3.size, fun k hk => h3.block k hk (by intro h; cases h)⟩⟩
theorem make_cnt_drew (w : World) (n : Nat) (hn : n ≤ 1000000) : ∃ w', (Instr.makeSlice 26 (.int .i64 (n : Int)) (.int .i64 (n : Int))).run Tryz.prog w.drew = .ok (.slice (some ⟨w.heap.size, 0, none⟩) n n) w' ∧ Cnt w' w.heap.size n [] ∧ Below w.heap.size w w' := by
  obtain ⟨w', h1, h2, h3⟩ := make_cnt w.drew n hn
  exact ⟨w', h1, h2, (Below.refl _ w).drew.trans h3⟩
theorem take_snoc {l : List Nat} {j a : Nat} (h : l[j]? = some a) : l.take (j + 1) = l.take j ++ [a] := by
  rw [List.take_add_one, h]
  rfl
theorem subA {i : Nat} {e : Ex} (h : f.exprs[i]? = some e) (j : Nat) : ((f.exprs.take i).flatMap Ex.args ++ e.args.take j).Sublist (useE f) := by
  unfold useE
  rw [flat_sub h]
  exact ((List.Sublist.refl _).append ((List.take_sublist j _).trans (List.sublist_append_left _ _))).trans (List.sublist_append_left _ _)
theorem subT {i : Nat} {b : Bl} (h : f.blocks[i]? = some b) (j : Nat) : ((f.exprs.flatMap Ex.args ++ (f.blocks.take i).flatMap (fun b => b.attrs.map AtS.e)) ++ (b.attrs.map AtS.e).take j).Sublist (useE f) := by
  unfold useE
  rw [flat_sub (g := fun b : Bl => b.attrs.map AtS.e) h, ← List.append_assoc]
  exact (List.Sublist.refl _).append ((List.take_sublist j _).trans (List.sublist_append_left _ _))
theorem subB {i : Nat} {b : Bl} (h : f.blocks[i]? = some b) (j : Nat) : ((f.blocks.take i).flatMap Bl.blocks ++ b.blocks.take j).Sublist (useB f) := by
  unfold useB
  rw [flat_sub h]
  exact ((List.Sublist.refl _).append ((List.take_sublist j _).trans (List.sublist_append_left _ _))).trans (List.sublist_append_left _ _)
theorem subK (j : Nat) : (f.blocks.flatMap Bl.blocks ++ f.top.take j).Sublist (useB f) := (List.Sublist.refl _).append (List.take_sublist j _)
theorem FOk.lenA (h : FOk N f [] []) {i : Nat} {e : Ex} (he : f.exprs[i]? = some e) : e.args.length ≤ i := short_of i _ (h.args i e he) fun x => h.once x ((List.sublist_append_right ((f.exprs.take i).flatMap Ex.args) e.args).trans (by have := subA he e.args.length; rw [List.take_length] at this; exact this))
theorem FOk.lenT (h : FOk N f [] []) {i : Nat} {b : Bl} (hb : f.blocks[i]? = some b) : b.attrs.length ≤ f.exprs.length := by
  have h1 := short_of f.exprs.length (b.attrs.map AtS.e) (fun x hx => by
    obtain ⟨a, ha, rfl⟩ := List.mem_map.1 hx
    exact (h.attrs b (List.mem_of_getElem? hb) a ha).1) fun x => h.once x ((List.sublist_append_right _ (b.attrs.map AtS.e)).trans (by have := subT hb (b.attrs.map AtS.e).length; rw [List.take_length] at this; exact this))
  rw [List.length_map] at h1
  exact h1
theorem FOk.lenB (h : FOk N f [] []) {i : Nat} {b : Bl} (hb : f.blocks[i]? = some b) : b.blocks.length ≤ i := short_of i _ (h.blocks i b hb) fun x => h.onceB x ((List.sublist_append_right ((f.blocks.take i).flatMap Bl.blocks) b.blocks).trans (by have := subB hb b.blocks.length; rw [List.take_length] at this; exact this))
theorem FOk.lenK (h : FOk N f [] []) : f.top.length ≤ f.blocks.length := short_of _ _ h.top fun x => h.onceB x ((List.sublist_append_right (f.blocks.flatMap Bl.blocks) f.top).trans (by have := subK (f := f) f.top.length; rw [List.take_length] at this; exact this))
end
end Go.Proofs.YtljgggohjigaoaaGreatDoor
