/- Two files held against one another: rows of numbers, rows of texts · Same: two cells that are made and written · What the parser makes is used once, ahead of what uses it, and stands within the text: the file's side · What the parser makes is used once: its pieces -/
import Derived.Deep.QuietTactic
import Derived.BigQuiet
import Derived.Deep.RegionWith
import Derived.Deep.RegionHeld
import Derived.Test.YtljgggohjigaoaaGreatDoorSk12
import Derived.Test.YtljgggohjigaoaaGreatDoorSk27
import Derived.Test.YtljgggohjigaoaaGreatDoorSk33
namespace Go.Proofs.YtljgggohjigaoaaGreatDoor
open Go.RowKit Go.Shelf
set_option linter.unusedVariables false
set_option linter.unusedSimpArgs false

theorem below_drw2 {B n : Nat} {W w : World} (h : Below B W w) : Below B W (w.drewN n) := ⟨h.os, h.tape, h.output, h.size, h.block⟩
set_option maxRecDepth 100000 in
set_option maxHeartbeats 4000000 in
theorem ints_same {W : World} {v v' : Value} {n : Nat} {l : List Nat} (h : RowR W v n (intsV l)) (h' : RowR W v' n (intsV l)) (hn : l.length = n) (hb : n ≤ 9223372036854775807) :
  Calls Tryz.prog 21 #[v, v'] W fun e w' => e = .returned (.bool true) ∧ Below W.heap.size W w' := by
 obtain ⟨⟨ad, cap, rfl⟩, hr⟩ := h
 obtain ⟨⟨ad', cap', rfl⟩, hr'⟩ := h'
 have HR := Lib.hid (And.intro hr hr')
 clear hr hr'
 go_enter Tryz.func21, Tryz.ntmps21
 go_wp2_with fail
 go_loopg [13] (n + 1) (fun gf s13 wx => ∃ j : Nat, s13 = .int .i64 (j : Int) ∧ Hid (Below W.heap.size W wx) ∧ j + gf = n + 1)
 case atStart => exact ⟨0, rfl, Lib.hid (Below.refl _ _), by omega⟩
 case round =>
  obtain ⟨j, rfl, HB, hgf⟩ := hrel
  by_cases hj : j < n
  ·obtain ⟨g', rfl⟩ : ∃ g', gk = g' + 1 := ⟨gk - 1, by omega⟩
   obtain ⟨a, ha⟩ : ∃ a, l[j]? = some a := ⟨_, List.getElem?_eq_getElem (by omega)⟩
   have hv : (intsV l)[j]? = some (.int .i64 (a : Int)) := by unfold intsV; rw [List.getElem?_map, ha]; rfl
   rcases HR.out.1 with h0 | ⟨g1, c1, e1, hc1, -, hr1⟩
   ·omega
   rcases HR.out.2 with h0 | ⟨g2, c2, e2, hc2, -, hr2⟩
   ·omega
   cases e1
   cases e2
   have v1 := cells_keep HB.out (hr1 j _ hv)
   have v2 := cells_keep HB.out (hr2 j _ hv)
   have u6 : (j : Int) < (n : Int) := by omega
   have u7 : (0 : Int) ≤ (j : Int) := by omega
   clear hr1 hr2 hv ha
   go_wp2_with fail
   go_quiet (fail)
   go_wp2_with fail
   go_roundg g'
   case measure => omega
   case rel => exact ⟨j + 1, by push_cast; rfl, Lib.hid (below_drw2 HB.out), by omega⟩
  ·have u6 : ¬ (j : Int) < (n : Int) := by omega
   go_wp2_with fail
   go_ret
   exact ⟨rfl, HB.out⟩
set_option maxRecDepth 100000 in
set_option maxHeartbeats 4000000 in
theorem texts_same {W : World} {v v' : Value} {n : Nat} {l : List ByteArray} (h : RowR W v n (l.map Value.string)) (h' : RowR W v' n (l.map Value.string)) (hn : l.length = n) (hb : n ≤ 9223372036854775807) :
  Calls Tryz.prog 22 #[v, v'] W fun e w' => e = .returned (.bool true) ∧ Below W.heap.size W w' := by
 obtain ⟨⟨ad, cap, rfl⟩, hr⟩ := h
 obtain ⟨⟨ad', cap', rfl⟩, hr'⟩ := h'
 have HR := Lib.hid (And.intro hr hr')
 clear hr hr'
 go_enter Tryz.func22, Tryz.ntmps22
 go_wp2_with fail
 go_loopg [13] (n + 1) (fun gf s13 wx => ∃ j : Nat, s13 = .int .i64 (j : Int) ∧ Hid (Below W.heap.size W wx) ∧ j + gf = n + 1)
 case atStart => exact ⟨0, rfl, Lib.hid (Below.refl _ _), by omega⟩
 case round =>
  obtain ⟨j, rfl, HB, hgf⟩ := hrel
  by_cases hj : j < n
  ·obtain ⟨g', rfl⟩ : ∃ g', gk = g' + 1 := ⟨gk - 1, by omega⟩
   obtain ⟨a, ha⟩ : ∃ a, l[j]? = some a := ⟨_, List.getElem?_eq_getElem (by omega)⟩
   have hv : (l.map Value.string)[j]? = some (.string a) := by rw [List.getElem?_map, ha]; rfl
   rcases HR.out.1 with h0 | ⟨g1, c1, e1, hc1, -, hr1⟩
   ·omega
   rcases HR.out.2 with h0 | ⟨g2, c2, e2, hc2, -, hr2⟩
   ·omega
   cases e1
   cases e2
   have v1 := cells_keep HB.out (hr1 j _ hv)
   have v2 := cells_keep HB.out (hr2 j _ hv)
   have u6 : (j : Int) < (n : Int) := by omega
   have u7 : (0 : Int) ≤ (j : Int) := by omega
   clear hr1 hr2 hv ha
   go_wp2_with fail
   go_quiet (fail)
   go_wp2_with fail
   go_roundg g'
   case measure => omega
   case rel => exact ⟨j + 1, by push_cast; rfl, Lib.hid (below_drw2 HB.out), by omega⟩
  ·have u6 : ¬ (j : Int) < (n : Int) := by omega
   go_wp2_with fail
   go_ret
   exact ⟨rfl, HB.out⟩
/-- A file that is read. -/
structure FileRd (w : World) (ev bv tv : Value) (f : Fi) : Prop where
 sv : ∃ a c, ev = .slice a f.exprs.length c
 su : ∃ a c, bv = .slice a f.blocks.length c
 top : RowR w tv f.top.length (intsV f.top)
 exprs : f.exprs.length = 0 ∨ ∃ g cap, ev = .slice (some ⟨g, 0, none⟩) f.exprs.length cap ∧ f.exprs.length ≤ cap ∧ ∀ i e, f.exprs[i]? = some e → ∃ av kv, ExR w g i e av kv
 blocks : f.blocks.length = 0 ∨ ∃ g cap, bv = .slice (some ⟨g, 0, none⟩) f.blocks.length cap ∧ f.blocks.length ≤ cap ∧ ∀ i b, f.blocks[i]? = some b → ∃ lv av bv, BlR w g i b lv av bv
theorem FileRd.below {w w' : World} {ev bv tv : Value} {f : Fi} (h : FileRd w ev bv tv f) (hb : Below w.heap.size w w') : FileRd w' ev bv tv f := by
 refine ⟨h.sv, h.su, h.top.below hb, ?_, ?_⟩
 ·rcases h.exprs with h0 | ⟨g, cap, h1, h2, h3⟩
  ·exact .inl h0
  ·exact .inr ⟨g, cap, h1, h2, fun i e hi => by
    obtain ⟨av, kv, h4⟩ := h3 i e hi
    exact ⟨av, kv, h4.below hb⟩⟩
 ·rcases h.blocks with h0 | ⟨g, cap, h1, h2, h3⟩
  ·exact .inl h0
  ·exact .inr ⟨g, cap, h1, h2, fun i b hi => by
    obtain ⟨lv, av, bv, h4⟩ := h3 i b hi
    exact ⟨lv, av, bv, h4.below hb⟩⟩
theorem FileOk.rd {w : World} {F lo : Nat} {m : FileM} {f : Fi} (h : FileOk w F lo m f) : FileRd w m.ev m.bv m.tv f := by
 refine ⟨h.slices.1, h.slices.2.1, row_read h.top, ?_, ?_⟩
 ·rcases Nat.eq_zero_or_pos f.exprs.length with h0 | h0
  ·exact .inl h0
  ·obtain ⟨g, cap, av, kv, h1, h2, -⟩ := h.ex (List.getElem?_eq_getElem h0)
   exact .inr ⟨g, cap, h1, h2, fun i e hi => h.ex2 h1 hi⟩
 ·rcases Nat.eq_zero_or_pos f.blocks.length with h0 | h0
  ·exact .inl h0
  ·obtain ⟨g, cap, lv, av, bv, h1, h2, -⟩ := h.bl (List.getElem?_eq_getElem h0)
   refine .inr ⟨g, cap, h1, h2, fun i b hi => ?_⟩
   obtain ⟨g', cap', lv', av', bv', h3, -, h4⟩ := h.bl hi
   rw [h1] at h3
   cases h3
   exact ⟨lv', av', bv', h4⟩
/-- The same, but for places where these don't count. -/
structure ExLike (wh : Bool) (e e' : Ex) : Prop where
 k : e.k = e'.k
 x : e.x = e'.x
 args : e.args = e'.args
 keys : e.keys = e'.keys
 at_ : wh = true → e.at_ = e'.at_
structure AtLike (wh : Bool) (a a' : AtS) : Prop where
 n : a.n = a'.n
 e : a.e = a'.e
 at_ : wh = true → a.at_ = a'.at_
structure BlLike (wh : Bool) (b b' : Bl) : Prop where
 t : b.t = b'.t
 labels : b.labels = b'.labels
 blocks : b.blocks = b'.blocks
 len : b.attrs.length = b'.attrs.length
 attrs : ∀ (j : Nat) (a a' : AtS), b.attrs[j]? = some a → b'.attrs[j]? = some a' → AtLike wh a a'
 at_ : wh = true → b.at_ = b'.at_
structure FiLike (wh : Bool) (f f' : Fi) : Prop where
 nE : f.exprs.length = f'.exprs.length
 nB : f.blocks.length = f'.blocks.length
 top : f.top = f'.top
 exprs : ∀ (i : Nat) (e e' : Ex), f.exprs[i]? = some e → f'.exprs[i]? = some e' → ExLike wh e e'
 blocks : ∀ (i : Nat) (b b' : Bl), f.blocks[i]? = some b → f'.blocks[i]? = some b' → BlLike wh b b'
end Go.Proofs.YtljgggohjigaoaaGreatDoor
namespace Go.Proofs.YtljgggohjigaoaaGreatDoor
open Go.RowKit Go.Shelf
set_option linter.unusedVariables false
set_option linter.unusedSimpArgs false

theorem Blk.put5 {W : World} {B : Nat} {a0 a1 a2 a3 a4 : Value} {t : TypeId} (h : Blk W B #[a0, a1, a2, a3, a4] t) (b0 b1 b2 b3 b4 : Value) : Blk (((((W.setCell ⟨B, 0, none⟩ b0).setCell ⟨B, 1, none⟩ b1).setCell ⟨B, 2, none⟩ b2).setCell ⟨B, 3, none⟩ b3).setCell ⟨B, 4, none⟩ b4) B #[b0, b1, b2, b3, b4] t := by
 have h1 := ((((h.set 0 b0).set 1 b1).set 2 b2).set 3 b3).set 4 b4
 simpa using h1
theorem Blk.far5 {W : World} {B C : Nat} {cs : Array Value} {t : TypeId} (h : Blk W C cs t) (hne : C ≠ B) (b0 b1 b2 b3 b4 : Value) : Blk (((((W.setCell ⟨B, 0, none⟩ b0).setCell ⟨B, 1, none⟩ b1).setCell ⟨B, 2, none⟩ b2).setCell ⟨B, 3, none⟩ b3).setCell ⟨B, 4, none⟩ b4) C cs t :=
 ((((h.other (by exact hne) b0).other (by exact hne) b1).other (by exact hne) b2).other (by exact hne) b3).other (by exact hne) b4
theorem below_put5 {lo : Nat} {w W : World} {B : Nat} (h : Below lo w W) (hB : lo ≤ B) (b0 b1 b2 b3 b4 : Value) : Below lo w (((((W.setCell ⟨B, 0, none⟩ b0).setCell ⟨B, 1, none⟩ b1).setCell ⟨B, 2, none⟩ b2).setCell ⟨B, 3, none⟩ b3).setCell ⟨B, 4, none⟩ b4) :=
 ((((h.setCell (by exact hB) b0).setCell (by exact hB) b1).setCell (by exact hB) b2).setCell (by exact hB) b3).setCell (by exact hB) b4
/-- Lists that are no longer than any text. -/
structure Small (f : Fi) : Prop where
 nE : f.exprs.length ≤ 9223372036854775807
 nB : f.blocks.length ≤ 9223372036854775807
 top : f.top.length ≤ 9223372036854775807
 args : ∀ e ∈ f.exprs, e.args.length ≤ 9223372036854775807 ∧ e.keys.length ≤ 9223372036854775807
 blocks : ∀ b ∈ f.blocks, b.labels.length ≤ 9223372036854775807 ∧ b.attrs.length ≤ 9223372036854775807 ∧ b.blocks.length ≤ 9223372036854775807
end Go.Proofs.YtljgggohjigaoaaGreatDoor
namespace Go.Proofs.YtljgggohjigaoaaGreatDoor
set_option linter.unusedVariables false

/-- A token that stands within N bytes. -/
structure TkOk (N : Nat) (t : Tk) : Prop where
 pos : t.at_ + wt t ≤ N
 end_ : t.k = 0 → t.x = ⟨#[]⟩
 name : t.k = 1 → t.x ≠ ⟨#[]⟩
def TksOk (N : Nat) (l : List Tk) : Prop := ∀ t ∈ l, TkOk N t
theorem TksOk.sfx {N : Nat} {l l' : List Tk} (h : TksOk N l) (hs : l' <:+ l) : TksOk N l' := fun t ht => h t (hs.subset ht)
theorem wt_shift (a : Nat) (t : Tk) : wt (shiftT a t) = wt t := rfl
theorem TksOk.shift {n N a : Nat} {l : List Tk} (h : TksOk n l) (hN : n + a ≤ N) : TksOk N (l.map (shiftT a)) := fun t ht => by
 obtain ⟨u, hu, rfl⟩ := List.mem_map.1 ht
 have h1 := h u hu
 refine ⟨?_, h1.end_, h1.name⟩
 have h2 := h1.pos
 rw [wt_shift]
 show u.at_ + a + wt u ≤ N
 omega
theorem next_name {R x R' : List UInt8} (hR : R ≠ []) (h : nextL R = (1, .ok (x, R'))) : x ≠ [] := by
 have hg := (nextL_goes hR).1 x R' (by rw [h])
 unfold nextL at h
 match R, hR with
 | c :: r, _ =>
  simp only at h
  split at h
  ·cases h
  ·split at h
   ·have := congrArg Prod.fst h; simp at this
   ·split at h
    ·have := congrArg Prod.fst h; simp at this
    ·split at h
     ·have := congrArg Prod.fst h; simp at this
     ·split at h
      ·have h2 := congrArg Prod.snd h
       simp only at h2
       unfold nameL at h2
       split at h2
       ·cases h2
       ·cases h2
        intro e
        have h3 := congrArg List.length e
        unfold tookL at h3
        simp only [List.length_take, List.length_nil] at h3
        simp only [List.length_cons] at h3 hg
        omega
      ·have := congrArg Prod.fst h; simp at this
theorem tokL_oks {sz : Nat} : ∀ {n : Nat} {R : List UInt8} {acc l : List Tk}, tokL sz n R acc = .ok l → R.length ≤ sz → TksOk sz acc → TksOk sz l
 | 0, R, acc, l, h, _, _ => by cases h
 | n + 1, R, acc, l, h, hle, ha => by
  unfold tokL at h
  split at h
  ·cases h
   exact ha
  ·rename_i hR
   have hne : R ≠ [] := by intro e; subst e; simp at hR
   cases hr : (nextL R).2 with
   | error c => rw [hr] at h; cases h
   | ok y =>
    obtain ⟨x, R'⟩ := y
    rw [hr] at h
    simp only at h
    obtain ⟨h0, h1⟩ := next_wt (k := (nextL R).1) (x := x) (R' := R') hne (by rw [← hr]) (sz - R.length)
    split at h
    ·cases h
    ·have h4 := betweenA_le (Nat.le_refl R'.length)
     refine tokL_oks h (by omega) fun t ht => ?_
     rcases List.mem_append.1 ht with h7 | h7
     ·exact ha t h7
     ·have := List.mem_singleton.1 h7
      subst this
      refine ⟨by simp only; omega, fun e => absurd e h0, fun e => ?_⟩
      have h8 := next_name (x := x) (R' := R') hne (by rw [← hr]; exact Prod.ext e rfl)
      intro h9
      have h10 := congrArg (fun b : ByteArray => b.data.toList) h9
      simp at h10
      exact h8 h10
theorem scan_oks {t : ByteArray} {l : List Tk} (h : scanL t = .ok l) : TksOk t.size (l ++ [endT t.size]) := by
 unfold scanL at h
 split at h
 ·cases h
 ·split at h
  ·cases h
  ·have h3 := betweenA_le (Nat.le_refl (rest t 0).length)
   have h4 : (rest t 0).length = t.size := by rw [rest_length]; omega
   intro u hu
   rcases List.mem_append.1 hu with h1 | h1
   ·exact tokL_oks h (by omega) (fun t ht => by cases ht) u h1
   ·have := List.mem_singleton.1 h1
    subst this
    exact ⟨Nat.le_refl _, fun _ => rfl, fun e => by cases e⟩
/-- What a file uses. -/
def useE (f : Fi) : List Nat := f.exprs.flatMap Ex.args ++ f.blocks.flatMap (fun b => b.attrs.map AtS.e)
def useB (f : Fi) : List Nat := f.blocks.flatMap Bl.blocks ++ f.top
/-- A file under way: E and B are the expressions and blocks that nothing uses yet. -/
structure FOk (N : Nat) (f : Fi) (E B : List Nat) : Prop where
 at_ : ∀ e ∈ f.exprs, e.at_ < N
 args : ∀ (i : Nat) (e : Ex), f.exprs[i]? = some e → ∀ a ∈ e.args, a < i
 attrs : ∀ b ∈ f.blocks, ∀ a ∈ b.attrs, a.e < f.exprs.length ∧ a.n ≠ ⟨#[]⟩
 blocks : ∀ (i : Nat) (b : Bl), f.blocks[i]? = some b → ∀ k ∈ b.blocks, k < i
 top : ∀ k ∈ f.top, k < f.blocks.length
 owedE : ∀ k ∈ E, k < f.exprs.length
 owedB : ∀ k ∈ B, k < f.blocks.length
 oneE : ∀ k, k < f.exprs.length → (useE f).count k + E.count k = 1
 oneB : ∀ k, k < f.blocks.length → (useB f).count k + B.count k = 1
section
variable {N : Nat} {f : Fi} {E B E' B' : List Nat}
theorem FOk.perm (h : FOk N f E B) (hE : E.Perm E') (hB : B.Perm B') : FOk N f E' B' :=
 ⟨h.at_, h.args, h.attrs, h.blocks, h.top, fun k hk => h.owedE k (hE.mem_iff.2 hk), fun k hk => h.owedB k (hB.mem_iff.2 hk), fun k hk => by rw [← hE.count_eq]; exact h.oneE k hk, fun k hk => by rw [← hB.count_eq]; exact h.oneB k hk⟩
theorem FOk.usedE (h : FOk N f E B) : ∀ k ∈ useE f, k < f.exprs.length := fun k hk => by
 rcases List.mem_append.1 hk with h1 | h1
 ·obtain ⟨e, he, hk⟩ := List.mem_flatMap.1 h1
  obtain ⟨i, hi⟩ := List.mem_iff_getElem?.1 he
  have h2 := h.args i e hi k hk
  have h3 := (List.getElem?_eq_some_iff.1 hi).1
  omega
 ·obtain ⟨b, hb, hk⟩ := List.mem_flatMap.1 h1
  obtain ⟨a, ha, rfl⟩ := List.mem_map.1 hk
  exact (h.attrs b hb a ha).1
theorem FOk.usedB (h : FOk N f E B) : ∀ k ∈ useB f, k < f.blocks.length := fun k hk => by
 rcases List.mem_append.1 hk with h1 | h1
 ·obtain ⟨b, hb, hk⟩ := List.mem_flatMap.1 h1
  obtain ⟨i, hi⟩ := List.mem_iff_getElem?.1 hb
  have h2 := h.blocks i b hi k hk
  have h3 := (List.getElem?_eq_some_iff.1 hi).1
  omega
 ·exact h.top k h1
theorem get_snoc {α : Type} {l : List α} {x y : α} {i : Nat} (h : (l ++ [x])[i]? = some y) : l[i]? = some y ∨ (i = l.length ∧ y = x) := by
 by_cases hi : i < l.length
 ·rw [List.getElem?_append_left hi] at h; exact .inl h
 ·rw [List.getElem?_append_right (by omega)] at h
  by_cases h0 : i - l.length = 0
  ·rw [h0] at h
   exact .inr ⟨by omega, by simpa using h.symm⟩
  ·rw [List.getElem?_eq_none (by simp; omega)] at h
   cases h
theorem count_none {l : List Nat} {n k : Nat} (h : ∀ x ∈ l, x < n) (hk : n ≤ k) : l.count k = 0 := List.count_eq_zero.2 fun hm => by
 have := h k hm
 omega
/-- An expression more: it uses its parts. -/
theorem FOk.addE {e : Ex} (h : FOk N f (e.args ++ E) B) (hat : e.at_ < N) : FOk N { f with exprs := f.exprs ++ [e] } (f.exprs.length :: E) B := by
 have hu := h.usedE
 refine ⟨fun x hx => ?_, fun i x hi a ha => ?_, fun b hb a ha => ?_, h.blocks, h.top, fun k hk => ?_, h.owedB, fun k hk => ?_, h.oneB⟩
 ·rcases List.mem_append.1 hx with h1 | h1
  ·exact h.at_ x h1
  ·rw [List.mem_singleton.1 h1]; exact hat
 ·rcases get_snoc hi with h1 | ⟨rfl, rfl⟩
  ·exact h.args i x h1 a ha
  ·exact h.owedE a (List.mem_append.2 (.inl ha))
 ·have h1 := h.attrs b hb a ha
  exact ⟨by simp only [List.length_append, List.length_cons, List.length_nil]; omega, h1.2⟩
 ·simp only [List.length_append, List.length_cons, List.length_nil]
  rcases List.mem_cons.1 hk with rfl | h1
  ·omega
  ·have := h.owedE k (List.mem_append.2 (.inr h1)); omega
 ·have hc : (useE { f with exprs := f.exprs ++ [e] }).count k = (useE f).count k + e.args.count k := by
   unfold useE
   simp only [List.flatMap_append, List.flatMap_cons, List.flatMap_nil, List.append_nil, List.count_append]
   omega
  rw [hc, List.count_cons]
  simp only [List.length_append, List.length_cons, List.length_nil] at hk
  by_cases hk' : k < f.exprs.length
  ·have h1 := h.oneE k hk'
   rw [List.count_append] at h1
   rw [if_neg (by simp; omega)]
   omega
  ·have h1 := count_none hu (k := k) (by omega)
   have h2 : e.args.count k = 0 := count_none (fun x hx => h.owedE x (List.mem_append.2 (.inl hx))) (by omega)
   have h3 : E.count k = 0 := count_none (fun x hx => h.owedE x (List.mem_append.2 (.inr hx))) (by omega)
   rw [if_pos (by simp; omega)]
   omega
/-- A block more. -/
theorem FOk.addB {b : Bl} (h : FOk N f (b.attrs.map AtS.e ++ E) (b.blocks ++ B)) (hn : ∀ a ∈ b.attrs, a.n ≠ ⟨#[]⟩) : FOk N { f with blocks := f.blocks ++ [b] } E (f.blocks.length :: B) := by
 have hu := h.usedB
 refine ⟨h.at_, h.args, fun x hx a ha => ?_, fun i x hi a ha => ?_, fun k hk => ?_, fun k hk => h.owedE k (List.mem_append.2 (.inr hk)), fun k hk => ?_, fun k hk => ?_, fun k hk => ?_⟩
 ·rcases List.mem_append.1 hx with h1 | h1
  ·exact h.attrs x h1 a ha
  ·have := List.mem_singleton.1 h1
   subst this
   exact ⟨h.owedE _ (List.mem_append.2 (.inl (List.mem_map.2 ⟨a, ha, rfl⟩))), hn a ha⟩
 ·rcases get_snoc hi with h1 | ⟨rfl, rfl⟩
  ·exact h.blocks i x h1 a ha
  ·exact h.owedB a (List.mem_append.2 (.inl ha))
 ·have := h.top k hk
  simp only [List.length_append, List.length_cons, List.length_nil]
  omega
 ·simp only [List.length_append, List.length_cons, List.length_nil]
  rcases List.mem_cons.1 hk with rfl | h1
  ·omega
  ·have := h.owedB k (List.mem_append.2 (.inr h1)); omega
 ·have h1 := h.oneE k hk
  rw [List.count_append] at h1
  unfold useE at h1 ⊢
  simp only [List.flatMap_append, List.flatMap_cons, List.flatMap_nil, List.append_nil, List.count_append] at h1 ⊢
  omega
 ·have hc : (useB { f with blocks := f.blocks ++ [b] }).count k = (useB f).count k + b.blocks.count k := by
   unfold useB
   simp only [List.flatMap_append, List.flatMap_cons, List.flatMap_nil, List.append_nil, List.count_append]
   omega
  rw [hc, List.count_cons]
  simp only [List.length_append, List.length_cons, List.length_nil] at hk
  by_cases hk' : k < f.blocks.length
  ·have h1 := h.oneB k hk'
   rw [List.count_append] at h1
   rw [if_neg (by simp; omega)]
   omega
  ·have h1 := count_none hu (k := k) (by omega)
   have h2 : b.blocks.count k = 0 := count_none (fun x hx => h.owedB x (List.mem_append.2 (.inl hx))) (by omega)
   have h3 : B.count k = 0 := count_none (fun x hx => h.owedB x (List.mem_append.2 (.inr hx))) (by omega)
   rw [if_pos (by simp; omega)]
   omega
/-- A place more among the file's own. -/
theorem FOk.addT {i : Nat} (h : FOk N f E (i :: B)) : FOk N { f with top := f.top ++ [i] } E B := by
 refine ⟨h.at_, h.args, h.attrs, h.blocks, fun k hk => ?_, h.owedE, fun k hk => h.owedB k (List.mem_cons_of_mem _ hk), h.oneE, fun k hk => ?_⟩
 ·rcases List.mem_append.1 hk with h1 | h1
  ·exact h.top k h1
  ·rw [List.mem_singleton.1 h1]; exact h.owedB i List.mem_cons_self
 ·have h1 := h.oneB k hk
  unfold useB at h1 ⊢
  rw [List.count_cons] at h1
  simp only [List.count_append, List.count_cons, List.count_nil] at h1 ⊢
  omega
theorem FOk.nil (N : Nat) : FOk N ⟨[], [], []⟩ [] [] := ⟨fun e he => (by cases he), fun i e hi => (by simp at hi), fun b hb => (by cases hb), fun i b hi => (by simp at hi), fun k hk => (by cases hk), fun k hk => (by cases hk), fun k hk => (by cases hk), fun k hk => (by cases hk), fun k hk => (by cases hk)⟩
end
end Go.Proofs.YtljgggohjigaoaaGreatDoor
namespace Go.Proofs.YtljgggohjigaoaaGreatDoor
set_option linter.unusedVariables false

/-- How a piece ends: i and j are what it uses, o and p what it hands on. -/
def UAt {α : Type} (N : Nat) (i j : List Nat) (o p : α → List Nat) (Q : α → Prop) (s : Ps) (r : PR α) : Prop := (∀ E B a s', FOk N s.f (i ++ E) (j ++ B) → r = .ok (a, s') → TksOk N s'.toks ∧ FOk N s'.f (o a ++ E) (p a ++ B) ∧ Q a) ∧ ∀ E B bd, FOk N s.f (i ++ E) (j ++ B) → r = .error bd → bd.2 ≤ N
def UTr {α : Type} (N : Nat) (i j : List Nat) (o p : α → List Nat) (Q : α → Prop) (M : PM α) : Prop := ∀ s, TksOk N s.toks → UAt N i j o p Q s (M s)
abbrev no {α : Type} : α → List Nat := fun _ => []
abbrev tr {α : Type} : α → Prop := fun _ => True
section
variable {α β : Type} {N : Nat} {i j i' j' : List Nat} {o p o' p' : α → List Nat} {Q Q' : α → Prop} {s s0 : Ps} {r : PR α}
theorem UAt.err (x : Bd) (hx : x.2 ≤ N) : UAt N i j o p Q s (.error x) := ⟨fun E B a s' _ h => (by cases h), fun E B bd _ h => by cases h; exact hx⟩
theorem UAt.none : UAt N i j o p Q s noneE := ⟨fun E B a s' _ h => (by cases h), fun E B bd _ h => by cases h; exact Nat.zero_le _⟩
theorem UAt.ok {a : α} {s' : Ps} (ht : TksOk N s'.toks) (hf : s'.f = s.f) (ho : o a = i) (hp : p a = j) (hq : Q a) : UAt N i j o p Q s (.ok (a, s')) := ⟨fun E B a' s'' hF h => by
 cases h
 rw [ho, hp, hf]
 exact ⟨ht, hF, hq⟩, fun E B bd _ h => by cases h⟩
theorem UAt.bind {m : PM β} {k : β → PM α} {o1 p1 : β → List Nat} {Q1 : β → Prop} (hm : UAt N i j o1 p1 Q1 s (m s)) (hk : ∀ b s', TksOk N s'.toks → Q1 b → UAt N (o1 b) (p1 b) o p Q s' (k b s')) : UAt N i j o p Q s (bindP m k s) := by
 refine ⟨fun E B a s' hF h => ?_, fun E B bd hF h => ?_⟩
 ·unfold bindP at h
  cases hq : m s with
  | error x => rw [hq] at h; cases h
  | ok y =>
   obtain ⟨b, s1⟩ := y
   rw [hq] at h
   obtain ⟨h1, h2, h3⟩ := hm.1 E B b s1 hF hq
   exact (hk b s1 h1 h3).1 E B a s' h2 h
 ·unfold bindP at h
  cases hq : m s with
  | error x => rw [hq] at h; cases h; exact hm.2 E B _ hF hq
  | ok y =>
   obtain ⟨b, s1⟩ := y
   rw [hq] at h
   obtain ⟨h1, h2, h3⟩ := hm.1 E B b s1 hF hq
   exact (hk b s1 h1 h3).2 E B bd h2 h
theorem UTr.bind {m : PM β} {k : β → PM α} {o1 p1 : β → List Nat} {Q1 : β → Prop} (hm : UTr N i j o1 p1 Q1 m) (hk : ∀ b, Q1 b → UTr N (o1 b) (p1 b) o p Q (k b)) : UTr N i j o p Q (bindP m k) := fun s hs => UAt.bind (hm s hs) fun b s' h1 h2 => hk b h2 s' h1
theorem UAt.frame (c d : List Nat) (h : UAt N i j o p Q s r) : UAt N (i ++ c) (j ++ d) (fun a => o a ++ c) (fun a => p a ++ d) Q s r := by
 refine ⟨fun E B a s' hF hr => ?_, fun E B bd hF hr => h.2 (c ++ E) (d ++ B) bd (by rw [← List.append_assoc, ← List.append_assoc]; exact hF) hr⟩
 have h1 := h.1 (c ++ E) (d ++ B) a s' (by rw [← List.append_assoc, ← List.append_assoc]; exact hF) hr
 refine ⟨h1.1, ?_, h1.2.2⟩
 have h2 := h1.2.1
 rw [← List.append_assoc, ← List.append_assoc] at h2
 exact h2
theorem UTr.frame {M : PM α} (c d : List Nat) (h : UTr N i j o p Q M) : UTr N (i ++ c) (j ++ d) (fun a => o a ++ c) (fun a => p a ++ d) Q M := fun s hs => (h s hs).frame c d
theorem UAt.conv (h : UAt N i j o p Q s r) (hi : i'.Perm i) (hj : j'.Perm j) (ho : ∀ a, (o a).Perm (o' a)) (hp : ∀ a, (p a).Perm (p' a)) (hq : ∀ a, Q a → Q' a) : UAt N i' j' o' p' Q' s r := by
 refine ⟨fun E B a s' hF hr => ?_, fun E B bd hF hr => h.2 E B bd (hF.perm (hi.append_right E) (hj.append_right B)) hr⟩
 have h1 := h.1 E B a s' (hF.perm (hi.append_right E) (hj.append_right B)) hr
 exact ⟨h1.1, h1.2.1.perm ((ho a).append_right E) ((hp a).append_right B), hq a h1.2.2⟩
theorem UTr.conv {M : PM α} (h : UTr N i j o p Q M) (hi : i'.Perm i) (hj : j'.Perm j) (ho : ∀ a, (o a).Perm (o' a)) (hp : ∀ a, (p a).Perm (p' a)) (hq : ∀ a, Q a → Q' a) : UTr N i' j' o' p' Q' M := fun s hs => (h s hs).conv hi hj ho hp hq
theorem UAt.st (h : UAt N i j o p Q s0 r) (hs : s0.f = s.f) : UAt N i j o p Q s r := ⟨fun E B a s' hF hr => h.1 E B a s' (by rw [hs]; exact hF) hr, fun E B bd hF hr => h.2 E B bd (by rw [hs]; exact hF) hr⟩
theorem UTr.pure {a : α} (ho : o a = i) (hp : p a = j) (hq : Q a) : UTr N i j o p Q (fun s => .ok (a, s)) := fun s hs => UAt.ok hs rfl ho hp hq
end
section
variable {N : Nat} {s : Ps} {t : Tk} {w : ByteArray}
theorem oks_peek (h : TksOk N s.toks) : TksOk N (peekS s).toks := h.sfx (peek_sfx s)
theorem oks_take (h : TksOk N s.toks) : TksOk N (takeS s).toks := h.sfx (take_sfx s)
theorem oks_next (h : TksOk N s.toks) (hk : (next s).k ≠ 0) : TkOk N (next s) := by
 rcases next_mem s with h1 | h1
 ·exact h _ h1
 ·rw [h1] at hk; exact absurd rfl hk
theorem TkOk.lt (h : TkOk N t) (hk : t.k ≠ 0) : t.at_ < N := by
 have := h.pos
 have := wt_pos hk
 omega
theorem isW_k (h : TksOk N s.toks) (hw : w ≠ ⟨#[]⟩) (hi : isW w (next s) = true) : (next s).k ≠ 0 := fun e => by
 unfold isW at hi
 simp only [Bool.and_eq_true, decide_eq_true_eq] at hi
 rcases next_mem s with h1 | h1
 ·exact hw (hi.2.symm.trans ((h _ h1).end_ e))
 ·rw [h1] at hi; exact hw hi.2.symm
theorem isW_lt (h : TksOk N s.toks) (hw : w ≠ ⟨#[]⟩) (hi : isW w (next s) = true) : (next s).at_ < N := (oks_next h (isW_k h hw hi)).lt (isW_k h hw hi)
theorem kind_lt (h : TksOk N s.toks) (hk : (next s).k ≠ 0) : (next s).at_ < N := (oks_next h hk).lt hk
theorem next_le (h : TksOk N s.toks) : (next s).at_ ≤ N := by
 rcases next_mem s with h1 | h1
 ·have := (h _ h1).pos; omega
 ·rw [h1]; exact Nat.zero_le _
theorem UTr.want (hw : w ≠ ⟨#[]⟩) : UTr N [] [] no no (fun t => t.at_ < N) (wantM w) := fun s hs => by
 unfold wantM
 split
 ·rename_i hi
  exact UAt.ok (oks_take hs) rfl rfl rfl (isW_lt hs hw hi)
 ·exact UAt.err _ (next_le hs)
theorem UTr.kind {k : Int} (hk : k ≠ 0) : UTr N [] [] no no (fun t => t.at_ < N ∧ t.k = k ∧ TkOk N t) (kindM k) := fun s hs => by
 unfold kindM
 split
 ·rename_i hi
  have h1 : (next s).k ≠ 0 := by rw [hi]; exact hk
  exact UAt.ok (oks_take hs) rfl rfl rfl ⟨kind_lt hs h1, hi, oks_next hs h1⟩
 ·exact UAt.err _ (next_le hs)
theorem UTr.kind0 {k : Int} : UTr N [] [] no no tr (kindM k) := fun s hs => by
 unfold kindM
 split
 ·exact UAt.ok (oks_take hs) rfl rfl rfl trivial
 ·exact UAt.err _ (next_le hs)
theorem UTr.skip : UTr N [] [] no no tr (skipM w) := fun s hs => by
 unfold skipM
 split
 ·exact UAt.ok (oks_take hs) rfl rfl rfl trivial
 ·exact UAt.ok (oks_peek hs) rfl rfl rfl trivial
theorem UTr.lines : UTr N [] [] no no tr linesM := fun s hs => UAt.ok (hs.sfx (linesL_sfx _ _)) rfl rfl rfl trivial
theorem UTr.plain : UTr N [] [] no no tr plainM := fun s hs => by
 unfold plainM
 simp only
 split
 ·exact UAt.none
 ·split
  ·exact UAt.err _ (next_le hs)
  ·split
   ·exact UAt.none
   ·exact UAt.ok (oks_take hs) rfl rfl rfl trivial
theorem UTr.add {e : Ex} (hat : e.at_ < N) : UTr N e.args [] (fun i => [i]) no tr (addM e) := fun s hs => ⟨fun E B a s' hF h => by
 unfold addM at h
 cases h
 exact ⟨hs, hF.addE hat, trivial⟩, fun E B bd hF h => by unfold addM at h; cases h⟩
theorem UTr.deeper {α : Type} {i j : List Nat} {o p : α → List Nat} {Q : α → Prop} {nx : Sub} {a : Nat} {f : PM Nat × PM Nat → PM α} (ha : a ≤ N) (h : ∀ q, nx = some q → UTr N i j o p Q (f q)) : UTr N i j o p Q (deeperM nx a f) := fun s hs => by
 unfold deeperM
 cases nx with
 | none => exact UAt.err _ ha
 | some q => exact h q rfl s hs
theorem UTr.between {α : Type} {i j : List Nat} {o p : α → List Nat} {Q : α → Prop} {nx : Sub} {b e : ByteArray} {over : Bool} {f : PM Nat × PM Nat → PM α} (hb : b ≠ ⟨#[]⟩) (he : e ≠ ⟨#[]⟩) (h : ∀ q, nx = some q → UTr N i j o p Q (f q)) :
  UTr N i j (fun r => o r.1) (fun r => p r.1) (fun r => Q r.1 ∧ r.2 < N) (betweenM b e over nx f) := fun s hs => by
 unfold betweenM
 refine UAt.bind (o1 := fun _ => i) (p1 := fun _ => j) (UAt.frame i j (UTr.want hb s hs)) fun t s1 h1 ht => ?_
 unfold deeperM
 cases nx with
 | none => exact UAt.err _ (Nat.le_of_lt ht)
 | some q =>
  simp only
  have hU := h q rfl { s1 with over := over } h1
  refine ⟨fun E B a s' hF hx => ?_, fun E B bd hF hx => ?_⟩
  ·cases hq : f q { s1 with over := over } with
   | error x => rw [hq] at hx; cases hx
   | ok y =>
    obtain ⟨x, s2⟩ := y
    rw [hq] at hx
    obtain ⟨h2, h3, h4⟩ := hU.1 E B x s2 hF hq
    simp only at hx
    cases hw : wantM e s2 with
    | error x => rw [hw] at hx; cases hx
    | ok z =>
     obtain ⟨t3, s3⟩ := z
     rw [hw] at hx
     cases hx
     obtain ⟨h5, h6, h7⟩ := (UTr.want (N := N) he s2 h2).1 _ _ _ _ h3 hw
     exact ⟨h5, h6, h4, ht⟩
  ·cases hq : f q { s1 with over := over } with
   | error x => rw [hq] at hx; cases hx; exact hU.2 E B _ hF hq
   | ok y =>
    obtain ⟨x, s2⟩ := y
    rw [hq] at hx
    obtain ⟨h2, h3, h4⟩ := hU.1 E B x s2 hF hq
    simp only at hx
    cases hw : wantM e s2 with
    | error x => rw [hw] at hx; cases hx; exact (UTr.want (N := N) he s2 h2).2 _ _ _ h3 hw
    | ok z => rw [hw] at hx; cases hx
end
/-- What all deeper levels do. -/
def SubU (N : Nat) (nx : Sub) : Prop := ∀ q, nx = some q → UTr N [] [] (fun i => [i]) no tr q.1 ∧ UTr N [] [] (fun i => [i]) no tr q.2
section
variable {N : Nat} {nx : Sub} {s : Ps}
theorem inserted_use (hx : SubU N nx) {R : List UInt8} {a : Nat} (h3 : 3 ≤ R.length) (ha : a + R.length ≤ N) : UTr N [] [] (fun i => [i]) no tr (insertedM nx R a) := fun s hs => by
 unfold insertedM deeperM
 cases nx with
 | none => exact UAt.err _ (by show a ≤ N; omega)
 | some q =>
  simp only
  have hsz : (bA ((R.drop 2).take (R.length - 3))).size = R.length - 3 := by
   show ((R.drop 2).take (R.length - 3)).toArray.size = _
   rw [List.size_toArray, List.length_take, List.length_drop]
   omega
  cases hsc : scanL (bA ((R.drop 2).take (R.length - 3))) with
  | error x =>
   obtain ⟨c, p⟩ := x
   have hp := scan_epos hsc
   exact UAt.err _ (by show a + 2 + p ≤ N; omega)
  | ok l =>
   simp only
   have ht := (scan_oks hsc).shift (N := N) (a := a + 2) (by rw [hsz]; omega)
   have hB : UTr N [] [] (fun i => [i]) no tr (bindP q.1 fun i => bindP (kindM 0) fun _ s' => .ok (i, s')) := UTr.bind (hx q rfl).1 fun i _ => UTr.bind (o1 := fun _ => [i]) (p1 := no) (UTr.frame [i] [] UTr.kind0) fun _ _ => UTr.pure rfl rfl trivial
   have hU := hB (⟨(l ++ [endT (bA ((R.drop 2).take (R.length - 3))).size]).map (shiftT (a + 2)), false, s.f⟩ : Ps) ht
   refine ⟨fun E B a' s' hF hr => ?_, fun E B bd hF hr => ?_⟩
   ·cases hm : bindP q.1 (fun i => bindP (kindM 0) fun _ s' => .ok (i, s')) (⟨(l ++ [endT (bA ((R.drop 2).take (R.length - 3))).size]).map (shiftT (a + 2)), false, s.f⟩ : Ps) with
    | error x => rw [hm] at hr; cases hr
    | ok y =>
     obtain ⟨i, s2⟩ := y
     rw [hm] at hr
     obtain ⟨h4, h5, -⟩ := hU.1 E B i s2 hF hm
     cases hr
     exact ⟨hs, h5, trivial⟩
   ·cases hm : bindP q.1 (fun i => bindP (kindM 0) fun _ s' => .ok (i, s')) (⟨(l ++ [endT (bA ((R.drop 2).take (R.length - 3))).size]).map (shiftT (a + 2)), false, s.f⟩ : Ps) with
    | error x => rw [hm] at hr; cases hr; exact hU.2 E B _ hF hm
    | ok y => rw [hm] at hr; cases hr
theorem insL_end {R : List UInt8} {b e : Nat} (h : insL R = some (b, e)) : b ≤ R.length ∧ e ≤ R.length ∧ (b < e → b + 3 ≤ e) := by
 unfold insL at h
 split at h
 ·rename_i hl
  cases hb : braceS (R.length + 1) (R.drop (aheadL R + 2)) with
  | none => rw [hb] at h; cases h
  | some r =>
   rw [hb] at h
   cases h
   have := (brace_lt _ _ _).1 hb
   simp only [List.length_drop] at this
   exact ⟨by omega, by omega, fun _ => by omega⟩
 ·cases h
  exact ⟨Nat.le_refl _, Nat.le_refl _, fun h => absurd h (Nat.lt_irrefl _)⟩
theorem parts_use (hx : SubU N nx) : ∀ (n : Nat) (R : List UInt8) (a : Nat) (args : List Nat) (keys : List ByteArray), a + R.length + 1 ≤ N → UTr N args [] (fun r => r.1) no tr (partsM nx n R a args keys) := by
 intro n
 induction n with
 | zero => intro R a args keys _ s hs; exact UAt.none
 | succ n ih =>
  intro R a args keys ha s hs
  unfold partsM
  by_cases hR : R = []
  ·rw [if_pos hR]
   exact UAt.ok hs rfl rfl rfl trivial
  ·rw [if_neg hR]
   cases hi : insL R with
   | none => exact UAt.none
   | some be =>
    obtain ⟨b, e⟩ := be
    obtain ⟨hb, he, hbe⟩ := insL_end hi
    simp only
    -- the piece ahead
    have hA : UAt N args [] (fun r : List Nat × List ByteArray => r.1) no tr s (if 0 < b then match saidL (R.take b) with
      | none => noneE
      | some t => bindP (addM ⟨5, bA t, [], [], a⟩) (fun i s' => .ok ((args ++ [i], keys ++ [bA [116]]), s')) s
     else .ok ((args, keys), s) : PR (List Nat × List ByteArray)) := by
     split
     ·cases hs2 : saidL (R.take b) with
      | none => exact UAt.none
      | some t => exact (UTr.bind (o1 := fun i => [i] ++ args) (p1 := no) (UTr.frame args [] (UTr.add (e := ⟨5, bA t, [], [], a⟩) (by show a < N; omega))) fun i _ => (UTr.pure (o := fun r : List Nat × List ByteArray => r.1) (p := no) rfl rfl trivial : UTr N (args ++ [i]) [] _ no tr _).conv List.perm_append_comm (.refl _) (fun _ => .refl _) (fun _ => .refl _) (fun _ h => h)) s hs
     ·exact UAt.ok hs rfl rfl rfl trivial
    -- the insertion
    have hA2 : ∀ (args1 : List Nat) (keys1 : List ByteArray) (s1 : Ps), TksOk N s1.toks → UAt N args1 [] (fun r : List Nat × List ByteArray => r.1) no tr s1 (if b < e then bindP (insertedM nx ((R.take e).drop b) (a + b)) (fun i s' => .ok ((args1 ++ [i], keys1 ++ [bA [101]]), s')) s1 else .ok ((args1, keys1), s1) : PR (List Nat × List ByteArray)) := by
     intro args1 keys1 s1 hs1
     split
     ·rename_i hlt
      have hl : ((R.take e).drop b).length = e - b := by rw [List.length_drop, List.length_take]; omega
      have h3 := hbe hlt
      exact (UTr.bind (o1 := fun i => [i] ++ args1) (p1 := no) (UTr.frame args1 [] (inserted_use hx (by omega) (by omega))) fun i _ => (UTr.pure (o := fun r : List Nat × List ByteArray => r.1) (p := no) rfl rfl trivial : UTr N (args1 ++ [i]) [] _ no tr _).conv List.perm_append_comm (.refl _) (fun _ => .refl _) (fun _ => .refl _) (fun _ h => h)) s1 hs1
     ·exact UAt.ok hs1 rfl rfl rfl trivial
    refine ⟨fun E B y s' hF hr => ?_, fun E B bd hF hr => ?_⟩
    ·split at hr
     ·cases hr
     ·rename_i args1 keys1 s1 h1
      obtain ⟨ht1, hF1, -⟩ := hA.1 E B _ s1 hF h1
      split at hr
      ·cases hr
      ·rename_i args2 keys2 s2 h2
       obtain ⟨ht2, hF2, -⟩ := (hA2 args1 keys1 s1 ht1).1 E B _ s2 hF1 h2
       exact (ih (R.drop e) (a + e) args2 keys2 (by rw [List.length_drop]; omega) s2 ht2).1 E B y s' hF2 hr
    ·split at hr
     ·rename_i x h1
      cases hr
      exact hA.2 E B _ hF h1
     ·rename_i args1 keys1 s1 h1
      obtain ⟨ht1, hF1, -⟩ := hA.1 E B _ s1 hF h1
      split at hr
      ·rename_i x h2
       cases hr
       exact (hA2 args1 keys1 s1 ht1).2 E B _ hF1 h2
      ·rename_i args2 keys2 s2 h2
       obtain ⟨ht2, hF2, -⟩ := (hA2 args1 keys1 s1 ht1).1 E B _ s2 hF1 h2
       exact (ih (R.drop e) (a + e) args2 keys2 (by rw [List.length_drop]; omega) s2 ht2).2 E B bd hF2 hr
theorem text_use (hx : SubU N nx) (hs : TksOk N s.toks) (hk : (next s).k = 3) : UAt N [] [] (fun i => [i]) no tr s (textM nx s) := by
 have hk0 : (next s).k ≠ 0 := by rw [hk]; decide
 have hT := oks_next hs hk0
 have hlt := hT.lt hk0
 unfold textM
 simp only
 cases hi : insL (next s).x.data.toList with
 | none => exact UAt.none
 | some be =>
  obtain ⟨b, e⟩ := be
  simp only
  split
  ·split
   ·exact UAt.none
   ·rename_i y hy
    exact (UTr.add (e := ⟨5, bA y, [], [], (next s).at_⟩) hlt _ (oks_take hs)).st rfl
  ·rename_i hb
   have hal := insL_no hi hb
   have hw : (next s).at_ + ((next s).x.size + 2) ≤ N := by
    have := hT.pos
    unfold wt at this
    rw [if_neg hk0, if_pos ⟨hk, hal⟩] at this
    exact this
   have hsz : (next s).x.data.toList.length = (next s).x.size := Array.length_toList
   exact (UTr.bind (parts_use hx _ _ _ [] [] (by rw [hsz]; omega)) (fun r _ => UTr.add (e := ⟨6, ⟨#[]⟩, r.1, r.2, (next s).at_⟩) hlt) _ (oks_take hs)).st rfl
end
end Go.Proofs.YtljgggohjigaoaaGreatDoor
