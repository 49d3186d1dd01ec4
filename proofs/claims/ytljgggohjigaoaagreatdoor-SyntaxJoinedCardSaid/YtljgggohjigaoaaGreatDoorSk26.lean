/- A piece's tokens, told in the whole text · The last token -/
import Derived.Deep.RegionWith
import Derived.Deep.RegionHeld
import Derived.Deep.DeepCutAuto
import Derived.Test.YtljgggohjigaoaaGreatDoorSk09
import Derived.Test.YtljgggohjigaoaaGreatDoorSk23
namespace Go.Proofs.YtljgggohjigaoaaGreatDoor
open Go.RowKit Go.Shelf
set_option linter.unusedVariables false
set_option linter.unusedSimpArgs false

/-- Those ahead have been moved. -/
def shM (a i : Nat) (l : List Tk) : List Tk := (l.take i).map (shiftT a) ++ l.drop i
theorem tk_at : ∀ (l : List Tk) (i : Nat) (t : Tk), l[i]? = some t → (tkCells l)[i * 3 + 2]? = some (.int .i64 (t.at_ : Int))
 | [], i, t, h => by simp at h
 | x :: l, 0, t, h => by simp at h; subst h; rfl
 | x :: l, i + 1, t, h => by
  rw [tk_cells, List.getElem?_append_right (by simp; omega)]
  have h1 : (i + 1) * 3 + 2 - [Value.int .i64 x.k, .string x.x, .int .i64 (x.at_ : Int)].length = i * 3 + 2 := by simp; omega
  rw [h1]
  exact tk_at l i t (by simpa using h)
theorem tk_set : ∀ (l : List Tk) (i : Nat) (t : Tk) (a : Nat), l[i]? = some t → (tkCells l).set (i * 3 + 2) (.int .i64 ((t.at_ + a : Nat) : Int)) = tkCells (l.set i (shiftT a t))
 | [], i, t, a, h => by simp at h
 | x :: l, 0, t, a, h => by simp at h; subst h; rfl
 | x :: l, i + 1, t, a, h => by
  rw [tk_cells, List.set_append_right _ _ (by simp; omega)]
  have h1 : (i + 1) * 3 + 2 - [Value.int .i64 x.k, .string x.x, .int .i64 (x.at_ : Int)].length = i * 3 + 2 := by simp; omega
  rw [h1, tk_set l i t a (by simpa using h)]
  rfl
theorem shM_next {a i : Nat} {l : List Tk} {t : Tk} (h : l[i]? = some t) : (shM a i l)[i]? = some t ∧ (shM a i l).set i (shiftT a t) = shM a (i + 1) l := by
 have hl : i < l.length := (List.getElem?_eq_some_iff.1 h).1
 have hlen : ((l.take i).map (shiftT a)).length = i := by simp; omega
 have hd : l.drop i = t :: l.drop (i + 1) := by
  rw [List.drop_eq_getElem_cons hl]
  congr 1
  exact (List.getElem?_eq_some_iff.1 h).2
 unfold shM
 rw [hd]
 refine ⟨by rw [List.getElem?_append_right (by omega), hlen]; simp, ?_⟩
 rw [List.set_append_right _ _ (by omega), hlen]
 simp only [Nat.sub_self, List.set_cons_zero]
 rw [List.take_add_one, h]
 simp
theorem tokL_pos {sz : Nat} : ∀ {n : Nat} {R : List UInt8} {acc l : List Tk}, tokL sz n R acc = .ok l → (∀ t ∈ acc, t.at_ ≤ sz) → ∀ t ∈ l, t.at_ ≤ sz
 | 0, R, acc, l, h, _ => by cases h
 | n + 1, R, acc, l, h, ha => by
  unfold tokL at h
  split at h
  ·cases h
   exact ha
  ·cases hr : (nextL R).2 with
   | error c => rw [hr] at h; cases h
   | ok y =>
    obtain ⟨x, R'⟩ := y
    rw [hr] at h
    simp only at h
    split at h
    ·cases h
    ·refine tokL_pos h fun t ht => ?_
     rcases List.mem_append.1 ht with h7 | h7
     ·exact ha t h7
     ·have := List.mem_singleton.1 h7
      subst this
      exact Nat.sub_le _ _
theorem scan_pos {t : ByteArray} {l : List Tk} (h : scanL t = .ok l) : t.size ≤ 16384 ∧ ∀ u ∈ l ++ [endT t.size], u.at_ ≤ t.size := by
 unfold scanL at h
 split at h
 ·cases h
 ·rename_i hs
  split at h
  ·cases h
  ·refine ⟨by omega, fun u hu => ?_⟩
   rcases List.mem_append.1 hu with h1 | h1
   ·exact tokL_pos h (fun t ht => by cases ht) u h1
   ·have := List.mem_singleton.1 h1
    subst this
    exact Nat.le_refl _
theorem tokL_epos {sz : Nat} : ∀ {n : Nat} {R : List UInt8} {acc : List Tk} {c : Int} {p : Nat}, tokL sz n R acc = .error (c, p) → p ≤ sz
 | 0, R, acc, c, p, h => by cases h; exact Nat.zero_le _
 | n + 1, R, acc, c, p, h => by
  unfold tokL at h
  split at h
  ·cases h
  ·cases hr : (nextL R).2 with
   | error c => rw [hr] at h; cases h; exact Nat.sub_le _ _
   | ok y =>
    obtain ⟨x, R'⟩ := y
    rw [hr] at h
    simp only at h
    split at h
    ·cases h; exact Nat.sub_le _ _
    ·exact tokL_epos h
set_option maxRecDepth 100000 in
set_option maxHeartbeats 4000000 in
theorem scanned_ok {W : World} {t : ByteArray} {l : List Tk} (hW : Ready W) (h : scanL t = .ok l) {a : Nat} (ha : a ≤ 1000000000) : Calls Tryz.prog 19 #[.string t, .int .i64 (a : Int)] W fun e w' => ∃ v, e = .returned v ∧ Below W.heap.size W w' ∧ w'.ownsRow W.heap.size 75 3 v (l.length + 1) (tkCells ((l ++ [endT t.size]).map (shiftT a))) := by
 have hsc := scan_any t hW
 have hps := scan_pos h
 obtain ⟨l', hl'⟩ : ∃ l', l ++ [endT t.size] = l' := ⟨_, rfl⟩
 obtain ⟨n, hn⟩ : ∃ n, l.length + 1 = n := ⟨_, rfl⟩
 have hln : l'.length = n := by rw [← hl', ← hn]; simp
 have HSC : Hid (Calls Tryz.prog 30 #[.string t] W fun e w' => ∃ v, e = .returned (.tuple #[v, .pointer none]) ∧ Below W.heap.size W w' ∧ w'.ownsRow W.heap.size 75 3 v n (tkCells (shM a 0 l'))) := Lib.hid (hsc.mono fun e w' hk => by
  obtain ⟨hb, ⟨l2, v, hr, rfl, ho⟩ | ⟨c, p, D, hr, -⟩⟩ := hk
  ·rw [h] at hr
   cases hr
   refine ⟨v, rfl, hb, ?_⟩
   rw [← hn, ← hl']
   exact ho
  ·rw [h] at hr; cases hr)
 have HLN := Lib.hid hln
 have HPS : Hid (∀ u ∈ l', u.at_ ≤ 16384) := Lib.hid (fun u hu => Nat.le_trans (hps.2 u (by rw [hl']; exact hu)) hps.1)
 have hfin : (l ++ [endT t.size]).map (shiftT a) = shM a n l' := by
  rw [hl']
  unfold shM
  rw [← hln, List.take_length, List.drop_length, List.append_nil]
 rw [hfin]
 have HA := Lib.hid ha
 rw [hn]
 clear hsc hps hl' hn hln hfin hW h
 go_enter Tryz.func19, Tryz.ntmps19
 go_wp2_with fail
 go_at_call 30; refine HSC.out.mono ?_
 rintro e w2 ⟨v, rfl, hb2, ho2⟩
 obtain ⟨ad, cap, rfl⟩ := slice_of ho2
 have H2 := Lib.hid (And.intro hb2 ho2)
 clear hb2 ho2 ha
 go_wp2_with fail
 go_loopg [29] n (fun gf s29 wx => ∃ i : Nat, s29 = .int .i64 (i : Int) ∧ i + gf = n ∧ Hid (Below W.heap.size W wx ∧ wx.ownsRow W.heap.size 75 3 (.slice ad n cap) n (tkCells (shM a i l'))))
 case atStart => exact ⟨0, rfl, by omega, H2⟩
 case round =>
  obtain ⟨i, rfl, hgf, HI⟩ := hrel
  clear H2
  by_cases hin : i < n
  ·obtain ⟨g', rfl⟩ : ∃ g', gk = g' + 1 := ⟨gk - 1, by omega⟩
   obtain ⟨tk, htk⟩ : ∃ tk, l'[i]? = some tk := ⟨l'[i]'(by rw [HLN.out]; exact hin), List.getElem?_eq_getElem _⟩
   have hnx := shM_next (a := a) htk
   have hat : tk.at_ ≤ 16384 := HPS.out tk (List.mem_of_getElem? htk)
   obtain ⟨g, cap', cur, hsl, hg1, hg2, hnm⟩ : ∃ g cap' cur, (Value.slice ad n cap) = .slice (some ⟨g, 0, none⟩) n cap' ∧ W.heap.size ≤ g ∧ wr.heap[g]? = some (.cells cur 75 (0, 0)) ∧ n ≤ 9223372036854775807 := by
    rcases HI.out.2.2 with ⟨-, h0⟩ | ⟨g, cap', cur, h1, h2, h3, h4, h5, -⟩
    ·omega
    ·exact ⟨g, cap', cur, h1, h2, h3, by unfold maxLen at h5; omega⟩
   injection hsl with had _ hcap
   subst had
   subst hcap
   have hrow := HI.out.2
   have c2 := (World.ownsRow.cells hrow (g := g) rfl (i * 3 + 2) _ (tk_at _ i tk hnx.1))
   have hadd : (⟨g, 0, none⟩ : Addr).add (i * 3 + 2) = ⟨g, i * 3 + 2, none⟩ := by simp [Addr.add]
   rw [hadd] at c2
   have f2 := hrow.frozenAt (i * 3 + 2)
   have hst := (hrow.stored (i * 3 + 2) (.int .i64 ((tk.at_ + a : Nat) : Int))).1
   rw [tk_set _ i tk a hnx.1, hnx.2] at hst
   have HN : Hid (Below W.heap.size W (wr.setCell ⟨g, i * 3 + 2, none⟩ (.int .i64 ((tk.at_ + a : Nat) : Int))) ∧ (wr.setCell ⟨g, i * 3 + 2, none⟩ (.int .i64 ((tk.at_ + a : Nat) : Int))).ownsRow W.heap.size 75 3 (.slice (some ⟨g, 0, none⟩) n cap) n (tkCells (shM a (i + 1) l'))) := Lib.hid ⟨HI.out.1.setCell (by exact hg1) _, hst⟩
   have ee : ((tk.at_ + a : Nat) : Int) = (tk.at_ : Int) + (a : Int) := by omega
   rw [ee] at HN
   have ha := HA.out
   have j0 : (0 : Int) ≤ (i : Int) := by omega
   have j1 : (i : Int) < (n : Int) := by omega
   clear hnx htk hrow hst hadd hg2 hg1 ee
   go_wp2_with fail
   go_roundg g'
   case measure => omega
   case rel => exact ⟨i + 1, by push_cast; rfl, by omega, HN⟩
  ·obtain rfl : i = n := by omega
   have j1 : ¬ (i : Int) < (i : Int) := by omega
   go_wp2_with fail
   go_ret
   exact ⟨_, rfl, HI.out.1, HI.out.2⟩
set_option maxRecDepth 100000 in
set_option maxHeartbeats 4000000 in
theorem scanned_err {W : World} {t : ByteArray} {c : Int} {p : Nat} (hW : Ready W) (h : scanL t = .error (c, p)) {a : Nat} (ha : a ≤ 1000000000) (hp : p ≤ 1000000000) : Calls Tryz.prog 19 #[.string t, .int .i64 (a : Int)] W fun e w' => ∃ D, e = .panicked [{ v := .iface 29 (.pointer (some ⟨D, 0, none⟩)), recovered := false }] ∧ W.heap.size ≤ D ∧ Blk w' D #[.int .i64 c, .string ⟨#[]⟩, .int .i64 ((a + p : Nat) : Int)] 34 ∧ Below W.heap.size W w' := by
 have HSC : Hid (Calls Tryz.prog 30 #[.string t] W fun e w' => ∃ D, e = .returned (.tuple #[.slice none 0 0, .pointer (some ⟨D, 0, none⟩)]) ∧ Blk w' D #[.int .i64 c, .string ⟨#[]⟩, .int .i64 (p : Int)] 34 ∧ Below W.heap.size W w') := Lib.hid (scan_err hW h)
 have HDG := Lib.hid (fun w => diag_any c ((a : Int) + (p : Int)) w)
 have HEE : Hid (((a + p : Nat) : Int) = (a : Int) + (p : Int)) := Lib.hid (by omega)
 have hw : IntKind.i64.wrap ((a : Int) + (p : Int)) = (a : Int) + (p : Int) := IntWalk.i64_in _ (by omega)
 rw [HEE.out]
 clear hW h
 go_enter Tryz.func19, Tryz.ntmps19
 go_wp2_with fail
 go_at_call 30; refine HSC.out.mono ?_
 rintro e w2 ⟨D, rfl, hD, hb2⟩
 have d0 := hD.cell 0
 have d2 := hD.cell 2
 have H2 := Lib.hid hb2
 clear hb2 hD
 go_wp2_with fail
 refine wp_region_held_drew (S := fun w' => w'.cell? ⟨D, 0, none⟩ = some (.int .i64 c) ∧ w'.cell? ⟨D, 2, none⟩ = some (.int .i64 (p : Int))) (by kernel_rfl) ⟨d0, d2⟩ (fun hHeld => ?_)
 refine wpAnyH_take (i := 0) (oi := _) (v := ?qs_v0) rfl (by kernel_rfl) (by kernel_rfl) (by kernel_rfl) (fun _ _ _ h => h) (Or.inl ⟨by rfl, ?qs_y0⟩) (by assumption) ?qs_r0
 case qs_y0 => (intro w hSw; (try dsimp only at hSw); go_simp; (try with_reducible rfl))
 try simp only [Act.put, List.setIfInBounds_toArray, List.set_cons_zero, List.set_cons_succ]
 refine wpAnyH_take (i := 1) (oi := _) (v := ?qs_v1) rfl (by kernel_rfl) (by kernel_rfl) (by kernel_rfl) (fun _ _ _ h => h) (Or.inl ⟨by rfl, ?qs_y1⟩) (by assumption) ?qs_r1
 case qs_y1 => (intro w hSw; (try dsimp only at hSw); go_simp; (try with_reducible rfl))
 try simp only [Act.put, List.setIfInBounds_toArray, List.set_cons_zero, List.set_cons_succ]
 refine wpAnyH_take (i := 2) (oi := _) (v := ?qs_v2) rfl (by kernel_rfl) (by kernel_rfl) (by kernel_rfl) (fun _ _ _ h => h) (Or.inl ⟨by rfl, ?qs_y2⟩) (by assumption) ?qs_r2
 case qs_y2 => (intro w hSw; (try dsimp only at hSw); go_simp; (try with_reducible rfl))
 try simp only [Act.put, List.setIfInBounds_toArray, List.set_cons_zero, List.set_cons_succ]
 refine wpAnyH_take (i := 3) (oi := _) (v := ?qs_v3) rfl (by kernel_rfl) (by kernel_rfl) (by kernel_rfl) (fun _ _ _ h => h) (Or.inl ⟨by rfl, ?qs_y3⟩) (by assumption) ?qs_r3
 case qs_y3 => (intro w hSw; (try dsimp only at hSw); go_simp; (try with_reducible rfl))
 try simp only [Act.put, List.setIfInBounds_toArray, List.set_cons_zero, List.set_cons_succ]
 refine wpAnyH_take (i := 4) (oi := _) (v := ?qs_v4) rfl (by kernel_rfl) (by kernel_rfl) (by kernel_rfl) (fun _ _ _ h => h) (Or.inl ⟨by rfl, ?qs_y4⟩) (by assumption) ?qs_r4
 case qs_y4 => (intro w hSw; (try dsimp only at hSw); go_simp; (try with_reducible rfl))
 try simp only [Act.put, List.setIfInBounds_toArray, List.set_cons_zero, List.set_cons_succ]
 refine wpAnyH_take (i := 5) (oi := _) (v := ?qs_v5) rfl (by kernel_rfl) (by kernel_rfl) (by kernel_rfl) (fun _ _ _ h => h) (Or.inl ⟨by rfl, ?qs_y5⟩) (by assumption) ?qs_r5
 case qs_y5 => (intro w hSw; (try dsimp only at hSw); go_simp; (try with_reducible rfl))
 try simp only [Act.put, List.setIfInBounds_toArray, List.set_cons_zero, List.set_cons_succ]
 refine wpAnyH_take (i := 6) (oi := _) (v := ?qs_v6) rfl (by kernel_rfl) (by kernel_rfl) (by kernel_rfl) (fun _ _ _ h => h) (Or.inl ⟨by rfl, ?qs_y6⟩) (by assumption) ?qs_r6
 case qs_y6 => (intro w hSw; (try dsimp only at hSw); go_simp; (try with_reducible rfl))
 try simp only [Act.put, List.setIfInBounds_toArray, List.set_cons_zero, List.set_cons_succ]
 refine wpAnyH_take (i := 7) (oi := _) (v := ?qs_v7) rfl (by kernel_rfl) (by kernel_rfl) (by kernel_rfl) (fun _ _ _ h => h) (Or.inl ⟨by rfl, ?qs_y7⟩) (by assumption) ?qs_r7
 case qs_y7 => (intro w hSw; (try dsimp only at hSw); go_simp; (try with_reducible rfl))
 try simp only [Act.put, List.setIfInBounds_toArray, List.set_cons_zero, List.set_cons_succ]
 refine wpAnyH_take (i := 8) (oi := _) (v := ?qs_v8) rfl (by kernel_rfl) (by kernel_rfl) (by kernel_rfl) (fun _ _ _ h => h) (Or.inl ⟨by rfl, ?qs_y8⟩) (by assumption) ?qs_r8
 case qs_y8 => (intro w hSw; (try dsimp only at hSw); go_simp; (try with_reducible rfl))
 try simp only [Act.put, List.setIfInBounds_toArray, List.set_cons_zero, List.set_cons_succ]
 refine wpAnyH_take (i := 9) (oi := _) (v := ?qs_v9) rfl (by kernel_rfl) (by kernel_rfl) (by kernel_rfl) (fun _ _ _ h => h) (Or.inl ⟨by rfl, ?qs_y9⟩) (by assumption) ?qs_r9
 case qs_y9 => (intro w hSw; (try dsimp only at hSw); go_simp; (try with_reducible rfl))
 try simp only [Act.put, List.setIfInBounds_toArray, List.set_cons_zero, List.set_cons_succ]
 refine wpAnyH_ready (rs := [10]) (by kernel_rfl) (by simp) ?_
 refine AllReadyH.cons (o := _) rfl (fun K hK => ?_) AllReadyH.nil
 go_simp
 go_at_call 31; try rw [hw]
 refine (HDG.out _).mono ?_; rintro e w3 ⟨rfl, hd3, hb3⟩
 have hlt := World.block_lt_of_cell? w2 _ d0
 have hlt2 : D < w2.heap.size := hlt
 refine hK.out _ _ ⟨(hb3.cell (p := ⟨D, 0, none⟩) hlt2).trans d0, (hb3.cell (p := ⟨D, 2, none⟩) hlt2).trans d2⟩ (fun hHeld => ?_)
 clear hK K
 try simp only [Act.put, List.setIfInBounds_toArray, List.set_cons_zero, List.set_cons_succ]
 refine wpAnyH_take (i := 11) (oi := _) (v := ?qs_v11) rfl (by kernel_rfl) (by kernel_rfl) (by kernel_rfl) (fun _ _ _ h => h) (Or.inl ⟨by rfl, ?qs_y11⟩) (by assumption) ?qs_r11
 case qs_y11 => (intro w hSw; (try dsimp only at hSw); go_simp; (try with_reducible rfl))
 try simp only [Act.put, List.setIfInBounds_toArray, List.set_cons_zero, List.set_cons_succ]
 refine wpAnyH_ready (rs := [12]) (by kernel_rfl) (by simp) ?_
 refine AllReadyH.cons (o := _) rfl (fun K hK => ?_) AllReadyH.nil
 go_simp
 refine ⟨rfl, ?_⟩
 exact ⟨_, rfl, H2.out.size, hd3, H2.out.trans (((Below.refl W.heap.size w2).drew).trans (hb3.mono H2.out.size))⟩
end Go.Proofs.YtljgggohjigaoaaGreatDoor
namespace Go.Proofs.YtljgggohjigaoaaGreatDoor
open Go.RowKit Go.Shelf
set_option linter.unusedVariables false

set_option maxRecDepth 100000 in
set_option maxHeartbeats 4000000 in
/-- The last token taken. -/
theorem ptake_end2 {W : World} {P F g dp : Nat} {over : Bool} {l : List Tk} (h : ParAt W P F g dp over l) {t : Tk} (htl : peekL over l = [t]) : Calls Tryz.prog 53 #[.pointer (some ⟨P, 0, none⟩)] W fun e w' => e = .returned (tkV t) ∧ Aside P W w' ∧ w'.cell? ⟨P, 3, none⟩ = some (.pointer (some ⟨F, 0, none⟩)) := by
 have HRK := Lib.hid h.ranks
 have HA : Hid (Blk (W.alloc (.cells tk0 75)) W.heap.size tk0 75 ∧ Below W.heap.size W (W.alloc (.cells tk0 75))) := Lib.hid ⟨Blk.new _ _ _, (Below.refl _ W).alloc (Nat.le_refl _) _⟩
 have HPK := Lib.hid (peek_any (h.below HA.out.2) (by rw [htl]; simp))
 rw [htl] at HPK
 have HPK : Hid (Calls Tryz.prog 52 #[.pointer (some ⟨P, 0, none⟩)] (W.alloc (.cells #[.int .i64 0, .string ⟨#[]⟩, .int .i64 0] 75)) (fun e w' => e = .returned (tkV t) ∧ ParAt w' P F g dp over [t] ∧ Aside P (W.alloc (.cells tk0 75)) w')) := HPK
 clear h htl
 go_enter Tryz.func53, Tryz.ntmps53
 go_wp2_with fail
 go_at_call 52; refine HPK.out.mono ?_; rintro e w2 ⟨rfl, hp2, ha2⟩
 have hr2 : Blk w2 W.heap.size #[.int .i64 0, .string ⟨#[]⟩, .int .i64 0] 75 := (ha2.block _ HA.out.1.lt (by have := HRK.out.1; omega)).trans HA.out.1
 have hsz2 : W.heap.size < w2.heap.size := hr2.lt
 have hal := below_new w2 (.cells #[.int .i64 t.k, .string t.x, .int .i64 (t.at_ : Int)] 75)
 have HK : Hid (ParAt (w2.alloc (.cells #[.int .i64 t.k, .string t.x, .int .i64 (t.at_ : Int)] 75)) P F g dp over [t] ∧ Blk (w2.alloc (.cells #[.int .i64 t.k, .string t.x, .int .i64 (t.at_ : Int)] 75)) w2.heap.size #[.int .i64 t.k, .string t.x, .int .i64 (t.at_ : Int)] 75 ∧ Blk (w2.alloc (.cells #[.int .i64 t.k, .string t.x, .int .i64 (t.at_ : Int)] 75)) W.heap.size #[.int .i64 0, .string ⟨#[]⟩, .int .i64 0] 75 ∧ Aside P W (w2.alloc (.cells #[.int .i64 t.k, .string t.x, .int .i64 (t.at_ : Int)] 75))) := Lib.hid ⟨hp2.below hal, Blk.new _ _ _, hr2.below hal, ((Aside.of HA.out.2).trans ha2).trans (Aside.of hal)⟩
 obtain ⟨b, hb⟩ : ∃ b, w2.heap.size = b := ⟨_, rfl⟩
 have hrk2 := hp2.ranks
 clear hp2 ha2 hr2 hal
 go_upto_region 2 with fail
 obtain ⟨w3, hw3⟩ : ∃ w3, w2.alloc (.cells #[.int .i64 t.k, .string t.x, .int .i64 (t.at_ : Int)] 75) = w3 := ⟨_, rfl⟩
 rw [hw3] at HK ⊢
 try rw [hb] at HK
 try rw [hb] at hsz2
 try rw [hb] at hrk2
 try rw [hb]
 clear hw3 hb
 obtain ⟨hgP, hg, hPl, o, cap, hcap, hB, hnext⟩ := HK.out.1.open
 have hcap : 1 ≤ cap := hcap
 have b0 := hB.cell 0
 have f0 := hB.frozen 0
 have v0 := HK.out.2.1.cell 0
 have v1 := HK.out.2.1.cell 1
 have v2 := HK.out.2.1.cell 2
 have z0 := HK.out.2.2.1.cell 0
 have z1 := HK.out.2.2.1.cell 1
 have z2 := HK.out.2.2.1.cell 2
 have y0 := HK.out.2.2.1.frozen 0
 have y1 := HK.out.2.2.1.frozen 1
 have y2 := HK.out.2.2.1.frozen 2
 have i1 : (1 : Int) ≤ (cap : Int) := by omega
 have d1 : ¬ b = P := by omega
 have d2 : ¬ P = b := by omega
 have d3 : ¬ W.heap.size = P := by have := HRK.out.1; omega
 have d4 : ¬ P = W.heap.size := by omega
 clear hnext hgP
 by_cases q1 : cap = 1
 ·subst q1
  have hqe := (HK.out.2.2.1.other (p := ⟨P, 0, none⟩) (by exact d3) (.slice (some ⟨g, o, none⟩) 0 0)).put3 (.int .i64 t.k) (.string t.x) (.int .i64 (t.at_ : Int))
  have r0 := hqe.cell 0
  have r1 := hqe.cell 1
  have r2 := hqe.cell 2
  have p3e := ((((hB.set 0 (.slice (some ⟨g, o, none⟩) 0 0)).other (p := ⟨W.heap.size, 0, none⟩) (by exact d4) (.int .i64 t.k)).other (p := ⟨W.heap.size, 1, none⟩) (by exact d4) (.string t.x)).other (p := ⟨W.heap.size, 2, none⟩) (by exact d4) (.int .i64 (t.at_ : Int))).cell 3
  have HP3E := Lib.hid p3e
  clear p3e
  clear hqe hB
  go_wp2_with fail
  refine bodyPost_ret (by simp [results, Tryz.results53, go_sem, r0, r1, r2]; try rfl) rfl ?_
  exact ⟨rfl, ((((HK.out.2.2.2.set 0 _).setFar (Nat.le_refl _) _).setFar (Nat.le_refl _) _).setFar (Nat.le_refl _) _), HP3E.out.trans (by rfl)⟩
 ·have hqe := (HK.out.2.2.1.other (p := ⟨P, 0, none⟩) (by exact d3) (.slice (some ⟨g, o + 3, none⟩) 0 (cap - 1))).put3 (.int .i64 t.k) (.string t.x) (.int .i64 (t.at_ : Int))
  have r0 := hqe.cell 0
  have r1 := hqe.cell 1
  have r2 := hqe.cell 2
  have p3e := ((((hB.set 0 (.slice (some ⟨g, o + 3, none⟩) 0 (cap - 1))).other (p := ⟨W.heap.size, 0, none⟩) (by exact d4) (.int .i64 t.k)).other (p := ⟨W.heap.size, 1, none⟩) (by exact d4) (.string t.x)).other (p := ⟨W.heap.size, 2, none⟩) (by exact d4) (.int .i64 (t.at_ : Int))).cell 3
  have HP3E := Lib.hid p3e
  clear p3e
  clear hqe hB
  go_wp2_with fail
  refine bodyPost_ret (by simp [results, Tryz.results53, go_sem, r0, r1, r2]; try rfl) rfl ?_
  exact ⟨rfl, ((((HK.out.2.2.2.set 0 _).setFar (Nat.le_refl _) _).setFar (Nat.le_refl _) _).setFar (Nat.le_refl _) _), HP3E.out.trans (by rfl)⟩
theorem good_last {l : List Tk} (h : GoodT l) (hk : (headT l).k = 0) : ∃ q, l = [q] ∧ q = headT l := by
 obtain ⟨l', e, rfl, h1, h2, h3⟩ := h
 cases l' with
 | nil => exact ⟨e, rfl, rfl⟩
 | cons a b => exact absurd hk (h3 a (by simp))
section
variable {W : World} {P F g dp : Nat} {over : Bool} {l : List Tk}
set_option maxRecDepth 100000 in
set_option maxHeartbeats 4000000 in
theorem wkind_end2 (h : ParAt W P F g dp over l) (hg : GoodT l) (hi : (headT (peekL over l)).k = 0) : Calls Tryz.prog 35 #[.pointer (some ⟨P, 0, none⟩), .int .i64 0] W fun e w' => e = .returned (tkV (headT (peekL over l))) ∧ Aside P W w' ∧ w'.cell? ⟨P, 3, none⟩ = some (.pointer (some ⟨F, 0, none⟩)) := by
 have hal := (Below.refl _ W).alloc (Nat.le_refl _) (.cells tk0 75)
 have HS0 : Hid (Blk (W.alloc (.cells tk0 75)) W.heap.size tk0 75 ∧ Below W.heap.size W (W.alloc (.cells tk0 75)) ∧ P < W.heap.size ∧ g < W.heap.size) := Lib.hid ⟨Blk.new _ _ _, hal, h.ranks.1, h.ranks.2.1⟩
 obtain ⟨t, ht⟩ : ∃ t, headT (peekL over l) = t := ⟨_, rfl⟩
 have HHT := Lib.hid ht
 have HI : Hid (Calls Tryz.prog 52 #[.pointer (some ⟨P, 0, none⟩)] (W.alloc (.cells #[.int .i64 0, .string ⟨#[]⟩, .int .i64 0] 75)) (fun e w' => e = .returned (tkV t) ∧ ParAt w' P F g dp over (peekL over l) ∧ Aside P (W.alloc (.cells tk0 75)) w')) := Lib.hid (by
  have := peek_any (h.below hal) (hg.peek over).ne
  rw [ht] at this
  exact this)
 have HK : Hid (∃ q, peekL over l = [q] ∧ q = headT (peekL over l)) := Lib.hid (good_last (hg.peek over) hi)
 rw [ht] at hi ⊢
 have e1 : (t.k != 0) = false := by simp [hi]
 have hfl : ∀ w : World, (Instr.field 75 (tkV t) 0).run Tryz.prog w = .ok (.int .i64 t.k) w := fun _ => rfl
 clear h hg hi hal ht
 go_enter Tryz.func35, Tryz.ntmps35
 go_wp2_with (go_at_call 52; refine HI.out.mono ?_; rintro e w2 ⟨rfl, hp2, ha2⟩; refine Hid.out ?_)
 refine Lib.hid ?_
 obtain ⟨q, hq1, hq2⟩ := HK.out
 have HT := Lib.hid (ptake_end2 (t := t) hp2 (by rw [peek_idem, hq1, hq2, HHT.out]))
 clear hq1 hq2
 have HA2 := Lib.hid ha2
 have hb2 : Blk w2 W.heap.size tk0 75 := (ha2.block _ HS0.out.1.lt (by have := HS0.out.2.2.1; omega)).trans HS0.out.1
 have HB2 := Lib.hid hb2
 clear hp2 ha2 hb2
 go_wp2_with (go_at_call 53; refine HT.out.mono ?_; rintro e w3 ⟨rfl, ha3, hc3⟩; refine Hid.out ?_)
 refine Lib.hid ?_
 have hb3 : Blk w3 W.heap.size #[.int .i64 0, .string ⟨#[]⟩, .int .i64 0] 75 := (ha3.block _ HB2.out.lt (by have := HS0.out.2.2.1; omega)).trans HB2.out
 have z0 := hb3.cell 0
 have z1 := hb3.cell 1
 have z2 := hb3.cell 2
 have y0 := hb3.frozen 0
 have y1 := hb3.frozen 1
 have y2 := hb3.frozen 2
 have hqe := hb3.put3 (.int .i64 t.k) (.string t.x) (.int .i64 (t.at_ : Int))
 have r0 := hqe.cell 0
 have r1 := hqe.cell 1
 have r2 := hqe.cell 2
 have HA3 := Lib.hid ha3
 have HC3 := Lib.hid hc3
 have HPW : Hid (W.heap.size ≠ P) := Lib.hid (by have := HS0.out.2.2.1; omega)
 clear hqe hb3 ha3 hc3
 go_wp2_with fail
 refine bodyPost_ret (by simp [results, Tryz.results35, go_sem, r0, r1, r2]; try rfl) rfl ?_
 exact ⟨rfl, ((((((Aside.of HS0.out.2.1).trans HA2.out).trans HA3.out).setFar (Nat.le_refl _) _).setFar (Nat.le_refl _) _).setFar (Nat.le_refl _) _), ((World.cell?_setCell_far _ _ _ _ (by exact HPW.out)).trans ((World.cell?_setCell_far _ _ _ _ (by exact HPW.out)).trans ((World.cell?_setCell_far _ _ _ _ (by exact HPW.out)).trans HC3.out)))⟩
theorem wkind_end (h : ParAt W P F g dp over l) (hg : GoodT l) (hi : (headT (peekL over l)).k = 0) : Calls Tryz.prog 35 #[.pointer (some ⟨P, 0, none⟩), .int .i64 0] W fun e w' => e = .returned (tkV (headT (peekL over l))) ∧ Aside P W w' := (wkind_end2 h hg hi).mono fun e w' hk => ⟨hk.1, hk.2.1⟩
end
end Go.Proofs.YtljgggohjigaoaaGreatDoor
