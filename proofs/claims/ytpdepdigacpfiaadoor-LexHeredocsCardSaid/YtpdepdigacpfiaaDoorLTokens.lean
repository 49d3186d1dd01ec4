/- tokens: the walk. -/
import Derived.Test.YtpdepdigacpfiaaDoorLTokMath
namespace Go.Proofs.YtpdepdigacpfiaaDoor
open Go.RowKit Go.Shelf
set_option linter.unusedVariables false

theorem infoTok : (Tryd.prog.info? 32).map (fun i => (i.zero, i.size, i.bytes)) = some (some (.agg #[.int .i64 0, .string ⟨#[]⟩, .int .i64 0]), 3, 32) := by kernel_rfl
def Tk.cells (x : Tk) : List Value := [.int .i64 x.k, .string x.x, .int .i64 (x.at_ : Int)]
def tkCells (l : List Tk) : List Value := l.flatMap Tk.cells
theorem tkCells_app (a b : List Tk) : tkCells (a ++ b) = tkCells a ++ tkCells b := by unfold tkCells; rw [List.flatMap_append]
set_option maxRecDepth 100000 in
theorem clone_any {s : ByteArray} (hs : s.size ≤ 1000000) (w : World) : Calls Tryd.prog 18 #[.string s] w fun e w' => e = .returned (.string s) ∧ Below w.heap.size w w' := by
  have HC := Lib.hid (Tryd.stringslite_Clone s w (by omega))
  go_enter Tryd.func18, Tryd.ntmps18
  go_wp2_with (go_at_call 32; refine HC.out.mono ?_; rintro e w1 ⟨rfl, hb⟩)
  go_ret
  exact ⟨rfl, hb⟩
theorem row_aside {w w' : World} {P B e size n : Nat} {v : Value} {xs : List Value} (h : w.ownsRow B e size v n xs) (ha : Aside P w w') (hP : P < B) : w'.ownsRow B e size v n xs := by
  obtain ⟨h1, h2⟩ := h
  refine ⟨h1, ?_⟩
  rcases h2 with h2 | ⟨g, cap, cur, rfl, h3, h4, h5⟩
  · exact .inl h2
  · exact .inr ⟨g, cap, cur, rfl, h3, (ha.block g (Array.getElem?_eq_some_iff.1 h4).1 (by omega)).trans h4, h5⟩
theorem went_grown {W w1 w2 : World} {P a : Nat} {t : ByteArray} (h : Went W w1 P t a) (hP : P < W.heap.size) {o : Obj} {row : Option Nat} (hg : (w1.alloc o).grownBy w2 row) (hr : ∀ k, row = some k → W.heap.size ≤ k) : Went W w2 P t a := by
  have hP1 : P < w1.heap.size := h.2.1.lt
  have hne : ∀ k, k < W.heap.size → some k ≠ row := fun k hk e => by have := hr k e.symm; omega
  refine ⟨⟨?_, ?_, ?_, ?_, fun k hk hkP => ?_⟩, ?_, h.2.2⟩
  · exact hg.os.trans h.1.os
  · exact hg.tape.trans h.1.tape
  · exact hg.output.trans h.1.output
  · have := hg.size; have := h.1.size; simp at *; omega
  · rw [hg.block k (by have := h.1.size; simp; omega) (hne k hk), Below.heap_alloc w1 o k (by have := h.1.size; omega)]
    exact h.1.block k hk hkP
  · show w2.heap[P]? = _
    rw [hg.block P (by simp; omega) (hne P hP), Below.heap_alloc w1 o P hP1]
    exact h.2.1
theorem signs_keep {W w1 : World} {P : Nat} {t : ByteArray} {b : Nat} (hP : 4 ≤ P) (hg : Signs W) (h : Went W w1 P t b) : Signs w1 := by
  obtain ⟨tg, fr, h0⟩ := hg
  exact ⟨tg, fr, (h.1.block 0 (Array.getElem?_eq_some_iff.1 h0).1 (by omega)).trans h0⟩
theorem cell_three (w : World) (x y z : Value) (t : TypeId) : ∀ j u, [x, y, z][j]? = some u → (w.alloc (.cells #[x, y, z] t)).cell? ((⟨w.heap.size, 0, none⟩ : Addr).add j) = some u := by
  intro j u hj
  match j, hj with
  | 0, hj => simp at hj; subst hj; simp [Addr.add]
  | 1, hj => simp at hj; subst hj; simp [Addr.add]
  | 2, hj => simp at hj; subst hj; simp [Addr.add]
  | (j + 3), hj => simp at hj

theorem cell_went {W w1 : World} {P b : Nat} {t : ByteArray} {v : Value} (hP : 4 ≤ P) (hm : W.cell? ⟨1, 0, none⟩ = some v) (h : Went W w1 P t b) : w1.cell? ⟨1, 0, none⟩ = some v := by
  have hl := World.block_lt_of_cell? W ⟨1, 0, none⟩ hm
  rw [World.cell?, h.1.block 1 hl (by omega)]
  exact hm
theorem row_shape {w : World} {base : Nat} {e : TypeId} {size : Nat} {v : Value} {n : Nat} {xs : List Value} (h : w.ownsRow base e size v n xs) : ∃ ad cap, v = .slice ad n cap := by
  rcases h.2 with ⟨rfl, rfl⟩ | ⟨g, cap, cur, rfl, -⟩
  · exact ⟨none, 0, rfl⟩
  · exact ⟨_, cap, rfl⟩
theorem TEnds.isErr {W w' : World} {P : Nat} {t : ByteArray} {d : Int} {e : Ending} (h : TEnds W P t (.error d) e w') : e = .returned (.tuple #[.string ⟨#[]⟩, .int .i64 d]) ∧ ∃ b, Went W w' P t b := by
  obtain ⟨b, h1, ⟨x, R', s, h2, -⟩ | ⟨c, h2, h3⟩⟩ := h
  · cases h2
  · cases h2; exact ⟨h3, b, h1⟩
theorem TEnds.isOk {W w' : World} {P : Nat} {t : ByteArray} {x R : List UInt8} {e : Ending} (h : TEnds W P t (.ok (x, R)) e w') : e = .returned (.tuple #[.string ⟨x.toArray⟩, .int .i64 0]) ∧ ∃ b, Went W w' P t b ∧ rest t b = R := by
  obtain ⟨b, h1, ⟨x', R', s, h2, h3, h4, h5⟩ | ⟨c, h2, -⟩⟩ := h
  · cases h2
    rw [str_of_list h4] at h3
    exact ⟨h3, b, h1, h5⟩
  · cases h2
/-- What tokens answers: all of them, or what is wrong at a byte. -/
def ToksEnd (W : World) (P : Nat) (sz : Nat) (r : Except (Int × Nat) (List Tk)) (e : Ending) (w' : World) : Prop :=
  Aside P W w' ∧ ((∃ l v, r = .ok l ∧ e = .returned (.tuple #[v, .pointer none]) ∧ w'.ownsRow W.heap.size 32 3 v (l.length + 1) (tkCells (l ++ [⟨0, ⟨#[]⟩, sz⟩]))) ∨
    (∃ c p D, r = .error (c, p) ∧ e = .returned (.tuple #[.slice none 0 0, .pointer (some ⟨D, 0, none⟩)]) ∧ W.heap.size ≤ D ∧ Blk w' D #[.int .i64 c, .string ⟨#[]⟩, .int .i64 (p : Int)] 29))
set_option maxRecDepth 100000 in
set_option maxHeartbeats 16000000 in
theorem tokens_any {W : World} {P a : Nat} {t : ByteArray} {m : Int} (h : Scn W P t a) (hP : 4 ≤ P) (hm : W.cell? ⟨1, 0, none⟩ = some (.int .i64 m)) (hg : Signs W) : Calls Tryd.prog 14 #[.pointer (some ⟨P, 0, none⟩)] W (ToksEnd W P t.size (tokL t.size (t.size + 1) (betweenA (rest t a)) [])) := by
  obtain ⟨i0, hi, hz0, hz1, hz2⟩ := info_parts infoTok
  have hPW := h.1.lt
  have hsz := h.2
  have HS := Lib.hid h
  have HM := Lib.hid hm
  have HG := Lib.hid hg
  have HB := Lib.hid (fun (w : World) (c : Nat) (hs : Scn w P t c) (hm : w.cell? ⟨1, 0, none⟩ = some (.int .i64 m)) => between_any hs hP hm rfl)
  have HN := Lib.hid (fun (w : World) (c : Nat) (hs : Scn w P t c) (hc : c < t.size) => next_any hs hP hc)
  have HC := Lib.hid (fun (s : ByteArray) (hs : s.size ≤ 1000000) (w : World) => clone_any hs w)
  obtain ⟨X, hX⟩ : ∃ X, tokL t.size (t.size + 1) (betweenA (rest t a)) [] = X := ⟨_, rfl⟩
  rw [hX]
  have HX := Lib.hid hX
  have hbl := betweenA_le (Nat.le_refl (rest t a).length)
  rw [rest_length] at hbl
  clear h hm hg hX
  go_enter Tryd.func14, Tryd.ntmps14
  go_wp2_with fail
  go_at_call 16; refine (HB.out _ a HS.out HM.out).mono ?_; rintro e w1 ⟨rfl, hw1, hr1⟩
  have HW1 := Lib.hid hw1
  have HR1 := Lib.hid hr1
  clear hw1 hr1
  go_wp2_with fail
  obtain ⟨c0, hc0⟩ : ∃ c0, t.size - (betweenA (rest t a)).length = c0 := ⟨_, rfl⟩
  rw [hc0] at HW1 HR1
  have HX1 : Hid (tokL t.size (t.size + 1) (rest t c0) [] = X) := Lib.hid (by rw [HR1.out]; exact HX.out)
  clear hc0 hbl
  go_loopg [4] t.size (fun gf s4 wx => ∃ (c : Nat) (acc : List Tk), Hid (Went W wx P t c) ∧ Hid (wx.ownsRow W.heap.size 32 3 s4 acc.length (tkCells acc)) ∧ Hid (tokL t.size (t.size + 1) (rest t c) acc = X) ∧ t.size - c ≤ gf ∧ acc.length ≤ 4096)
  case atStart => exact ⟨c0, [], HW1, Lib.hid ⟨rfl, .inl ⟨rfl, rfl⟩⟩, HX1, by omega, by simp⟩
  case round =>
    obtain ⟨c, acc, HWc, HO, HE, hfu, hal⟩ := hrel
    obtain ⟨ad, cap, rfl⟩ := row_shape HO.out
    have hcs := HWc.out.2.2.1
    have k0 := HWc.out.2.1.cell 0
    have k1 := HWc.out.2.1.cell 1
    have hwlt := HWc.out.1.size
    by_cases hlt : c < t.size
    · obtain ⟨g', rfl⟩ : ∃ g', gk = g' + 1 := ⟨gk - 1, by omega⟩
      have j0 : (c : Int) < (t.size : Int) := by omega
      go_wp2_with fail
      go_quiet (fail)
      obtain ⟨W2, hW2⟩ : ∃ W2, wr.drewN nq = W2 := ⟨_, rfl⟩
      have hb2 : Below wr.heap.size wr W2 := by rw [← hW2]; exact below_drewN _ _
      have HW2 := Lib.hid (HWc.out.trans (HWc.out.2.stays hb2))
      have HO2 := Lib.hid (row_below' HO.out hb2)
      rw [hW2]
      clear hW2 hb2 k0 k1 hwlt
      have k1 := HW2.out.2.1.cell 1
      go_wp2_with fail
      have hne : rest t c ≠ [] := by rw [rest_cons hlt]; simp
      have hgo := nextL_goes hne
      have hNc := HN.out W2 c HW2.out.2 hlt
      have HNc := Lib.hid hNc
      clear hNc
      go_at_call 17; refine HNc.out.mono ?_; rintro e w3 ⟨⟨f, rfl, hrd⟩, hb3⟩
      have HW3 := Lib.hid (HW2.out.trans (HW2.out.2.stays hb3))
      have HO3 := Lib.hid (row_below' HO2.out hb3)
      have eg := hrd.enters
      have hcon := hrd.reads w3 HW3.out.2 (signs_keep hP HG.out HW3.out)
      have hunf : ∀ k r, nextL (rest t c) = (k, r) → tokL t.size (t.size + 1) (rest t c) acc = match r with
        | .error d => .error (d, c)
        | .ok (x, R') => if acc.length = 4096 then .error (3, c) else tokL t.size t.size (betweenA R') (acc ++ [⟨k, ⟨x.toArray⟩, c⟩]) := by
        intro k r e
        conv => lhs; unfold tokL
        rw [if_neg (by simpa using hne), rest_length, show t.size - (t.size - c) = c by omega, e]
        rfl
      have hgo1 := hgo.1
      have hgo2 := hgo.2
      rw [rest_length] at hgo1
      obtain ⟨k, hk⟩ : ∃ k, (nextL (rest t c)).1 = k := ⟨_, rfl⟩
      obtain ⟨r, hr⟩ : ∃ r, (nextL (rest t c)).2 = r := ⟨_, rfl⟩
      have hunf := hunf k r (by rw [← hk, ← hr])
      rw [hr] at hcon hgo1 hgo2
      rw [hk]
      clear hk hr hrd hb3 k1 hne HNc hgo
      cases r with
      | error d =>
        have hd := hgo2 d rfl
        have hd0 : (d == 0) = false := beq_eq_false_iff_ne.2 (by omega)
        have hd1 : (d != 0) = true := by simp only [bne, hd0]; rfl
        replace hcon := hcon.mono fun _ _ h => h.isErr
        have HU := Lib.hid hunf
        clear hunf hgo1 hgo2
        go_wp2_with (go_at_fn f; refine hcon.mono ?_; rintro e w4 ⟨rfl, b, hw4⟩)
        go_ret2
        have hW4 := HW3.out.trans hw4
        refine ⟨hW4.1.trans (Aside.of (below_new _ _)), .inr ⟨d, c, _, ?_, rfl, hW4.1.size, Blk.new _ _ _⟩⟩
        rw [← HE.out, HU.out]
      | ok p =>
        obtain ⟨x, R'⟩ := p
        obtain ⟨hl1, hl2⟩ := hgo1 x R' rfl
        replace hcon := hcon.mono fun _ _ h => h.isOk
        obtain ⟨xb, hxb⟩ : ∃ xb : ByteArray, (⟨x.toArray⟩ : ByteArray) = xb := ⟨_, rfl⟩
        have hxs : xb.size ≤ 1000000 := by rw [← hxb]; show x.toArray.size ≤ _; rw [List.size_toArray]; omega
        simp only [hxb] at hcon hunf
        have HXC := Lib.hid (fun w => HC.out xb hxs w)
        clear hgo1 hgo2 hxb
        by_cases hmax : acc.length = 4096
        · have hq : ((acc.length : Int) == 4096) = true := beq_iff_eq.2 (by omega)
          have HU : Hid (tokL t.size (t.size + 1) (rest t c) acc = .error (3, c)) := Lib.hid (by rw [hunf]; exact if_pos hmax)
          clear hunf
          go_wp2_with (go_at_fn f; refine hcon.mono ?_; rintro e w4 ⟨rfl, b, hw4, hrb⟩)
          go_ret2
          have hW4 := HW3.out.trans hw4
          refine ⟨hW4.1.trans (Aside.of (below_new _ _)), .inr ⟨3, c, _, ?_, rfl, hW4.1.size, Blk.new _ _ _⟩⟩
          rw [← HE.out, HU.out]
        · have hq : ((acc.length : Int) == 4096) = false := beq_eq_false_iff_ne.2 (by omega)
          have hal1 : acc.length < 4096 := by omega
          have HU : Hid (tokL t.size (t.size + 1) (rest t c) acc = tokL t.size t.size (betweenA R') (acc ++ [⟨k, xb, c⟩])) := Lib.hid (by rw [hunf]; exact if_neg hmax)
          clear hunf hmax
          go_wp2_with fail
          go_at_fn f; refine hcon.mono ?_; rintro e w4 ⟨rfl, b, hw4, hrb⟩
          have HW4 := Lib.hid (HW3.out.trans hw4)
          have HO4 := Lib.hid (row_aside HO3.out hw4.1 hPW)
          have HRB := Lib.hid hrb
          clear hw4 hrb hcon
          go_wp2_with fail
          go_at_call 18; refine (HXC.out w4).mono ?_; rintro e w5 ⟨rfl, hb5⟩
          have HW5 := Lib.hid (HW4.out.trans (HW4.out.2.stays hb5))
          have hrow5 := (row_below' HO4.out hb5).alloc (.cells #[.int .i64 k, .string xb, .int .i64 (c : Int)] 32)
          have hlt5 := HW5.out.1.size
          clear hb5
          go_wp2_with (at_builtin; refine wpList_append_own _ rfl _ _ 23 rfl W.heap.size 32 i0 (.agg #[.int .i64 0, .string ⟨#[]⟩, .int .i64 0]) 3 32 Tryd.underlying23 hi hz0 hz1 hz2 rfl (by decide) _ _ _ rfl hrow5 ⟨w5.heap.size, 0, none⟩ 1 1 [.int .i64 k, .string xb, .int .i64 (c : Int)] rfl rfl (cell_three _ _ _ _ _) (by intro u hu; simp at hu; rcases hu with rfl | rfl | rfl <;> rfl) (by unfold maxLen; omega) (by omega) (by simp; omega) ?_; intro v' w6 hown' hgrow _)
          have HW6 := Lib.hid (went_grown HW5.out hPW hgrow (fun q hq => own_base hrow5 q hq))
          have HO6 := Lib.hid hown'
          clear hown' hgrow hrow5 hlt5
          go_wp2_with fail
          go_at_call 16; refine (HB.out w6 b HW6.out.2 (cell_went hP HM.out HW6.out)).mono ?_; rintro e w7 ⟨rfl, hw7, hr7⟩
          have hb7 := betweenA_le (Nat.le_refl (rest t b).length)
          rw [HRB.out] at hb7 hr7 hw7
          have HW7 := Lib.hid (HW6.out.trans hw7)
          have HO7 := Lib.hid (row_aside HO6.out hw7.1 hPW)
          have HR7 := Lib.hid hr7
          clear hw7 hr7
          go_wp2_with fail
          go_roundg g'
          case measure => omega
          case rel =>
            refine ⟨_, acc ++ [⟨k, xb, c⟩], HW7, Lib.hid ?_, Lib.hid ?_, by omega, by simp; omega⟩
            · have := HO7.out
              rw [tkCells_app, List.length_append]
              exact this
            · rw [HR7.out, ← HE.out, HU.out]
              exact tokL_more (by omega) (by omega)
    · obtain rfl : c = t.size := by omega
      have j0 : ((t.size : Int) < (t.size : Int)) = False := by simp
      have hR0 : rest t t.size = [] := List.length_eq_zero_iff.1 (by rw [rest_length]; omega)
      have HU : Hid (X = .ok acc) := Lib.hid (by rw [← HE.out, hR0]; rfl)
      clear hR0
      go_wp2_with fail
      go_quiet (fail)
      obtain ⟨W2, hW2⟩ : ∃ W2, wr.drewN nq = W2 := ⟨_, rfl⟩
      have hb2 : Below wr.heap.size wr W2 := by rw [← hW2]; exact below_drewN _ _
      have HW2 := Lib.hid (HWc.out.trans (HWc.out.2.stays hb2))
      have hrow5 := (row_below' HO.out hb2).alloc (.cells #[.int .i64 0, .string ⟨#[]⟩, .int .i64 (t.size : Int)] 32)
      rw [hW2]
      clear hW2 hb2 k0 k1 hwlt
      have k1 := HW2.out.2.1.cell 1
      have hlt5 := HW2.out.1.size
      go_wp2_with (at_builtin; refine wpList_append_own _ rfl _ _ 23 rfl W.heap.size 32 i0 (.agg #[.int .i64 0, .string ⟨#[]⟩, .int .i64 0]) 3 32 Tryd.underlying23 hi hz0 hz1 hz2 rfl (by decide) _ _ _ rfl hrow5 ⟨W2.heap.size, 0, none⟩ 1 1 [.int .i64 0, .string ⟨#[]⟩, .int .i64 (t.size : Int)] rfl rfl (cell_three _ _ _ _ _) (by intro u hu; simp at hu; rcases hu with rfl | rfl | rfl <;> rfl) (by unfold maxLen; omega) (by omega) (by simp; omega) ?_; intro v' w6 hown' hgrow _)
      have HW6 := Lib.hid (went_grown HW2.out hPW hgrow (fun q hq => own_base hrow5 q hq))
      have HO6 := Lib.hid hown'
      clear hown' hgrow hrow5 hlt5
      go_ret2
      refine ⟨HW6.out.1, .inl ⟨acc, v', HU.out, rfl, ?_⟩⟩
      have := HO6.out
      rw [tkCells_app]
      exact this
end Go.Proofs.YtpdepdigacpfiaaDoor
