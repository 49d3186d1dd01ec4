/- Tokens, as a function on what is left · tokens: the walk · Scan's first look: the first byte at which no rune begins · Scan: the walk · Is: a diagnosis as told; a row of tokens, as it is read -/
import Derived.Test.YtljgggohjigaoaaGreatDoorSk06
namespace Go.Proofs.YtljgggohjigaoaaGreatDoor
open Go.RowKit Go.Shelf
set_option linter.unusedVariables false

/-- A reader of tokens that goes on, by no more bytes than four for one. -/
def TGoes (R : List UInt8) (r : Except Int (List UInt8 × List UInt8)) : Prop := (∀ x R', r = .ok (x, R') → R'.length < R.length ∧ x.length ≤ 4 * R.length) ∧ (∀ c, r = .error c → 0 < c ∧ c < 100)
theorem tookL_le (R R' : List UInt8) : (tookL R R').length ≤ R.length := by unfold tookL; simp
theorem escFrom_le (s : ByteArray) : ∀ n pos, (escFrom s n pos).length ≤ 4 * n
 | 0, _ => by simp [escFrom]
 | n + 1, pos => by
  unfold escFrom
  split
  ·have h1 := (escRune_le (Utf8.decode s pos).1).2
   have h2 := escFrom_le s n (pos + (Utf8.decode s pos).2)
   simp; omega
  ·simp
theorem hereL_goes {nm B : List UInt8} : ∀ {n : Nat} {R : List UInt8}, (∀ x R', hereL n nm B R = .ok (x, R') → R'.length < R.length ∧ x.length ≤ 4 * B.length) ∧ (∀ c, hereL n nm B R = .error c → 0 < c ∧ c < 100)
 | 0, R => ⟨fun x R' h => (by cases h), fun c h => (by cases h; decide)⟩
 | n + 1, R => by
  unfold hereL
  split
  ·rename_i hp
   have h3 := prefix_drop hp
   have h4 := dropWhile_le (q := notIn [10]) (R.drop 1)
   simp at h3 h4
   split
   ·refine ⟨fun x R' h => ?_, fun c h => (by cases h)⟩
    cases h
    refine ⟨by simp; omega, ?_⟩
    have := escFrom_le ⟨(tookL B (R.drop 1)).toArray⟩ (tookL B (R.drop 1)).length 0
    have := tookL_le B (R.drop 1)
    unfold escB
    omega
   ·obtain ⟨i1, i2⟩ := hereL_goes (nm := nm) (B := B) (n := n) (R := (R.drop 1).dropWhile (notIn [10]))
    refine ⟨fun x R' h => ?_, i2⟩
    obtain ⟨a, b⟩ := i1 x R' h
    exact ⟨by simp at a; omega, b⟩
  ·exact ⟨fun x R' h => (by cases h), fun c h => (by cases h; decide)⟩
theorem nextL_goes {R : List UInt8} (hR : R ≠ []) : TGoes R (nextL R).2 := by
 unfold nextL
 match R, hR with
 | c :: r, _ =>
  simp only
  split
  ·refine ⟨fun x R' h => ?_, fun c h => (by cases h)⟩
   cases h
   simp
   omega
  ·split
   ·unfold quotedL
    obtain ⟨h1, h2⟩ := textL_on (braceL_on 24) (c :: r)
    cases hr : textL (braceL 24) (c :: r) with
    | ok R1 =>
     refine ⟨fun x R' h => ?_, fun c h => (by cases h)⟩
     cases h
     refine ⟨h1 _ hr, ?_⟩
     simp; omega
    | error d =>
     exact ⟨fun x R' h => (by cases h), fun c h => (by cases h; exact h2 _ hr)⟩
   ·split
    ·rename_i hp
     have h3 := prefix_drop hp
     unfold heredocL
     split
     ·obtain ⟨i1, i2⟩ := hereL_goes (nm := tookL ((c :: r).drop 2) (wordL ((c :: r).drop 2))) (B := (wordL ((c :: r).drop 2)).drop 1) (n := (wordL ((c :: r).drop 2)).length + 1) (R := wordL ((c :: r).drop 2))
      have h5 := wordL_le ((c :: r).drop 2)
      refine ⟨fun x R' h => ?_, i2⟩
      obtain ⟨a, b⟩ := i1 x R' h
      have h6 : ((c :: r).drop 2).length = (c :: r).length - 2 := List.length_drop
      rw [List.length_drop] at b
      simp only [List.length_cons, List.length_nil] at *
      omega
     ·exact ⟨fun x R' h => (by cases h), fun c h => (by cases h; decide)⟩
    ·split
     ·rename_i hd
      unfold numberL
      have h4 := dropWhile_le (q := digB) r
      split
      ·exact ⟨fun x R' h => (by cases h), fun c h => (by cases h; decide)⟩
      ·split
       ·refine ⟨fun x R' h => ?_, fun c h => (by cases h)⟩
        cases h
        have := tookL_le (c :: r) ((c :: r).dropWhile digB)
        rw [List.dropWhile_cons_of_pos hd] at *
        simp at *
        omega
       ·split
        ·exact ⟨fun x R' h => (by cases h), fun c h => (by cases h; decide)⟩
        ·exact ⟨fun x R' h => (by cases h), fun c h => (by cases h; decide)⟩
     ·split
      ·rename_i hl
       unfold nameL
       have h4 := dropWhile_le (q := wordB) r
       split
       ·exact ⟨fun x R' h => (by cases h), fun c h => (by cases h; decide)⟩
       ·refine ⟨fun x R' h => ?_, fun c h => (by cases h)⟩
        cases h
        have := tookL_le (c :: r) (wordL (c :: r))
        rw [wordL_cons, if_pos hl] at *
        simp at *
        omega
      ·unfold signL
       split
       ·exact ⟨fun x R' h => (by cases h), fun c h => (by cases h; decide)⟩
       ·split
        ·rename_i s hs
         have hm : ∀ (l : List ByteArray), (∀ y ∈ l, 1 ≤ y.size) → firstSign (c :: r) l = some s → 1 ≤ s.size ∧ Lib.hasPrefix (c :: r) s.data.toList = true := by
          intro l
          induction l with
          | nil => intro _ h; cases h
          | cons y l ih =>
           intro hy h
           unfold firstSign at h
           split at h
           ·cases h
            exact ⟨hy _ List.mem_cons_self, by assumption⟩
           ·exact ih (fun z hz => hy z (List.mem_cons_of_mem _ hz)) h
         obtain ⟨h1, h2⟩ := hm signsB (by decide) hs
         have h3 := prefix_drop h2
         refine ⟨fun x R' h => ?_, fun c h => (by cases h)⟩
         cases h
         have hs2 : s.data.toList.length = s.size := by simp
         simp only [List.length_drop, List.length_cons] at *
         omega
        ·exact ⟨fun x R' h => (by cases h), fun c h => (by cases h; decide)⟩
/-- A token: its kind, its text, its first byte. -/
structure Tk where
 k : Int
 x : ByteArray
 at_ : Nat
/-- All tokens of what is left, behind those that there are. -/
def tokL (sz : Nat) : Nat → List UInt8 → List Tk → Except (Int × Nat) (List Tk)
 | 0, R, acc => .error (0, 0)
 | n + 1, R, acc => if R.isEmpty then .ok acc else match (nextL R).2 with
  | .error c => .error (c, sz - R.length)
  | .ok (x, R') => if acc.length = 4096 then .error (3, sz - R.length) else tokL sz n (betweenA R') (acc ++ [⟨(nextL R).1, ⟨x.toArray⟩, sz - R.length⟩])
theorem betweenA_le : ∀ {n : Nat} {R : List UInt8}, R.length ≤ n → (betweenA R).length ≤ R.length
 | n, R, hn => by
  by_cases h : (R.dropWhile (bytesIn [32, 9, 13])).length < R.length
  ·obtain ⟨m, rfl⟩ : ∃ m, n = m + 1 := ⟨n - 1, by omega⟩
   rw [betweenA_blank h]
   have := betweenA_le (n := m) (R := R.dropWhile (bytesIn [32, 9, 13])) (by omega)
   omega
  ·cases hr : remarkL R with
   | some R2 =>
    have h1 := remark_less hr
    obtain ⟨m, rfl⟩ : ∃ m, n = m + 1 := ⟨n - 1, by omega⟩
    rw [betweenA_remark h hr]
    have := betweenA_le (n := m) (R := R2) (by omega)
    omega
   | none => rw [betweenA_none h hr]; exact Nat.le_refl _
termination_by n => n
theorem tokL_more {sz : Nat} : ∀ {n m : Nat} {R : List UInt8} {acc : List Tk}, R.length < n → R.length < m → tokL sz n R acc = tokL sz m R acc
 | 0, m, R, acc, h, _ => by omega
 | n + 1, 0, R, acc, _, h => by omega
 | n + 1, m + 1, R, acc, h1, h2 => by
  unfold tokL
  split
  ·rfl
  ·rename_i hR
   have hne : R ≠ [] := by intro e; subst e; simp at hR
   have hg := nextL_goes hne
   cases hr : (nextL R).2 with
   | error c => rfl
   | ok p =>
    obtain ⟨x, R'⟩ := p
    have h3 := (hg.1 x R' hr).1
    have h4 := betweenA_le (Nat.le_refl R'.length)
    simp only
    split
    ·rfl
    ·exact tokL_more (by omega) (by omega)
end Go.Proofs.YtljgggohjigaoaaGreatDoor
namespace Go.Proofs.YtljgggohjigaoaaGreatDoor
open Go.RowKit Go.Shelf
set_option linter.unusedVariables false

theorem infoTok : (Tryz.prog.info? 75).map (fun i => (i.zero, i.size, i.bytes)) = some (some (.agg #[.int .i64 0, .string ⟨#[]⟩, .int .i64 0]), 3, 32) := by kernel_rfl
def Tk.cells (x : Tk) : List Value := [.int .i64 x.k, .string x.x, .int .i64 (x.at_ : Int)]
def tkCells (l : List Tk) : List Value := l.flatMap Tk.cells
theorem tkCells_app (a b : List Tk) : tkCells (a ++ b) = tkCells a ++ tkCells b := by unfold tkCells; rw [List.flatMap_append]
set_option maxRecDepth 100000 in
theorem clone_any {s : ByteArray} (hs : s.size ≤ 1000000) (w : World) : Calls Tryz.prog 70 #[.string s] w fun e w' => e = .returned (.string s) ∧ Below w.heap.size w w' := by
 have HC := Lib.hid (Tryz.stringslite_Clone s w (by omega))
 go_enter Tryz.func70, Tryz.ntmps70
 go_wp2_with (go_at_call 96; refine HC.out.mono ?_; rintro e w1 ⟨rfl, hb⟩)
 go_ret
 exact ⟨rfl, hb⟩
theorem row_aside {w w' : World} {P B e size n : Nat} {v : Value} {xs : List Value} (h : w.ownsRow B e size v n xs) (ha : Aside P w w') (hP : P < B) : w'.ownsRow B e size v n xs := by
 obtain ⟨h1, h2⟩ := h
 refine ⟨h1, ?_⟩
 rcases h2 with h2 | ⟨g, cap, cur, rfl, h3, h4, h5⟩
 ·exact .inl h2
 ·exact .inr ⟨g, cap, cur, rfl, h3, (ha.block g (Array.getElem?_eq_some_iff.1 h4).1 (by omega)).trans h4, h5⟩
theorem went_grown {W w1 w2 : World} {P a : Nat} {t : ByteArray} (h : Went W w1 P t a) (hP : P < W.heap.size) {o : Obj} {row : Option Nat} (hg : (w1.alloc o).grownBy w2 row) (hr : ∀ k, row = some k → W.heap.size ≤ k) : Went W w2 P t a := by
 have hP1 : P < w1.heap.size := h.2.1.lt
 have hne : ∀ k, k < W.heap.size → some k ≠ row := fun k hk e => by have := hr k e.symm; omega
 refine ⟨⟨?_, ?_, ?_, ?_, fun k hk hkP => ?_⟩, ?_, h.2.2⟩
 ·exact hg.os.trans h.1.os
 ·exact hg.tape.trans h.1.tape
 ·exact hg.output.trans h.1.output
 ·have := hg.size; have := h.1.size; simp at *; omega
 ·rw [hg.block k (by have := h.1.size; simp; omega) (hne k hk), Below.heap_alloc w1 o k (by have := h.1.size; omega)]
  exact h.1.block k hk hkP
 ·show w2.heap[P]? = _
  rw [hg.block P (by simp; omega) (hne P hP), Below.heap_alloc w1 o P hP1]
  exact h.2.1
theorem signs_keep {W w1 : World} {P : Nat} {t : ByteArray} {b : Nat} (hP : 4 ≤ P) (hg : Signs W) (h : Went W w1 P t b) : Signs w1 := by
 obtain ⟨tg, fr, h0⟩ := hg
 exact ⟨tg, fr, (h.1.block 0 (Array.getElem?_eq_some_iff.1 h0).1 (by omega)).trans h0⟩
theorem cell_three (w : World) (x y z : Value) (t : TypeId) : ∀ j u, [x, y, z][j]? = some u → (w.alloc (.cells #[x, y, z] t)).cell? ((⟨w.heap.size, 0, none⟩ : Addr).add j) = some u := by
 intro j u hj
 match j, hj with
 | 0, hj => simp at hj; subst hj; simp [Addr.add]
 | 1, hj => simp at hj; subst hj; simp [Addr.add]
 | 2, hj => simp at hj; subst hj; simp [Addr.add]
 | (j + 3), hj => simp at hj

theorem cell_went {W w1 : World} {P b : Nat} {t : ByteArray} {v : Value} (hP : 4 ≤ P) (hm : W.cell? ⟨2, 0, none⟩ = some v) (h : Went W w1 P t b) : w1.cell? ⟨2, 0, none⟩ = some v := by
 have hl := World.block_lt_of_cell? W ⟨2, 0, none⟩ hm
 rw [World.cell?, h.1.block 2 hl (by omega)]
 exact hm
theorem row_shape {w : World} {base : Nat} {e : TypeId} {size : Nat} {v : Value} {n : Nat} {xs : List Value} (h : w.ownsRow base e size v n xs) : ∃ ad cap, v = .slice ad n cap := by
 rcases h.2 with ⟨rfl, rfl⟩ | ⟨g, cap, cur, rfl, -⟩
 ·exact ⟨none, 0, rfl⟩
 ·exact ⟨_, cap, rfl⟩
theorem TEnds.isErr {W w' : World} {P : Nat} {t : ByteArray} {d : Int} {e : Ending} (h : TEnds W P t (.error d) e w') : e = .returned (.tuple #[.string ⟨#[]⟩, .int .i64 d]) ∧ ∃ b, Went W w' P t b := by
 obtain ⟨b, h1, ⟨x, R', s, h2, -⟩ | ⟨c, h2, h3⟩⟩ := h
 ·cases h2
 ·cases h2; exact ⟨h3, b, h1⟩
theorem TEnds.isOk {W w' : World} {P : Nat} {t : ByteArray} {x R : List UInt8} {e : Ending} (h : TEnds W P t (.ok (x, R)) e w') : e = .returned (.tuple #[.string ⟨x.toArray⟩, .int .i64 0]) ∧ ∃ b, Went W w' P t b ∧ rest t b = R := by
 obtain ⟨b, h1, ⟨x', R', s, h2, h3, h4, h5⟩ | ⟨c, h2, -⟩⟩ := h
 ·cases h2
  rw [str_of_list h4] at h3
  exact ⟨h3, b, h1, h5⟩
 ·cases h2
/-- What tokens answers: all of them, or what is wrong at a byte. -/
def ToksEnd (W : World) (P : Nat) (sz : Nat) (r : Except (Int × Nat) (List Tk)) (e : Ending) (w' : World) : Prop :=
 Aside P W w' ∧ ((∃ l v, r = .ok l ∧ e = .returned (.tuple #[v, .pointer none]) ∧ w'.ownsRow W.heap.size 75 3 v (l.length + 1) (tkCells (l ++ [⟨0, ⟨#[]⟩, sz⟩]))) ∨
  (∃ c p D, r = .error (c, p) ∧ e = .returned (.tuple #[.slice none 0 0, .pointer (some ⟨D, 0, none⟩)]) ∧ W.heap.size ≤ D ∧ Blk w' D #[.int .i64 c, .string ⟨#[]⟩, .int .i64 (p : Int)] 34))
set_option maxRecDepth 100000 in
set_option maxHeartbeats 16000000 in
theorem tokens_any {W : World} {P a : Nat} {t : ByteArray} {m : Int} (h : Scn W P t a) (hP : 4 ≤ P) (hm : W.cell? ⟨2, 0, none⟩ = some (.int .i64 m)) (hg : Signs W) : Calls Tryz.prog 50 #[.pointer (some ⟨P, 0, none⟩)] W (ToksEnd W P t.size (tokL t.size (t.size + 1) (betweenA (rest t a)) [])) := by
 obtain ⟨i0, hi, hz0, hz1, hz2⟩ := info_parts infoTok
 have hPW := h.1.lt
 have hsz := h.2
 have HS := Lib.hid h
 have HM := Lib.hid hm
 have HG := Lib.hid hg
 have HB := Lib.hid (fun (w : World) (c : Nat) (hs : Scn w P t c) (hm : w.cell? ⟨2, 0, none⟩ = some (.int .i64 m)) => between_any hs hP hm rfl)
 have HN := Lib.hid (fun (w : World) (c : Nat) (hs : Scn w P t c) (hc : c < t.size) => next_any hs hP hc)
 have HC := Lib.hid (fun (s : ByteArray) (hs : s.size ≤ 1000000) (w : World) => clone_any hs w)
 obtain ⟨X, hX⟩ : ∃ X, tokL t.size (t.size + 1) (betweenA (rest t a)) [] = X := ⟨_, rfl⟩
 rw [hX]
 have HX := Lib.hid hX
 have hbl := betweenA_le (Nat.le_refl (rest t a).length)
 rw [rest_length] at hbl
 clear h hm hg hX
 go_enter Tryz.func50, Tryz.ntmps50
 go_wp2_with fail
 go_at_call 68; refine (HB.out _ a HS.out HM.out).mono ?_; rintro e w1 ⟨rfl, hw1, hr1⟩
 have HW1 := Lib.hid hw1
 have HR1 := Lib.hid hr1
 clear hw1 hr1
 go_wp2_with fail
 obtain ⟨c0, hc0⟩ : ∃ c0, t.size - (betweenA (rest t a)).length = c0 := ⟨_, rfl⟩
 rw [hc0] at HW1 HR1
 have HX1 : Hid (tokL t.size (t.size + 1) (rest t c0) [] = X) := Lib.hid (by rw [HR1.out]; exact HX.out)
 clear hc0 hbl
 go_loopg [4] t.size (fun gf s4 wx => ∃ (c : Nat) (acc : List Tk), Hid (Went W wx P t c) ∧ Hid (wx.ownsRow W.heap.size 75 3 s4 acc.length (tkCells acc)) ∧ Hid (tokL t.size (t.size + 1) (rest t c) acc = X) ∧ t.size - c ≤ gf ∧ acc.length ≤ 4096)
 case atStart => exact ⟨c0, [], HW1, Lib.hid ⟨rfl, .inl ⟨rfl, rfl⟩⟩, HX1, by omega, by simp⟩
 case round =>
  obtain ⟨c, acc, HWc, HO, HE, hfu, hal⟩ := hrel
  obtain ⟨ad, cap, rfl⟩ := row_shape HO.out
  have hcs := HWc.out.2.2.1
  have k0 := HWc.out.2.1.cell 0
  have k1 := HWc.out.2.1.cell 1
  have hwlt := HWc.out.1.size
  by_cases hlt : c < t.size
  ·obtain ⟨g', rfl⟩ : ∃ g', gk = g' + 1 := ⟨gk - 1, by omega⟩
   have j0 : (c : Int) < (t.size : Int) := by omega
   go_wp2_with fail
   go_quiet (fail)
   obtain ⟨W2, hW2⟩ : ∃ W2, wr.drewN nq = W2 := ⟨_, rfl⟩
   have hb2 : Below wr.heap.size wr W2 := by rw [← hW2]; exact below_drewN _ _
   have HW2 := Lib.hid (HWc.out.trans (HWc.out.2.stays hb2))
   have HO2 := Lib.hid (row_below' HO.out hb2)
   rw [hW2]
   clear hW2 hb2 k0 k1 hwlt
   have k1 := HW2.out.2.1.cell 1
   go_wp2_with fail
   have hne : rest t c ≠ [] := by rw [rest_cons hlt]; simp
   have hgo := nextL_goes hne
   have hNc := HN.out W2 c HW2.out.2 hlt
   have HNc := Lib.hid hNc
   clear hNc
   go_at_call 69; refine HNc.out.mono ?_; rintro e w3 ⟨⟨f, rfl, hrd⟩, hb3⟩
   have HW3 := Lib.hid (HW2.out.trans (HW2.out.2.stays hb3))
   have HO3 := Lib.hid (row_below' HO2.out hb3)
   have eg := hrd.enters
   have hcon := hrd.reads w3 HW3.out.2 (signs_keep hP HG.out HW3.out)
   have hunf : ∀ k r, nextL (rest t c) = (k, r) → tokL t.size (t.size + 1) (rest t c) acc = match r with
    | .error d => .error (d, c)
    | .ok (x, R') => if acc.length = 4096 then .error (3, c) else tokL t.size t.size (betweenA R') (acc ++ [⟨k, ⟨x.toArray⟩, c⟩]) := by
    intro k r e
    conv => lhs; unfold tokL
    rw [if_neg (by simpa using hne), rest_length, show t.size - (t.size - c) = c by omega, e]
    all_goals rfl
   have hgo1 := hgo.1
   have hgo2 := hgo.2
   rw [rest_length] at hgo1
   obtain ⟨k, hk⟩ : ∃ k, (nextL (rest t c)).1 = k := ⟨_, rfl⟩
   obtain ⟨r, hr⟩ : ∃ r, (nextL (rest t c)).2 = r := ⟨_, rfl⟩
   have hunf := hunf k r (by rw [← hk, ← hr])
   rw [hr] at hcon hgo1 hgo2
   rw [hk]
   clear hk hr hrd hb3 k1 hne HNc hgo
   cases r with
   | error d =>
    have hd := hgo2 d rfl
    have hd0 : (d == 0) = false := beq_eq_false_iff_ne.2 (by omega)
    have hd1 : (d != 0) = true := by simp only [bne, hd0]; rfl
    replace hcon := hcon.mono fun _ _ h => h.isErr
    have HU := Lib.hid hunf
    clear hunf hgo1 hgo2
    go_wp2_with (go_at_fn f; refine hcon.mono ?_; rintro e w4 ⟨rfl, b, hw4⟩)
    go_ret2
    have hW4 := HW3.out.trans hw4
    refine ⟨hW4.1.trans (Aside.of (below_new _ _)), .inr ⟨d, c, _, ?_, rfl, hW4.1.size, Blk.new _ _ _⟩⟩
    rw [← HE.out, HU.out]
   | ok p =>
    obtain ⟨x, R'⟩ := p
    obtain ⟨hl1, hl2⟩ := hgo1 x R' rfl
    replace hcon := hcon.mono fun _ _ h => h.isOk
    obtain ⟨xb, hxb⟩ : ∃ xb : ByteArray, (⟨x.toArray⟩ : ByteArray) = xb := ⟨_, rfl⟩
    have hxs : xb.size ≤ 1000000 := by rw [← hxb]; show x.toArray.size ≤ _; rw [List.size_toArray]; omega
    simp only [hxb] at hcon hunf
    have HXC := Lib.hid (fun w => HC.out xb hxs w)
    clear hgo1 hgo2 hxb
    by_cases hmax : acc.length = 4096
    ·have hq : ((acc.length : Int) == 4096) = true := beq_iff_eq.2 (by omega)
     have HU : Hid (tokL t.size (t.size + 1) (rest t c) acc = .error (3, c)) := Lib.hid (by rw [hunf]; exact if_pos hmax)
     clear hunf
     go_wp2_with (go_at_fn f; refine hcon.mono ?_; rintro e w4 ⟨rfl, b, hw4, hrb⟩)
     go_ret2
     have hW4 := HW3.out.trans hw4
     refine ⟨hW4.1.trans (Aside.of (below_new _ _)), .inr ⟨3, c, _, ?_, rfl, hW4.1.size, Blk.new _ _ _⟩⟩
     rw [← HE.out, HU.out]
    ·have hq : ((acc.length : Int) == 4096) = false := beq_eq_false_iff_ne.2 (by omega)
     have hal1 : acc.length < 4096 := by omega
     have HU : Hid (tokL t.size (t.size + 1) (rest t c) acc = tokL t.size t.size (betweenA R') (acc ++ [⟨k, xb, c⟩])) := Lib.hid (by rw [hunf]; exact if_neg hmax)
     clear hunf hmax
     go_wp2_with fail
     go_at_fn f; refine hcon.mono ?_; rintro e w4 ⟨rfl, b, hw4, hrb⟩
     have HW4 := Lib.hid (HW3.out.trans hw4)
     have HO4 := Lib.hid (row_aside HO3.out hw4.1 hPW)
     have HRB := Lib.hid hrb
     clear hw4 hrb hcon
     go_wp2_with fail
     go_at_call 70; refine (HXC.out w4).mono ?_; rintro e w5 ⟨rfl, hb5⟩
     have HW5 := Lib.hid (HW4.out.trans (HW4.out.2.stays hb5))
     have hrow5 := (row_below' HO4.out hb5).alloc (.cells #[.int .i64 k, .string xb, .int .i64 (c : Int)] 75)
     have hlt5 := HW5.out.1.size
     clear hb5
     go_wp2_with (at_builtin; refine wpList_append_own _ rfl _ _ 60 rfl W.heap.size 75 i0 (.agg #[.int .i64 0, .string ⟨#[]⟩, .int .i64 0]) 3 32 Tryz.underlying60 hi hz0 hz1 hz2 rfl (by decide) _ _ _ rfl hrow5 ⟨w5.heap.size, 0, none⟩ 1 1 [.int .i64 k, .string xb, .int .i64 (c : Int)] rfl rfl (cell_three _ _ _ _ _) (by intro u hu; simp at hu; rcases hu with rfl | rfl | rfl <;> rfl) (by unfold maxLen; omega) (by omega) (by simp; omega) ?_; intro v' w6 hown' hgrow _)
     have HW6 := Lib.hid (went_grown HW5.out hPW hgrow (fun q hq => own_base hrow5 q hq))
     have HO6 := Lib.hid hown'
     clear hown' hgrow hrow5 hlt5
     go_wp2_with fail
     go_at_call 68; refine (HB.out w6 b HW6.out.2 (cell_went hP HM.out HW6.out)).mono ?_; rintro e w7 ⟨rfl, hw7, hr7⟩
     have hb7 := betweenA_le (Nat.le_refl (rest t b).length)
     rw [HRB.out] at hb7 hr7 hw7
     have HW7 := Lib.hid (HW6.out.trans hw7)
     have HO7 := Lib.hid (row_aside HO6.out hw7.1 hPW)
     have HR7 := Lib.hid hr7
     clear hw7 hr7
     go_wp2_with fail
     go_roundg g'
     case measure => omega
     case rel =>
      refine ⟨_, acc ++ [⟨k, xb, c⟩], HW7, Lib.hid ?_, Lib.hid ?_, by omega, by simp; omega⟩
      ·have := HO7.out
       rw [tkCells_app, List.length_append]
       exact this
      ·rw [HR7.out, ← HE.out, HU.out]
       exact tokL_more (by omega) (by omega)
  ·obtain rfl : c = t.size := by omega
   have j0 : ((t.size : Int) < (t.size : Int)) = False := by simp
   have hR0 : rest t t.size = [] := List.length_eq_zero_iff.1 (by rw [rest_length]; omega)
   have HU : Hid (X = .ok acc) := Lib.hid (by rw [← HE.out, hR0]; rfl)
   clear hR0
   go_wp2_with fail
   go_quiet (fail)
   obtain ⟨W2, hW2⟩ : ∃ W2, wr.drewN nq = W2 := ⟨_, rfl⟩
   have hb2 : Below wr.heap.size wr W2 := by rw [← hW2]; exact below_drewN _ _
   have HW2 := Lib.hid (HWc.out.trans (HWc.out.2.stays hb2))
   have hrow5 := (row_below' HO.out hb2).alloc (.cells #[.int .i64 0, .string ⟨#[]⟩, .int .i64 (t.size : Int)] 75)
   rw [hW2]
   clear hW2 hb2 k0 k1 hwlt
   have k1 := HW2.out.2.1.cell 1
   have hlt5 := HW2.out.1.size
   go_wp2_with (at_builtin; refine wpList_append_own _ rfl _ _ 60 rfl W.heap.size 75 i0 (.agg #[.int .i64 0, .string ⟨#[]⟩, .int .i64 0]) 3 32 Tryz.underlying60 hi hz0 hz1 hz2 rfl (by decide) _ _ _ rfl hrow5 ⟨W2.heap.size, 0, none⟩ 1 1 [.int .i64 0, .string ⟨#[]⟩, .int .i64 (t.size : Int)] rfl rfl (cell_three _ _ _ _ _) (by intro u hu; simp at hu; rcases hu with rfl | rfl | rfl <;> rfl) (by unfold maxLen; omega) (by omega) (by simp; omega) ?_; intro v' w6 hown' hgrow _)
   have HW6 := Lib.hid (went_grown HW2.out hPW hgrow (fun q hq => own_base hrow5 q hq))
   have HO6 := Lib.hid hown'
   clear hown' hgrow hrow5 hlt5
   go_ret2
   refine ⟨HW6.out.1, .inl ⟨acc, v', HU.out, rfl, ?_⟩⟩
   have := HO6.out
   rw [tkCells_app]
   exact this
end Go.Proofs.YtljgggohjigaoaaGreatDoor
namespace Go.Proofs.YtljgggohjigaoaaGreatDoor
open Go.RowKit Go.Shelf
set_option linter.unusedVariables false

/-- The first byte, from one on, at which no rune begins, or the text's length. -/
def badFrom (s : ByteArray) : Nat → Nat → Nat
 | 0, _ => s.size
 | n + 1, pos => if pos < s.size then (if (Utf8.decode s pos).1 = 65533 ∧ Lib.hasPrefix (rest s pos) [239, 191, 189] = false then pos else badFrom s n (pos + (Utf8.decode s pos).2)) else s.size

set_option maxRecDepth 100000 in
set_option maxHeartbeats 4000000 in
theorem bad_any {s : ByteArray} (hs : s.size ≤ 100000) (W : World) : Calls Tryz.prog 49 #[.string s] W fun e w' => e = .returned (.int .i64 ((badFrom s s.size 0 : Nat) : Int)) ∧ Below W.heap.size W w' := by
 obtain ⟨X, hX⟩ : ∃ X, badFrom s s.size 0 = X := ⟨_, rfl⟩
 rw [hX]
 have HX := Lib.hid hX
 have HS := Lib.hid (fun pos w => Tryz.strings_HasPrefix (s.extract pos s.size) ⟨#[239, 191, 189]⟩ w)
 clear hX
 go_enter Tryz.func49, Tryz.ntmps49
 go_wp2_with fail
 go_loopg [2] s.size (fun gf s2 wx => ∃ (pos : Nat), wx.heap[W.heap.size]? = some (.stringIter s pos) ∧ Hid (Below W.heap.size W wx) ∧ Hid (badFrom s gf pos = X) ∧ s.size ≤ pos + gf)
 case atStart => exact ⟨0, World.iter_heap W s 0, Lib.hid ((Below.refl _ W).alloc (Nat.le_refl _) _), HX, by omega⟩
 case round =>
  obtain ⟨pos, hit, HB, HE, hfu⟩ := hrel
  by_cases hps : pos < s.size
  ·obtain ⟨g', rfl⟩ : ∃ g', gk = g' + 1 := ⟨gk - 1, by omega⟩
   have hnx : ∀ ty, (Instr.next (.pointer (some ⟨W.heap.size, 0, none⟩)) true ty).run Tryz.prog wr = _ := fun ty => Lib.run_next_any_at wr W.heap.size s pos ty hit hps
   have hwd := Lib.width_pos s pos
   obtain ⟨R, hR⟩ : ∃ R, (Utf8.decode s pos).1 = R := ⟨_, rfl⟩
   obtain ⟨K, hK⟩ : ∃ K, (Utf8.decode s pos).2 = K := ⟨_, rfl⟩
   have HE2 : Hid ((if R = 65533 ∧ Lib.hasPrefix (rest s pos) [239, 191, 189] = false then pos else badFrom s g' (pos + K)) = X) := Lib.hid (by
    have := HE.out
    conv at this => lhs; unfold badFrom
    rw [if_pos hps, hR, hK] at this
    exact this)
   have hRle : R ≤ 1114111 := by rw [← hR]; exact Lib.rune_le s pos
   rw [hR, hK] at hnx
   rw [hK] at hwd
   have hit2 := Lib.iterAt_heap wr W.heap.size s pos (pos + K) hit
   have HB2 := Lib.hid (Lib.below_iterAt HB.out (k := W.heap.size) (Nat.le_refl _) s (pos + K))
   obtain ⟨Y, hWd⟩ : ∃ Y, wr.iterAt W.heap.size s (pos + K) = Y := ⟨_, rfl⟩
   rw [hWd] at hnx hit2 HB2
   clear hR hK hWd
   have i0 : (0 : Int) ≤ (pos : Int) := by omega
   have i1 : (pos : Int) ≤ (s.size : Int) := by omega
   by_cases h1 : R = 65533
   ·subst h1
    cases hv : Lib.hasPrefix (rest s pos) [239, 191, 189]
    ·have hc : Lib.hasPrefix (s.extract pos s.size).data.toList [239, 191, 189] = false := by rw [rest_extract]; exact hv
     have HX1 : Hid (pos = X) := Lib.hid (by have := HE2.out; rw [hv] at this; simpa using this)
     have HC := Lib.hid (fun w => (HS.out pos w).mono fun e w' h => (⟨h.1.trans (congrArg (fun b => Ending.returned (.bool b)) hc), h.2⟩ : e = .returned (.bool false) ∧ w' = w))
     clear hv hc
     go_wp2_with (go_at_call 67; refine (HC.out _).mono ?_; rintro e w1 ⟨rfl, rfl⟩)
     go_ret
     rw [HX1.out]
     exact ⟨rfl, HB2.out⟩
    ·have hc : Lib.hasPrefix (s.extract pos s.size).data.toList [239, 191, 189] = true := by rw [rest_extract]; exact hv
     have HX1 : Hid (badFrom s g' (pos + K) = X) := Lib.hid (by have := HE2.out; rw [hv] at this; simpa using this)
     have HC := Lib.hid (fun w => (HS.out pos w).mono fun e w' h => (⟨h.1.trans (congrArg (fun b => Ending.returned (.bool b)) hc), h.2⟩ : e = .returned (.bool true) ∧ w' = w))
     clear hv hc
     go_wp2_with (go_at_call 67; refine (HC.out _).mono ?_; rintro e w1 ⟨rfl, rfl⟩)
     go_roundg g'
     case measure => omega
     case rel => exact ⟨pos + K, hit2, HB2, HX1, by omega⟩
   ·have h2 : ((R : Int) == 65533) = false := beq_eq_false_iff_ne.2 (by omega)
    have HX1 : Hid (badFrom s g' (pos + K) = X) := Lib.hid (by have := HE2.out; rw [if_neg (fun h => h1 h.1)] at this; exact this)
    clear h1
    go_wp2
    go_roundg g'
    case measure => omega
    case rel => exact ⟨pos + K, hit2, HB2, HX1, by omega⟩
  ·have hnx : ∀ ty, (Instr.next (.pointer (some ⟨W.heap.size, 0, none⟩)) true ty).run Tryz.prog wr = _ := fun ty => Lib.run_next_end_at wr W.heap.size s pos ty hit hps
   have HX1 : Hid (s.size = X) := Lib.hid (by
    have := HE.out
    rw [show badFrom s gk pos = s.size by cases gk with
     | zero => rfl
     | succ n => unfold badFrom; rw [if_neg hps]] at this
    exact this)
   go_wp2
   go_ret
   rw [HX1.out]
   exact ⟨rfl, HB.out⟩
end Go.Proofs.YtljgggohjigaoaaGreatDoor
namespace Go.Proofs.YtljgggohjigaoaaGreatDoor
open Go.RowKit Go.Shelf
set_option linter.unusedVariables false

/-- The tokens of a text, or what is wrong at which byte. -/
def scanL (t : ByteArray) : Except (Int × Nat) (List Tk) :=
 if 16384 < t.size then .error (3, 0) else if badFrom t t.size 0 < t.size then .error (31, badFrom t t.size 0) else tokL t.size (t.size + 1) (betweenA (rest t 0)) []
/-- What Scan answers. -/
def ScanEnd (W : World) (sz : Nat) (r : Except (Int × Nat) (List Tk)) (e : Ending) (w' : World) : Prop :=
 Below W.heap.size W w' ∧ ((∃ l v, r = .ok l ∧ e = .returned (.tuple #[v, .pointer none]) ∧ w'.ownsRow W.heap.size 75 3 v (l.length + 1) (tkCells (l ++ [⟨0, ⟨#[]⟩, sz⟩]))) ∨
  (∃ c p D, r = .error (c, p) ∧ e = .returned (.tuple #[.slice none 0 0, .pointer (some ⟨D, 0, none⟩)]) ∧ W.heap.size ≤ D ∧ Blk w' D #[.int .i64 c, .string ⟨#[]⟩, .int .i64 (p : Int)] 34))
theorem row_base {w : World} {B B' e size n : Nat} {v : Value} {xs : List Value} (h : w.ownsRow B e size v n xs) (hB : B' ≤ B) : w.ownsRow B' e size v n xs := by
 obtain ⟨h1, h2⟩ := h
 refine ⟨h1, ?_⟩
 rcases h2 with h2 | ⟨g, cap, cur, rfl, h3, h4, h5⟩
 ·exact .inl h2
 ·exact .inr ⟨g, cap, cur, rfl, by omega, h4, h5⟩
/-- What Scan reads of the program's own variables. -/
def Ready (W : World) : Prop := 4 ≤ W.heap.size ∧ Signs W ∧ ∃ m, W.cell? ⟨2, 0, none⟩ = some (.int .i64 m)
theorem Ready.below {W W' : World} (h : Ready W) (hb : Below W.heap.size W W') : Ready W' := by
 obtain ⟨h1, ⟨tg, fr, h0⟩, m, hm⟩ := h
 exact ⟨Nat.le_trans h1 hb.size, ⟨tg, fr, (hb.block 0 (Array.getElem?_eq_some_iff.1 h0).1).trans h0⟩, m, cells_keep hb hm⟩
theorem scn_new (W : World) (t : ByteArray) (ht : t.size ≤ 16384) : Scn (W.alloc (.cells #[.string t, .int .i64 0] 108)) W.heap.size t 0 := ⟨Blk.new _ _ _, Nat.zero_le _, ht⟩

set_option maxRecDepth 100000 in
set_option maxHeartbeats 4000000 in
theorem scan_any {W : World} (t : ByteArray) (hW : Ready W) : Calls Tryz.prog 30 #[.string t] W (ScanEnd W t.size (scanL t)) := by
 by_cases h1 : 16384 < t.size
 ·have HX : Hid (scanL t = .error (3, 0)) := Lib.hid (by unfold scanL; rw [if_pos h1])
  have q1 : (16384 : Int) < (t.size : Int) := by omega
  clear h1
  go_enter Tryz.func30, Tryz.ntmps30
  go_wp2
  go_ret2
  rw [HX.out]
  exact ⟨below_new _ _, .inr ⟨3, 0, _, rfl, rfl, Nat.le_refl _, Blk.new _ _ _⟩⟩
 ·have hb := Lib.hid (bad_any (s := t) (by omega) W)
  have q1 : ¬ (16384 : Int) < (t.size : Int) := by omega
  by_cases h2 : badFrom t t.size 0 < t.size
  ·have HX : Hid (scanL t = .error (31, badFrom t t.size 0)) := Lib.hid (by unfold scanL; rw [if_neg h1, if_pos h2])
   obtain ⟨b, hbb⟩ : ∃ b, badFrom t t.size 0 = b := ⟨_, rfl⟩
   rw [hbb] at HX h2 hb
   have q2 : (b : Int) < (t.size : Int) := by omega
   clear h1 h2 hbb
   go_enter Tryz.func30, Tryz.ntmps30
   go_wp2_with (go_at_call 49; refine hb.out.mono ?_; rintro e w1 ⟨rfl, hb1⟩)
   go_ret2
   rw [HX.out]
   exact ⟨hb1.trans ((Below.refl _ _).alloc (by have := hb1.size; omega) _), .inr ⟨31, b, _, rfl, rfl, hb1.size, Blk.new _ _ _⟩⟩
  ·have HX : Hid (scanL t = tokL t.size (t.size + 1) (betweenA (rest t 0)) []) := Lib.hid (by unfold scanL; rw [if_neg h1, if_neg h2])
   obtain ⟨b, hbb⟩ : ∃ b, badFrom t t.size 0 = b := ⟨_, rfl⟩
   rw [hbb] at h2 hb
   have q2 : ¬ (b : Int) < (t.size : Int) := by omega
   have HW := Lib.hid hW
   have HS := Lib.hid (fun w => scn_new w t (by omega))
   clear h1 h2 hbb hW
   go_enter Tryz.func30, Tryz.ntmps30
   go_wp2_with fail
   go_at_call 49; refine hb.out.mono ?_; rintro e w1 ⟨rfl, hb1⟩
   have hW2 := (HW.out.below hb1).below (below_new w1 (.cells #[.string t, .int .i64 0] 108))
   have hW1 := HW.out.below hb1
   obtain ⟨-, hg, m, hm⟩ := hW2
   have HT := Lib.hid (tokens_any (HS.out w1) hW1.1 hm hg)
   have HB1 := Lib.hid hb1
   clear hb hb1 hW1 hg hm
   have HA1 := Lib.hid (HB1.out.alloc HB1.out.size (.cells #[.string t, .int .i64 0] 108))
   go_wp2_with fail
   go_at_call 50; refine HT.out.mono ?_; rintro e w2 ⟨ha, ⟨l, v, hr, rfl, ho⟩ | ⟨c, p, D, hr, rfl, hD, hbl⟩⟩
   ·have HE := Lib.hid (show ScanEnd W t.size (scanL t) (.returned (.tuple #[v, .pointer none])) w2 from ⟨HA1.out.trans (ha.below HA1.out.size HB1.out.size), .inl ⟨l, v, HX.out.trans hr, rfl, row_base ho HA1.out.size⟩⟩)
    clear hr ho ha
    go_wp2_with fail
    go_ret2
    exact HE.out
   ·have HE := Lib.hid (show ScanEnd W t.size (scanL t) (.returned (.tuple #[.slice none 0 0, .pointer (some ⟨D, 0, none⟩)])) w2 from ⟨HA1.out.trans (ha.below HA1.out.size HB1.out.size), .inr ⟨c, p, D, HX.out.trans hr, rfl, Nat.le_trans HA1.out.size hD, hbl⟩⟩)
    clear hr hbl hD ha
    go_wp2_with fail
    go_ret2
    exact HE.out
end Go.Proofs.YtljgggohjigaoaaGreatDoor
namespace Go.Proofs.YtljgggohjigaoaaGreatDoor
open Go.RowKit Go.Shelf
set_option linter.unusedVariables false

/-- A slice of tokens, and what can be read of it. -/
def Row (W : World) (v : Value) (l : List Tk) : Prop := ∃ g cap, v = .slice (some ⟨g, 0, none⟩) l.length cap ∧ g < W.heap.size ∧ ∀ j u, (tkCells l)[j]? = some u → W.cell? ⟨g, j, none⟩ = some u
theorem Row.of {W : World} {B n : Nat} {v : Value} {l : List Tk} (h : W.ownsRow B 75 3 v n (tkCells l)) (hn : n = l.length) (h0 : 0 < n) : Row W v l := by
 subst hn
 rcases h.2 with ⟨rfl, h2⟩ | ⟨g, cap, cur, rfl, h3, h4, h5⟩
 ·have : l.length = 0 := by simpa using h2
  omega
 ·exact ⟨g, cap, rfl, (Array.getElem?_eq_some_iff.1 h4).1, fun j u hj => by have := World.ownsRow.cells h (g := g) rfl j u hj; rwa [show (⟨g, 0, none⟩ : Addr).add j = ⟨g, j, none⟩ by unfold Addr.add; split <;> simp_all] at this⟩
theorem Row.below {W W' : World} {v : Value} {l : List Tk} (h : Row W v l) (hb : Below W.heap.size W W') : Row W' v l := by
 obtain ⟨g, cap, rfl, hg, hc⟩ := h
 exact ⟨g, cap, rfl, Nat.lt_of_lt_of_le hg hb.size, fun j u hj => cells_keep hb (hc j u hj)⟩
theorem scan_err {W : World} {t : ByteArray} {c : Int} {p : Nat} (hW : Ready W) (h : scanL t = .error (c, p)) : Calls Tryz.prog 30 #[.string t] W fun e w' => ∃ D, e = .returned (.tuple #[.slice none 0 0, .pointer (some ⟨D, 0, none⟩)]) ∧ Blk w' D #[.int .i64 c, .string ⟨#[]⟩, .int .i64 (p : Int)] 34 ∧ Below W.heap.size W w' := by
 refine (scan_any t hW).mono ?_
 rintro e w' ⟨hb, ⟨l', v, hr, -⟩ | ⟨c', p', D, hr, rfl, hD, hbl⟩⟩
 ·rw [h] at hr; cases hr
 ·rw [h] at hr
  cases hr
  exact ⟨D, rfl, hbl, hb⟩
end Go.Proofs.YtljgggohjigaoaaGreatDoor
