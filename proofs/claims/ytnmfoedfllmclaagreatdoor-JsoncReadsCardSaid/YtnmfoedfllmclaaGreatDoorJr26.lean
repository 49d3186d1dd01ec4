/- What is read is behind what stood there; values are counted · list: a whole one -/
import Derived.Test.YtnmfoedfllmclaaGreatDoorJr16
import Derived.Test.YtnmfoedfllmclaaGreatDoorJr21
import Derived.Test.YtnmfoedfllmclaaGreatDoorJr24
import Derived.Test.YtnmfoedfllmclaaGreatDoorJr25
namespace Go.Proofs.YtnmfoedfllmclaaGreatDoor
set_option linter.unusedVariables false

theorem textJ_len : ∀ (f : Nat) (R acc b R' : List UInt8), textJ f R acc = .ok (b, R') → R'.length ≤ R.length
  | 0, R, acc, b, R', h => by unfold textJ at h; cases h
  | f + 1, R, acc, b, R', h => by
    unfold textJ at h
    split at h
    · cases h; simp
    · split at h
      · cases h
      · rename_i x R1 hr
        have h1 := (runeJ_len hr).1
        have h2 := textJ_len f _ _ _ _ h
        omega
theorem quotedJ_len {R R' : List UInt8} {s : ByteArray} (h : quotedJ R = .ok (s, R')) : R'.length ≤ R.length := by
  unfold quotedJ at h
  split at h
  · cases h
  · rename_i b R1 ht
    split at h
    · cases h
    · cases h
      have := textJ_len _ _ _ _ _ ht
      simp at this
      omega
theorem numJ_len {R R' : List UInt8} {s : ByteArray} (h : numJ R = .ok (s, R')) : R'.length ≤ R.length := by
  have hd : (digsAt R).length ≤ R.length := by unfold digsAt; split <;> simp
  cases h1 : (digsAt R).head?.any digJ
  · rw [numJ_no h1] at h; cases h
  · by_cases h2 : 100 < (digsJ (digsAt R)).length
    · rw [numJ_long h1 h2] at h; cases h
    · rw [numJ_ok h1 h2] at h
      cases h
      rw [List.length_drop]
      omega
theorem wordJ_len {R R' : List UInt8} {T : VT} (h : wordJ R = .ok (T, R')) : R'.length ≤ R.length := by
  unfold wordJ at h
  split at h
  · cases h; simp
  · split at h
    · cases h; simp
    · split at h
      · cases h; simp
      · cases h
/-- A reader that goes on, and counts on. -/
def GoesOn {α : Type} (k : Nat) (rd : RdJ α) : Prop := ∀ R n x R' n', rd R n = .ok (x, R', n') → R'.length ≤ R.length ∧ n + k ≤ n'
theorem seqJ_on {σ : Type} {rd : σ → RdJ σ} {q : UInt8} (h : ∀ st, GoesOn 0 (rd st)) : ∀ (f : Nat) (st : σ), GoesOn 0 (seqJ rd q f st)
  | 0, st => fun R n x R' n' he => by unfold seqJ at he; cases he
  | f + 1, st => fun R n x R' n' he => by
    unfold seqJ at he
    split at he
    · cases he
    · rename_i st1 R1 n1 hr
      have h1 := h st _ _ _ _ _ hr
      have h2 := skipB_le R1
      split at he
      · cases he
        simp only [List.length_drop]
        omega
      · split at he
        · have h3 := seqJ_on h f st1 _ _ _ _ _ he
          simp only [List.length_drop] at h3
          omega
        · cases he
theorem eachJ_on {σ : Type} {rd : σ → RdJ σ} {q : UInt8} {st : σ} (h : ∀ st, GoesOn 0 (rd st)) : GoesOn 0 (eachJ rd q st) := fun R n x R' n' he => by
  have h2 := skipB_le (R.drop 1)
  rw [List.length_drop] at h2
  unfold eachJ at he
  split at he
  · cases he
    simp only [List.length_drop]
    omega
  · have h3 := seqJ_on h _ _ _ _ _ _ _ he
    omega
theorem itemJ_on {rd : RdJ VT} (h : GoesOn 1 rd) (st : List VT) : GoesOn 0 (itemJ rd st) := fun R n x R' n' he => by
  unfold itemJ at he
  split at he
  · cases he
  · rename_i T R1 n1 hr
    cases he
    have := h _ _ _ _ _ hr
    omega
theorem keyJ_len {ks : List ByteArray} {R R' : List UInt8} {k : ByteArray} (h : keyJ ks R = .ok (k, R')) : R'.length ≤ R.length := by
  unfold keyJ at h
  have h2 := skipB_le R
  split at h
  · split at h
    · cases h
    · rename_i hq
      split at h
      · cases h
      · cases h
        have := quotedJ_len hq
        omega
  · cases h
theorem pairJ_on {rd : RdJ VT} (h : GoesOn 1 rd) (st : List (ByteArray × VT)) : GoesOn 0 (pairJ rd st) := fun R n x R' n' he => by
  unfold pairJ at he
  split at he
  · cases he
  · rename_i k R1 hk
    have h1 := keyJ_len hk
    have h2 := skipB_le R1
    split at he
    · split at he
      · cases he
      · rename_i T R2 n2 hr
        cases he
        have := h _ _ _ _ _ hr
        rw [List.length_drop] at this
        omega
    · cases he
theorem valJ_on : ∀ d : Nat, GoesOn 1 (valJ d)
  | 0 => fun R n x R' n' he => by unfold valJ at he; cases he
  | d + 1 => fun R n x R' n' he => by
    have ih := valJ_on d
    have h2 := skipB_le R
    unfold valJ at he
    split at he
    · cases he
    · split at he
      · cases he
      · rename_i c r hs
        rw [hs] at h2
        split at he
        · split at he
          · cases he
          · rename_i hq
            cases he
            have := quotedJ_len hq
            omega
        · split at he
          · split at he
            · cases he
            · rename_i hq
              cases he
              have := eachJ_on (fun st => itemJ_on ih st) _ _ _ _ _ hq
              omega
          · split at he
            · split at he
              · cases he
              · rename_i hq
                cases he
                have := eachJ_on (fun st => pairJ_on ih st) _ _ _ _ _ hq
                omega
            · split at he
              · split at he
                · cases he
                · rename_i hq
                  cases he
                  have := numJ_len hq
                  omega
              · split at he
                · cases he
                · rename_i hq
                  cases he
                  have := wordJ_len hq
                  omega
end Go.Proofs.YtnmfoedfllmclaaGreatDoor
namespace Go.Proofs.YtnmfoedfllmclaaGreatDoor
open Go.RowKit Go.Shelf Go.Sort
set_option linter.unusedVariables false

theorem itemsAt_list {B : Nat} {w : World} {v : Value} {yy : List It} (h : ItemsAt B w v yy) (hsm : yy.length ≤ 1000000) (hsi : ∀ e ∈ yy, smallT e.T) (W : World) (hb : Below B w W) (hBW : B ≤ W.heap.size) : Calls Tryz.prog 78 #[v] W (Clones (listT (yy.map It.T)) W) := by
  obtain ⟨ad, cap, rfl, h2, h3, h4, h5⟩ := h
  have hl : (yy.map It.T).length = yy.length := by simp
  rcases Nat.eq_zero_or_pos yy.length with h0 | h0
  · obtain rfl : yy = [] := List.length_eq_zero_iff.1 h0
    exact list_any (its := []) (g := 0) (o := 0) (ik := fun _ => 0) (ib := fun _ => false) (it := fun _ => ⟨#[]⟩) (ii := fun _ => undef) (iv := fun _ => undef) (by simp) (fun x hx => by cases hx) (fun h => absurd h (by simp)) (fun j h => absurd h (by simp)) (fun j h => absurd h (by simp)) W hb hBW
  · obtain ⟨g, o, rfl, h7, h8⟩ := h4 h0
    have e0 : It := yy[0]
    have := list_any (its := yy.map It.T) (ad := some ⟨g, o, none⟩) (cap := cap) (g := g) (o := o) (ik := fun j => (yy.getD j e0).k) (ib := fun j => (yy.getD j e0).b) (it := fun j => (yy.getD j e0).t) (ii := fun j => (yy.getD j e0).x) (iv := fun j => (yy.getD j e0).y) (by rw [hl]; exact hsm) (fun x hx => by obtain ⟨e, he, rfl⟩ := List.mem_map.1 hx; exact hsi e he) (fun _ => ⟨rfl, h7⟩)
      (fun j hj => by
        rw [hl] at hj
        have := h8 j hj
        rw [show yy.getD j e0 = yy[j] by simp [List.getD, hj]]
        exact this)
      (fun j hj => by
        have hj' := hj
        rw [hl] at hj'
        rw [show yy.getD j e0 = yy[j] by simp [List.getD, hj'], List.getElem_map]
        exact h5 _ (List.getElem_mem hj'))
      W hb hBW
    rw [hl] at this
    exact this
theorem ListAt.items {H P : Nat} {dep : Int} {W : World} {v : Value} {yy : List It} (h : ListAt H P dep W v yy) (hn : yy.length ≤ 1000000) : ItemsAt W.heap.size W v yy :=
  items_of_row h.row (by omega) (fun e he => by
    obtain ⟨lo, hi, h1, h2, h3, -⟩ := h.far e he
    exact h3.at.wide h2)
def listR (r : Except Bad (List VT × List UInt8 × Nat)) : Except Bad (VT × List UInt8 × Nat) := match r with
  | .error e => .error e
  | .ok (l, R', n') => .ok (listT l, R', n')
theorem reads_list {H P d : Nat} {dep : Int} {t : ByteArray} (hP7 : 7 ≤ P) (hPH : P < H) (hd0 : 0 ≤ dep) (hd1 : dep ≤ 100)
    (hv : ∀ W a n, Rdr W P t a n → ReadyJ W → Calls Tryz.prog 41 #[.pointer (some ⟨P, 0, none⟩), .int .i64 (dep + 1)] W (VEnds W P t (valJ d (rest t a) n))) :
    ReadsC 77 #[.pointer (some ⟨H + 3, 0, none⟩), .pointer (some ⟨H, 0, none⟩), .pointer (some ⟨H + 1, 0, none⟩)] H P t (ListSt H P dep) (itemJ (valJ d)) where
  enters := enters_of Tryz.func77 (by kernel_rfl) rfl
  stays := fun W W' st n ⟨v, yy, h1, h2, h3⟩ ha => ⟨v, yy, h1.aside ha hPH, h2, h3⟩
  reads := fun W a n st h hR hBW ⟨v, yy, h1, h2, h3⟩ => by
    subst h2
    have hn := h.2.2.2
    rw [List.length_map] at h3
    cases hr : valJ d (rest t a) n with
    | ok y =>
      obtain ⟨T, R', n'⟩ := y
      have := (valJ_on d _ _ _ _ _ hr).2
      exact item_ok h hR hP7 hPH h1 (by omega) (by omega) hd0 hd1 hr hv
    | error b => exact item_err h hR hP7 hPH h1 (by omega) hd0 hd1 hr hv
  less := fun st R n st' R' n' h => (itemJ_on (valJ_on d) st _ _ _ _ _ h).1
set_option maxRecDepth 100000 in
set_option maxHeartbeats 4000000 in
theorem list_read {P d a n : Nat} {dep : Int} {W : World} {t : ByteArray} (h : Rdr W P t a n) (hR : ReadyJ W) (hP7 : 7 ≤ P) (hal : a < t.size) (hd0 : 0 ≤ dep) (hd1 : dep ≤ 100)
    (hv : ∀ W a n, Rdr W P t a n → ReadyJ W → Calls Tryz.prog 41 #[.pointer (some ⟨P, 0, none⟩), .int .i64 (dep + 1)] W (VEnds W P t (valJ d (rest t a) n))) :
    Calls Tryz.prog 60 #[.pointer (some ⟨P, 0, none⟩), .int .i64 dep] W (VEnds W P t (listR (eachJ (itemJ (valJ d)) 93 [] (rest t a) n))) := by
  have hPlt := h.1.lt
  obtain ⟨W1, hW1⟩ : ∃ W1, W.alloc (.cells #[.pointer (some ⟨P, 0, none⟩)] 73) = W1 := ⟨_, rfl⟩
  have hz1 : W1.heap.size = W.heap.size + 1 := by rw [← hW1]; simp
  have b1 : Blk W1 W.heap.size #[.pointer (some ⟨P, 0, none⟩)] 73 := by rw [← hW1]; exact Blk.new _ _ _
  have s1 : Below W.heap.size W W1 := by rw [← hW1]; exact below_new0 _ _
  obtain ⟨W2, hW2⟩ : ∃ W2, W1.alloc (.cells #[.int .i64 dep] 3) = W2 := ⟨_, rfl⟩
  have hz2 : W2.heap.size = W.heap.size + 2 := by rw [← hW2]; simp [hz1]
  have b2 : Blk W2 (W.heap.size + 1) #[.int .i64 dep] 3 := by rw [← hW2, ← hz1]; exact Blk.new _ _ _
  have s2 : Below W1.heap.size W1 W2 := by rw [← hW2]; exact below_new0 _ _
  obtain ⟨W3, hW3⟩ : ∃ W3, W2.alloc (.cells #[.int .i64 0, .bool false, .string ⟨#[]⟩, .slice none 0 0, .slice none 0 0] 26) = W3 := ⟨_, rfl⟩
  have hz3 : W3.heap.size = W.heap.size + 3 := by rw [← hW3]; simp [hz2]
  have b3 : Blk W3 (W.heap.size + 2) nil5 26 := by rw [← hW3, ← hz2]; exact Blk.new _ _ _
  have s3 : Below W2.heap.size W2 W3 := by rw [← hW3]; exact below_new0 _ _
  obtain ⟨W4, hW4⟩ : ∃ W4, W3.alloc (.cells #[.slice none 0 0] 23) = W4 := ⟨_, rfl⟩
  have hz4 : W4.heap.size = W.heap.size + 4 := by rw [← hW4]; simp [hz3]
  have b4 : Blk W4 (W.heap.size + 3) #[.slice none 0 0] 23 := by rw [← hW4, ← hz3]; exact Blk.new _ _ _
  have s4 : Below W3.heap.size W3 W4 := by rw [← hW4]; exact below_new0 _ _
  have s04 : Below W.heap.size W W4 := ((s1.trans (s2.mono (by omega))).trans (s3.mono (by omega))).trans (s4.mono (by omega))
  have hst : ListSt W.heap.size P dep W4 [] n := ⟨nilV, [], ⟨((b1.below s2).below s3).below s4, (b2.below s3).below s4, b3.below s4, b4, ⟨rfl, .inl ⟨rfl, rfl⟩⟩, (fun e he => by cases he), (fun e he => by cases he)⟩, rfl, Nat.zero_le _⟩
  have HE := Lib.hid (each_any (h.below s04) (hR.below s04) hP7 hPlt (by omega : W.heap.size ≤ W4.heap.size) hal (reads_list hP7 hPlt hd0 hd1 hv) hst 93)
  have HW4 := Lib.hid ((h.stays s04).toB (Nat.le_refl _))
  have c0 := (((b1.below s2).below s3).below s4).cell 0
  have hsz := h.2.2
  have hmf : ∀ (fn : Fn) (first cap : Array Value) (w : World), (Instr.makeFunc fn first cap).run Tryz.prog w = .ok (.func fn first cap) w := fun _ _ _ _ => rfl
  clear s1 s2 s3 s4 b1 b2 b3 b4 hst h hR hv s04
  go_enter Tryz.func60, Tryz.ntmps60
  go_wp2_with fail
  cases hr : eachJ (itemJ (valJ d)) 93 [] (rest t a) n with
  | error b =>
    rw [hr] at HE
    have HX := Lib.hid hr
    clear hr
    go_at_call 76; refine HE.out.mono ?_; rintro e w5 ⟨D, rfl, h1, h2, h3⟩
    refine ⟨rfl, ?_⟩
    exact ThrownB.toA (ThrownB.after ⟨D, rfl, h1, h2, h3⟩ HW4.out.1)
  | ok y =>
    obtain ⟨l, R', n'⟩ := y
    rw [hr] at HE
    have HX := Lib.hid hr
    clear hr
    go_at_call 76; refine HE.out.mono ?_; rintro e w5 ⟨rfl, a', hw5, hr5, v, yy, hl5, hl6, hl7⟩
    subst hl6
    rw [List.length_map] at hl7
    have hn5 := hw5.2.2.2.2
    have hW5 : WentB W.heap.size W w5 P t a' n' := HW4.out.trans hw5
    have e3 := hl5.box.cell 0
    have hv := itemsAt_list (hl5.items (by omega)) (by omega) hl5.small w5 (Below.refl _ _) (Nat.le_refl _)
    unfold Clones at hv
    have HV := Lib.hid hv
    have HN := Lib.hid hl5.res
    have HW5 := Lib.hid hW5
    have HR5 := Lib.hid hr5
    have HSM := Lib.hid (show smallT (listT (yy.map It.T)) from smallT_node.2 ⟨by rw [List.length_map]; omega, by simp, fun x hx => by obtain ⟨e, he, rfl⟩ := List.mem_map.1 hx; exact hl5.small e he⟩)
    clear hv hl5 hw5 hW5 hr5 c0
    go_wp2_with fail
    go_at_call 78; refine HV.out.mono ?_; rintro e w6 ⟨v6, rfl, hf6, hb6⟩
    obtain ⟨y1, y2, y3, ya, yn, yc, yk, ym, yd, rfl⟩ := hf6.shape
    have hn6 := HN.out.below hb6
    unfold nil5 at hn6
    have z0 := hn6.cell 0
    have z1 := hn6.cell 1
    have z2 := hn6.cell 2
    have z3 := hn6.cell 3
    have z4 := hn6.cell 4
    have f0 := hn6.frozen 0
    have f1 := hn6.frozen 1
    have f2 := hn6.frozen 2
    have f3 := hn6.frozen 3
    have f4 := hn6.frozen 4
    have HF6 := Lib.hid hf6
    have HB6 := Lib.hid hb6
    have hd := hn6.set5 (.int .i64 y1) (.bool y2) (.string y3) (.slice ya yn yc) (.slice yk ym yd)
    have d0 := hd.cell 0
    have d1 := hd.cell 1
    have d2 := hd.cell 2
    have d3 := hd.cell 3
    have d4 := hd.cell 4
    have hlt6 := hn6.lt
    clear hn6 hf6 hb6 hd e3
    go_wp2_with fail
    refine bodyPost_ret (v := .agg #[.int .i64 y1, .bool y2, .string y3, .slice ya yn yc, .slice yk ym yd]) (by simp [results, Tryz.results60, go_sem, d0, d1, d2, d3, d4]) rfl ?_
    have hs5 : W.heap.size + 2 < w5.heap.size := HN.out.lt
    have hwent : Went W w6 P t a' n' := ⟨(HW5.out.1.trans ((Aside.of HB6.out).toB (by omega))).toA, (HW5.out.2.below HB6.out)⟩
    rw [HX.out]
    refine ⟨_, a', rfl, HF6.out.keep (fun g h1 h2 => ?_) (by omega) (by simp), HSM.out, hwent.set5 hPlt (by omega) _ _ _ _ _, HR5.out⟩
    rw [Below.heap_setCell _ _ _ _ (by show g ≠ W.heap.size + 2; omega), Below.heap_setCell _ _ _ _ (by show g ≠ W.heap.size + 2; omega), Below.heap_setCell _ _ _ _ (by show g ≠ W.heap.size + 2; omega), Below.heap_setCell _ _ _ _ (by show g ≠ W.heap.size + 2; omega), Below.heap_setCell _ _ _ _ (by show g ≠ W.heap.size + 2; omega)]
end Go.Proofs.YtnmfoedfllmclaaGreatDoor
