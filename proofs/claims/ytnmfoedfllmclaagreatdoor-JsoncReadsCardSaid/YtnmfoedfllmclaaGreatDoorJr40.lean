/- object: a whole one; value, by its depth · value, by its depth · whole: a text's value · What is written, with blanks between its parts, is read back · What is written, with blanks between its parts, is read back: values · The document's Put, as of trees -/
import Derived.Test.YtnmfoedfllmclaaGreatDoorJr21
import Derived.Test.YtnmfoedfllmclaaGreatDoorJr38
import Derived.Test.YtnmfoedfllmclaaGreatDoorJr39
namespace Go.Proofs.YtnmfoedfllmclaaGreatDoor
open Go.RowKit Go.Shelf Go.Sort Go.Maps
set_option linter.unusedVariables false

theorem JObjAt.items {H P : Nat} {dep : Int} {W : World} {sk ks : List ByteArray} {kv v : Value} {yy : List It} (h : JObjAt H P dep W sk ks kv v yy) (hn : yy.length ≤ 1000000) : ItemsAt W.heap.size W v yy :=
  items_of_row h.row (by omega) (fun e he => by
    obtain ⟨lo, hi, h1, h2, h3, -⟩ := h.far e he
    exact h3.at.wide h2)
theorem JObjAt.strs {H P : Nat} {dep : Int} {W : World} {sk ks : List ByteArray} {kv v : Value} {yy : List It} (h : JObjAt H P dep W sk ks kv v yy) (hn : ks.length ≤ 1000000) : StrsAt W.heap.size W kv ks := (strsF_row2 h.krow (by omega)).at
theorem seen_nil {W : World} {M : Nat} (h : W.heap[M]? = some (.map #[] 0)) : SeenAt W M [] := Go.Joins.ownsMap_empty h
set_option maxRecDepth 100000 in
set_option maxHeartbeats 1000000 in
theorem object_read {P d a n : Nat} {dep : Int} {W : World} {t : ByteArray} (h : Rdr W P t a n) (hR : ReadyJ W) (hP7 : 7 ≤ P) (hal : a < t.size) (hd0 : 0 ≤ dep) (hd1 : dep ≤ 100)
    (hv : ∀ W a n, Rdr W P t a n → ReadyJ W → Calls Tryz.prog 41 #[.pointer (some ⟨P, 0, none⟩), .int .i64 (dep + 1)] W (VEnds W P t (valJ d (rest t a) n))) :
    Calls Tryz.prog 61 #[.pointer (some ⟨P, 0, none⟩), .int .i64 dep] W (VEnds W P t (objR (eachJ (pairJ (valJ d)) 125 [] (rest t a) n))) := by
  have hPlt := h.1.lt
  obtain ⟨W1, hW1⟩ : ∃ W1, W.alloc (.cells #[.pointer (some ⟨P, 0, none⟩)] 73) = W1 := ⟨_, rfl⟩
  have hz1 : W1.heap.size = W.heap.size + 1 := by rw [← hW1]; simp
  have b1 : Blk W1 W.heap.size #[.pointer (some ⟨P, 0, none⟩)] 73 := by rw [← hW1]; exact Blk.new _ _ _
  have s1 : Below W.heap.size W W1 := by rw [← hW1]; exact below_new0 _ _
  obtain ⟨W2, hW2⟩ : ∃ W2, W1.alloc (.cells #[.int .i64 dep] 3) = W2 := ⟨_, rfl⟩
  have hz2 : W2.heap.size = W.heap.size + 2 := by rw [← hW2]; simp [hz1]
  have b2 : Blk W2 (W.heap.size + 1) #[.int .i64 dep] 3 := by rw [← hW2, ← hz1]; exact Blk.new _ _ _
  have s2 : Below W1.heap.size W1 W2 := by rw [← hW2]; exact below_new0 _ _
  obtain ⟨W3, hW3⟩ : ∃ W3, W2.alloc (.cells #[.int .i64 0, .bool false, .string ⟨#[]⟩, .slice none 0 0, .slice none 0 0] 26) = W3 := ⟨_, rfl⟩
  have hz3 : W3.heap.size = W.heap.size + 3 := by rw [← hW3]; simp [hz2]
  have b3 : Blk W3 (W.heap.size + 2) nil5 26 := by rw [← hW3, ← hz2]; exact Blk.new _ _ _
  have s3 : Below W2.heap.size W2 W3 := by rw [← hW3]; exact below_new0 _ _
  obtain ⟨W4, hW4⟩ : ∃ W4, W3.alloc (.cells #[.slice none 0 0] 24) = W4 := ⟨_, rfl⟩
  have hz4 : W4.heap.size = W.heap.size + 4 := by rw [← hW4]; simp [hz3]
  have b4 : Blk W4 (W.heap.size + 3) #[.slice none 0 0] 24 := by rw [← hW4, ← hz3]; exact Blk.new _ _ _
  have s4 : Below W3.heap.size W3 W4 := by rw [← hW4]; exact below_new0 _ _
  obtain ⟨W5, hW5⟩ : ∃ W5, W4.alloc (.cells #[.slice none 0 0] 23) = W5 := ⟨_, rfl⟩
  have hz5 : W5.heap.size = W.heap.size + 5 := by rw [← hW5]; simp [hz4]
  have b5 : Blk W5 (W.heap.size + 4) #[.slice none 0 0] 23 := by rw [← hW5, ← hz4]; exact Blk.new _ _ _
  have s5 : Below W4.heap.size W4 W5 := by rw [← hW5]; exact below_new0 _ _
  obtain ⟨W6, hW6⟩ : ∃ W6, W5.alloc (.map #[] 0) = W6 := ⟨_, rfl⟩
  have hz6 : W6.heap.size = W.heap.size + 6 := by rw [← hW6]; simp [hz5]
  have b6 : W6.heap[W.heap.size + 5]? = some (.map #[] 0) := by rw [← hW6, ← hz5]; exact Array.getElem?_push_size
  have s6 : Below W5.heap.size W5 W6 := by rw [← hW6]; exact below_new0 _ _
  obtain ⟨W7, hW7⟩ : ∃ W7, W6.alloc (.cells #[.map (some (W.heap.size + 5))] 106) = W7 := ⟨_, rfl⟩
  have hz7 : W7.heap.size = W.heap.size + 7 := by rw [← hW7]; simp [hz6]
  have b7 : Blk W7 (W.heap.size + 6) #[.map (some (W.heap.size + 5))] 106 := by rw [← hW7, ← hz6]; exact Blk.new _ _ _
  have s7 : Below W6.heap.size W6 W7 := by rw [← hW7]; exact below_new0 _ _
  have s07 : Below W.heap.size W W7 := (((((s1.trans (s2.mono (by omega))).trans (s3.mono (by omega))).trans (s4.mono (by omega))).trans (s5.mono (by omega))).trans (s6.mono (by omega))).trans (s7.mono (by omega))
  have b6' : W7.heap[W.heap.size + 5]? = some (.map #[] 0) := (s7.block _ (by omega)).trans b6
  have e1 := (((((b1.below s2).below s3).below s4).below s5).below s6).below s7
  have e2 := ((((b2.below s3).below s4).below s5).below s6).below s7
  have e3 := (((b3.below s4).below s5).below s6).below s7
  have e4 := ((b4.below s5).below s6).below s7
  have e5 := (b5.below s6).below s7
  have hst : ObjSt2 W.heap.size P dep W7 [] n := ⟨nilV, nilV, [], ⟨e1, e2, e3, e4, e5, b7, seen_nil b6', ⟨rfl, .inl ⟨rfl, rfl⟩⟩, ⟨rfl, .inl ⟨rfl, rfl⟩⟩, (fun e he => by cases he), (fun e he => by cases he), (fun q e => by cases e)⟩, rfl, Nat.zero_le _, (fun k hk => by cases hk)⟩
  have HE := Lib.hid (each_any (h.below s07) (hR.below s07) hP7 hPlt (by omega : W.heap.size ≤ W7.heap.size) hal (reads_obj hP7 hPlt hd0 hd1 hv) hst 125)
  have HW4 := Lib.hid ((h.stays s07).toB (Nat.le_refl _))
  have c0 := e1.cell 0
  have hsz := h.2.2
  have hmf : ∀ (fn : Fn) (first cap : Array Value) (w : World), (Instr.makeFunc fn first cap).run Tryz.prog w = .ok (.func fn first cap) w := fun _ _ _ _ => rfl
  have hmm := @run_makeMap Tryz.prog
  clear s1 s2 s3 s4 s5 s6 s7 b1 b2 b3 b4 b5 b6 b7 b6' e1 e2 e3 e4 e5 hst h hR hv s07
  go_enter Tryz.func61, Tryz.ntmps61
  go_wp2_with fail
  cases hr : eachJ (pairJ (valJ d)) 125 [] (rest t a) n with
  | error b =>
    rw [hr] at HE
    have HX := Lib.hid hr
    clear hr
    go_at_call 76; refine HE.out.mono ?_; rintro e w5 ⟨D, rfl, h1, h2, h3⟩
    refine ⟨rfl, ?_⟩
    exact ThrownB.toA (ThrownB.after ⟨D, rfl, h1, h2, h3⟩ HW4.out.1)
  | ok y =>
    obtain ⟨l, R', n'⟩ := y
    rw [hr] at HE
    have HX := Lib.hid hr
    have hnd : (l.map Prod.fst).Nodup := eachJ_inv (p := fun st : List (ByteArray × VT) => (st.map Prod.fst).Nodup) pairJ_nodup (st := []) (show ([] : List ByteArray).Nodup from List.nodup_nil) hr
    clear hr
    go_at_call 76; refine HE.out.mono ?_; rintro e w5 ⟨rfl, a', hw5, hr5, kv, v, yy, hl5, hl6, hl7, hl8⟩
    have hn5 := hw5.2.2.2.2
    have hyl : yy.length = l.length := by have := congrArg List.length hl6; simpa using this
    have hW5 : WentB W.heap.size W w5 P t a' n' := HW4.out.trans hw5
    have k3 := hl5.kbox.cell 0
    have k4 := hl5.box.cell 0
    have HV := Lib.hid (made_any (st := l) (hl5.strs (by simp; omega)) (hl5.items (by omega)) hl5.small hl6 (by omega) hnd)
    have HN := Lib.hid hl5.res
    have HW5 := Lib.hid hW5
    have HR5 := Lib.hid hr5
    clear hl5 hw5 hW5 hr5 c0 hl6 hl8 hnd
    go_wp2_with fail
    go_at_call 82; refine HV.out.mono ?_; rintro e w6 ⟨v6, rfl, hf6, hsm6, hb6⟩
    obtain ⟨y1, y2, y3, ya, yn, yc, yk, ym, yd, rfl⟩ := hf6.shape
    have HB6 := Lib.hid hb6
    have HF6 := Lib.hid hf6
    have hn6 := HN.out.below hb6
    unfold nil5 at hn6
    have z0 := hn6.cell 0
    have z1 := hn6.cell 1
    have z2 := hn6.cell 2
    have z3 := hn6.cell 3
    have z4 := hn6.cell 4
    have f0 := hn6.frozen 0
    have f1 := hn6.frozen 1
    have f2 := hn6.frozen 2
    have f3 := hn6.frozen 3
    have f4 := hn6.frozen 4
    have hlt6 := hn6.lt
    have hd := (hn6.set5 (.int .i64 y1) (.bool y2) (.string y3) (.slice ya yn yc) (.slice yk ym yd)).below (below_new0 _ (.cells #[.int .i64 y1, .bool y2, .string y3, .slice ya yn yc, .slice yk ym yd] 26))
    have d0 := hd.cell 0
    have d1 := hd.cell 1
    have d2 := hd.cell 2
    have d3 := hd.cell 3
    have d4 := hd.cell 4
    have HSM := Lib.hid hsm6
    clear hn6 hf6 hb6 hd k3 k4 hsm6
    go_wp2_with fail
    refine bodyPost_ret (v := .agg #[.int .i64 y1, .bool y2, .string y3, .slice ya yn yc, .slice yk ym yd]) (by simp [results, Tryz.results61, go_sem, d0, d1, d2, d3, d4]) rfl ?_
    have hs5 : W.heap.size + 2 < w5.heap.size := HN.out.lt
    have hwent : Went W w6 P t a' n' := ⟨(HW5.out.1.trans ((Aside.of HB6.out).toB (by omega))).toA, (HW5.out.2.below HB6.out)⟩
    have hw2 := hwent.set5 hPlt (by omega : W.heap.size ≤ W.heap.size + 2) (.int .i64 y1) (.bool y2) (.string y3) (.slice ya yn yc) (.slice yk ym yd)
    have hf2 := HF6.out.keep (W' := ((((w6.setCell ⟨W.heap.size + 2, 0, none⟩ (.int .i64 y1)).setCell ⟨W.heap.size + 2, 1, none⟩ (.bool y2)).setCell ⟨W.heap.size + 2, 2, none⟩ (.string y3)).setCell ⟨W.heap.size + 2, 3, none⟩ (.slice ya yn yc)).setCell ⟨W.heap.size + 2, 4, none⟩ (.slice yk ym yd)) (lo' := W.heap.size) (B' := w6.heap.size) (fun g h1 h2 => by
      rw [Below.heap_setCell _ _ _ _ (by show g ≠ W.heap.size + 2; omega), Below.heap_setCell _ _ _ _ (by show g ≠ W.heap.size + 2; omega), Below.heap_setCell _ _ _ _ (by show g ≠ W.heap.size + 2; omega), Below.heap_setCell _ _ _ _ (by show g ≠ W.heap.size + 2; omega), Below.heap_setCell _ _ _ _ (by show g ≠ W.heap.size + 2; omega)]) (by omega) (Nat.le_refl _)
    rw [HX.out]
    have hz6 : (((((w6.setCell ⟨W.heap.size + 2, 0, none⟩ (.int .i64 y1)).setCell ⟨W.heap.size + 2, 1, none⟩ (.bool y2)).setCell ⟨W.heap.size + 2, 2, none⟩ (.string y3)).setCell ⟨W.heap.size + 2, 3, none⟩ (.slice ya yn yc)).setCell ⟨W.heap.size + 2, 4, none⟩ (.slice yk ym yd)).heap.size = w6.heap.size := by simp
    generalize (((((w6.setCell ⟨W.heap.size + 2, 0, none⟩ (.int .i64 y1)).setCell ⟨W.heap.size + 2, 1, none⟩ (.bool y2)).setCell ⟨W.heap.size + 2, 2, none⟩ (.string y3)).setCell ⟨W.heap.size + 2, 3, none⟩ (.slice ya yn yc)).setCell ⟨W.heap.size + 2, 4, none⟩ (.slice yk ym yd)) = w8 at *
    have hbn := below_new0 w8 (.cells #[.int .i64 y1, .bool y2, .string y3, .slice ya yn yc, .slice yk ym yd] 26)
    rw [← hz6] at hf2
    exact ⟨_, a', rfl, hf2.keep (fun g h1 h2 => hbn.block g h2) (Nat.le_refl _) hbn.size, HSM.out, hw2.trans (hw2.2.stays hbn), HR5.out⟩
end Go.Proofs.YtnmfoedfllmclaaGreatDoor
namespace Go.Proofs.YtnmfoedfllmclaaGreatDoor
open Go.RowKit Go.Shelf Go.Sort Go.Maps
set_option linter.unusedVariables false

set_option maxRecDepth 100000 in
set_option maxHeartbeats 4000000 in
theorem value_obj {W : World} {P a n d : Nat} {dep : Int} {t : ByteArray} (h : Rdr W P t a n) (hR : ReadyJ W) (hP7 : 7 ≤ P) (hd : ¬ 24 < dep) (hn : ¬ n = 2000) (hx : headN (skipB (rest t a)) = 123) (hd0 : 0 ≤ dep) (hv : ∀ W a n, Rdr W P t a n → ReadyJ W → Calls Tryz.prog 41 #[.pointer (some ⟨P, 0, none⟩), .int .i64 (dep + 1)] W (VEnds W P t (valJ d (rest t a) n))) :
    Calls Tryz.prog 41 #[.pointer (some ⟨P, 0, none⟩), .int .i64 dep] W (VEnds W P t (objR (eachJ (pairJ (valJ d)) 125 [] (skipB (rest t a)) (n + 1)))) := by
  have hb0 := below_new0 W (.cells #[.int .i64 0, .bool false, .string ⟨#[]⟩, .slice none 0 0, .slice none 0 0] 26)
  have HB := Lib.hid (blanks_any (h.below hb0))
  have HW0 := Lib.hid (h.stays hb0)
  have HR0 := Lib.hid (hR.below hb0)
  have hP := h.1.lt
  have hsz := h.2
  have HBN := Lib.hid (Blk.new W #[.int .i64 0, .bool false, .string ⟨#[]⟩, .slice none 0 0, .slice none 0 0] 26)
  clear h hR hb0
  have hn1 : ((n : Int) == 2000) = false := beq_eq_false_iff_ne.2 (by omega)
  have hw : IntKind.i64.wrap ((n : Int) + 1) = (n : Int) + 1 := IntWalk.i64_in _ (by omega)
  go_enter Tryz.func41, Tryz.ntmps41
  go_wp2_with fail
  go_at_call 42; refine HB.out.mono ?_; rintro e w1 ⟨rfl, c1, hw1, hc1⟩
  have HW1 := Lib.hid (HW0.out.trans hw1)
  have HR1 := Lib.hid (HR0.out.aside hw1.1 hP7)
  have HN1 := Lib.hid (HBN.out.aside hw1.1 (by omega))
  have HC1 := Lib.hid hc1
  have k1 := hw1.2.1.cell 1
  have k2 := hw1.2.1.cell 2
  have hn2 := hw1.2.2.2.2
  have f2 := hw1.2.1.frozen 2
  clear hw1 hc1 HB
  have HG : Hid (Went w1 (w1.setCell ⟨P, 2, none⟩ (.int .i64 ((n : Int) + 1))) P t c1 (n + 1)) := Lib.hid (by simpa using HW1.out.2.begins (by omega : n < 2000))
  have HW2 := Lib.hid (HW1.out.trans HG.out)
  have HR2 := Lib.hid (HR1.out.aside HG.out.1 hP7)
  have HN2 := Lib.hid (HN1.out.aside HG.out.1 (by omega))
  have HP2 := Lib.hid (peek_any HG.out.2)
  rw [HC1.out, hx] at HP2
  obtain ⟨W2, hW2⟩ : ∃ W2, w1.setCell ⟨P, 2, none⟩ (.int .i64 ((n : Int) + 1)) = W2 := ⟨_, rfl⟩
  rw [hW2] at HG HW2 HR2 HN2 HP2
  go_wp2_with fail
  try rw [hW2]
  clear k1 k2 f2
  go_at_call 57; refine HP2.out.mono ?_; rintro e w3 ⟨rfl, hb3⟩
  have HW3 := Lib.hid (HW2.out.trans (HW2.out.2.stays hb3))
  have HR3 := Lib.hid (HR2.out.below hb3)
  have HN3 := Lib.hid (HN2.out.below hb3)
  clear hb3 HW2 HR2 HN2 HP2 HG HW1 HR1 HN1 hW2
  have hal : c1 < t.size := by
    obtain ⟨r, hr⟩ := head_cons (q := 123) (by decide) hx
    have h2 := rest_length t c1
    rw [HC1.out, hr, List.length_cons] at h2
    omega
  have HQ := Lib.hid (object_read HW3.out.2 HR3.out hP7 hal hd0 (by omega) hv)
  rw [HC1.out] at HQ
  clear hx hal
  go_wp2_with fail
  go_at_call 61; refine HQ.out.mono ?_
  cases hq : objR (eachJ (pairJ (valJ d)) 125 [] (skipB (rest t a)) (n + 1)) with
  | error b =>
    rintro e w4 ⟨D, rfl, h1, h2, h3⟩
    refine ⟨rfl, ?_⟩
    exact Thrown.after ⟨D, rfl, h1, h2, h3⟩ HW3.out.1
  | ok y =>
    obtain ⟨T, R', n'⟩ := y
    rintro e w5 ⟨v5, a5, rfl, hf5, hs5, hw5, hc5⟩
    obtain ⟨y1, y2, y3, ya, yn, yc, yk, ym, yd, rfl⟩ := hf5.shape
    have HC5 := Lib.hid hc5
    have HN5 := Lib.hid (HN3.out.aside hw5.1 (by omega))
    have hz5 : W.heap.size + 1 ≤ w3.heap.size := HN3.out.lt
    have HF5 := Lib.hid hf5
    have HW5 := Lib.hid (HW3.out.trans hw5)
    have HQE := Lib.hid hq
    clear hw5 hc5 hq hf5
    have hn5 := HN5.out
    have z0 := hn5.cell 0
    have z1 := hn5.cell 1
    have z2 := hn5.cell 2
    have z3 := hn5.cell 3
    have z4 := hn5.cell 4
    have f0 := hn5.frozen 0
    have f1 := hn5.frozen 1
    have f2 := hn5.frozen 2
    have f3 := hn5.frozen 3
    have f4 := hn5.frozen 4
    have hd5 := hn5.set5 (.int .i64 y1) (.bool y2) (.string y3) (.slice ya yn yc) (.slice yk ym yd)
    have d0 := hd5.cell 0
    have d1 := hd5.cell 1
    have d2 := hd5.cell 2
    have d3 := hd5.cell 3
    have d4 := hd5.cell 4
    clear hn5 hd5
    go_wp2_with fail
    refine bodyPost_ret (v := .agg #[.int .i64 y1, .bool y2, .string y3, .slice ya yn yc, .slice yk ym yd]) (by simp [results, Tryz.results41, go_sem, d0, d1, d2, d3, d4]) rfl ?_
    rw [HQE.out]
    refine ⟨_, a5, rfl, HF5.out.keep (fun g h1 h2 => ?_) (by omega) (by simp), hs5, HW5.out.set5 hP (Nat.le_refl _) _ _ _ _ _, HC5.out⟩
    rw [Below.heap_setCell _ _ _ _ (by show g ≠ W.heap.size; omega), Below.heap_setCell _ _ _ _ (by show g ≠ W.heap.size; omega), Below.heap_setCell _ _ _ _ (by show g ≠ W.heap.size; omega), Below.heap_setCell _ _ _ _ (by show g ≠ W.heap.size; omega), Below.heap_setCell _ _ _ _ (by show g ≠ W.heap.size; omega)]
theorem value_any {P : Nat} {t : ByteArray} (hP7 : 7 ≤ P) : ∀ (d : Nat), d ≤ 24 → ∀ W a n, Rdr W P t a n → ReadyJ W → Calls Tryz.prog 41 #[.pointer (some ⟨P, 0, none⟩), .int .i64 (25 - (d : Int))] W (VEnds W P t (valJ d (rest t a) n))
  | 0, _, W, a, n, h, hR => value_deep (a := a) (n := n) (d := 0) h hR hP7 (by omega)
  | d + 1, hd, W, a, n, h, hR => by
    have ih := value_any (t := t) hP7 d (by omega)
    have e1 : (25 : Int) - (d : Int) = (25 - ((d + 1 : Nat) : Int)) + 1 := by omega
    rw [e1] at ih
    have hd24 : ¬ (24 : Int) < 25 - ((d + 1 : Nat) : Int) := by omega
    have hd0 : (0 : Int) ≤ 25 - ((d + 1 : Nat) : Int) := by omega
    generalize (25 : Int) - ((d + 1 : Nat) : Int) = dep at *
    by_cases hn : n = 2000
    · rw [valJ_long hn]
      exact value_long (d := 0) h hR hP7 hd24 hn
    · obtain ⟨x, hx⟩ : ∃ x, headN (skipB (rest t a)) = x := ⟨_, rfl⟩
      by_cases h1 : x = 34
      · obtain ⟨r, hr⟩ := head_cons (q := 34) (by decide) (hx.trans h1)
        have := value_text (d := 0) h hR hP7 hd24 hn (hx.trans h1)
        rw [valJ_text hn hr, ← hr]
        exact this
      · by_cases h2 : x = 91
        · obtain ⟨r, hr⟩ := head_cons (q := 91) (by decide) (hx.trans h2)
          have := value_list h hR hP7 hd24 hn (hx.trans h2) hd0 ih
          rw [valJ_list hn hr, ← hr]
          exact this
        · by_cases h3 : x = 123
          · obtain ⟨r, hr⟩ := head_cons (q := 123) (by decide) (hx.trans h3)
            have := value_obj h hR hP7 hd24 hn (hx.trans h3) hd0 ih
            rw [valJ_obj hn hr, ← hr]
            exact this
          · by_cases h4 : x = 45
            · rw [valJ_num hn hx h1 h2 h3 (.inl h4)]
              exact value_numa (d := 0) h hR hP7 hd24 hn hx h1 h2 h3 h4
            · cases h5 : digN x with
              | true =>
                rw [valJ_num hn hx h1 h2 h3 (.inr h5)]
                exact value_numb (d := 0) h hR hP7 hd24 hn hx h1 h2 h3 h4 h5
              | false =>
                rw [valJ_word hn hx h1 h2 h3 h4 h5]
                exact value_word (d := 0) h hR hP7 hd24 hn hx h1 h2 h3 h4 h5
end Go.Proofs.YtnmfoedfllmclaaGreatDoor
namespace Go.Proofs.YtnmfoedfllmclaaGreatDoor
open Go.RowKit Go.Shelf
set_option linter.unusedVariables false

/-- How whole ends. -/
def WhEnds (W : World) (P : Nat) (t : ByteArray) (r : Except Bad VT) (e : Ending) (w' : World) : Prop :=
  match r with
  | .ok T => ∃ v, e = .returned v ∧ Fresh W.heap.size w'.heap.size w' v T ∧ smallT T ∧ Aside P W w'
  | .error b => Thrown W P t b e w'
theorem wholeJ_long {t : ByteArray} (h : 65536 < t.size) : wholeJ t = .error (3, t.size) := by unfold wholeJ; rw [if_pos h]
theorem wholeJ_err {t : ByteArray} {b : Bad} (h : ¬ 65536 < t.size) (hv : valJ 24 (rest t 0) 0 = .error b) : wholeJ t = .error b := by
  unfold wholeJ; rw [if_neg h, show t.data.toList = rest t 0 from rfl, hv]
theorem wholeJ_ok {t : ByteArray} {T : VT} {R : List UInt8} {n : Nat} (h : ¬ 65536 < t.size) (hv : valJ 24 (rest t 0) 0 = .ok (T, R, n)) (hs : skipB R = []) : wholeJ t = .ok T := by
  unfold wholeJ; rw [if_neg h, show t.data.toList = rest t 0 from rfl, hv]; simp only; rw [if_pos hs]
theorem wholeJ_more {t : ByteArray} {T : VT} {R : List UInt8} {n : Nat} (h : ¬ 65536 < t.size) (hv : valJ 24 (rest t 0) 0 = .ok (T, R, n)) (hs : ¬ skipB R = []) : wholeJ t = .error (30, (skipB R).length) := by
  unfold wholeJ; rw [if_neg h, show t.data.toList = rest t 0 from rfl, hv]; simp only; rw [if_neg hs]
set_option maxRecDepth 100000 in
set_option maxHeartbeats 2000000 in
theorem whole_long {W : World} {P : Nat} {t : ByteArray} (h : Blk W P #[.string t, .int .i64 0, .int .i64 0] 53) (hl : 65536 < t.size) : Calls Tryz.prog 24 #[.pointer (some ⟨P, 0, none⟩)] W (WhEnds W P t (wholeJ t)) := by
  rw [wholeJ_long hl]
  have hP := h.lt
  have k0 := h.cell 0
  have i0 : (65536 : Int) < (t.size : Int) := by omega
  have hA := Aside.of (R := P) (below_new0 W (.cells #[.int .i64 0, .bool false, .string ⟨#[]⟩, .slice none 0 0, .slice none 0 0] 26))
  have hT := Lib.hid (thrown_at (c := 3) (t := t) (l := t.size) (p := 0) hA (by omega))
  clear h hA hl
  go_enter Tryz.func24, Tryz.ntmps24
  go_wp2_with (go_at_call 40; refine (diag_any _ _ _).mono ?_; rintro e w3 ⟨rfl, rfl⟩)
  refine ⟨rfl, ?_⟩
  have hs : (W.alloc (.cells #[.int .i64 0, .bool false, .string ⟨#[]⟩, .slice none 0 0, .slice none 0 0] 26)).heap.size = W.heap.size + 1 := by simp
  have := hT.out
  rw [hs] at this
  exact this
set_option maxRecDepth 100000 in
set_option maxHeartbeats 4000000 in
theorem whole_any {W : World} {P : Nat} {t : ByteArray} (h : Rdr W P t 0 0) (hR : ReadyJ W) (hP7 : 7 ≤ P) : Calls Tryz.prog 24 #[.pointer (some ⟨P, 0, none⟩)] W (WhEnds W P t (wholeJ t)) := by
  have hb0 := below_new0 W (.cells #[.int .i64 0, .bool false, .string ⟨#[]⟩, .slice none 0 0, .slice none 0 0] 26)
  have HV := Lib.hid (value_any hP7 24 (Nat.le_refl _) _ 0 0 (h.below hb0) (hR.below hb0))
  rw [show (25 : Int) - ((24 : Nat) : Int) = 1 from rfl] at HV
  have HW0 := Lib.hid (h.stays hb0)
  have hP := h.1.lt
  have hsz := h.2
  have k0 := h.1.cell 0
  have i0 : ¬ (65536 : Int) < (t.size : Int) := by omega
  have hl : ¬ 65536 < t.size := by omega
  have HBN := Lib.hid (Blk.new W #[.int .i64 0, .bool false, .string ⟨#[]⟩, .slice none 0 0, .slice none 0 0] 26)
  clear h hR hb0
  go_enter Tryz.func24, Tryz.ntmps24
  go_wp2_with fail
  go_at_call 41; refine HV.out.mono ?_
  cases hv : valJ 24 (rest t 0) 0 with
  | error b =>
    rintro e w4 ⟨D, rfl, h1, h2, h3⟩
    refine ⟨rfl, ?_⟩
    rw [wholeJ_err hl hv]
    exact Thrown.after ⟨D, rfl, h1, h2, h3⟩ HW0.out.1
  | ok y =>
    obtain ⟨T, R', n'⟩ := y
    rintro e w5 ⟨v5, a5, rfl, hf5, hs5, hw5, hc5⟩
    obtain ⟨y1, y2, y3, ya, yn, yc, yk, ym, yd, rfl⟩ := hf5.shape
    have HVX := Lib.hid hv
    have hz5 : W.heap.size + 1 ≤ w5.heap.size := Nat.le_trans (by simp) hw5.1.size
    have HN5 := Lib.hid (HBN.out.aside hw5.1 (by omega))
    have HW5 := Lib.hid (HW0.out.trans hw5)
    obtain ⟨w6, hw6⟩ : ∃ w6, w5.alloc (.cells #[.int .i64 y1, .bool y2, .string y3, .slice ya yn yc, .slice yk ym yd] 26) = w6 := ⟨_, rfl⟩
    have hb6 : Below w5.heap.size w5 w6 := by rw [← hw6]; exact below_new0 _ _
    have HY6 : Hid (Blk w6 w5.heap.size #[.int .i64 y1, .bool y2, .string y3, .slice ya yn yc, .slice yk ym yd] 26) := by rw [← hw6]; exact Lib.hid (Blk.new _ _ _)
    have HN6 := Lib.hid (HN5.out.below hb6)
    have HW6 := Lib.hid (HW5.out.trans (HW5.out.2.stays hb6))
    have HF6 := Lib.hid (hf5.keep (lo' := W.heap.size + 1) (B' := w6.heap.size) (fun g h1 h2 => hb6.block g h2) (by simp) hb6.size)
    have HB := Lib.hid (blanks_any HW6.out.2)
    have HC5 := Lib.hid hc5
    have HS5 := Lib.hid hs5
    have HW6E := Lib.hid hw6
    clear hf5 hw5 hc5 hs5 hv hb6 hw6 k0
    go_wp2_with fail
    rw [HW6E.out]
    go_at_call 42; refine HB.out.mono ?_; rintro e w7 ⟨rfl, c7, hw7, hc7⟩
    have hc7' : rest t c7 = skipB R' := by rw [hc7, HC5.out]
    have hn7 := HN6.out.aside hw7.1 (by omega)
    have hy7 := HY6.out.aside hw7.1 (by omega)
    have HF7 := Lib.hid (HF6.out.keep (W' := w7) (lo' := W.heap.size + 1) (B' := w7.heap.size) (fun g h1 h2 => hw7.1.block g h2 (by omega)) (Nat.le_refl _) hw7.1.size)
    have HW7 := Lib.hid (HW6.out.trans hw7)
    have hct := hw7.2.2.1
    have k0 := hw7.2.1.cell 0
    have k1 := hw7.2.1.cell 1
    have i1 : (0 : Int) ≤ (c7 : Int) := by omega
    have hr7 := rest_length t c7
    rw [hc7'] at hr7
    have HC7 := Lib.hid hc7'
    clear hw7 hc7 hc7' HB HW6
    by_cases hlt : c7 < t.size
    · have i2 : (c7 : Int) < (t.size : Int) := by omega
      have HX := Lib.hid (wholeJ_more hl HVX.out (fun e => by rw [e] at hr7; simp at hr7; omega))
      clear hn7 hy7
      go_wp2_with fail
      go_quiet (fail)
      go_wp2_with (go_at_call 40; refine (diag_any _ _ _).mono ?_; rintro e w8 ⟨rfl, rfl⟩)
      refine ⟨rfl, ?_⟩
      rw [HX.out]
      exact thrown_at (c := 30) (HW7.out.1.draw nq) (by omega)
    · have i2 : ¬ (c7 : Int) < (t.size : Int) := by omega
      have HX := Lib.hid (wholeJ_ok hl HVX.out (List.length_eq_zero_iff.1 (by rw [hr7]; omega)))
      have z0 := hn7.cell 0
      have z1 := hn7.cell 1
      have z2 := hn7.cell 2
      have z3 := hn7.cell 3
      have z4 := hn7.cell 4
      have f0 := hn7.frozen 0
      have f1 := hn7.frozen 1
      have f2 := hn7.frozen 2
      have f3 := hn7.frozen 3
      have f4 := hn7.frozen 4
      have u0 := hy7.cell 0
      have u1 := hy7.cell 1
      have u2 := hy7.cell 2
      have u3 := hy7.cell 3
      have u4 := hy7.cell 4
      have HN7 := Lib.hid hn7
      have hlt7 := hn7.lt
      clear hn7 hy7
      go_wp2_with fail
      go_quiet (fail)
      go_wp2_with fail
      have hn8 : Blk (w7.drewN nq) W.heap.size #[.int .i64 0, .bool false, .string ⟨#[]⟩, .slice none 0 0, .slice none 0 0] 26 := HN7.out
      have hw8 : Aside P W (w7.drewN nq) := HW7.out.1.draw nq
      have hf8 : Fresh (W.heap.size + 1) (w7.drewN nq).heap.size (w7.drewN nq) (.agg #[.int .i64 y1, .bool y2, .string y3, .slice ya yn yc, .slice yk ym yd]) T := HF7.out.keep (fun g h1 h2 => rfl) (Nat.le_refl _) (Nat.le_refl _)
      generalize w7.drewN nq = w8 at *
      have hd := hn8.set5 (.int .i64 y1) (.bool y2) (.string y3) (.slice ya yn yc) (.slice yk ym yd)
      have d0 := hd.cell 0
      have d1 := hd.cell 1
      have d2 := hd.cell 2
      have d3 := hd.cell 3
      have d4 := hd.cell 4
      refine bodyPost_ret (v := .agg #[.int .i64 y1, .bool y2, .string y3, .slice ya yn yc, .slice yk ym yd]) (by simp [results, Tryz.results24, go_sem, d0, d1, d2, d3, d4]) rfl ?_
      rw [HX.out]
      refine ⟨_, rfl, hf8.keep (fun g h1 h2 => ?_) (by omega) (by simp), HS5.out, hw8.set5 (Nat.le_refl _) _ _ _ _ _⟩
      rw [Below.heap_setCell _ _ _ _ (by show g ≠ W.heap.size; omega), Below.heap_setCell _ _ _ _ (by show g ≠ W.heap.size; omega), Below.heap_setCell _ _ _ _ (by show g ≠ W.heap.size; omega), Below.heap_setCell _ _ _ _ (by show g ≠ W.heap.size; omega), Below.heap_setCell _ _ _ _ (by show g ≠ W.heap.size; omega)]
end Go.Proofs.YtnmfoedfllmclaaGreatDoor
namespace Go.Proofs.YtnmfoedfllmclaaGreatDoor
set_option linter.unusedVariables false

mutual
/-- A tree's JSON. -/
def jsT : VT → List UInt8
  | .node k b t its ks => if k = 2 then (if b then [116, 114, 117, 101] else [102, 97, 108, 115, 101]) else if k = 3 then t.data.toList else if k = 4 then jsQ t
    else if k = 5 then 91 :: (jsI its true ++ [93]) else if k = 6 then 123 :: (jsP ks its true ++ [125]) else [110, 117, 108, 108]
def jsI : List VT → Bool → List UInt8
  | [], _ => []
  | x :: l, first => (if first then [] else [44]) ++ (jsT x ++ jsI l false)
def jsP : List ByteArray → List VT → Bool → List UInt8
  | k :: ks, x :: l, first => (if first then [] else [44]) ++ (jsQ k ++ (58 :: (jsT x ++ jsP ks l false)))
  | _, _, _ => []
end
/-- The same, or both too long. -/
def Agree (X Y : List UInt8) : Prop := X = Y ∨ (65536 < X.length ∧ 65536 < Y.length)
theorem quote_agree (L : List UInt8) (t : ByteArray) : Agree (quoteL L t) (L ++ jsQ t) := by
  unfold quoteL
  by_cases h : 65536 < L.length
  · rw [if_pos h]
    exact .inr ⟨h, by rw [List.length_append]; omega⟩
  · rw [if_neg h]
    exact .inl rfl
mutual
theorem appV_agree : ∀ (T : VT) (L : List UInt8), Agree (appV T L) (L ++ jsT T)
  | .node k b t its ks, L => by
    unfold appV jsT
    by_cases h2 : k = 2
    · rw [if_pos h2, if_pos h2]; exact .inl rfl
    rw [if_neg h2, if_neg h2]
    by_cases h3 : k = 3
    · rw [if_pos h3, if_pos h3]; exact .inl rfl
    rw [if_neg h3, if_neg h3]
    by_cases h4 : k = 4
    · rw [if_pos h4, if_pos h4]; exact quote_agree L t
    rw [if_neg h4, if_neg h4]
    by_cases h5 : k = 5
    · rw [if_pos h5, if_pos h5]
      rcases appI_agree its true (L ++ [91]) with e | ⟨e1, e2⟩
      · exact .inl (by rw [e]; simp)
      · exact .inr ⟨by rw [List.length_append]; omega, by simp only [List.length_append, List.length_cons, List.length_nil] at e2 ⊢; omega⟩
    rw [if_neg h5, if_neg h5]
    by_cases h6 : k = 6
    · rw [if_pos h6, if_pos h6]
      rcases appP_agree ks its true (L ++ [123]) with e | ⟨e1, e2⟩
      · exact .inl (by rw [e]; simp)
      · exact .inr ⟨by rw [List.length_append]; omega, by simp only [List.length_append, List.length_cons, List.length_nil] at e2 ⊢; omega⟩
    rw [if_neg h6, if_neg h6]
    exact .inl rfl
theorem appI_agree : ∀ (l : List VT) (f : Bool) (L : List UInt8), Agree (appI l f L) (L ++ jsI l f)
  | [], f, L => by unfold appI jsI; exact .inl (by simp)
  | x :: l, f, L => by
    unfold appI jsI
    have hc : (if f then L else L ++ [44]) = L ++ (if f then [] else [44]) := by cases f <;> simp
    rw [hc]
    generalize (if f then ([] : List UInt8) else [44]) = C
    rcases appV_agree x (L ++ C) with e | ⟨e1, e2⟩
    · rw [e]
      rcases appI_agree l false (L ++ C ++ jsT x) with e | ⟨e1, e2⟩
      · exact .inl (by rw [e]; simp)
      · exact .inr ⟨e1, by simpa using e2⟩
    · have := appI_le l false (appV x (L ++ C))
      exact .inr ⟨by omega, by simp only [List.length_append] at e2 ⊢; omega⟩
theorem appP_agree : ∀ (ks : List ByteArray) (l : List VT) (f : Bool) (L : List UInt8), Agree (appP ks l f L) (L ++ jsP ks l f)
  | k :: ks, x :: l, f, L => by
    unfold appP jsP
    have hc : (if f then L else L ++ [44]) = L ++ (if f then [] else [44]) := by cases f <;> simp
    rw [hc]
    generalize (if f then ([] : List UInt8) else [44]) = C
    have h1 := appP_le ks l false (appV x (quoteL (L ++ C) k ++ [58]))
    have h2 := appV_le x (quoteL (L ++ C) k ++ [58])
    rcases quote_agree (L ++ C) k with e | ⟨e1, e2⟩
    · rw [e] at h1 h2 ⊢
      rcases appV_agree x (L ++ C ++ jsQ k ++ [58]) with e | ⟨e1, e2⟩
      · rw [e]
        rcases appP_agree ks l false (L ++ C ++ jsQ k ++ [58] ++ jsT x) with e | ⟨e1, e2⟩
        · exact .inl (by rw [e]; simp)
        · exact .inr ⟨e1, by simpa using e2⟩
      · exact .inr ⟨by omega, by simp only [List.length_append, List.length_cons, List.length_nil] at e2 ⊢; omega⟩
    · exact .inr ⟨by rw [List.length_append] at h2; omega, by simp only [List.length_append] at e2 ⊢; omega⟩
  | [], l, f, L => by unfold appP jsP; exact .inl (by simp)
  | k :: ks, [], f, L => by unfold appP jsP; exact .inl (by simp)
end
section
variable (pr po : Nat → List UInt8)
/-- A sign, with blanks on both sides. -/
def sgW (i : Nat) (c : UInt8) : List UInt8 := pr i ++ c :: po i
mutual
def spT : VT → Nat → List UInt8
  | .node k b t its ks, i => if k = 5 then sgW pr po i 91 ++ (spI its true (i + 1) ++ sgW pr po (i + 1 + (jsI its true).length) 93)
    else if k = 6 then sgW pr po i 123 ++ (spP ks its true (i + 1) ++ sgW pr po (i + 1 + (jsP ks its true).length) 125)
    else jsT (.node k b t its ks)
def spI : List VT → Bool → Nat → List UInt8
  | [], _, _ => []
  | x :: l, true, i => spT x i ++ spI l false (i + (jsT x).length)
  | x :: l, false, i => sgW pr po i 44 ++ (spT x (i + 1) ++ spI l false (i + 1 + (jsT x).length))
def spP : List ByteArray → List VT → Bool → Nat → List UInt8
  | k :: ks, x :: l, true, i => jsQ k ++ (sgW pr po (i + (jsQ k).length) 58 ++ (spT x (i + (jsQ k).length + 1) ++ spP ks l false (i + (jsQ k).length + 1 + (jsT x).length)))
  | k :: ks, x :: l, false, i => sgW pr po i 44 ++ (jsQ k ++ (sgW pr po (i + 1 + (jsQ k).length) 58 ++ (spT x (i + 1 + (jsQ k).length + 1) ++ spP ks l false (i + 1 + (jsQ k).length + 1 + (jsT x).length))))
  | _, _, _, _ => []
end
end
end Go.Proofs.YtnmfoedfllmclaaGreatDoor
namespace Go.Proofs.YtnmfoedfllmclaaGreatDoor
set_option linter.unusedVariables false

theorem beq_no {a b : ByteArray} (h : a ≠ b) : (a == b) = false := by
  cases hb : (a == b) with
  | false => rfl
  | true =>
    exfalso
    apply h
    cases a with | mk x => cases b with | mk y =>
    have hb : (x == y) = true := hb
    rw [beq_iff_eq.1 hb]
theorem contains_no {k : ByteArray} : ∀ {ks : List ByteArray}, k ∉ ks → ks.contains k = false
  | [], _ => rfl
  | a :: l, h => by
    rw [List.contains_cons, contains_no (ks := l) (fun hm => h (List.mem_cons_of_mem _ hm)), beq_no (fun e => h (by rw [e]; simp))]
    rfl
end Go.Proofs.YtnmfoedfllmclaaGreatDoor
namespace Go.Proofs.YtnmfoedfllmclaaGreatDoor
open Go.RowKit
set_option linter.unusedVariables false

end Go.Proofs.YtnmfoedfllmclaaGreatDoor
