/- What a loss of power leaves of a file. -/
import Derived.Test.YtoipmgdfhmochaaFNew
namespace Go.Proofs.Ytoipmgdfhmochaa
open Go.RowKit Go.Shelf
set_option linter.unusedVariables false
set_option linter.unusedSimpArgs false

theorem KB.store3 {w : World} {q : Nat} {a b a' b' : Option Addr} {n c m d n' c' m' d' : Nat} {ok ok' : Bool} {t : TypeId} (hb : Blk w q #[.slice a n c, .slice b m d, .bool ok] t) :
    KB w (((w.setCell ⟨q, 0, none⟩ (.slice a' n' c')).setCell ⟨q, 1, none⟩ (.slice b' m' d')).setCell ⟨q, 2, none⟩ (.bool ok')) ∧ Blk (((w.setCell ⟨q, 0, none⟩ (.slice a' n' c')).setCell ⟨q, 1, none⟩ (.slice b' m' d')).setCell ⟨q, 2, none⟩ (.bool ok')) q #[.slice a' n' c', .slice b' m' d', .bool ok'] t := by
  have b1 : Blk (w.setCell ⟨q, 0, none⟩ (.slice a' n' c')) q #[.slice a' n' c', .slice b m d, .bool ok] t := by simpa using hb.set 0 (.slice a' n' c')
  have b2 : Blk ((w.setCell ⟨q, 0, none⟩ (.slice a' n' c')).setCell ⟨q, 1, none⟩ (.slice b' m' d')) q #[.slice a' n' c', .slice b' m' d', .bool ok] t := by simpa using b1.set 1 (.slice b' m' d')
  exact ⟨((KB.cellSet hb no3 _).trans (KB.cellSet b1 no3 _)).trans (KB.cellSet b2 no3 _), by simpa using b2.set 2 (.bool ok')⟩
theorem head_b {w : World} {a : Option Addr} {n c k : Nat} {L : List UInt8} (h : BR w (.slice a n c) L) (hk : k ≤ n) : (∀ W, (Instr.sliceAt 32 (.slice a n c) none (some (.int .i64 (k : Int))) none).run Try.prog W = .ok (.slice a k c) W) ∧ BR w (.slice a k c) (L.take k) := by
  obtain ⟨a', c', e, h2, h3, h4⟩ := h
  cases e
  refine ⟨fun W => ?_, ⟨a, c, by rw [List.length_take]; congr 1; omega, by rw [List.length_take]; omega, by rw [List.length_take]; omega, ?_⟩⟩
  · have hu : Try.prog.underlying 32 = some (.slice (Try.prog.elem 32)) := by kernel_rfl
    rw [run_sliceAt_slice _ _ _ _ _ _ hu, run_slice_h _ _ _ _ _ hu .i64 (k : Int) (by omega) (by omega)]
    obtain ⟨i, hi⟩ : ∃ i, Try.prog.info? (Try.prog.elem 32) = some i := by
      have : (Try.prog.info? (Try.prog.elem 32)).isSome = true := by kernel_rfl
      exact Option.isSome_iff_exists.1 this
    have hz : (sizeOf (Try.prog.elem 32)).run Try.prog W = .ok i.size W := by simp [sizeOf, typeInfo, hi]
    rw [hz]
    simp only [Result.andThen, sliced, Int.toNat_natCast, Nat.sub_zero]
    cases a with
    | none => simp
    | some ad => simp [Addr.add]
  · rcases h4 with ⟨rfl, rfl⟩ | ⟨ad, rfl, h5, h6⟩
    · exact .inl ⟨rfl, by simp⟩
    · refine .inr ⟨ad, rfl, h5, fun i hi => ?_⟩
      rw [List.length_take] at hi
      rw [h6 i (by omega)]
      congr 2
      rw [List.getD_eq_getElem?_getD, List.getD_eq_getElem?_getD, List.getElem?_map, List.getElem?_map, List.getElem?_take, if_pos (by omega)]
/-- What is handed back. -/
def LeftE (W : World) (r : Option FV) (e : Ending) (w' : World) : Prop := ∃ dn dl dc sn sl sc ok, e = .returned (.tuple #[.agg #[.slice dn dl dc, .slice sn sl sc, .bool ok], .bool r.isSome]) ∧ FileIs w' (.agg #[.slice dn dl dc, .slice sn sl sc, .bool ok]) (r.getD ⟨[], [], false⟩) ∧ Below W.heap.size W w'
set_option maxRecDepth 100000 in
set_option maxHeartbeats 4000000 in
theorem left_any {W : World} {dn sn : Option Addr} {dl dc sl sc : Nat} {ok : Bool} {f : FV} (hf : FileIs W (.agg #[.slice dn dl dc, .slice sn sl sc, .bool ok]) f) (x : Int) (hx0 : -9223372036854775808 ≤ x) (hx1 : x ≤ 9223372036854775807) :
    Calls Try.prog 34 #[.agg #[.slice dn dl dc, .slice sn sl sc, .bool ok], .int .i64 x] W (LeftE W (f.left x)) := by
  have hn1 := below_new W (.cells #[.slice dn dl dc, .slice sn sl sc, .bool ok] 72)
  have hn2 := below_new (W.alloc (.cells #[.slice dn dl dc, .slice sn sl sc, .bool ok] 72)) (.cells #[.slice none 0 0, .slice none 0 0, .bool false] 72)
  have hn := hn1.trans (hn2.mono hn1.size)
  have bq1 := (Blk.new W #[.slice dn dl dc, .slice sn sl sc, .bool ok] 72).below hn2
  have bq2 := Blk.new (W.alloc (.cells #[.slice dn dl dc, .slice sn sl sc, .bool ok] 72)) #[.slice none 0 0, .slice none 0 0, .bool false] 72
  rw [show (W.alloc (.cells #[.slice dn dl dc, .slice sn sl sc, .bool ok] 72)).heap.size = W.heap.size + 1 by simp] at bq2
  have hf2 := hf.below hn
  have HS := Lib.hid (sure_any hf2)
  obtain ⟨hd, hsf, hok⟩ : BR ((W.alloc (.cells #[.slice dn dl dc, .slice sn sl sc, .bool ok] 72)).alloc (.cells #[.slice none 0 0, .slice none 0 0, .bool false] 72)) (.slice dn dl dc) f.data ∧ BR ((W.alloc (.cells #[.slice dn dl dc, .slice sn sl sc, .bool ok] 72)).alloc (.cells #[.slice none 0 0, .slice none 0 0, .bool false] 72)) (.slice sn sl sc) f.safe ∧ ok = f.ok := by
    obtain ⟨dv, sv, e, q1, q2⟩ := hf2
    simp only [Value.agg.injEq, Array.mk.injEq, List.cons.injEq, Value.bool.injEq, and_true] at e
    obtain ⟨e1, e2, e3⟩ := e
    rw [← e1] at q1
    rw [← e2] at q2
    exact ⟨q1, q2, e3⟩
  have HN := Lib.hid (And.intro hn (And.intro bq1 (And.intro bq2 (And.intro hd hsf))))
  have x0 := bq1.cell 0
  have x1 := bq1.cell 1
  have x2 := bq1.cell 2
  clear hn1 hn2 hn bq1 bq2 hf2 hf hd hsf
  subst hok
  unfold FV.left
  cases hs : f.sure with
  | true =>
    rw [hs] at HS
    rw [if_pos rfl]
    clear hs
    go_enter Try.func34, Try.ntmps34
    go_wp2_with fail
    obtain ⟨w2, hw2⟩ : ∃ w, (W.alloc (.cells #[.slice dn dl dc, .slice sn sl sc, .bool f.ok] 72)).alloc (.cells #[.slice none 0 0, .slice none 0 0, .bool false] 72) = w := ⟨_, rfl⟩
    rw [hw2] at HS HN ⊢
    clear x0 x1 x2 hw2
    go_at_call 33; refine HS.out.mono ?_; rintro r w3 ⟨rfl, hb3⟩
    have HB3 := Lib.hid hb3
    have x0 := (HN.out.2.1.below hb3).cell 0
    have x1 := (HN.out.2.1.below hb3).cell 1
    have x2 := (HN.out.2.1.below hb3).cell 2
    clear hb3
    have hbr := HN.out.2.2.2.1.below HB3.out
    have HBx := Lib.hid (bclone_any hbr)
    clear hbr
    go_wp2_with fail
    go_at_call 38; refine HBx.out.mono ?_; rintro r w4 ⟨a4, c4, rfl, hr4, hb4⟩
    have HR4 := Lib.hid (And.intro hr4 hb4)
    clear hr4 hb4 x0 x1 x2
    go_wp2_with fail
    go_at_call 43; refine (sureFile_any a4 (f.data).length c4).mono ?_; rintro r w5 ⟨rfl, hb5⟩
    have hb25 := HB3.out.trans ((HR4.out.2.trans (hb5.mono HR4.out.2.size)).mono HB3.out.size)
    have by5 := HN.out.2.2.1.below hb25
    have hst := KB.store3 (a' := a4) (n' := (f.data).length) (c' := c4) (b' := a4) (m' := (f.data).length) (d' := c4) (ok' := true) by5
    have y0 := by5.cell 0
    have y1 := by5.cell 1
    have y2 := by5.cell 2
    have g0 := by5.frozen 0
    have g1 := by5.frozen 1
    have g2 := by5.frozen 2
    obtain ⟨w6, hw6⟩ : ∃ w, (((w5.setCell ⟨W.heap.size + 1, 0, none⟩ (.slice a4 (f.data).length c4)).setCell ⟨W.heap.size + 1, 1, none⟩ (.slice a4 (f.data).length c4)).setCell ⟨W.heap.size + 1, 2, none⟩ (.bool true)) = w := ⟨_, rfl⟩
    rw [hw6] at hst
    have z0 : w6.cell? ⟨W.heap.size + 1, 0, none⟩ = some (.slice a4 (f.data).length c4) := hst.2.cell 0
    have z1 : w6.cell? ⟨W.heap.size + 1, 1, none⟩ = some (.slice a4 (f.data).length c4) := hst.2.cell 1
    have z2 : w6.cell? ⟨W.heap.size + 1, 2, none⟩ = some (.bool true) := hst.2.cell 2
    have HST := Lib.hid (And.intro hst (And.intro hb25 hb5))
    have HW6 := Lib.hid hw6
    clear by5 hst hb25 hb5 hw6
    go_wp2_with fail
    rw [HW6.out]
    refine bodyPost_ret (by simp [results, go_sem, z0, z1, z2]; try rfl) rfl ?_
    have hr := HST.out.1.1 _ _ (HR4.out.1.below HST.out.2.2)
    refine ⟨a4, (f.data).length, c4, a4, (f.data).length, c4, true, rfl, ⟨_, _, rfl, hr, hr⟩, ?_⟩
    have hW : Below W.heap.size W w5 := HN.out.1.trans (HST.out.2.1.mono HN.out.1.size)
    rw [← HW6.out]
    exact ((hW.setCell (by show W.heap.size ≤ W.heap.size + 1; omega) _).setCell (by show W.heap.size ≤ W.heap.size + 1; omega) _).setCell (by show W.heap.size ≤ W.heap.size + 1; omega) _
  | false =>
    rw [hs] at HS
    rw [if_neg (by simp)]
    clear hs
    by_cases hx : 1 ≤ x
    · rw [if_pos hx]
      go_enter Try.func34, Try.ntmps34
      go_wp2_with fail
      obtain ⟨w2, hw2⟩ : ∃ w, (W.alloc (.cells #[.slice dn dl dc, .slice sn sl sc, .bool f.ok] 72)).alloc (.cells #[.slice none 0 0, .slice none 0 0, .bool false] 72) = w := ⟨_, rfl⟩
      rw [hw2] at HS HN ⊢
      clear x0 x1 x2 hw2
      go_at_call 33; refine HS.out.mono ?_; rintro r w3 ⟨rfl, hb3⟩
      have HB3 := Lib.hid hb3
      have x0 := (HN.out.2.1.below hb3).cell 0
      have x1 := (HN.out.2.1.below hb3).cell 1
      have x2 := (HN.out.2.1.below hb3).cell 2
      clear hb3
      obtain ⟨k, hk⟩ : ∃ k, min x.toNat dl = k := ⟨_, rfl⟩
      have m1 : min x (dl : Int) = (k : Int) := by omega
      have m2 : (if (dl : Int) < x then (dl : Int) else x) = (k : Int) := by split <;> omega
      obtain ⟨hsl, hbr⟩ := head_b (k := k) (HN.out.2.2.2.1.below HB3.out) (by omega)
      have hdl : f.data.take k = f.data.take x.toNat := by
        obtain ⟨e1, -⟩ := HN.out.2.2.2.1.bytesIn
        rw [← hk, e1, List.take_eq_take_iff]
        omega
      have hkl : (f.data.take x.toNat).length = k := by
        obtain ⟨e1, -⟩ := HN.out.2.2.2.1.bytesIn
        rw [List.length_take, ← e1, hk]
      rw [hdl] at hbr
      obtain ⟨LL, hLL⟩ : ∃ l, f.data.take x.toNat = l := ⟨_, rfl⟩
      rw [hLL] at hkl hbr
      have HLL := Lib.hid hLL
      subst hkl
      clear hk hdl hLL
      have HBx := Lib.hid (bclone_any hbr)
      clear hbr
      go_wp2_with fail
      go_at_call 38; refine HBx.out.mono ?_; rintro r w4 ⟨a4, c4, rfl, hr4, hb4⟩
      have HR4 := Lib.hid (And.intro hr4 hb4)
      clear hr4 hb4 x0 x1 x2
      go_wp2_with fail
      go_at_call 43; refine (sureFile_any a4 LL.length c4).mono ?_; rintro r w5 ⟨rfl, hb5⟩
      have hb25 := HB3.out.trans ((HR4.out.2.trans (hb5.mono HR4.out.2.size)).mono HB3.out.size)
      have by5 := HN.out.2.2.1.below hb25
      have hst := KB.store3 (a' := a4) (n' := LL.length) (c' := c4) (b' := a4) (m' := LL.length) (d' := c4) (ok' := true) by5
      have y0 := by5.cell 0
      have y1 := by5.cell 1
      have y2 := by5.cell 2
      have g0 := by5.frozen 0
      have g1 := by5.frozen 1
      have g2 := by5.frozen 2
      obtain ⟨w6, hw6⟩ : ∃ w, (((w5.setCell ⟨W.heap.size + 1, 0, none⟩ (.slice a4 LL.length c4)).setCell ⟨W.heap.size + 1, 1, none⟩ (.slice a4 LL.length c4)).setCell ⟨W.heap.size + 1, 2, none⟩ (.bool true)) = w := ⟨_, rfl⟩
      rw [hw6] at hst
      have z0 : w6.cell? ⟨W.heap.size + 1, 0, none⟩ = some (.slice a4 LL.length c4) := hst.2.cell 0
      have z1 : w6.cell? ⟨W.heap.size + 1, 1, none⟩ = some (.slice a4 LL.length c4) := hst.2.cell 1
      have z2 : w6.cell? ⟨W.heap.size + 1, 2, none⟩ = some (.bool true) := hst.2.cell 2
      have HST := Lib.hid (And.intro hst (And.intro hb25 hb5))
      have HW6 := Lib.hid hw6
      clear by5 hst hb25 hb5 hw6
      go_wp2_with fail
      rw [HW6.out]
      refine bodyPost_ret (by simp [results, go_sem, z0, z1, z2]; try rfl) rfl ?_
      have hr := HST.out.1.1 _ _ (HR4.out.1.below HST.out.2.2)
      rw [HLL.out]
      refine ⟨a4, LL.length, c4, a4, LL.length, c4, true, rfl, ⟨_, _, rfl, hr, hr⟩, ?_⟩
      have hW : Below W.heap.size W w5 := HN.out.1.trans (HST.out.2.1.mono HN.out.1.size)
      rw [← HW6.out]
      exact ((hW.setCell (by show W.heap.size ≤ W.heap.size + 1; omega) _).setCell (by show W.heap.size ≤ W.heap.size + 1; omega) _).setCell (by show W.heap.size ≤ W.heap.size + 1; omega) _
    · rw [if_neg hx]
      obtain ⟨fd, fs, fk⟩ := f
      cases fk with
      | true =>
        rw [if_pos rfl]
        go_enter Try.func34, Try.ntmps34
        go_wp2_with fail
        obtain ⟨w2, hw2⟩ : ∃ w, (W.alloc (.cells #[.slice dn dl dc, .slice sn sl sc, .bool true] 72)).alloc (.cells #[.slice none 0 0, .slice none 0 0, .bool false] 72) = w := ⟨_, rfl⟩
        rw [hw2] at HS HN ⊢
        clear x0 x1 x2 hw2
        go_at_call 33; refine HS.out.mono ?_; rintro r w3 ⟨rfl, hb3⟩
        have HB3 := Lib.hid hb3
        have x0 := (HN.out.2.1.below hb3).cell 0
        have x1 := (HN.out.2.1.below hb3).cell 1
        have x2 := (HN.out.2.1.below hb3).cell 2
        clear hb3
        have hbr := HN.out.2.2.2.2.below HB3.out
        have HBx := Lib.hid (bclone_any hbr)
        clear hbr
        go_wp2_with fail
        go_at_call 38; refine HBx.out.mono ?_; rintro r w4 ⟨a4, c4, rfl, hr4, hb4⟩
        have HR4 := Lib.hid (And.intro hr4 hb4)
        clear hr4 hb4 x0 x1 x2
        go_wp2_with fail
        go_at_call 43; refine (sureFile_any a4 (fs).length c4).mono ?_; rintro r w5 ⟨rfl, hb5⟩
        have hb25 := HB3.out.trans ((HR4.out.2.trans (hb5.mono HR4.out.2.size)).mono HB3.out.size)
        have by5 := HN.out.2.2.1.below hb25
        have hst := KB.store3 (a' := a4) (n' := (fs).length) (c' := c4) (b' := a4) (m' := (fs).length) (d' := c4) (ok' := true) by5
        have y0 := by5.cell 0
        have y1 := by5.cell 1
        have y2 := by5.cell 2
        have g0 := by5.frozen 0
        have g1 := by5.frozen 1
        have g2 := by5.frozen 2
        obtain ⟨w6, hw6⟩ : ∃ w, (((w5.setCell ⟨W.heap.size + 1, 0, none⟩ (.slice a4 (fs).length c4)).setCell ⟨W.heap.size + 1, 1, none⟩ (.slice a4 (fs).length c4)).setCell ⟨W.heap.size + 1, 2, none⟩ (.bool true)) = w := ⟨_, rfl⟩
        rw [hw6] at hst
        have z0 : w6.cell? ⟨W.heap.size + 1, 0, none⟩ = some (.slice a4 (fs).length c4) := hst.2.cell 0
        have z1 : w6.cell? ⟨W.heap.size + 1, 1, none⟩ = some (.slice a4 (fs).length c4) := hst.2.cell 1
        have z2 : w6.cell? ⟨W.heap.size + 1, 2, none⟩ = some (.bool true) := hst.2.cell 2
        have HST := Lib.hid (And.intro hst (And.intro hb25 hb5))
        have HW6 := Lib.hid hw6
        clear by5 hst hb25 hb5 hw6
        go_wp2_with fail
        rw [HW6.out]
        refine bodyPost_ret (by simp [results, go_sem, z0, z1, z2]; try rfl) rfl ?_
        have hr := HST.out.1.1 _ _ (HR4.out.1.below HST.out.2.2)
        refine ⟨a4, (fs).length, c4, a4, (fs).length, c4, true, rfl, ⟨_, _, rfl, hr, hr⟩, ?_⟩
        have hW : Below W.heap.size W w5 := HN.out.1.trans (HST.out.2.1.mono HN.out.1.size)
        rw [← HW6.out]
        exact ((hW.setCell (by show W.heap.size ≤ W.heap.size + 1; omega) _).setCell (by show W.heap.size ≤ W.heap.size + 1; omega) _).setCell (by show W.heap.size ≤ W.heap.size + 1; omega) _
      | false =>
        rw [if_neg (by simp)]
        go_enter Try.func34, Try.ntmps34
        go_wp2_with fail
        obtain ⟨w2, hw2⟩ : ∃ w, (W.alloc (.cells #[.slice dn dl dc, .slice sn sl sc, .bool false] 72)).alloc (.cells #[.slice none 0 0, .slice none 0 0, .bool false] 72) = w := ⟨_, rfl⟩
        rw [hw2] at HS HN ⊢
        clear x0 x1 x2 hw2
        go_at_call 33; refine HS.out.mono ?_; rintro r w3 ⟨rfl, hb3⟩
        have HB3 := Lib.hid hb3
        have x0 := (HN.out.2.1.below hb3).cell 0
        have x1 := (HN.out.2.1.below hb3).cell 1
        have x2 := (HN.out.2.1.below hb3).cell 2
        clear hb3
        have by3 := HN.out.2.2.1.below HB3.out
        have y0 := by3.cell 0
        have y1 := by3.cell 1
        have y2 := by3.cell 2
        have g0 := by3.frozen 0
        have g1 := by3.frozen 1
        have g2 := by3.frozen 2
        have hst := KB.store3 (a' := none) (n' := 0) (c' := 0) (b' := none) (m' := 0) (d' := 0) (ok' := false) by3
        obtain ⟨w6, hw6⟩ : ∃ w, (((w3.setCell ⟨W.heap.size + 1, 0, none⟩ (.slice none 0 0)).setCell ⟨W.heap.size + 1, 1, none⟩ (.slice none 0 0)).setCell ⟨W.heap.size + 1, 2, none⟩ (.bool false)) = w := ⟨_, rfl⟩
        rw [hw6] at hst
        have z0 : w6.cell? ⟨W.heap.size + 1, 0, none⟩ = some (.slice none 0 0) := hst.2.cell 0
        have z1 : w6.cell? ⟨W.heap.size + 1, 1, none⟩ = some (.slice none 0 0) := hst.2.cell 1
        have z2 : w6.cell? ⟨W.heap.size + 1, 2, none⟩ = some (.bool false) := hst.2.cell 2
        have HW6 := Lib.hid hw6
        clear by3 hst hw6
        go_wp2_with fail
        rw [HW6.out]
        refine bodyPost_ret (by simp [results, go_sem, z0, z1, z2]; try rfl) rfl ?_
        refine ⟨none, 0, 0, none, 0, 0, false, rfl, file_is0 _, ?_⟩
        have hW : Below W.heap.size W w3 := HN.out.1.trans (HB3.out.mono HN.out.1.size)
        rw [← HW6.out]
        exact ((hW.setCell (by show W.heap.size ≤ W.heap.size + 1; omega) _).setCell (by show W.heap.size ≤ W.heap.size + 1; omega) _).setCell (by show W.heap.size ≤ W.heap.size + 1; omega) _
end Go.Proofs.Ytoipmgdfhmochaa
