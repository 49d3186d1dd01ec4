/- Rename. -/
import Derived.Test.YtoipmgdfhmochaaFRen
namespace Go.Proofs.Ytoipmgdfhmochaa
open Go.RowKit Go.Shelf
set_option linter.unusedVariables false
set_option linter.unusedSimpArgs false

theorem del_n (s : FS) (x : List UInt8) : (s.del x).n ≤ s.n := by
  unfold FS.del
  simp only
  split <;> omega
set_option maxRecDepth 100000 in
set_option maxHeartbeats 2000000 in
theorem rename_any {W : World} {lo p : Nat} {s : FS} (h : FsAt W lo p s) (x y : ByteArray) (ha : AsciiB x) (hx : x.size ≤ 1000000) (hay : AsciiB y) (hy : y.size ≤ 1000000) (hf : Fit s) (hlo : lo ≤ W.heap.size) :
    Calls Try.prog 19 #[.pointer (some ⟨p, 0, none⟩), .string x, .string y] W (Post W lo p (s.rn x.data.toList y.data.toList)) := by
  have hPP : ∀ w, _ := fun w => isPath_any (W := w) y hay hy
  have HC := Lib.hid (fun w hw => checkThere_any (W := w) (h.below hw) x ha hx)
  have HF := Lib.hid (And.intro h (And.intro hf hlo))
  unfold FS.rn
  clear h hf hlo
  cases hg : goodP y.data.toList with
  | false =>
    rw [hg] at hPP
    have HP := Lib.hid hPP
    rw [if_pos rfl]
    clear hg hPP
    unfold Post
    go_enter Try.func19, Try.ntmps19
    go_wp2_with fail
    go_at_call 44; refine (HP.out _).mono ?_; rintro r w1 ⟨rfl, hb⟩
    have HB := Lib.hid hb
    clear hb
    go_wp2_with fail
    go_ret
    exact ⟨rfl, HF.out.1.below HB.out, HB.out.mono HF.out.2.2, KB.of HB.out⟩
  | true =>
  rw [hg] at hPP
  have HP := Lib.hid hPP
  rw [if_neg (by simp)]
  clear hg hPP
  obtain ⟨k, hk⟩ : ∃ k, ckT s x.data.toList = k := ⟨_, rfl⟩
  rw [hk] at HC ⊢
  clear hk
  by_cases hk : k = 0
  · subst hk
    rw [if_neg (by simp)]
    have hst : ∀ w, Below W.heap.size W w → _ := fun w hw => step_any (HF.out.1.below hw) HF.out.2.1.steps HF.out.2.1.ahead
    unfold FS.code at hst
    cases hd : s.dies with
    | true =>
      rw [hd] at hst
      have HST := Lib.hid hst
      rw [if_pos rfl]
      clear hst hd
      unfold Post
      go_enter Try.func19, Try.ntmps19
      go_wp2_with fail
      go_at_call 44; refine (HP.out _).mono ?_; rintro r w0 ⟨rfl, hb⟩
      have HB0 := Lib.hid hb
      clear hb
      go_wp2_with fail
      go_at_call 42; refine (HC.out _ HB0.out).mono ?_; rintro r w1 ⟨rfl, hb⟩
      have HB := Lib.hid (HB0.out.trans (hb.mono HB0.out.size))
      clear hb
      go_wp2_with fail
      go_at_call 37; refine (HST.out _ HB.out).mono ?_; rintro r w2 ⟨rfl, h2⟩
      have H2 := Lib.hid h2
      clear h2
      go_wp2_with fail
      go_ret
      exact ⟨rfl, H2.out.1, (HB.out.mono HF.out.2.2).trans H2.out.2.1, (KB.of HB.out).trans H2.out.2.2⟩
    | false =>
      rw [hd] at hst
      have HST := Lib.hid hst
      rw [if_neg (by simp)]
      clear hst hd
      unfold Post
      go_enter Try.func19, Try.ntmps19
      go_wp2_with fail
      go_at_call 44; refine (HP.out _).mono ?_; rintro r w0 ⟨rfl, hb⟩
      have HB0 := Lib.hid hb
      clear hb
      go_wp2_with fail
      go_at_call 42; refine (HC.out _ HB0.out).mono ?_; rintro r w1 ⟨rfl, hb⟩
      have HB := Lib.hid (HB0.out.trans (hb.mono HB0.out.size))
      clear hb
      go_wp2_with fail
      go_at_call 37; refine (HST.out _ HB.out).mono ?_; rintro r w2 ⟨rfl, h2⟩
      obtain ⟨h0, b, D, h1, hb, hm⟩ := h2.1
      obtain ⟨dn, dl, dc, sn, sl, sc, ok, -, hlk, hfi⟩ := hm.look (s := x) (by omega)
      have k0 := hb.cell 0
      have hkey := key_of (s := x) (by omega)
      have hsz2 : lo ≤ w2.heap.size := Nat.le_trans (Nat.le_trans HF.out.2.2 HB.out.size) h2.2.1.size
      have hn3 := below_new w2 (.cells #[.slice dn dl dc, .slice sn sl sc, .bool ok] 72)
      have bq := Blk.new w2 #[.slice dn dl dc, .slice sn sl sc, .bool ok] 72
      have hsq : (w2.alloc (.cells #[.slice dn dl dc, .slice sn sl sc, .bool ok] 72)).heap.size = w2.heap.size + 1 := by simp
      have hown := (hm.below hn3).own
      have k30 := (hb.below hn3).cell 0
      have k31 : (w2.alloc (.cells #[.slice dn dl dc, .slice sn sl sc, .bool ok] 72)).cell? ⟨p, 0, none⟩ = some (.map (some b)) := (hb.below hn3).cell 0
      have H2 := Lib.hid (And.intro h2 (And.intro hfi (And.intro h0 (And.intro h1 hsz2))))
      have H3 := Lib.hid (And.intro hn3 (And.intro bq (And.intro (hb.below hn3) (hm.below hn3))))
      clear h2 hb hm hfi h0 h1 hsz2 bq hn3
      obtain ⟨w3, hw3⟩ : ∃ w, w2.alloc (.cells #[.slice dn dl dc, .slice sn sl sc, .bool ok] 72) = w := ⟨_, rfl⟩
      have HW3 := Lib.hid hw3
      rw [hw3] at H3 hown hsq k30
      have HSQ := Lib.hid hsq
      clear hw3 hsq
      go_wp2_with (at_delete; refine Hid.out ?_)
      refine Lib.hid ?_
      rw [HW3.out]
      refine wpList_delete_own _ rfl _ _ 62 9 rfl 72 keyed Try.underlying62 Rf b s.step.n D rfl hown _ _ rfl hkey ?_
      intro w4 hown1 hturn1
      have hlo3 : lo ≤ w3.heap.size := by have := H2.out.2.2.2.2; have := HSQ.out; omega
      obtain ⟨q1, q2, q3⟩ := FsAt.del H2.out.2.2.1 H2.out.2.2.2.1 H3.out.2.2.1 H3.out.2.2.2 hown1 hturn1.grown hlo3
      have hqb : w2.heap.size ≠ b := by
        intro e
        obtain ⟨es, clock, hbb⟩ := H3.out.2.2.2.raw
        have := H3.out.2.1
        unfold Blk at this
        rw [e, hbb] at this
        cases this
      have bq4 : Blk w4 w2.heap.size #[.slice dn dl dc, .slice sn sl sc, .bool ok] 72 := (hturn1.grown.block _ H3.out.2.1.lt (fun e => hqb (Option.some.inj e))).trans H3.out.2.1
      have x0 := bq4.cell 0
      have x1 := bq4.cell 1
      have x2 := bq4.cell 2
      have hfi4 : FileIs w4 (.agg #[.slice dn dl dc, .slice sn sl sc, .bool ok]) (s.old x.data.toList) := by
        have := (H2.out.2.1.below H3.out.1).kb q3
        rw [step_C] at this
        exact this
      have HP4 := Lib.hid (put_any q1 y hy hfi4 (Nat.le_trans (del_n _ _) (by rw [step_n]; exact HF.out.2.1.n)) (Nat.le_trans hlo3 q2.size))
      have HQ := Lib.hid (And.intro q2 q3)
      clear q1 q2 q3 hfi4 bq4 hown1 hturn1 hown hlo3
      go_wp2_with fail
      go_at_call 35; refine HP4.out.mono ?_; rintro r w6 ⟨rfl, h6⟩
      have H6 := Lib.hid h6
      clear h6
      go_wp2_with fail
      go_ret
      refine ⟨rfl, H6.out.1, ?_, ?_⟩
      · exact ((((HB.out.mono HF.out.2.2).trans H2.out.1.2.1).trans (H3.out.1.mono H2.out.2.2.2.2)).trans HQ.out.1).trans H6.out.2.1
      · exact ((((KB.of HB.out).trans H2.out.1.2.2).trans (KB.of H3.out.1)).trans HQ.out.2).trans H6.out.2.2
  · obtain ⟨d1, d2⟩ := ne_bools hk
    rw [if_pos hk]
    have HK := Lib.hid hk
    clear hk
    unfold Post
    go_enter Try.func19, Try.ntmps19
    go_wp2_with fail
    go_at_call 44; refine (HP.out _).mono ?_; rintro r w0 ⟨rfl, hb⟩
    have HB0 := Lib.hid hb
    clear hb
    go_wp2_with fail
    go_at_call 42; refine (HC.out _ HB0.out).mono ?_; rintro r w1 ⟨rfl, hb⟩
    have HB := Lib.hid (HB0.out.trans (hb.mono HB0.out.size))
    clear hb
    go_wp2_with fail
    go_ret
    exact ⟨rfl, HF.out.1.below HB.out, HB.out.mono HF.out.2.2, KB.of HB.out⟩
end Go.Proofs.Ytoipmgdfhmochaa
