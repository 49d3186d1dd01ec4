/- Create. -/
import Derived.Test.YtoipmgdfhmochaaFWrite
namespace Go.Proofs.Ytoipmgdfhmochaa
open Go.RowKit Go.Shelf
set_option linter.unusedVariables false
set_option linter.unusedSimpArgs false

set_option maxRecDepth 100000 in
set_option maxHeartbeats 2000000 in
theorem create_any {W : World} {lo p : Nat} {s : FS} (h : FsAt W lo p s) (x : ByteArray) (ha : AsciiB x) (hx : x.size ≤ 1000000) {v : Value} {L : List UInt8} (hv : BR W v L) (hf : Fit s) (hlo : lo ≤ W.heap.size) :
    Calls Try.prog 25 #[.pointer (some ⟨p, 0, none⟩), .string x, v] W (Post W lo p (s.cr x.data.toList L)) := by
  obtain ⟨a, c, rfl, hv2⟩ := id hv
  have HC := Lib.hid (checkData_any h x ha hx a L.length c)
  have HF := Lib.hid (And.intro h (And.intro hv (And.intro hf hlo)))
  unfold FS.cr
  clear h hv hv2 hf hlo
  obtain ⟨k, hk⟩ : ∃ k, ckD s x.data.toList L.length = k := ⟨_, rfl⟩
  rw [hk] at HC ⊢
  clear hk
  by_cases hk : k = 0
  · subst hk
    rw [if_neg (by simp)]
    have hha : ∀ w, Below W.heap.size W w → _ := fun w hw => has_any (W := w) (HF.out.1.below hw) x hx
    cases hs : (s.C x.data.toList).isSome with
    | true =>
      rw [hs] at hha
      have HH := Lib.hid hha
      rw [if_pos rfl]
      clear hha hs
      unfold Post
      go_enter Try.func25, Try.ntmps25
      go_wp2_with fail
      go_at_call 36; refine HC.out.mono ?_; rintro r w1 ⟨rfl, hb⟩
      have HB := Lib.hid hb
      clear hb
      go_wp2_with fail
      go_at_call 48; refine (HH.out _ HB.out).mono ?_; rintro r w2 ⟨rfl, hb⟩
      have HB2 := Lib.hid (HB.out.trans (hb.mono HB.out.size))
      clear hb
      go_wp2_with fail
      go_ret
      exact ⟨rfl, HF.out.1.below HB2.out, HB2.out.mono HF.out.2.2.2, KB.of HB2.out⟩
    | false =>
      rw [hs] at hha
      have HH := Lib.hid hha
      rw [if_neg (by simp)]
      clear hha hs
      have hst : ∀ w, Below W.heap.size W w → _ := fun w hw => step_any (HF.out.1.below hw) HF.out.2.2.1.steps HF.out.2.2.1.ahead
      unfold FS.code at hst
      cases hd : s.dies with
      | true =>
        rw [hd] at hst
        have HST := Lib.hid hst
        rw [if_pos rfl]
        clear hst hd
        unfold Post
        go_enter Try.func25, Try.ntmps25
        go_wp2_with fail
        go_at_call 36; refine HC.out.mono ?_; rintro r w1 ⟨rfl, hb⟩
        have HB := Lib.hid hb
        clear hb
        go_wp2_with fail
        go_at_call 48; refine (HH.out _ HB.out).mono ?_; rintro r w2 ⟨rfl, hb⟩
        have HB2 := Lib.hid (HB.out.trans (hb.mono HB.out.size))
        clear hb
        go_wp2_with fail
        go_at_call 37; refine (HST.out _ HB2.out).mono ?_; rintro r w3 ⟨rfl, h2⟩
        have H2 := Lib.hid h2
        clear h2
        go_wp2_with fail
        go_ret
        exact ⟨rfl, H2.out.1, (HB2.out.mono HF.out.2.2.2).trans H2.out.2.1, (KB.of HB2.out).trans H2.out.2.2⟩
      | false =>
        rw [hd] at hst
        have HST := Lib.hid hst
        rw [if_neg (by simp)]
        clear hst hd
        unfold Post
        go_enter Try.func25, Try.ntmps25
        go_wp2_with fail
        go_at_call 36; refine HC.out.mono ?_; rintro r w1 ⟨rfl, hb⟩
        have HB := Lib.hid hb
        clear hb
        go_wp2_with fail
        go_at_call 48; refine (HH.out _ HB.out).mono ?_; rintro r w2 ⟨rfl, hb⟩
        have HB2 := Lib.hid (HB.out.trans (hb.mono HB.out.size))
        clear hb
        go_wp2_with fail
        go_at_call 37; refine (HST.out _ HB2.out).mono ?_; rintro r w3 ⟨rfl, h2⟩
        have hsz3 : lo ≤ w3.heap.size := Nat.le_trans (Nat.le_trans HF.out.2.2.2 HB2.out.size) h2.2.1.size
        have HBx := Lib.hid (bclone_any (W := w3) (h2.2.2 _ _ ((KB.of HB2.out) _ _ HF.out.2.1)))
        have H2 := Lib.hid (And.intro h2 hsz3)
        clear h2 hsz3
        go_wp2_with fail
        go_at_call 38; refine HBx.out.mono ?_; rintro r w4 ⟨a4, c4, rfl, hr4, hb4⟩
        have HP := Lib.hid (put_any (f := ⟨L, [], false⟩) (H2.out.1.1.below hb4) x hx ⟨_, _, rfl, hr4, BR.nil w4⟩ (by rw [step_n]; exact HF.out.2.2.1.n) (Nat.le_trans H2.out.2 hb4.size))
        have HB4 := Lib.hid hb4
        clear hr4 hb4
        go_wp2_with fail
        go_at_call 35; refine HP.out.mono ?_; rintro r w6 ⟨rfl, h6⟩
        have H6 := Lib.hid h6
        clear h6
        go_wp2_with fail
        go_ret
        refine ⟨rfl, H6.out.1, ?_, ?_⟩
        · exact (((HB2.out.mono HF.out.2.2.2).trans H2.out.1.2.1).trans (HB4.out.mono H2.out.2)).trans H6.out.2.1
        · exact (((KB.of HB2.out).trans H2.out.1.2.2).trans (KB.of HB4.out)).trans H6.out.2.2
  · obtain ⟨d1, d2⟩ := ne_bools hk
    rw [if_pos hk]
    have HK := Lib.hid hk
    clear hk
    unfold Post
    go_enter Try.func25, Try.ntmps25
    go_wp2_with fail
    go_at_call 36; refine HC.out.mono ?_; rintro r w1 ⟨rfl, hb⟩
    have HB := Lib.hid hb
    clear hb
    go_wp2_with fail
    go_ret
    exact ⟨rfl, HF.out.1.below HB.out, HB.out.mono HF.out.2.2.2, KB.of HB.out⟩
end Go.Proofs.Ytoipmgdfhmochaa
