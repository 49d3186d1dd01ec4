/- Sync, Rename, Remove. -/
import Derived.Test.YtoipmgdfhmochaaFWrite
namespace Go.Proofs.Ytoipmgdfhmochaa
open Go.RowKit Go.Shelf
set_option linter.unusedVariables false
set_option linter.unusedSimpArgs false

def FS.sy (s : FS) (x : List UInt8) : Nat × FS := if ckT s x ≠ 0 then (ckT s x, s) else if s.dies then (5, s.step) else (0, s.step.put x ⟨(s.old x).data, (s.old x).data, true⟩)
def FS.rm (s : FS) (x : List UInt8) : Nat × FS := if ckT s x ≠ 0 then (ckT s x, s) else if s.dies then (5, s.step) else (0, s.step.del x)
def FS.rn (s : FS) (x y : List UInt8) : Nat × FS := if goodP y = false then (6, s) else if ckT s x ≠ 0 then (ckT s x, s) else if s.dies then (5, s.step) else (0, (s.step.del x).put y (s.old x))
set_option maxRecDepth 100000 in
theorem sureFile_any {W : World} (a : Option Addr) (n c : Nat) : Calls Try.prog 43 #[.slice a n c] W fun e w' => e = .returned (.agg #[.slice a n c, .slice a n c, .bool true]) ∧ Below W.heap.size W w' := by
  have hn := below_new W (.cells #[.slice a n c, .slice a n c, .bool true] 72)
  have bq := Blk.new W #[.slice a n c, .slice a n c, .bool true] 72
  have q0 := bq.cell 0
  have q1 := bq.cell 1
  have q2 := bq.cell 2
  have HN := Lib.hid hn
  clear bq hn
  go_enter Try.func43, Try.ntmps43
  go_wp2_with fail
  go_returns
  exact ⟨rfl, HN.out⟩
set_option maxRecDepth 100000 in
set_option maxHeartbeats 2000000 in
theorem sync_any {W : World} {lo p : Nat} {s : FS} (h : FsAt W lo p s) (x : ByteArray) (ha : AsciiB x) (hx : x.size ≤ 1000000) (hf : Fit s) (hlo : lo ≤ W.heap.size) :
    Calls Try.prog 17 #[.pointer (some ⟨p, 0, none⟩), .string x] W (Post W lo p (s.sy x.data.toList)) := by
  have HC := Lib.hid (checkThere_any h x ha hx)
  have HF := Lib.hid (And.intro h (And.intro hf hlo))
  unfold FS.sy
  clear h hf hlo
  obtain ⟨k, hk⟩ : ∃ k, ckT s x.data.toList = k := ⟨_, rfl⟩
  rw [hk] at HC ⊢
  clear hk
  by_cases hk : k = 0
  · subst hk
    rw [if_neg (by simp)]
    have hst : ∀ w, Below W.heap.size W w → _ := fun w hw => step_any (HF.out.1.below hw) HF.out.2.1.steps HF.out.2.1.ahead
    unfold FS.code at hst
    cases hd : s.dies with
    | true =>
      rw [hd] at hst
      have HST := Lib.hid hst
      rw [if_pos rfl]
      clear hst hd
      unfold Post
      go_enter Try.func17, Try.ntmps17
      go_wp2_with fail
      go_at_call 42; refine HC.out.mono ?_; rintro r w1 ⟨rfl, hb⟩
      have HB := Lib.hid hb
      clear hb
      go_wp2_with fail
      go_at_call 37; refine (HST.out _ HB.out).mono ?_; rintro r w2 ⟨rfl, h2⟩
      have H2 := Lib.hid h2
      clear h2
      go_wp2_with fail
      go_ret
      exact ⟨rfl, H2.out.1, (HB.out.mono HF.out.2.2).trans H2.out.2.1, (KB.of HB.out).trans H2.out.2.2⟩
    | false =>
      rw [hd] at hst
      have HST := Lib.hid hst
      rw [if_neg (by simp)]
      clear hst hd
      unfold Post
      go_enter Try.func17, Try.ntmps17
      go_wp2_with fail
      go_at_call 42; refine HC.out.mono ?_; rintro r w1 ⟨rfl, hb⟩
      have HB := Lib.hid hb
      clear hb
      go_wp2_with fail
      go_at_call 37; refine (HST.out _ HB.out).mono ?_; rintro r w2 ⟨rfl, h2⟩
      obtain ⟨h0, b, D, h1, hb, hm⟩ := h2.1
      obtain ⟨dn, dl, dc, sn, sl, sc, ok, -, hlk, hfi⟩ := hm.look (s := x) (by omega)
      have k0 := hb.cell 0
      have hsz2 : lo ≤ w2.heap.size := Nat.le_trans (Nat.le_trans HF.out.2.2 HB.out.size) h2.2.1.size
      have e0 : ∀ W, (Instr.field 72 (.agg #[.slice dn dl dc, .slice sn sl sc, .bool ok]) 0).run Try.prog W = .ok (.slice dn dl dc) W := fun _ => rfl
      have H2 := Lib.hid (And.intro h2 (And.intro hfi hsz2))
      clear h2 hb hm hfi h0 h1 hsz2
      go_wp2_with fail
      go_at_call 43; refine (sureFile_any dn dl dc).mono ?_; rintro r w3 ⟨rfl, hb3⟩
      have hfi3 := H2.out.2.1
      rw [step_C] at hfi3
      have hf3 : FileIs w2 (.agg #[.slice dn dl dc, .slice dn dl dc, .bool true]) ⟨(s.old x.data.toList).data, (s.old x.data.toList).data, true⟩ := by
        obtain ⟨dv, sv, e, q1, q2⟩ := hfi3
        simp only [Value.agg.injEq, Array.mk.injEq, List.cons.injEq, Value.bool.injEq, and_true] at e
        obtain ⟨e1, e2, e3⟩ := e
        exact ⟨_, _, rfl, by rw [e1]; exact q1, by rw [e1]; exact q1⟩
      have HP := Lib.hid (put_any (H2.out.1.1.below hb3) x hx (hf3.below hb3) (by rw [step_n]; exact HF.out.2.1.n) (Nat.le_trans H2.out.2.2 hb3.size))
      have HB3 := Lib.hid hb3
      clear hf3 hfi3 hb3
      go_wp2_with fail
      go_at_call 35; refine HP.out.mono ?_; rintro r w6 ⟨rfl, h6⟩
      have H6 := Lib.hid h6
      clear h6
      go_wp2_with fail
      go_ret
      refine ⟨rfl, H6.out.1, ?_, ?_⟩
      · exact (((HB.out.mono HF.out.2.2).trans H2.out.1.2.1).trans (HB3.out.mono H2.out.2.2)).trans H6.out.2.1
      · exact (((KB.of HB.out).trans H2.out.1.2.2).trans (KB.of HB3.out)).trans H6.out.2.2
  · obtain ⟨d1, d2⟩ := ne_bools hk
    rw [if_pos hk]
    have HK := Lib.hid hk
    clear hk
    unfold Post
    go_enter Try.func17, Try.ntmps17
    go_wp2_with fail
    go_at_call 42; refine HC.out.mono ?_; rintro r w1 ⟨rfl, hb⟩
    have HB := Lib.hid hb
    clear hb
    go_wp2_with fail
    go_ret
    exact ⟨rfl, HF.out.1.below HB.out, HB.out.mono HF.out.2.2, KB.of HB.out⟩
end Go.Proofs.Ytoipmgdfhmochaa
