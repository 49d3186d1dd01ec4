/- Remove, Rename. -/
import Derived.Test.YtoipmgdfhmochaaFSync
namespace Go.Proofs.Ytoipmgdfhmochaa
open Go.RowKit Go.Shelf
set_option linter.unusedVariables false
set_option linter.unusedSimpArgs false

/-- What a delete leaves. -/
theorem FsAt.del {w w' : World} {lo p b : Nat} {D : DataW Value} {s : FS} (h0 : lo ≤ p) (h1 : lo ≤ b) (hb : Blk w p #[.map (some b), .int .i64 (s.steps : Int), .bool s.armed, .int .i64 (s.ahead : Int), .bool s.dead] 64) (hm : MapAt w b s.C s.n D) {x : List UInt8}
    (ho : w'.ownsMap Try.prog 9 Rf b s.n (D.del (.string x))) (hg : w.grownBy w' (some b)) (hlo : lo ≤ w.heap.size) : FsAt w' lo p (s.del x) ∧ Below lo w w' ∧ KB w w' := by
  obtain ⟨es, clock, hbb⟩ := hm.raw
  have hpb : p ≠ b := by
    intro e
    unfold Blk at hb
    rw [e, hbb] at hb
    cases hb
  have hk : ∀ k, k < w.heap.size → k ≠ b → w'.heap[k]? = w.heap[k]? := fun k hk hne => hg.block k hk (fun e => hne (Option.some.inj e))
  refine ⟨⟨h0, b, _, h1, (hk p hb.lt hpb).trans hb, hm.del ho hg.size hk⟩, ⟨hg.os, hg.tape, hg.output, hg.size, fun k hkk => hk k (by omega) (by omega)⟩, fun v L hv => hv.far hbb hg.size hk⟩
set_option maxRecDepth 100000 in
set_option maxHeartbeats 2000000 in
theorem remove_any {W : World} {lo p : Nat} {s : FS} (h : FsAt W lo p s) (x : ByteArray) (ha : AsciiB x) (hx : x.size ≤ 1000000) (hf : Fit s) (hlo : lo ≤ W.heap.size) :
    Calls Try.prog 26 #[.pointer (some ⟨p, 0, none⟩), .string x] W (Post W lo p (s.rm x.data.toList)) := by
  have HC := Lib.hid (checkThere_any h x ha hx)
  have HF := Lib.hid (And.intro h (And.intro hf hlo))
  unfold FS.rm
  clear h hf hlo
  obtain ⟨k, hk⟩ : ∃ k, ckT s x.data.toList = k := ⟨_, rfl⟩
  rw [hk] at HC ⊢
  clear hk
  by_cases hk : k = 0
  · subst hk
    rw [if_neg (by simp)]
    have hst : ∀ w, Below W.heap.size W w → _ := fun w hw => step_any (HF.out.1.below hw) HF.out.2.1.steps HF.out.2.1.ahead
    unfold FS.code at hst
    cases hd : s.dies with
    | true =>
      rw [hd] at hst
      have HST := Lib.hid hst
      rw [if_pos rfl]
      clear hst hd
      unfold Post
      go_enter Try.func26, Try.ntmps26
      go_wp2_with fail
      go_at_call 42; refine HC.out.mono ?_; rintro r w1 ⟨rfl, hb⟩
      have HB := Lib.hid hb
      clear hb
      go_wp2_with fail
      go_at_call 37; refine (HST.out _ HB.out).mono ?_; rintro r w2 ⟨rfl, h2⟩
      have H2 := Lib.hid h2
      clear h2
      go_wp2_with fail
      go_ret
      exact ⟨rfl, H2.out.1, (HB.out.mono HF.out.2.2).trans H2.out.2.1, (KB.of HB.out).trans H2.out.2.2⟩
    | false =>
      rw [hd] at hst
      have HST := Lib.hid hst
      rw [if_neg (by simp)]
      clear hst hd
      unfold Post
      go_enter Try.func26, Try.ntmps26
      go_wp2_with fail
      go_at_call 42; refine HC.out.mono ?_; rintro r w1 ⟨rfl, hb⟩
      have HB := Lib.hid hb
      clear hb
      go_wp2_with fail
      go_at_call 37; refine (HST.out _ HB.out).mono ?_; rintro r w2 ⟨rfl, h2⟩
      obtain ⟨h0, b, D, h1, hb, hm⟩ := h2.1
      have k0 := hb.cell 0
      have hown := hm.own
      have hkey := key_of (s := x) (by omega)
      have hsz2 : lo ≤ w2.heap.size := Nat.le_trans (Nat.le_trans HF.out.2.2 HB.out.size) h2.2.1.size
      have H2 := Lib.hid (And.intro h2 (And.intro hb (And.intro hm (And.intro h0 (And.intro h1 hsz2)))))
      clear h2 hb hm h0 h1 hsz2
      go_wp2_with (at_delete; refine wpList_delete_own _ rfl _ _ 62 9 rfl 72 keyed Try.underlying62 Rf b s.step.n D rfl hown _ _ rfl hkey ?_; intro w3 hown1 hturn1)
      obtain ⟨q1, q2, q3⟩ := FsAt.del H2.out.2.2.2.1 H2.out.2.2.2.2.1 H2.out.2.1 H2.out.2.2.1 hown1 hturn1.grown H2.out.2.2.2.2.2
      go_ret
      refine ⟨rfl, q1, ?_, ?_⟩
      · exact ((HB.out.mono HF.out.2.2).trans H2.out.1.2.1).trans q2
      · exact ((KB.of HB.out).trans H2.out.1.2.2).trans q3
  · obtain ⟨d1, d2⟩ := ne_bools hk
    rw [if_pos hk]
    have HK := Lib.hid hk
    clear hk
    unfold Post
    go_enter Try.func26, Try.ntmps26
    go_wp2_with fail
    go_at_call 42; refine HC.out.mono ?_; rintro r w1 ⟨rfl, hb⟩
    have HB := Lib.hid hb
    clear hb
    go_wp2_with fail
    go_ret
    exact ⟨rfl, HF.out.1.below HB.out, HB.out.mono HF.out.2.2, KB.of HB.out⟩
end Go.Proofs.Ytoipmgdfhmochaa
