/- Write and Create. -/
import Derived.Test.YtoipmgdfhmochaaFBytes
namespace Go.Proofs.Ytoipmgdfhmochaa
open Go.RowKit Go.Shelf
set_option linter.unusedVariables false
set_option linter.unusedSimpArgs false

def FS.old (s : FS) (x : List UInt8) : FV := (s.C x).getD ⟨[], [], false⟩
/-- Write: the error, and what the file system is behind it. -/
def FS.wr (s : FS) (x L : List UInt8) : Nat × FS := if ckD s x L.length ≠ 0 then (ckD s x L.length, s) else if s.dies then (5, s.step) else (0, s.step.put x ⟨L, (s.old x).safe, (s.old x).ok⟩)
def FS.cr (s : FS) (x L : List UInt8) : Nat × FS := if ckD s x L.length ≠ 0 then (ckD s x L.length, s) else if (s.C x).isSome then (2, s) else if s.dies then (5, s.step) else (0, s.step.put x ⟨L, [], false⟩)
theorem step_C (s : FS) : s.step.C = s.C := by unfold FS.step; split <;> rfl
theorem step_n (s : FS) : s.step.n = s.n := by unfold FS.step; split <;> rfl
/-- What the file system's calls all leave. -/
def Post (W : World) (lo p : Nat) (r : Nat × FS) (e : Ending) (w' : World) : Prop := e = .returned (.int .i64 (r.1 : Int)) ∧ FsAt w' lo p r.2 ∧ Below lo W w' ∧ KB W w'
structure Fit (s : FS) : Prop where
  steps : s.steps ≤ 1000000000
  ahead : s.ahead ≤ 9223372036854775807
  n : s.n ≤ 1000000
theorem KB.cellSet {w : World} {q i : Nat} {cs : Array Value} {t : TypeId} (hb : Blk w q cs t) (hn : ∀ (j : Nat) (v : Int), cs[j]? ≠ some (.int .u8 v)) (u : Value) : KB w (w.setCell ⟨q, i, none⟩ u) := fun v L hh => by
  obtain ⟨a, c, q1, q2, q3, q4⟩ := hh
  refine ⟨a, c, q1, q2, q3, ?_⟩
  rcases q4 with q4 | ⟨ad, q4, q5, q6⟩
  · exact .inl q4
  · refine .inr ⟨ad, q4, by simpa using q5, fun j hj => ?_⟩
    have h6 := q6 j hj
    have hne : (ad.add j).block ≠ q := fun e => by
      unfold World.cell? at h6
      rw [e, show w.heap[q]? = _ from hb] at h6
      simp only at h6
      split at h6
      · cases h6
      · exact hn _ _ h6
    rw [← h6]
    exact World.cell?_of_block (Below.heap_setCell _ _ _ _ (by exact hne))
theorem no3 {a b : Option Addr} {n c m d : Nat} {ok : Bool} (j : Nat) (v : Int) : (#[.slice a n c, .slice b m d, .bool ok] : Array Value)[j]? ≠ some (.int .u8 v) := by
  intro h
  match j, h with
  | 0, h => cases h
  | 1, h => cases h
  | 2, h => cases h
  | j + 3, h => simp at h
theorem FileIs.other {w w' : World} {a b : Option Addr} {n c m d : Nat} {ok : Bool} {f : FV} (h : FileIs w (.agg #[.slice a n c, .slice b m d, .bool ok]) f) (hk : KB w w') {a' : Option Addr} {c' : Nat} {L : List UInt8} (hv : BR w' (.slice a' L.length c') L) : FileIs w' (.agg #[.slice a' L.length c', .slice b m d, .bool ok]) ⟨L, f.safe, f.ok⟩ := by
  obtain ⟨dv, sv, e, h1, h2⟩ := h
  simp only [Value.agg.injEq, Array.mk.injEq, List.cons.injEq, Value.bool.injEq, and_true] at e
  obtain ⟨e1, e2, e3⟩ := e
  refine ⟨_, _, by rw [e3], hv, ?_⟩
  rw [e2]
  exact hk _ _ h2
theorem ne_bools {k : Nat} (h : k ≠ 0) : ((k : Int) == 0) = false ∧ ((k : Int) != 0) = true := by
  have : (k : Int) ≠ 0 := by omega
  exact ⟨by simpa using h, by simpa using h⟩
set_option maxRecDepth 100000 in
set_option maxHeartbeats 2000000 in
theorem write_any {W : World} {lo p : Nat} {s : FS} (h : FsAt W lo p s) (x : ByteArray) (ha : AsciiB x) (hx : x.size ≤ 1000000) {v : Value} {L : List UInt8} (hv : BR W v L) (hf : Fit s) (hlo : lo ≤ W.heap.size) :
    Calls Try.prog 15 #[.pointer (some ⟨p, 0, none⟩), .string x, v] W (Post W lo p (s.wr x.data.toList L)) := by
  obtain ⟨a, c, rfl, hv2⟩ := id hv
  have HC := Lib.hid (checkData_any h x ha hx a L.length c)
  have HF := Lib.hid (And.intro h (And.intro hv (And.intro hf hlo)))
  unfold FS.wr
  clear h hv hv2 hf hlo
  obtain ⟨k, hk⟩ : ∃ k, ckD s x.data.toList L.length = k := ⟨_, rfl⟩
  rw [hk] at HC ⊢
  clear hk
  by_cases hk : k = 0
  · subst hk
    rw [if_neg (by simp)]
    have hst : ∀ w, Below W.heap.size W w → _ := fun w hw => step_any (HF.out.1.below hw) HF.out.2.2.1.steps HF.out.2.2.1.ahead
    unfold FS.code at hst
    cases hd : s.dies with
    | true =>
      rw [hd] at hst
      have HST := Lib.hid hst
      rw [if_pos rfl]
      clear hst hd
      unfold Post
      go_enter Try.func15, Try.ntmps15
      go_wp2_with fail
      go_at_call 36; refine HC.out.mono ?_; rintro r w1 ⟨rfl, hb⟩
      have HB := Lib.hid hb
      clear hb
      go_wp2_with fail
      go_at_call 37; refine (HST.out _ HB.out).mono ?_; rintro r w2 ⟨rfl, h2⟩
      have H2 := Lib.hid h2
      clear h2
      go_wp2_with fail
      go_ret
      exact ⟨rfl, H2.out.1, (HB.out.mono HF.out.2.2.2).trans H2.out.2.1, (KB.of HB.out).trans H2.out.2.2⟩
    | false =>
      rw [hd] at hst
      have HST := Lib.hid hst
      rw [if_neg (by simp)]
      clear hst hd
      unfold Post
      go_enter Try.func15, Try.ntmps15
      go_wp2_with fail
      go_at_call 36; refine HC.out.mono ?_; rintro r w1 ⟨rfl, hb⟩
      have HB := Lib.hid hb
      clear hb
      go_wp2_with fail
      go_at_call 37; refine (HST.out _ HB.out).mono ?_; rintro r w2 ⟨rfl, h2⟩
      have hfs := h2.1
      obtain ⟨h0, b, D, h1, hb, hm⟩ := h2.1
      obtain ⟨dn, dl, dc, sn, sl, sc, ok, -, hlk, hfi⟩ := hm.look (s := x) (by omega)
      have k0 := hb.cell 0
      have hsz2 : lo ≤ w2.heap.size := Nat.le_trans (Nat.le_trans HF.out.2.2.2 HB.out.size) h2.2.1.size
      have H2 := Lib.hid (And.intro h2 (And.intro hfi hsz2))
      have HBx := Lib.hid (bclone_any (W := w2.alloc (.cells #[.slice dn dl dc, .slice sn sl sc, .bool ok] 72)) ((h2.2.2 _ _ ((KB.of HB.out) _ _ HF.out.2.1)).below (below_new _ _)))
      have bq := Blk.new w2 #[.slice dn dl dc, .slice sn sl sc, .bool ok] 72
      have HQ := Lib.hid bq
      have hsq : (w2.alloc (.cells #[.slice dn dl dc, .slice sn sl sc, .bool ok] 72)).heap.size = w2.heap.size + 1 := by simp
      have HN := Lib.hid (below_new w2 (.cells #[.slice dn dl dc, .slice sn sl sc, .bool ok] 72))
      clear h2 hb hm hfi hfs h0 h1 hsz2 bq
      go_wp2_with fail
      obtain ⟨w3, hw3⟩ : ∃ w, w2.alloc (.cells #[.slice dn dl dc, .slice sn sl sc, .bool ok] 72) = w := ⟨_, rfl⟩
      obtain ⟨q, hq⟩ : ∃ k, w2.heap.size = k := ⟨_, rfl⟩
      rw [hw3] at HBx HQ HN hsq ⊢
      rw [hq] at HQ hsq ⊢
      have HSQ := Lib.hid (And.intro hsq hq)
      clear hw3 hsq hq k0 hlk
      go_at_call 38; refine HBx.out.mono ?_; rintro r w4 ⟨a4, c4, rfl, hr4, hb4⟩
      have bq4 := HQ.out.below hb4
      have q0 := bq4.cell 0
      have f0 := bq4.frozen 0
      have bq5 := bq4.set 0 (.slice a4 L.length c4)
      have q50 := bq5.cell 0
      have q51 := bq5.cell 1
      have q52 := bq5.cell 2
      have H45 := Lib.hid (And.intro hb4 (And.intro hr4 bq4))
      clear hb4 hr4 bq4 bq5
      go_wp2_with fail
      have hb25 : Below w2.heap.size w2 (w4.setCell ⟨q, 0, none⟩ (.slice a4 L.length c4)) := (HN.out.trans (H45.out.1.mono (by have := HSQ.out.1; have := HSQ.out.2; omega))).setCell (by have := HSQ.out.2; show w2.heap.size ≤ q; omega) _
      have hkb : KB w4 (w4.setCell ⟨q, 0, none⟩ (.slice a4 L.length c4)) := KB.cellSet H45.out.2.2 no3 _
      have hfi := H2.out.2.1.other (KB.of hb25) (hkb _ _ H45.out.2.1)
      have hput := put_any (H2.out.1.1.below hb25) x hx hfi (by rw [step_n]; exact HF.out.2.2.1.n) (Nat.le_trans H2.out.2.2 hb25.size)
      have HP := Lib.hid hput
      have HB5 := Lib.hid hb25
      clear hb25 hkb hfi hput
      go_at_call 35; refine HP.out.mono ?_; rintro r w6 ⟨rfl, h6⟩
      have H6 := Lib.hid h6
      clear h6
      go_wp2_with fail
      go_ret
      refine ⟨rfl, ?_, ?_, ?_⟩
      · have := H6.out.1
        rw [step_C] at this
        exact this
      · exact (((HB.out.mono HF.out.2.2.2).trans H2.out.1.2.1).trans (HB5.out.mono H2.out.2.2)).trans H6.out.2.1
      · exact (((KB.of HB.out).trans H2.out.1.2.2).trans (KB.of HB5.out)).trans H6.out.2.2
  · obtain ⟨d1, d2⟩ := ne_bools hk
    rw [if_pos hk]
    have HK := Lib.hid hk
    clear hk
    unfold Post
    go_enter Try.func15, Try.ntmps15
    go_wp2_with fail
    go_at_call 36; refine HC.out.mono ?_; rintro r w1 ⟨rfl, hb⟩
    have HB := Lib.hid hb
    clear hb
    go_wp2_with fail
    go_ret
    exact ⟨rfl, HF.out.1.below HB.out, HB.out.mono HF.out.2.2.2, KB.of HB.out⟩
end Go.Proofs.Ytoipmgdfhmochaa
