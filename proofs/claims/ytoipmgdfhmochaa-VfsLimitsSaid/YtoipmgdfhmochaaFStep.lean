/- A step. -/
import Derived.Test.YtoipmgdfhmochaaFChk
namespace Go.Proofs.Ytoipmgdfhmochaa
open Go.RowKit Go.Shelf
set_option linter.unusedVariables false
set_option linter.unusedSimpArgs false

theorem no_u8 {w : World} {p b : Nat} {i1 i3 : Int} {b2 b4 : Bool} {t : TypeId} (hb : Blk w p #[.map (some b), .int .i64 i1, .bool b2, .int .i64 i3, .bool b4] t) (q : Addr) (v : Int) (hq : q.block = p) (h : w.cell? q = some (.int .u8 v)) : False := by
  unfold World.cell? at h
  unfold Blk at hb
  rw [hq, hb] at h
  simp only at h
  split at h
  · cases h
  have hlt := (Array.getElem?_eq_some_iff.1 h).1
  simp only [List.size_toArray, List.length_cons, List.length_nil] at hlt
  rcases Nat.lt_or_ge q.off 1 with h0 | h0
  · have : q.off = 0 := by omega
    rw [this] at h; cases h
  · rcases Nat.lt_or_ge q.off 2 with h1 | h1
    · have : q.off = 1 := by omega
      rw [this] at h; cases h
    · rcases Nat.lt_or_ge q.off 3 with h2 | h2
      · have : q.off = 2 := by omega
        rw [this] at h; cases h
      · rcases Nat.lt_or_ge q.off 4 with h3 | h3
        · have : q.off = 3 := by omega
          rw [this] at h; cases h
        · have : q.off = 4 := by omega
          rw [this] at h; cases h
theorem FsAt.set {w w' : World} {lo p : Nat} {s s' : FS} (h : FsAt w lo p s) (hC : s'.C = s.C) (hn : s'.n = s.n) (hs : w.heap.size ≤ w'.heap.size) (hg : ∀ k, k < w.heap.size → k ≠ p → w'.heap[k]? = w.heap[k]?)
    (hp : ∀ b : Nat, Blk w p #[.map (some b), .int .i64 (s.steps : Int), .bool s.armed, .int .i64 (s.ahead : Int), .bool s.dead] 64 → Blk w' p #[.map (some b), .int .i64 (s'.steps : Int), .bool s'.armed, .int .i64 (s'.ahead : Int), .bool s'.dead] 64) : FsAt w' lo p s' := by
  have h' := h
  obtain ⟨h0, b, D, h1, hb, hm⟩ := h'
  exact h.re hC hn hs hg hp fun q v hq hc => no_u8 hb q v hq hc
theorem KB.set {w w' : World} {p b : Nat} {i1 i3 : Int} {b2 b4 : Bool} {t : TypeId} (hb : Blk w p #[.map (some b), .int .i64 i1, .bool b2, .int .i64 i3, .bool b4] t) (hs : w.heap.size ≤ w'.heap.size) (hg : ∀ k, k < w.heap.size → k ≠ p → w'.heap[k]? = w.heap[k]?) : KB w w' := fun v L hh => by
  obtain ⟨a, c, q1, q2, q3, q4⟩ := hh
  refine ⟨a, c, q1, q2, q3, ?_⟩
  rcases q4 with q4 | ⟨ad, q4, q5, q6⟩
  · exact .inl q4
  · refine .inr ⟨ad, q4, Nat.lt_of_lt_of_le q5 hs, fun i hi => ?_⟩
    have h6 := q6 i hi
    have hne : (ad.add i).block ≠ p := fun e => no_u8 hb _ _ e h6
    rw [← h6]
    exact World.cell?_of_block (hg _ (World.block_lt_of_cell? w _ h6) hne)
def FS.code (s : FS) : Int := if s.dies then 5 else 0
set_option maxRecDepth 100000 in
set_option maxHeartbeats 2000000 in
theorem step_any {W : World} {lo p : Nat} {s : FS} (h : FsAt W lo p s) (hst : s.steps ≤ 1000000000) (hah : s.ahead ≤ 9223372036854775807) :
    Calls Try.prog 37 #[.pointer (some ⟨p, 0, none⟩)] W fun e w' => e = .returned (.int .i64 s.code) ∧ FsAt w' lo p s.step ∧ Below lo W w' ∧ KB W w' := by
  have hlo := h.lop
  obtain ⟨b, hb⟩ : ∃ b : Nat, Blk W p #[.map (some b), .int .i64 (s.steps : Int), .bool s.armed, .int .i64 (s.ahead : Int), .bool s.dead] 64 := by
    obtain ⟨h0, b, D, h1, hb, hm⟩ := h
    exact ⟨b, hb⟩
  obtain ⟨C, n, st, ar, ah, de⟩ := s
  have k1 := hb.cell 1
  have k2 := hb.cell 2
  have k3 := hb.cell 3
  have k4 := hb.cell 4
  have f1 := hb.frozen 1
  have f3 := hb.frozen 3
  have f4 := hb.frozen 4
  have HB := Lib.hid hb
  have HF := Lib.hid h
  have HLO := Lib.hid hlo
  have u1 : (st : Int) ≤ 1000000000 := by exact Int.ofNat_le.2 hst
  have u2 : (0 : Int) ≤ (st : Int) := by omega
  have u3 : (ah : Int) ≤ 9223372036854775807 := by exact Int.ofNat_le.2 hah
  have u4 : (0 : Int) ≤ (ah : Int) := by omega
  clear hb h hlo hst hah
  cases de with
  | true =>
    go_enter Try.func37, Try.ntmps37
    go_wp2_with fail
    go_ret
    refine ⟨by simp [FS.code, FS.dies], ?_, ?_, ?_⟩
    · refine HF.out.set (by simp [FS.step]) (by simp [FS.step]) (by simp) (fun k hk hne => Below.heap_setCell _ _ _ _ (by exact hne)) fun b' hb' => ?_
      have := hb'.set 4 (.bool true)
      simpa [FS.step] using this
    · exact (Below.refl _ _).setCell (by exact HLO.out) _
    · exact KB.set HB.out (by simp) (fun k hk hne => by simp only [Below.heap_setCell _ _ _ _ (show k ≠ (⟨p, _, none⟩ : Addr).block from hne)])
  | false =>
    cases ar with
    | false =>
      go_enter Try.func37, Try.ntmps37
      go_wp2_with fail
      go_ret
      refine ⟨by simp [FS.code, FS.dies], ?_, ?_, ?_⟩
      · refine HF.out.set (by simp [FS.step]) (by simp [FS.step]) (by simp) (fun k hk hne => by simp only [Below.heap_setCell _ _ _ _ (show k ≠ (⟨p, _, none⟩ : Addr).block from hne)]) fun b' hb' => ?_
        have := (hb'.set 4 (.bool false)).set 1 (.int .i64 ((st : Int) + 1))
        simpa [FS.step] using this
      · exact ((Below.refl _ _).setCell (by exact HLO.out) _).setCell (by exact HLO.out) _
      · exact KB.set HB.out (by simp) (fun k hk hne => by simp only [Below.heap_setCell _ _ _ _ (show k ≠ (⟨p, _, none⟩ : Addr).block from hne)])
    | true =>
      by_cases ha : ah = 0
      · have d0 : ((ah : Int) == 0) = true := by simp [ha]
        go_enter Try.func37, Try.ntmps37
        have HA := Lib.hid ha
        clear ha
        go_wp2_with fail
        go_ret
        refine ⟨by simp [FS.code, FS.dies, HA.out], ?_, ?_, ?_⟩
        · refine HF.out.set (by simp [FS.step, HA.out]) (by simp [FS.step, HA.out]) (by simp) (fun k hk hne => Below.heap_setCell _ _ _ _ (by exact hne)) fun b' hb' => ?_
          have := hb'.set 4 (.bool true)
          simpa [FS.step, HA.out] using this
        · exact (Below.refl _ _).setCell (by exact HLO.out) _
        · exact KB.set HB.out (by simp) (fun k hk hne => by simp only [Below.heap_setCell _ _ _ _ (show k ≠ (⟨p, _, none⟩ : Addr).block from hne)])
      · have d0 : ((ah : Int) == 0) = false := by simpa using ha
        obtain ⟨ah', hah'⟩ : ∃ m, ah = m + 1 := ⟨ah - 1, by omega⟩
        have HA := Lib.hid hah'
        have u5 : (1 : Int) ≤ (ah : Int) := by omega
        clear ha hah'
        go_enter Try.func37, Try.ntmps37
        go_wp2_with fail
        go_ret
        have hah' := HA.out
        subst hah'
        refine ⟨by simp [FS.code, FS.dies], ?_, ?_, ?_⟩
        · refine HF.out.set (by simp [FS.step]) (by simp [FS.step]) (by simp) (fun k hk hne => by simp only [Below.heap_setCell _ _ _ _ (show k ≠ (⟨p, _, none⟩ : Addr).block from hne)]) fun b' hb' => ?_
          have := ((hb'.set 4 (.bool false)).set 3 (.int .i64 (ah' : Int))).set 1 (.int .i64 ((st : Int) + 1))
          simpa [FS.step] using this
        · exact (((Below.refl _ _).setCell (by exact HLO.out) _).setCell (by exact HLO.out) _).setCell (by exact HLO.out) _
        · exact KB.set HB.out (by simp) (fun k hk hne => by simp only [Below.heap_setCell _ _ _ _ (show k ≠ (⟨p, _, none⟩ : Addr).block from hne)])
end Go.Proofs.Ytoipmgdfhmochaa
