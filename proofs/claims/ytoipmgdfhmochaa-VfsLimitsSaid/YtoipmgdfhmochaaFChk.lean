/- What is wrong with a path, with bytes; a step. -/
import Derived.Test.YtoipmgdfhmochaaFPut2
namespace Go.Proofs.Ytoipmgdfhmochaa
open Go.RowKit Go.Shelf
set_option linter.unusedVariables false
set_option linter.unusedSimpArgs false

def ckD (s : FS) (x : List UInt8) (len : Nat) : Nat := if goodP x = false then 6 else if 65536 < len then 3 else if (s.C x).isSome = false ∧ 64 ≤ s.n then 3 else 0
def ckT (s : FS) (x : List UInt8) : Nat := if goodP x = false then 6 else if (s.C x).isSome = false then 4 else 0
theorem FsAt.len {w : World} {lo p : Nat} {s : FS} (h : FsAt w lo p s) : ∃ b, ∀ w', Below w.heap.size w w' → w'.cell? ⟨p, 0, none⟩ = some (.map (some b)) ∧ ∀ ty, (Builtin.len_ #[ 62 ] ty #[.map (some b)]).run Try.prog w' = .ok (.int .i64 (s.n : Int)) w' := by
  obtain ⟨h0, b, D, h1, hb, hm⟩ := h
  refine ⟨b, fun w' hw => ⟨(hb.below hw).cell 0, fun ty => ?_⟩⟩
  have := (hm.below hw).own.len Try.underlying62 ty
  rw [hm.size] at this
  exact this
set_option maxRecDepth 100000 in
set_option maxHeartbeats 2000000 in
theorem checkData_any {W : World} {lo p : Nat} {s : FS} (h : FsAt W lo p s) (x : ByteArray) (ha : AsciiB x) (hx : x.size ≤ 1000000) (a : Option Addr) (n c : Nat) :
    Calls Try.prog 36 #[.pointer (some ⟨p, 0, none⟩), .string x, .slice a n c] W fun e w' => e = .returned (.int .i64 (ckD s x.data.toList n : Int)) ∧ Below W.heap.size W w' := by
  have HP := Lib.hid (fun w => isPath_any (W := w) x ha hx)
  have HH := Lib.hid (fun w hw => has_any (W := w) (h.below hw) x hx)
  obtain ⟨b, hlen⟩ := h.len
  have HL := Lib.hid hlen
  unfold ckD
  clear h hlen
  cases hg : goodP x.data.toList with
  | false =>
    rw [hg] at HP
    rw [if_pos rfl]
    clear hg
    go_enter Try.func36, Try.ntmps36
    go_wp2_with fail
    go_at_call 44; refine (HP.out _).mono ?_; rintro r w1 ⟨rfl, hb⟩
    go_wp2_with fail
    go_ret
    exact ⟨rfl, hb⟩
  | true =>
    rw [hg] at HP
    rw [if_neg (by decide)]
    clear hg
    by_cases hn : 65536 < n
    · have i1 : (65536 : Int) < (n : Int) := by omega
      rw [if_pos hn]
      go_enter Try.func36, Try.ntmps36
      go_wp2_with fail
      go_at_call 44; refine (HP.out _).mono ?_; rintro r w1 ⟨rfl, hb⟩
      go_wp2_with fail
      go_ret
      exact ⟨rfl, hb⟩
    · have i1 : ¬ (65536 : Int) < (n : Int) := by omega
      rw [if_neg hn]
      cases hs : (s.C x.data.toList).isSome with
      | true =>
        rw [hs] at HH
        rw [if_neg (by simp)]
        clear hs
        go_enter Try.func36, Try.ntmps36
        go_wp2_with fail
        go_at_call 44; refine (HP.out _).mono ?_; rintro r w1 ⟨rfl, hb⟩
        have HB := Lib.hid hb
        clear hb
        go_wp2_with fail
        go_at_call 48; refine (HH.out _ HB.out).mono ?_; rintro r w2 ⟨rfl, hb⟩
        go_wp2_with fail
        go_ret
        exact ⟨rfl, HB.out.trans (hb.mono HB.out.size)⟩
      | false =>
        rw [hs] at HH
        clear hs
        by_cases hm : 64 ≤ s.n
        · have i2 : (64 : Int) ≤ (s.n : Int) := by omega
          rw [if_pos ⟨rfl, hm⟩]
          go_enter Try.func36, Try.ntmps36
          go_wp2_with fail
          go_at_call 44; refine (HP.out _).mono ?_; rintro r w1 ⟨rfl, hb⟩
          have HB := Lib.hid hb
          clear hb
          go_wp2_with fail
          go_at_call 48; refine (HH.out _ HB.out).mono ?_; rintro r w2 ⟨rfl, hb⟩
          have HB2 := Lib.hid (HB.out.trans (hb.mono HB.out.size))
          obtain ⟨k0, k1⟩ := HL.out w2 HB2.out
          clear hb
          go_wp2_with fail
          go_ret
          exact ⟨rfl, HB2.out⟩
        · have i2 : ¬ (64 : Int) ≤ (s.n : Int) := by omega
          rw [if_neg (fun h => hm h.2)]
          go_enter Try.func36, Try.ntmps36
          go_wp2_with fail
          go_at_call 44; refine (HP.out _).mono ?_; rintro r w1 ⟨rfl, hb⟩
          have HB := Lib.hid hb
          clear hb
          go_wp2_with fail
          go_at_call 48; refine (HH.out _ HB.out).mono ?_; rintro r w2 ⟨rfl, hb⟩
          have HB2 := Lib.hid (HB.out.trans (hb.mono HB.out.size))
          obtain ⟨k0, k1⟩ := HL.out w2 HB2.out
          clear hb
          go_wp2_with fail
          go_ret
          exact ⟨rfl, HB2.out⟩
set_option maxRecDepth 100000 in
set_option maxHeartbeats 2000000 in
theorem checkThere_any {W : World} {lo p : Nat} {s : FS} (h : FsAt W lo p s) (x : ByteArray) (ha : AsciiB x) (hx : x.size ≤ 1000000) :
    Calls Try.prog 42 #[.pointer (some ⟨p, 0, none⟩), .string x] W fun e w' => e = .returned (.int .i64 (ckT s x.data.toList : Int)) ∧ Below W.heap.size W w' := by
  have HP := Lib.hid (fun w => isPath_any (W := w) x ha hx)
  have HH := Lib.hid (fun w hw => has_any (W := w) (h.below hw) x hx)
  unfold ckT
  clear h
  cases hg : goodP x.data.toList with
  | false =>
    rw [hg] at HP
    rw [if_pos rfl]
    clear hg
    go_enter Try.func42, Try.ntmps42
    go_wp2_with fail
    go_at_call 44; refine (HP.out _).mono ?_; rintro r w1 ⟨rfl, hb⟩
    go_wp2_with fail
    go_ret
    exact ⟨rfl, hb⟩
  | true =>
    rw [hg] at HP
    rw [if_neg (by decide)]
    clear hg
    cases hs : (s.C x.data.toList).isSome with
    | true =>
      rw [hs] at HH
      rw [if_neg (by decide)]
      clear hs
      go_enter Try.func42, Try.ntmps42
      go_wp2_with fail
      go_at_call 44; refine (HP.out _).mono ?_; rintro r w1 ⟨rfl, hb⟩
      have HB := Lib.hid hb
      clear hb
      go_wp2_with fail
      go_at_call 48; refine (HH.out _ HB.out).mono ?_; rintro r w2 ⟨rfl, hb⟩
      go_wp2_with fail
      go_ret
      exact ⟨rfl, HB.out.trans (hb.mono HB.out.size)⟩
    | false =>
      rw [hs] at HH
      rw [if_pos rfl]
      clear hs
      go_enter Try.func42, Try.ntmps42
      go_wp2_with fail
      go_at_call 44; refine (HP.out _).mono ?_; rintro r w1 ⟨rfl, hb⟩
      have HB := Lib.hid hb
      clear hb
      go_wp2_with fail
      go_at_call 48; refine (HH.out _ HB.out).mono ?_; rintro r w2 ⟨rfl, hb⟩
      go_wp2_with fail
      go_ret
      exact ⟨rfl, HB.out.trans (hb.mono HB.out.size)⟩
/-- A step: what the file system is behind it, and whether it is done. -/
def FS.step (s : FS) : FS := if s.dead || (s.armed && s.ahead == 0) then { s with dead := true } else { s with steps := s.steps + 1, ahead := if s.armed then s.ahead - 1 else s.ahead }
def FS.dies (s : FS) : Bool := s.dead || (s.armed && s.ahead == 0)
theorem FsAt.re {w w' : World} {lo p : Nat} {s s' : FS} (h : FsAt w lo p s) (hC : s'.C = s.C) (hn : s'.n = s.n) (hs : w.heap.size ≤ w'.heap.size) (hg : ∀ k, k < w.heap.size → k ≠ p → w'.heap[k]? = w.heap[k]?)
    (hp : ∀ b : Nat, Blk w p #[.map (some b), .int .i64 (s.steps : Int), .bool s.armed, .int .i64 (s.ahead : Int), .bool s.dead] 64 → Blk w' p #[.map (some b), .int .i64 (s'.steps : Int), .bool s'.armed, .int .i64 (s'.ahead : Int), .bool s'.dead] 64)
    (hc : ∀ (q : Addr) v, q.block = p → w.cell? q = some (.int .u8 v) → False) : FsAt w' lo p s' := by
  obtain ⟨h0, b, D, h1, hb, hm⟩ := h
  refine ⟨h0, b, D, h1, hp b hb, ?_⟩
  have hbp : b ≠ p := by
    intro e
    obtain ⟨es, clock, hbb⟩ := hm.raw
    unfold Blk at hb
    rw [← e, hbb] at hb
    cases hb
  have hB : ∀ {v L}, BR w v L → BR w' v L := fun {v L} hh => by
    obtain ⟨a, c, q1, q2, q3, q4⟩ := hh
    refine ⟨a, c, q1, q2, q3, ?_⟩
    rcases q4 with q4 | ⟨ad, q4, q5, q6⟩
    · exact .inl q4
    · refine .inr ⟨ad, q4, Nat.lt_of_lt_of_le q5 hs, fun i hi => ?_⟩
      have h6 := q6 i hi
      have hne : (ad.add i).block ≠ p := fun e => hc _ _ e h6
      rw [← h6]
      exact World.cell?_of_block (hg _ (World.block_lt_of_cell? w _ h6) hne)
  refine ⟨?_, by rw [hn]; exact hm.size, by rw [hC]; exact hm.has, fun x f hx => ?_, by rw [hC]; exact hm.short⟩
  · rw [hn]; exact own_keep hm.own (hg b hm.own.lt hbp)
  · rw [hC] at hx
    obtain ⟨v, q1, dv, sv, q2, q3, q4⟩ := hm.file x f hx
    exact ⟨v, q1, dv, sv, q2, hB q3, hB q4⟩
end Go.Proofs.Ytoipmgdfhmochaa
