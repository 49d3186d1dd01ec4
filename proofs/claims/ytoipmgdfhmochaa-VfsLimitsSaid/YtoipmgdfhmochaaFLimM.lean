/- VfsLimits: what the law's file system is. -/
import Derived.Test.YtoipmgdfhmochaaFAwake
import Derived.Test.YtoipmgdfhmochaaFRen2
namespace Go.Proofs.Ytoipmgdfhmochaa
open Go.RowKit Go.Shelf
set_option linter.unusedVariables false
set_option linter.unusedSimpArgs false

def pth (j : Nat) : List UInt8 := [102, UInt8.ofNat (97 + j / 8), UInt8.ofNat (97 + j % 8)]
def lngB : List UInt8 := [48, 49, 50, 51, 52, 53, 54, 55, 56, 57, 48, 49, 50, 51, 52, 53, 54, 55, 56, 57, 48, 49, 50, 51, 52, 53, 54, 55, 56, 57, 48, 49, 50, 51, 52, 53, 54, 55, 56, 57, 48, 49, 50, 51, 52, 53, 54, 55, 56, 57, 48, 49, 50, 51, 52, 53, 54, 55, 56, 57, 48, 49, 50, 51]
theorem pth_good : ∀ j, j < 64 → goodP (pth j) = true := by decide +kernel
theorem pth_inj : ∀ i, i < 64 → ∀ j, j < 64 → pth i = pth j → i = j := by decide +kernel
theorem pth_ascii : ∀ j, j < 64 → (pth j).all (fun b => decide (b.toNat < 128)) = true := by decide +kernel
theorem pth_lng : ∀ j, j < 64 → pth j ≠ lngB := by decide +kernel
theorem pth_g : ∀ j, j < 64 → pth j ≠ [103] := by decide +kernel
theorem lng_good : goodP lngB = true := by decide +kernel
theorem lng_bad : goodP (lngB ++ [52]) = false := by decide +kernel
theorem g_good : goodP [103] = true := by decide +kernel
/-- A file system that has these paths, and nothing is armed. -/
structure LimAt (s : FS) (n : Nat) (S : List UInt8 → Prop) : Prop where
  n : s.n = n
  steps : s.steps ≤ 1000
  armed : s.armed = false
  dead : s.dead = false
  ahead : s.ahead = 0
  has : ∀ x, (s.C x).isSome = true ↔ S x
section
variable {s : FS} {n : Nat} {S : List UInt8 → Prop}
theorem LimAt.fit (h : LimAt s n S) (hn : n ≤ 1000) : Fit s := ⟨by have := h.steps; omega, by rw [h.ahead]; omega, by rw [h.n]; omega⟩
theorem LimAt.dies (h : LimAt s n S) : s.dies = false := by unfold FS.dies; rw [h.dead, h.armed]; rfl
theorem LimAt.step (h : LimAt s n S) : s.step = { s with steps := s.steps + 1 } := by
  unfold FS.step
  rw [h.dead, h.armed]
  rfl
theorem LimAt.put (h : LimAt s n S) (hs : s.steps < 1000) (x : List UInt8) (f : FV) (m : Nat) (hm : (S x ∧ m = n) ∨ (¬ S x ∧ m = n + 1)) (T : List UInt8 → Prop) (hT : ∀ y, T y ↔ (y = x ∨ S y)) : LimAt (s.step.put x f) m T := by
  rw [h.step]
  refine ⟨?_, by show s.steps + 1 ≤ 1000; omega, h.armed, h.dead, h.ahead, fun y => ?_⟩
  · show (if (s.C x).isSome then s.n else s.n + 1) = m
    rcases hm with ⟨h1, rfl⟩ | ⟨h1, rfl⟩
    · rw [if_pos ((h.has x).2 h1), h.n]
    · rw [if_neg (fun e => h1 ((h.has x).1 e)), h.n]
  · show (if y = x then some f else s.C y).isSome = true ↔ _
    rw [hT]
    by_cases e : y = x
    · rw [if_pos e]; simp [e]
    · rw [if_neg e, h.has]; simp [e]
theorem LimAt.del (h : LimAt s n S) (hs : s.steps < 1000) (x : List UInt8) (hx : S x) (m : Nat) (hm : n = m + 1) (T : List UInt8 → Prop) (hT : ∀ y, T y ↔ (y ≠ x ∧ S y)) : LimAt (s.step.del x) m T := by
  rw [h.step]
  refine ⟨?_, by show s.steps + 1 ≤ 1000; omega, h.armed, h.dead, h.ahead, fun y => ?_⟩
  · show (if (s.C x).isSome then s.n - 1 else s.n) = m
    rw [if_pos ((h.has x).2 hx), h.n]; omega
  · show (if y = x then none else s.C y).isSome = true ↔ _
    rw [hT]
    by_cases e : y = x
    · rw [if_pos e]; simp [e]
    · rw [if_neg e, h.has]; simp [e]
theorem LimAt.put2 (h : LimAt s n S) (x : List UInt8) (f : FV) (m : Nat) (hx : ¬ S x) (hm : m = n + 1) (T : List UInt8 → Prop) (hT : ∀ y, T y ↔ (y = x ∨ S y)) : LimAt (s.put x f) m T := by
  refine ⟨?_, h.steps, h.armed, h.dead, h.ahead, fun y => ?_⟩
  · show (if (s.C x).isSome then s.n else s.n + 1) = m
    rw [if_neg (fun e => hx ((h.has x).1 e)), h.n, hm]
  · show (if y = x then some f else s.C y).isSome = true ↔ _
    rw [hT]
    by_cases e : y = x
    · rw [if_pos e]; simp [e]
    · rw [if_neg e, h.has]; simp [e]
theorem LimAt.full (h : LimAt s 64 S) {x : List UInt8} (hx : ¬ S x) (hg : goodP x = true) (len : Nat) (hl : len ≤ 65536) : ckD s x len = 3 := by
  unfold ckD
  rw [if_neg (by rw [hg]; simp), if_neg (by omega), if_pos ⟨by cases hc : (s.C x).isSome with | false => rfl | true => exact absurd ((h.has x).1 hc) hx, by rw [h.n]; omega⟩]
theorem LimAt.free (h : LimAt s n S) {x : List UInt8} (hg : goodP x = true) (len : Nat) (hl : len ≤ 65536) (hx : S x ∨ n < 64) : ckD s x len = 0 := by
  unfold ckD
  rw [if_neg (by rw [hg]; simp), if_neg (by omega), if_neg]
  rintro ⟨h1, h2⟩
  rcases hx with hx | hx
  · rw [(h.has x).2 hx] at h1; cases h1
  · rw [h.n] at h2; omega
theorem LimAt.there (h : LimAt s n S) {x : List UInt8} (hg : goodP x = true) (hx : S x) : ckT s x = 0 := by
  unfold ckT
  rw [if_neg (by rw [hg]; simp), if_neg]
  rw [(h.has x).2 hx]; simp
/-- The paths written so far. -/
def upto (i : Nat) (x : List UInt8) : Prop := ∃ j, j < i ∧ x = pth j
theorem lim0 : LimAt FS0 0 (upto 0) := ⟨rfl, by decide, rfl, rfl, rfl, fun x => ⟨fun h => (by cases h), fun ⟨j, h, _⟩ => (by omega)⟩⟩
/-- One more path is written. -/
theorem LimAt.next {i : Nat} (h : LimAt s i (upto i)) (hi : i < 64) (hs : s.steps < 1000) : (s.wr (pth i) []).1 = 0 ∧ LimAt (s.wr (pth i) []).2 (i + 1) (upto (i + 1)) ∧ (s.wr (pth i) []).2.steps = s.steps + 1 := by
  have h0 := h.free (pth_good i hi) ([] : List UInt8).length (by simp) (.inr hi)
  have hno : ¬ upto i (pth i) := fun ⟨j, h1, h2⟩ => by have := pth_inj i hi j (by omega) h2; omega
  unfold FS.wr
  rw [if_neg (by rw [h0]; simp), if_neg (by rw [h.dies]; simp)]
  refine ⟨rfl, h.put hs _ _ _ (.inr ⟨hno, rfl⟩) _ fun y => ?_, ?_⟩
  · constructor
    · rintro ⟨j, h1, h2⟩
      by_cases e : j = i
      · exact .inl (by rw [h2, e])
      · exact .inr ⟨j, by omega, h2⟩
    · rintro (e | ⟨j, h1, h2⟩)
      · exact ⟨i, by omega, e⟩
      · exact ⟨j, by omega, h2⟩
  · rw [h.step]; rfl
theorem LimAt.stepn (h : LimAt s n S) : s.step.steps = s.steps + 1 := by rw [h.step]
theorem wr_bad {x L : List UInt8} {c : Nat} (h : ckD s x L.length = c) (hc : c ≠ 0) : s.wr x L = (c, s) := by unfold FS.wr; rw [h, if_pos hc]
theorem cr_bad {x L : List UInt8} {c : Nat} (h : ckD s x L.length = c) (hc : c ≠ 0) : s.cr x L = (c, s) := by unfold FS.cr; rw [h, if_pos hc]
theorem wr_ok {x L : List UInt8} (h : ckD s x L.length = 0) (hd : s.dies = false) : s.wr x L = (0, s.step.put x ⟨L, (s.old x).safe, (s.old x).ok⟩) := by unfold FS.wr; rw [if_neg (by rw [h]; simp), if_neg (by rw [hd]; simp)]
theorem rn_bad {x y : List UInt8} (h : goodP y = false) : s.rn x y = (6, s) := by unfold FS.rn; rw [if_pos h]
theorem rn_ok {x y : List UInt8} (hy : goodP y = true) (h : ckT s x = 0) (hd : s.dies = false) : s.rn x y = (0, (s.step.del x).put y (s.old x)) := by unfold FS.rn; rw [if_neg (by rw [hy]; simp), if_neg (by rw [h]; simp), if_neg (by rw [hd]; simp)]
theorem rm_ok {x : List UInt8} (h : ckT s x = 0) (hd : s.dies = false) : s.rm x = (0, s.step.del x) := by unfold FS.rm; rw [if_neg (by rw [h]; simp), if_neg (by rw [hd]; simp)]
theorem post_code {W : World} {lo p : Nat} {r : Nat × FS} {e : Ending} {w' : World} (h : Post W lo p r e w') {c : Nat} (hr : r = (c, s)) {z : Int} (hz : (c : Int) = z) : e = .returned (.int .i64 z) ∧ FsAt w' lo p s ∧ Below lo W w' := by
  subst hr
  obtain ⟨h1, h2, h3, -⟩ := h
  subst hz
  exact ⟨h1, h2, h3⟩
theorem ck_big {x : List UInt8} (hg : goodP x = true) {len : Nat} (hl : 65536 < len) : ckD s x len = 3 := by
  unfold ckD
  rw [if_neg (by rw [hg]; simp), if_pos hl]
end
end Go.Proofs.Ytoipmgdfhmochaa
