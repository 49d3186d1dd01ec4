/- compareSizes · A block of cells -/
import Derived.Test.YtjgbhnbfojkhoaaDoorMk04
import Derived.Test.YtjgbhnbfojkhoaaDoorMk05
namespace Go.Proofs.YtjgbhnbfojkhoaaDoor
open Go.RowKit Go.Shelf

/-- The sign of a comparison. -/
def sgn (a b : Nat) : Int := if a < b then -1 else if b < a then 1 else 0

set_option maxHeartbeats 400000 in
theorem isNaN64_any (a : Int) (w : World) : Calls Tryd.prog 101 #[.int .u64 a] w fun e w' => e = .returned (.bool false) ∧ w = w' := by
  go_enter Tryd.func101, Tryd.ntmps101
  go_wp2
  go_ret
  exact ⟨by simp, rfl⟩

set_option maxHeartbeats 400000 in
theorem Compare64_any (a b : Nat) (w : World) : Calls Tryd.prog 85 #[.int .u64 a, .int .u64 b] w fun e w' => e = .returned (.int .i64 (sgn a b)) ∧ w = w' := by
  rcases (show a < b ∨ b < a ∨ a = b by omega) with h | h | h
  · have e1 : Hid (sgn a b = -1) := Lib.hid (by unfold sgn; rw [if_pos h])
    go_enter Tryd.func85, Tryd.ntmps85
    go_wp2_with (go_at_call 101; refine (isNaN64_any _ _).mono ?_; rintro e w' ⟨rfl, rfl⟩)
    go_ret
    exact ⟨by rw [e1.out]; rfl, rfl⟩
  · have e1 : Hid (sgn a b = 1) := Lib.hid (by unfold sgn; rw [if_neg (by omega), if_pos h])
    go_enter Tryd.func85, Tryd.ntmps85
    go_wp2_with (go_at_call 101; refine (isNaN64_any _ _).mono ?_; rintro e w' ⟨rfl, rfl⟩)
    go_ret
    exact ⟨by rw [e1.out]; rfl, rfl⟩
  · subst h
    have e1 : Hid (sgn a a = 0) := Lib.hid (by unfold sgn; rw [if_neg (by omega), if_neg (by omega)])
    go_enter Tryd.func85, Tryd.ntmps85
    go_wp2_with (go_at_call 101; refine (isNaN64_any _ _).mono ?_; rintro e w' ⟨rfl, rfl⟩)
    go_ret
    exact ⟨by rw [e1.out]; rfl, rfl⟩

theorem CompareInt_any (a b : Nat) (w : World) : Calls Tryd.prog 83 #[.int .i64 a, .int .i64 b] w fun e w' => e = .returned (.int .i64 (sgn a b)) ∧ w = w' :=
  (Tryd.cmp_Compare_int _ _ _).mono fun e w' ⟨h1, h2⟩ => ⟨by rw [h1]; congr 1; congr 1; unfold Lib.compareInt sgn; repeat' split <;> omega, h2.symm⟩

/-- All limbs are the same: so are the numbers. -/
theorem same_all {x y n : Nat} {ys : List (Place n)} (hx : (limbs x).length = n) (hy : (limbs y).length = n) (hp : places ys = downs n n) (h : ∀ p ∈ ys, lim x p.1 = lim y p.1) : x = y := by
  have h1 : ∀ j ∈ places ys, lim x j = lim y j := fun j hj => by
    obtain ⟨p, hp, rfl⟩ := List.mem_map.1 hj
    exact h p hp
  rw [hp] at h1
  have h2 := high_same (x := x) (y := y) (n := n) (k := n) (by omega) (by omega) (Nat.le_refl _) (fun j hj => h1 _ (List.mem_map.2 ⟨j, List.mem_range.2 hj, rfl⟩))
  rw [Nat.sub_self, high_zero, high_zero] at h2
  exact h2

/-- The first limb that differs tells which is greater. -/
theorem first_tells {x y n k : Nat} {ini : List (Place n)} {last : Place n} (hx : (limbs x).length = n) (hy : (limbs y).length = n) (hk : k ≤ n) (hp : places (ini ++ [last]) = downs n k) (h : ∀ p ∈ ini, lim x p.1 = lim y p.1) (hne : lim x last.1 ≠ lim y last.1) : sgn x y = sgn (lim x last.1) (lim y last.1) := by
  obtain ⟨k', rfl⟩ : ∃ k', k = k' + 1 := by
    cases k with
    | zero => simp [places, downs, upto] at hp
    | succ k' => exact ⟨k', rfl⟩
  rw [downs, upto_succ] at hp
  simp only [places, List.map_append] at hp
  obtain ⟨h1, h2⟩ := List.append_inj' hp rfl
  have h3 : last.1 = n - 1 - k' := by simpa using h2
  have h4 : ∀ j, j < k' → lim x (n - 1 - j) = lim y (n - 1 - j) := fun j hj => by
    have : n - 1 - j ∈ ini.map fun k => k.1 := by rw [h1]; exact List.mem_map.2 ⟨j, List.mem_range.2 hj, rfl⟩
    obtain ⟨p, hp, e⟩ := List.mem_map.1 this
    rw [← e]; exact h p hp
  have h5 := high_same (x := x) (y := y) (n := n) (k := k') (by omega) (by omega) (by omega) h4
  rw [h3] at hne ⊢
  have ex := high_step x (n - 1 - k')
  have ey := high_step y (n - 1 - k')
  rw [show n - 1 - k' + 1 = n - k' by omega] at ex ey
  rw [h5] at ex
  unfold sgn
  rcases Nat.lt_or_ge (lim x (n - 1 - k')) (lim y (n - 1 - k')) with h6 | h6
  · have : x < y := high_lt (k := n - 1 - k') (by omega)
    rw [if_pos this, if_pos h6]
  · have h7 : lim y (n - 1 - k') < lim x (n - 1 - k') := by omega
    have : y < x := high_lt (k := n - 1 - k') (by omega)
    rw [if_neg (by omega), if_pos this, if_neg (by omega), if_pos h7]

attribute [local go_sem] Oper.semAt_some

set_option maxRecDepth 100000 in
set_option maxHeartbeats 2000000 in
theorem compareSizes_any {w : World} {va vb : Value} {x y : Nat} (hx : Sz 0 w va x) (hy : Sz 0 w vb y) (hlx : (limbs x).length ≤ 1000000) (hly : (limbs y).length ≤ 1000000) :
    Calls Tryd.prog 65 #[va, vb] w fun e w' => e = .returned (.int .i64 (sgn x y)) ∧ Below w.heap.size w w' := by
  obtain ⟨ada, capa, rfl, -, -, -⟩ := hx.view
  obtain ⟨adb, capb, rfl, -, -, hcb⟩ := hy.view
  obtain ⟨la, hla⟩ : ∃ la, (limbs x).length = la := ⟨_, rfl⟩
  obtain ⟨lb, hlb⟩ : ∃ lb, (limbs y).length = lb := ⟨_, rfl⟩
  have HX := Lib.hid hx
  have HY := Lib.hid hy
  have HLA := Lib.hid hla
  have HLB := Lib.hid hlb
  rw [hla] at hlx HX ⊢
  rw [hlb] at hly hcb HY ⊢
  clear hx hy hla hlb
  by_cases hne : la = lb
  · subst hne
    refine (callsIn_wide (n := 9)).1 ?_
    have e1 : ((la : Int) != la) = false := by simp
    refine callsIn_of_wp_marks Tryd.func65 rfl trivial ?_ rfl
    simp only [Tryd.ntmps65, List.size_toArray, List.length_cons, List.length_nil, Nat.reduceAdd, Nat.reduceSub, Array.replicate_succ, Array.replicate_zero, List.push_toArray, List.append_toArray, List.nil_append, List.cons_append]
    gi_wp2_with (refine ⟨trivial, ?_⟩; gi_at_call 84; refine (fromLast_in Fence.wide (9 - 1) trivial rfl _ _ _ _).mono ?_; rintro e w' ⟨rfl, rfl⟩)
    have bB := Boxed.new w 76 (.slice adb la capb)
    have bR := Boxed.new (w.alloc (.cells #[.slice adb la capb] 76)) 3 (.int .i64 0)
    have bA := Boxed.new ((w.alloc (.cells #[.slice adb la capb] 76)).alloc (.cells #[.int .i64 0] 3)) 76 (.slice ada la capa)
    rw [World.size_alloc] at bR
    rw [World.size_alloc, World.size_alloc] at bA
    have hB0 : Below w.heap.size w (((w.alloc (.cells #[.slice adb la capb] 76)).alloc (.cells #[.int .i64 0] 3)).alloc (.cells #[.slice ada la capa] 76)) := (((Below.refl _ w).alloc (Nat.le_refl _) _).alloc (by simp) _).alloc (by simp; omega) _
    have hXA := HX.out.below hB0
    refine wpIn_rangeFunc_ownG rfl (by omega) (gf := 100) (lb := #[.pointer (some ⟨w.heap.size + 1 + 1, 0, none⟩)]) rfl trivial (enters_of Tryd.func100 (by kernel_rfl) rfl)
      (fromLast_stops Fence.wide (9 - 1) trivial rfl (by omega) (w.heap.size + 1 + 1) _ (limbs x) (by rw [HLA.out]; exact hlx) _ bA hXA) KeepB.trans (KeepB.putObj (blocks_lt bA hXA)) (Below.refl _ _) (fun _ => rfl)
      (fun pre W => (Boxed W w.heap.size 76 (.slice adb la capb) ∧ Boxed W (w.heap.size + 1) 3 (.int .i64 0) ∧ ∀ p ∈ pre, lim x p.1 = lim y p.1) ∧ Below w.heap.size w W)
      (fun c pre W => (c = .ret ∧ ∃ ini last, pre = ini ++ [last] ∧ (∀ p ∈ ini, lim x p.1 = lim y p.1) ∧ lim x last.1 ≠ lim y last.1 ∧ Boxed W (w.heap.size + 1) 3 (.int .i64 (sgn (lim x last.1) (lim y last.1)))) ∧ Below w.heap.size w W)
      (OwnFrom.and (Own.from (fun s A B row hs hg hr => ⟨boxed_own _ _ (fun _ => _) s A B row hs.1 hg hr, boxed_own _ _ (fun _ => _) s A B row hs.2.1 hg hr, hs.2.2⟩) _) (ownFrom_below (Nat.le_refl _) (by simp; omega)))
      (fun c => OwnFrom.and (Own.from (fun s A B row hs hg hr => by obtain ⟨hc, ini, last, e1, e2, e3, e4⟩ := hs; exact ⟨hc, ini, last, e1, e2, e3, boxed_own _ _ (fun _ => _) s A B row e4 hg hr⟩) _) (ownFrom_below (Nat.le_refl _) (by simp; omega)))
      ⟨⟨(bB.alloc _).alloc _, bR.alloc _, by simp⟩, hB0⟩
      (fun p => { tmps := #[.slice ada la capa, .slice adb la capb, undef, .pointer (some ⟨w.heap.size, 0, none⟩), .pointer (some ⟨w.heap.size + 1, 0, none⟩), .int .i64 (p.1 : Int), .int .u64 (((limbs x).getD p.1 0 : Nat) : Int), .slice ada la capa, .int .i64 la, .slice adb la capb, .int .i64 la, .bool false, undef, undef, undef, undef, undef, .slice ada la capa, .func (.func 100) #[] #[.pointer (some ⟨w.heap.size + 1 + 1, 0, none⟩)], .int .i64 (p.1 : Int), .int .u64 (((limbs x).getD p.1 0 : Nat) : Int), undef, undef, undef, undef, undef, undef, undef, undef, undef, undef, undef, undef], defers := [] }) ?assign ?body ?done ?stop
    case assign =>
      intro l p W K hK
      simp only [encL]
      gi_wp2
      exact hK
    case body =>
      rintro l pre p W ⟨⟨hbB, hbR, heq⟩, hB⟩ hlen
      have HEQ := Lib.hid heq
      have hpl : p.1 < la := by rw [← HLA.out]; exact p.2
      obtain ⟨g, rfl, -, hg, hcs⟩ := hcb (by omega)
      have hc1 := (hB.cell (p := ⟨g, p.1, none⟩) hg).trans (hcs p.1 hpl)
      rw [limbs_getD] at hc1
      have hc2 := hbB.cell
      have hc3 := hbR.cell
      have hf3 := hbR.frozen
      obtain ⟨a, ha⟩ : ∃ a, (limbs x).getD p.1 0 = a := ⟨_, rfl⟩
      obtain ⟨b, hb⟩ : ∃ b, lim y p.1 = b := ⟨_, rfl⟩
      have HA := Lib.hid ha
      have HB := Lib.hid hb
      have hal := lim_lt x p.1
      have hbl := lim_lt y p.1
      obtain ⟨pk, hpk⟩ : ∃ pk, p.1 = pk := ⟨_, rfl⟩
      have HPK := Lib.hid hpk
      have HBR := Lib.hid hbR
      have HBB := Lib.hid hbB
      by_cases hab : a = b
      · have e2 : ((a : Int) != b) = false := by simp; omega
        have HE : Hid (lim x p.1 = lim y p.1) := Lib.hid (by rw [← limbs_getD, ha, hab, hb])
        rw [hb] at hc1
        rw [hpk] at hc1 hpl
        rw [ha, hpk]
        clear ha hb hpk hbB hbR heq hcs hal hbl hab hcb
        gi_wp2
        exact ⟨KeepsFrom.refl _ _, KeepB.refl _ _, ⟨HBB.out, HBR.out, fun q hq => (List.mem_append.1 hq).elim (HEQ.out q) (fun e => by rw [List.mem_singleton] at e; rw [e]; exact HE.out)⟩, hB⟩
      · have e2 : ((a : Int) != b) = true := by rw [bne_iff_ne]; omega
        have HE : Hid (lim x p.1 ≠ lim y p.1) := Lib.hid (by rw [← limbs_getD, ha, hb]; exact hab)
        have HS : Hid (sgn a b = sgn (lim x p.1) (lim y p.1)) := Lib.hid (by rw [← limbs_getD, ha, hb])
        rw [hb] at hc1
        rw [hpk] at hc1 hpl
        rw [ha, hpk]
        clear ha hb hpk hbB hbR heq hcs hal hbl hab hcb
        gi_wp2_with (refine ⟨trivial, ?_⟩; gi_at_call 85; refine (CallsIn.inRound l (callsIn_wide.2 (Compare64_any _ _ _))).mono ?_; rintro e w' ⟨rfl, rfl⟩)
        exact ⟨(KeepsOthers.setCell _ _ _).from _, ⟨rfl, pre, p, rfl, HEQ.out, HE.out, by rw [← HS.out]; exact HBR.out.set _⟩, hB.setCell (p := ⟨w.heap.size + 1, 0, none⟩) (by simp) _⟩
    case done =>
      rintro D ys W hD hys ⟨⟨hbB, hbR, heq⟩, hB⟩ hK
      have hx0 : sgn x y = 0 := by
        have := same_all (n := (limbs x).length) rfl (by rw [HLB.out, HLA.out]) hys heq
        subst this
        unfold sgn; rw [if_neg (by omega), if_neg (by omega)]
      have HX0 := Lib.hid hx0
      have hcR := hbR.cell
      have hfR := hbR.frozen
      have HBR := Lib.hid hbR
      clear hx0 hbR hbB heq hys
      gi_wp2
      have hK' := (KeepsOthers.setCell W ⟨w.heap.size + 1, 0, none⟩ (.int .i64 0)).same D _ hK rfl
      refine ⟨by simp, .inl ⟨_, _, rfl, run_takeDeferred hK', ?_⟩⟩
      have hc5 := cell_kept (HBR.out.set (.int .i64 0)).cell (grownBy_putObj' _ D (.deferred none)) (fun r e => by cases e; exact ⟨_, hK', rfl⟩)
      refine ⟨.int .i64 0, ?_, by rw [HX0.out], (hB.setCell (p := ⟨w.heap.size + 1, 0, none⟩) (by simp) _).trans (belowK_b (w := w) (Nat.le_refl _) _ D _ _ (by simp at hD; omega) hK' rfl rfl)⟩
      simp [results, Tryd.results65, go_sem, hc5]
    case stop =>
      rintro D c pre W hD ⟨k, hk, hpre⟩ ⟨⟨rfl, ini, last, rfl, e2, e3, hbR⟩, hB⟩ hK
      have hS : sgn x y = sgn (lim x last.1) (lim y last.1) := first_tells (n := (limbs x).length) rfl (by rw [HLB.out, HLA.out]) hk hpre e2 e3
      have HS := Lib.hid hS
      clear hS hpre e2 e3
      gi_wp2
      refine ⟨by simp, .inl ⟨_, _, rfl, run_takeDeferred hK, ?_⟩⟩
      have hc5 := cell_kept hbR.cell (grownBy_putObj' _ D (.deferred none)) (fun r e => by cases e; exact ⟨_, hK, rfl⟩)
      refine ⟨.int .i64 (sgn (lim x last.1) (lim y last.1)), ?_, by rw [HS.out], hB.trans (belowK_b (w := w) (Nat.le_refl _) W D _ _ (by simp at hD; omega) hK rfl rfl)⟩
      simp [results, Tryd.results65, go_sem, hc5]
  · have e1 : ((la : Int) != lb) = true := by rw [bne_iff_ne]; omega
    have HS : Hid (sgn la lb = sgn x y) := Lib.hid (by
      rw [← HLA.out, ← HLB.out] at hne ⊢
      rcases Nat.lt_or_ge (limbs x).length (limbs y).length with h | h
      · have := len_lt h
        unfold sgn; rw [if_pos h, if_pos this]
      · have h' : (limbs y).length < (limbs x).length := by omega
        have := len_lt h'
        unfold sgn; rw [if_neg (by omega), if_pos h', if_neg (by omega), if_pos this])
    go_enter Tryd.func65, Tryd.ntmps65
    go_wp2_with (go_at_call 83; refine (CompareInt_any _ _ _).mono ?_; rintro e w' ⟨rfl, rfl⟩)
    refine bodyPost_ret (v := .int .i64 (sgn la lb)) ?_ rfl ⟨by rw [HS.out], ?_⟩
    · simp [results, Tryd.results65, go_sem]
    exact ((Below.refl w.heap.size w).alloc (Nat.le_refl _) _).alloc (by simp) _

end Go.Proofs.YtjgbhnbfojkhoaaDoor
namespace Go.Proofs.YtjgbhnbfojkhoaaDoor
open Go.RowKit

/-- Block B holds the cells cs, of type t, none of them frozen. -/
def Blk (W : World) (B : Nat) (cs : Array Value) (t : TypeId) : Prop := W.heap[B]? = some (.cells cs t (0, 0))
theorem Blk.lt {W : World} {B : Nat} {cs : Array Value} {t : TypeId} (h : Blk W B cs t) : B < W.heap.size := (Array.getElem?_eq_some_iff.1 h).1
theorem Blk.cell {W : World} {B : Nat} {cs : Array Value} {t : TypeId} (h : Blk W B cs t) (i : Nat) : W.cell? ⟨B, i, none⟩ = cs[i]? := by simp [World.cell?, show W.heap[B]? = _ from h]
theorem Blk.frozen {W : World} {B : Nat} {cs : Array Value} {t : TypeId} (h : Blk W B cs t) (i : Nat) : W.frozen? ⟨B, i, none⟩ = false := by simp [World.frozen?, show W.heap[B]? = _ from h]
theorem Blk.new (W : World) (cs : Array Value) (t : TypeId) : Blk (W.alloc (.cells cs t)) W.heap.size cs t := World.alloc_heap_new W _
theorem Blk.below {W W' : World} {B : Nat} {cs : Array Value} {t : TypeId} (h : Blk W B cs t) (hb : Below W.heap.size W W') : Blk W' B cs t := (hb.block B h.lt).trans h
theorem Blk.alloc {W : World} {B : Nat} {cs : Array Value} {t : TypeId} (h : Blk W B cs t) (o : Obj) : Blk (W.alloc o) B cs t := h.below ((Below.refl _ W).alloc (Nat.le_refl _) o)

theorem Blk.set {W : World} {B : Nat} {cs : Array Value} {t : TypeId} (h : Blk W B cs t) (i : Nat) (u : Value) : Blk (W.setCell ⟨B, i, none⟩ u) B (cs.setIfInBounds i u) t := heap_setCell_same W B i cs t u h
theorem Blk.other {W : World} {B : Nat} {cs : Array Value} {t : TypeId} (h : Blk W B cs t) {p : Addr} (hp : B ≠ p.block) (u : Value) : Blk (W.setCell p u) B cs t := by
  unfold Blk
  rw [Below.heap_setCell _ _ _ _ hp]
  exact h
/-- A block of two cells, both written. -/
theorem Blk.set2 {W : World} {B : Nat} {a b : Value} {t : TypeId} (h : Blk W B #[a, b] t) (x y : Value) : Blk ((W.setCell ⟨B, 0, none⟩ x).setCell ⟨B, 1, none⟩ y) B #[x, y] t := (h.set 0 x).set 1 y

/-- A size stands where a block of another type is written. -/
theorem Own.far {lo : Nat} {w : World} {v : Value} {l : List Nat} {B : Nat} {cs : Array Value} {t : TypeId} (h : Own lo w v l) (hk : Blk w B cs t) (ht : t ≠ 100) (i : Nat) (u : Value) : Own lo (w.setCell ⟨B, i, none⟩ u) v l := by
  obtain ⟨h1, h2⟩ := h
  refine ⟨h1, ?_⟩
  rcases h2 with h2 | ⟨g, cap, cur, h2, h3, h4, h5⟩
  · exact .inl h2
  · refine .inr ⟨g, cap, cur, h2, h3, ?_, h5⟩
    rw [Below.heap_setCell _ _ _ _ (fun e => ?_)]
    · exact h4
    · have e : g = B := e
      subst e
      have := (show w.heap[g]? = _ from hk).symm.trans h4
      simp at this
      exact ht this.2
theorem Sz.far2 {lo : Nat} {w : World} {v : Value} {n : Nat} {B : Nat} {a b : Value} {t : TypeId} (h : Sz lo w v n) (hk : Blk w B #[a, b] t) (ht : t ≠ 100) (x y : Value) : Sz lo ((w.setCell ⟨B, 0, none⟩ x).setCell ⟨B, 1, none⟩ y) v n := Own.far (Own.far h hk ht 0 x) (hk.set 0 x) ht 1 y

end Go.Proofs.YtjgbhnbfojkhoaaDoor
