/- slices.Grow of nil, slices.Concat: of strings, of values -/
import Derived.Lib.AppendZeros
import Derived.Handy
import Derived.Test.YtjgbhnbfojkhoaaGreatDoorOw17
namespace Go.Proofs.YtjgbhnbfojkhoaaGreatDoor
open Go.RowKit Go.Sort Go.Shelf
set_option linter.unusedVariables false

/-- A slice that is read: m elements of k cells. -/
def PartAt (k : Nat) (W : World) (v : Value) (us : List Value) (m : Nat) : Prop := us.length = m * k ∧ (∀ u ∈ us, u.oneCell' = true) ∧ ∃ ad c, v = .slice ad m c ∧ (ad = none → m = 0) ∧ (∀ a, ad = some a → ∀ j u, us[j]? = some u → a.block < W.heap.size ∧ W.cell? (a.add j) = some u)
theorem add_block (a : Addr) (j : Nat) : (a.add j).block = a.block := by unfold Addr.add; split <;> simp
theorem PartAt.later {k : Nat} {W W' : World} {v : Value} {us : List Value} {m : Nat} (h : PartAt k W v us m) (hb : Below W.heap.size W W') : PartAt k W' v us m := by
  obtain ⟨h1, h2, ad, c, h3, h4, h5⟩ := h
  refine ⟨h1, h2, ad, c, h3, h4, fun a ha j u hu => ?_⟩
  obtain ⟨h6, h7⟩ := h5 a ha j u hu
  exact ⟨Nat.lt_of_lt_of_le h6 hb.size, (hb.cell (by rw [add_block]; exact h6)).trans h7⟩
theorem run_append_none' {P : Program} (w : World) (base : Nat) (t ty e : TypeId) (i : TypeInfo) (size : Nat) (ht : P.underlying t = some (.slice e)) (hi : P.info? e = some i)
    (v : Value) (n c : Nat) (xs : List Value) (hown : w.ownsRow base e size v n xs) :
    (Builtin.append_ #[t, t] ty #[v, .slice none 0 c]).run P w = .ok v w := by
  rcases hown.2 with ⟨rfl, rfl⟩ | ⟨g, cap, cur, rfl, _, _, hnc, _⟩
  · simp [Builtin.append_, run_underlying ht, sizeOf, typeInfo, hi, Builtin.lenOf, Builtin.firstCells]
  · simp [Builtin.append_, run_underlying ht, sizeOf, typeInfo, hi, Builtin.lenOf, Builtin.firstCells, hnc, storeCells]
theorem run_append_part {P : Program} {w : World} {base : Nat} {t ty e : TypeId} {i : TypeInfo} {z : Value} {size bytes : Nat} (ht : P.underlying t = some (.slice e)) (hi : P.info? e = some i) (hz : i.zero = some z)
    (hsize : i.size = size) (hby : i.bytes = bytes) (hzs : z.cells.size = size) (hsz : 0 < size)
    {v x : Value} {n m : Nat} {xs us : List Value} (hown : w.ownsRow base e size v n xs) (hp : PartAt size w x us m)
    (h63 : n + m ≤ maxLen) (hbytes : (n + m) * bytes ≤ 140737488355328) (hbase : base ≤ w.heap.size) :
    ∃ v' w', (Builtin.append_ #[t, t] ty #[v, x]).run P w = .ok v' w' ∧ w'.ownsRow base e size v' (n + m) (xs ++ us) ∧ w.grownBy w' v.ownBlock := by
  obtain ⟨h1, h2, ad, c, rfl, h4, h5⟩ := hp
  cases ad with
  | none =>
    obtain rfl := h4 rfl
    have : us = [] := List.length_eq_zero_iff.1 (by rw [h1]; simp)
    subst this
    exact ⟨v, w, run_append_none' w base t ty e i size ht hi v n c xs hown, by rw [List.append_nil]; exact hown, ⟨rfl, rfl, rfl, Nat.le_refl _, fun _ _ _ => rfl⟩⟩
  | some a =>
    obtain ⟨v', w', h8, h9, h10, -⟩ := run_append_own (P := P) w base t ty e i z size bytes ht hi hz hsize hby hzs hsz v n xs hown a m c us h1 (fun j u hu => (h5 a rfl j u hu).2) h2 h63 hbytes hbase
    exact ⟨v', w', h8, h9, h10⟩
/-- A part: its slice, its cells, its length. -/
structure Part where
  v : Value
  us : List Value
  m : Nat
def sumM : List Part → Nat
  | [] => 0
  | x :: l => x.m + sumM l
theorem sumM_take : ∀ {l : List Part} {j : Nat} (h : j < l.length), sumM (l.take (j + 1)) = sumM (l.take j) + l[j].m
  | x :: l, 0, _ => by simp [sumM]
  | x :: l, j + 1, h => by
    have := sumM_take (l := l) (j := j) (by simpa using h)
    simp only [List.take_succ_cons, sumM, List.getElem_cons_succ]
    rw [this]; omega
theorem sumM_le : ∀ (l : List Part) (j : Nat), sumM (l.take j) ≤ sumM l
  | [], j => by simp
  | x :: l, 0 => by simp [sumM]
  | x :: l, j + 1 => by have := sumM_le l j; simp only [List.take_succ_cons, sumM]; omega

set_option maxRecDepth 100000 in
set_option maxHeartbeats 2000000 in
theorem growS_any (n : Nat) (hn : n ≤ 4000000) (W : World) : Calls Tryz.prog 84 #[.slice none 0 0, .int .i64 (n : Int)] W fun e w' => (∃ v', e = .returned v' ∧ w'.ownsRow W.heap.size 9 1 v' 0 []) ∧ Below W.heap.size W w' := by
  obtain ⟨iS, hiS, hzS, hsS, hbS⟩ := info_parts Tryz.infoStr
  have h1 : ¬ ((n : Int) < 0) := by omega
  have h3 : wrap64 (n : Int) = n := by unfold wrap64; omega
  rcases Nat.eq_zero_or_pos n with h0 | h0
  · subst h0
    go_enter Tryz.func84, Tryz.ntmps84
    go_wp2
    go_ret
    exact ⟨⟨_, rfl, World.ownsRow_nil _ _ _ _⟩, Below.refl _ _⟩
  · have h4 : (0 : Int) < (n : Int) := by omega
    have hrun := Lib.run_append_nil_zeros (P := Tryz.prog) W 24 3 24 9 iS (Value.string ⟨#[]⟩) .i64 .i64 Tryz.underlying24 Tryz.underlying3 hiS hzS n h0 (by rw [hsS]; decide) (by omega) (by rw [hbS]; omega)
    have hrow : ((W.drew.alloc (.cells (Builtin.zeroCells (Value.string ⟨#[]⟩).cells n ++ Builtin.zeroCells (Value.string ⟨#[]⟩).cells (grownCap W n 0 9 - n)) 9))).ownsRow W.heap.size 9 1 (.slice (some ⟨W.heap.size, 0, none⟩) 0 (grownCap W n 0 9)) 0 [] := by
      refine World.ownsRow_made W.drew _ _ (Nat.le_refl _) (grownCap_le_maxLen W n 0 9 (by unfold maxLen; omega)) ?_
      have hge := grownCap_ge W n 0 9
      rw [Array.size_append, size_zeroCells, size_zeroCells, ← Nat.add_mul, show n + (grownCap W n 0 9 - n) = grownCap W n 0 9 by omega]
      rfl
    have hbel : Below W.heap.size W (W.drew.alloc (.cells (Builtin.zeroCells (Value.string ⟨#[]⟩).cells n ++ Builtin.zeroCells (Value.string ⟨#[]⟩).cells (grownCap W n 0 9 - n)) 9)) := (Below.refl _ W).drew.alloc (Nat.le_refl _) _
    have HROW := Lib.hid hrow
    have HBEL := Lib.hid hbel
    clear hrow hbel
    go_enter Tryz.func84, Tryz.ntmps84
    generalize (W.drew.alloc (.cells (Builtin.zeroCells (Value.string ⟨#[]⟩).cells n ++ Builtin.zeroCells (Value.string ⟨#[]⟩).cells (grownCap W n 0 9 - n)) 9)) = W2 at *
    have hcz : (0 : Int) ≤ (grownCap W n 0 9 : Int) := by omega
    generalize grownCap W n 0 9 = gc at *
    go_wp2_with (at_builtin; refine Lib.wpList_append_run _ rfl _ _ _ _ rfl _ _ rfl rfl _ _ hrun ?_)
    go_ret
    exact ⟨⟨_, rfl, HROW.out⟩, HBEL.out⟩

set_option maxRecDepth 100000 in
set_option maxHeartbeats 4000000 in
theorem concatS_any {W : World} {S : Nat} (ps : List Part) (hps : ∀ x ∈ ps, PartAt 1 W x.v x.us x.m) (hN : ps.length ≤ 10) (hsum : sumM ps ≤ 2000000) (hS : S < W.heap.size) (hcells : ∀ j (h : j < ps.length), W.cell? ⟨S, j, none⟩ = some ps[j].v) (W' : World) (hb : Below W.heap.size W W') :
    Calls Tryz.prog 53 #[.slice (some ⟨S, 0, none⟩) ps.length ps.length] W' fun e w' => (∃ v', e = .returned v' ∧ w'.ownsRow W'.heap.size 9 1 v' (sumM ps) (ps.flatMap Part.us)) ∧ Below W'.heap.size W' w' := by
  obtain ⟨iS, hiS, hzS, hsS, hbS⟩ := info_parts Tryz.infoStr
  have HPS := Lib.hid hps
  have HCE := Lib.hid hcells
  obtain ⟨N, hNN⟩ : ∃ N, ps.length = N := ⟨_, rfl⟩
  have HN := Lib.hid hNN
  rw [hNN] at hN ⊢
  have HBw := Lib.hid hb
  have HGr := Lib.hid (fun (n : Nat) (hn : n ≤ 4000000) (W : World) => growS_any n hn W)
  clear hps hcells hNN hb
  go_enter Tryz.func53, Tryz.ntmps53
  go_wp2_with fail
  go_loop [3, 11] (fun zv jv => ∃ (z j : Nat), zv = .int .i64 z ∧ jv = .int .i64 j ∧ j ≤ N ∧ Hid (z = sumM (ps.take j))) (fun _ jv => N - (intOf jv).toNat)
  case atStart => exact ⟨0, 0, rfl, rfl, by omega, Lib.hid (by simp [sumM])⟩
  case round =>
    obtain ⟨z, j, rfl, rfl, hj, HZ⟩ := hrel
    have i1 : (0 : Int) ≤ (j : Int) := by omega
    by_cases hlt : j < N
    · have i2 : (j : Int) < (N : Int) := by omega
      have hjp : j < ps.length := by have := HN.out; omega
      have hcl := (HBw.out.cell (p := ⟨S, j, none⟩) hS).trans (HCE.out j hjp)
      have hpt := HPS.out ps[j] (List.getElem_mem hjp)
      have hsm := sumM_take hjp
      have hle := sumM_le ps (j + 1)
      obtain ⟨x, hx⟩ : ∃ x, ps[j] = x := ⟨_, rfl⟩
      rw [hx] at hcl hpt hsm
      obtain ⟨-, -, ad, c, exv, -⟩ := hpt
      rw [exv] at hcl
      obtain ⟨m, hm⟩ : ∃ m, x.m = m := ⟨_, rfl⟩
      rw [hm] at hcl hsm
      obtain ⟨s, hs⟩ : ∃ s, z + m = s := ⟨_, rfl⟩
      have hz := HZ.out
      have hs2 : s ≤ 2000000 := by omega
      have hw : wrap64 ((z : Int) + (m : Int)) = (s : Int) := by unfold wrap64; omega
      have hneg : ¬ ((s : Int) < 0) := Int.not_lt.2 (Int.natCast_nonneg s)
      have HS : Hid (s = sumM (ps.take (j + 1))) := Lib.hid (by omega)
      clear hz hs hsm hle hx exv hm
      go_wp2_with fail
      go_round
      case rel => exact ⟨s, j + 1, by first | rfl | rw [hw], by go_num, by omega, HS⟩
      case measure => simp [intOf]; omega
    · obtain rfl : j = N := by omega
      have hzs : z ≤ 4000000 := by have := HZ.out; have := sumM_le ps j; omega
      have HGz := Lib.hid (HGr.out z hzs W')
      clear HGr
      go_wp2_with fail
      go_at_call 84; refine HGz.out.mono ?_; rintro e w1 ⟨⟨v1, rfl, hrow1⟩, hb1⟩
      obtain ⟨ad1, cap1, rfl⟩ := row_shape hrow1
      have HR1 := Lib.hid hrow1
      have HB1 := Lib.hid hb1
      clear hrow1 hb1 HGz
      go_wp2_with fail
      go_loopw [6, 27] (fun vv jv wr => ∃ (v2 : Value) (i : Nat), vv = v2 ∧ jv = .int .i64 i ∧ i ≤ j ∧ Hid (wr.ownsRow W'.heap.size 9 1 v2 (sumM (ps.take i)) ((ps.take i).flatMap Part.us) ∧ Below W'.heap.size W' wr)) (fun _ jv _ => j - (intOf jv).toNat)
      case atStart => exact ⟨_, 0, rfl, rfl, by omega, Lib.hid ⟨HR1.out, HB1.out⟩⟩
      case round =>
        obtain ⟨v2, i, rfl, rfl, hi, HRW⟩ := hrel
        clear HR1 HB1
        obtain ⟨ad2, cap2, rfl⟩ := row_shape HRW.out.1
        have i3 : (0 : Int) ≤ (i : Int) := by omega
        by_cases hlt2 : i < j
        · have i4 : (i : Int) < (j : Int) := by omega
          have hip : i < ps.length := by have := HN.out; omega
          have hcl := (HRW.out.2.cell (p := ⟨S, i, none⟩) (by have := HBw.out.size; show S < _; omega)).trans ((HBw.out.cell (p := ⟨S, i, none⟩) hS).trans (HCE.out i hip))
          have hpt := (((HPS.out ps[i] (List.getElem_mem hip)).later HBw.out).later HRW.out.2)
          have hsm := sumM_take hip
          have hle := sumM_le ps (i + 1)
          have htk : (ps.take (i + 1)).flatMap Part.us = (ps.take i).flatMap Part.us ++ ps[i].us := by rw [List.take_succ_eq_append_getElem hip, List.flatMap_append]; simp
          obtain ⟨x, hx⟩ : ∃ x, ps[i] = x := ⟨_, rfl⟩
          rw [hx] at hcl hpt hsm htk
          obtain ⟨v', w', hrun, hrow', hgr'⟩ := run_append_part (P := Tryz.prog) (t := 24) (ty := 24) Tryz.underlying24 hiS hzS hsS hbS rfl (by decide) HRW.out.1 hpt (by unfold maxLen; omega) (by omega) HRW.out.2.size
          have HNEW : Hid (w'.ownsRow W'.heap.size 9 1 v' (sumM (ps.take (i + 1))) ((ps.take (i + 1)).flatMap Part.us) ∧ Below W'.heap.size W' w') := Lib.hid ⟨by rw [hsm, htk]; exact hrow', HRW.out.2.grown hgr' HRW.out.2.size (fun g hg => (HRW.out.1.lt g hg).1)⟩
          obtain ⟨-, -, adx, cx, exv, -⟩ := hpt
          rw [exv] at hcl hrun
          generalize sumM (ps.take i) = s2 at *
          generalize x.m = mx at *
          clear hrow' hgr' hsm hle htk hx exv
          go_wp2_with (at_builtin; refine Lib.wpList_append_run _ rfl _ _ _ _ rfl _ _ rfl rfl _ _ hrun ?_)
          go_roundw
          case rel => exact ⟨_, i + 1, rfl, by go_num, by omega, HNEW⟩
          case measure => simp [intOf]; omega
        · obtain rfl : i = j := by omega
          have htl : ps.take i = ps := List.take_of_length_le (by have := HN.out; omega)
          have HFIN : Hid (wr.ownsRow W'.heap.size 9 1 (.slice ad2 (sumM (ps.take i)) cap2) (sumM ps) (ps.flatMap Part.us) ∧ Below W'.heap.size W' wr) := Lib.hid (by have := HRW.out; rw [htl] at this ⊢; exact this)
          clear htl
          generalize sumM (ps.take i) = s2 at *
          go_wp2_with fail
          go_ret
          exact ⟨⟨_, rfl, HFIN.out.1⟩, HFIN.out.2⟩

set_option maxRecDepth 100000 in
set_option maxHeartbeats 2000000 in
theorem growV_any (n : Nat) (hn : n ≤ 4000000) (W : World) : Calls Tryz.prog 85 #[.slice none 0 0, .int .i64 (n : Int)] W fun e w' => (∃ v', e = .returned v' ∧ w'.ownsRow W.heap.size 26 5 v' 0 []) ∧ Below W.heap.size W w' := by
  obtain ⟨iV, zV, hiS, hzS, hzV5, hsS, hbS⟩ := info_val
  have h1 : ¬ ((n : Int) < 0) := by omega
  have h3 : wrap64 (n : Int) = n := by unfold wrap64; omega
  rcases Nat.eq_zero_or_pos n with h0 | h0
  · subst h0
    go_enter Tryz.func85, Tryz.ntmps85
    go_wp2
    go_ret
    exact ⟨⟨_, rfl, World.ownsRow_nil _ _ _ _⟩, Below.refl _ _⟩
  · have h4 : (0 : Int) < (n : Int) := by omega
    have hrun := Lib.run_append_nil_zeros (P := Tryz.prog) W 23 3 23 26 iV zV .i64 .i64 Tryz.underlying23 Tryz.underlying3 hiS hzS n h0 (by rw [hsS]; decide) (by omega) (by rw [hbS]; omega)
    have hrow : ((W.drew.alloc (.cells (Builtin.zeroCells zV.cells n ++ Builtin.zeroCells zV.cells (grownCap W n 0 26 - n)) 26))).ownsRow W.heap.size 26 5 (.slice (some ⟨W.heap.size, 0, none⟩) 0 (grownCap W n 0 26)) 0 [] := by
      refine World.ownsRow_made W.drew _ _ (Nat.le_refl _) (grownCap_le_maxLen W n 0 26 (by unfold maxLen; omega)) ?_
      have hge := grownCap_ge W n 0 26
      rw [Array.size_append, size_zeroCells, size_zeroCells, ← Nat.add_mul, show n + (grownCap W n 0 26 - n) = grownCap W n 0 26 by omega]
      rw [hzV5]; rfl
    have hbel : Below W.heap.size W (W.drew.alloc (.cells (Builtin.zeroCells zV.cells n ++ Builtin.zeroCells zV.cells (grownCap W n 0 26 - n)) 26)) := (Below.refl _ W).drew.alloc (Nat.le_refl _) _
    have HROW := Lib.hid hrow
    have HBEL := Lib.hid hbel
    clear hrow hbel
    go_enter Tryz.func85, Tryz.ntmps85
    generalize (W.drew.alloc (.cells (Builtin.zeroCells zV.cells n ++ Builtin.zeroCells zV.cells (grownCap W n 0 26 - n)) 26)) = W2 at *
    have hcz : (0 : Int) ≤ (grownCap W n 0 26 : Int) := by omega
    generalize grownCap W n 0 26 = gc at *
    go_wp2_with (at_builtin; refine Lib.wpList_append_run _ rfl _ _ _ _ rfl _ _ rfl rfl _ _ hrun ?_)
    go_ret
    exact ⟨⟨_, rfl, HROW.out⟩, HBEL.out⟩

set_option maxRecDepth 100000 in
set_option maxHeartbeats 4000000 in
theorem concatV_any {W : World} {S : Nat} (ps : List Part) (hps : ∀ x ∈ ps, PartAt 5 W x.v x.us x.m) (hN : ps.length ≤ 10) (hsum : sumM ps ≤ 2000000) (hS : S < W.heap.size) (hcells : ∀ j (h : j < ps.length), W.cell? ⟨S, j, none⟩ = some ps[j].v) (W' : World) (hb : Below W.heap.size W W') :
    Calls Tryz.prog 55 #[.slice (some ⟨S, 0, none⟩) ps.length ps.length] W' fun e w' => (∃ v', e = .returned v' ∧ w'.ownsRow W'.heap.size 26 5 v' (sumM ps) (ps.flatMap Part.us)) ∧ Below W'.heap.size W' w' := by
  obtain ⟨iV, zV, hiS, hzS, hzV5, hsS, hbS⟩ := info_val
  have HPS := Lib.hid hps
  have HCE := Lib.hid hcells
  obtain ⟨N, hNN⟩ : ∃ N, ps.length = N := ⟨_, rfl⟩
  have HN := Lib.hid hNN
  rw [hNN] at hN ⊢
  have HBw := Lib.hid hb
  have HGr := Lib.hid (fun (n : Nat) (hn : n ≤ 4000000) (W : World) => growV_any n hn W)
  clear hps hcells hNN hb
  go_enter Tryz.func55, Tryz.ntmps55
  go_wp2_with fail
  go_loop [3, 11] (fun zv jv => ∃ (z j : Nat), zv = .int .i64 z ∧ jv = .int .i64 j ∧ j ≤ N ∧ Hid (z = sumM (ps.take j))) (fun _ jv => N - (intOf jv).toNat)
  case atStart => exact ⟨0, 0, rfl, rfl, by omega, Lib.hid (by simp [sumM])⟩
  case round =>
    obtain ⟨z, j, rfl, rfl, hj, HZ⟩ := hrel
    have i1 : (0 : Int) ≤ (j : Int) := by omega
    by_cases hlt : j < N
    · have i2 : (j : Int) < (N : Int) := by omega
      have hjp : j < ps.length := by have := HN.out; omega
      have hcl := (HBw.out.cell (p := ⟨S, j, none⟩) hS).trans (HCE.out j hjp)
      have hpt := HPS.out ps[j] (List.getElem_mem hjp)
      have hsm := sumM_take hjp
      have hle := sumM_le ps (j + 1)
      obtain ⟨x, hx⟩ : ∃ x, ps[j] = x := ⟨_, rfl⟩
      rw [hx] at hcl hpt hsm
      obtain ⟨-, -, ad, c, exv, -⟩ := hpt
      rw [exv] at hcl
      obtain ⟨m, hm⟩ : ∃ m, x.m = m := ⟨_, rfl⟩
      rw [hm] at hcl hsm
      obtain ⟨s, hs⟩ : ∃ s, z + m = s := ⟨_, rfl⟩
      have hz := HZ.out
      have hs2 : s ≤ 2000000 := by omega
      have hw : wrap64 ((z : Int) + (m : Int)) = (s : Int) := by unfold wrap64; omega
      have hneg : ¬ ((s : Int) < 0) := Int.not_lt.2 (Int.natCast_nonneg s)
      have HS : Hid (s = sumM (ps.take (j + 1))) := Lib.hid (by omega)
      clear hz hs hsm hle hx exv hm
      go_wp2_with fail
      go_round
      case rel => exact ⟨s, j + 1, by first | rfl | rw [hw], by go_num, by omega, HS⟩
      case measure => simp [intOf]; omega
    · obtain rfl : j = N := by omega
      have hzs : z ≤ 4000000 := by have := HZ.out; have := sumM_le ps j; omega
      have HGz := Lib.hid (HGr.out z hzs W')
      clear HGr
      go_wp2_with fail
      go_at_call 85; refine HGz.out.mono ?_; rintro e w1 ⟨⟨v1, rfl, hrow1⟩, hb1⟩
      obtain ⟨ad1, cap1, rfl⟩ := row_shape hrow1
      have HR1 := Lib.hid hrow1
      have HB1 := Lib.hid hb1
      clear hrow1 hb1 HGz
      go_wp2_with fail
      go_loopw [6, 27] (fun vv jv wr => ∃ (v2 : Value) (i : Nat), vv = v2 ∧ jv = .int .i64 i ∧ i ≤ j ∧ Hid (wr.ownsRow W'.heap.size 26 5 v2 (sumM (ps.take i)) ((ps.take i).flatMap Part.us) ∧ Below W'.heap.size W' wr)) (fun _ jv _ => j - (intOf jv).toNat)
      case atStart => exact ⟨_, 0, rfl, rfl, by omega, Lib.hid ⟨HR1.out, HB1.out⟩⟩
      case round =>
        obtain ⟨v2, i, rfl, rfl, hi, HRW⟩ := hrel
        clear HR1 HB1
        obtain ⟨ad2, cap2, rfl⟩ := row_shape HRW.out.1
        have i3 : (0 : Int) ≤ (i : Int) := by omega
        by_cases hlt2 : i < j
        · have i4 : (i : Int) < (j : Int) := by omega
          have hip : i < ps.length := by have := HN.out; omega
          have hcl := (HRW.out.2.cell (p := ⟨S, i, none⟩) (by have := HBw.out.size; show S < _; omega)).trans ((HBw.out.cell (p := ⟨S, i, none⟩) hS).trans (HCE.out i hip))
          have hpt := (((HPS.out ps[i] (List.getElem_mem hip)).later HBw.out).later HRW.out.2)
          have hsm := sumM_take hip
          have hle := sumM_le ps (i + 1)
          have htk : (ps.take (i + 1)).flatMap Part.us = (ps.take i).flatMap Part.us ++ ps[i].us := by rw [List.take_succ_eq_append_getElem hip, List.flatMap_append]; simp
          obtain ⟨x, hx⟩ : ∃ x, ps[i] = x := ⟨_, rfl⟩
          rw [hx] at hcl hpt hsm htk
          obtain ⟨v', w', hrun, hrow', hgr'⟩ := run_append_part (P := Tryz.prog) (t := 23) (ty := 23) Tryz.underlying23 hiS hzS hsS hbS (by rw [hzV5]; rfl) (by decide) HRW.out.1 hpt (by unfold maxLen; omega) (by omega) HRW.out.2.size
          have HNEW : Hid (w'.ownsRow W'.heap.size 26 5 v' (sumM (ps.take (i + 1))) ((ps.take (i + 1)).flatMap Part.us) ∧ Below W'.heap.size W' w') := Lib.hid ⟨by rw [hsm, htk]; exact hrow', HRW.out.2.grown hgr' HRW.out.2.size (fun g hg => (HRW.out.1.lt g hg).1)⟩
          obtain ⟨-, -, adx, cx, exv, -⟩ := hpt
          rw [exv] at hcl hrun
          generalize sumM (ps.take i) = s2 at *
          generalize x.m = mx at *
          clear hrow' hgr' hsm hle htk hx exv
          go_wp2_with (at_builtin; refine Lib.wpList_append_run _ rfl _ _ _ _ rfl _ _ rfl rfl _ _ hrun ?_)
          go_roundw
          case rel => exact ⟨_, i + 1, rfl, by go_num, by omega, HNEW⟩
          case measure => simp [intOf]; omega
        · obtain rfl : i = j := by omega
          have htl : ps.take i = ps := List.take_of_length_le (by have := HN.out; omega)
          have HFIN : Hid (wr.ownsRow W'.heap.size 26 5 (.slice ad2 (sumM (ps.take i)) cap2) (sumM ps) (ps.flatMap Part.us) ∧ Below W'.heap.size W' wr) := Lib.hid (by have := HRW.out; rw [htl] at this ⊢; exact this)
          clear htl
          generalize sumM (ps.take i) = s2 at *
          go_wp2_with fail
          go_ret
          exact ⟨⟨_, rfl, HFIN.out.1⟩, HFIN.out.2⟩

end Go.Proofs.YtjgbhnbfojkhoaaGreatDoor
