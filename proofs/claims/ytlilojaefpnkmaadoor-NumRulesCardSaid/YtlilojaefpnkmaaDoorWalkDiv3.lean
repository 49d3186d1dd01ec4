/- divideSizes. -/
import Derived.Test.YtlilojaefpnkmaaDoorLong
namespace Go.Proofs.YtlilojaefpnkmaaDoor
open Go.RowKit Go.Shelf

attribute [local go_sem] Oper.semAt_some

/-- divideSizes' three variables: b, the quotient, the rest. -/
def St (w W : World) (vb vq vr : Value) : Prop := Below w.heap.size w W ∧ Boxed W w.heap.size 51 vb ∧ Boxed W (w.heap.size + 1) 51 vq ∧ Boxed W (w.heap.size + 1 + 1) 51 vr
theorem St.below {w W W' : World} {vb vq vr : Value} (h : St w W vb vq vr) (hb : Below W.heap.size W W') : St w W' vb vq vr :=
  ⟨h.1.trans (hb.mono h.1.size), (hb.block _ h.2.1.lt).trans h.2.1, (hb.block _ h.2.2.1.lt).trans h.2.2.1, (hb.block _ h.2.2.2.lt).trans h.2.2.2⟩

/-- The scale that makes the divisor's last limb great. -/
def scaleOf (b : Nat) : Nat := 1000000000 / (lim b ((limbs b).length - 1) + 1)

theorem St.setB {w W : World} {vb vq vr : Value} (h : St w W vb vq vr) (u : Value) : St w (W.setCell ⟨w.heap.size, 0, none⟩ u) u vq vr :=
  ⟨h.1.setCell (p := ⟨w.heap.size, 0, none⟩) (Nat.le_refl _) _, h.2.1.set u, box_other h.2.2.1 (by simp) u, box_other h.2.2.2 (by simp; omega) u⟩
theorem lval_one (s : Nat) : lval [s] = s := by simp [lval]

theorem St.setQ {w W : World} {vb vq vr : Value} (h : St w W vb vq vr) (u : Value) : St w (W.setCell ⟨w.heap.size + 1, 0, none⟩ u) vb u vr :=
  ⟨h.1.setCell (p := ⟨w.heap.size + 1, 0, none⟩) (by simp) _, box_other h.2.1 (by simp) u, h.2.2.1.set u, box_other h.2.2.2 (by simp) u⟩
theorem size_setCell (W : World) (p : Addr) (u : Value) : (W.setCell p u).heap.size = W.heap.size := Nat.le_antisymm (by simp [World.setCell]) (by simp [World.setCell])
theorem nil_zero (lo : Nat) (W : World) : Sz lo W (.slice none 0 0) 0 := by unfold Sz; rw [limbs_zero]; exact Own.nil

/-- Behind the scaling: a and b are new. -/
def Cut2 (w : World) (_ : Option Addr) (_ g m capb _ r s a b : Nat) (e : Exit) (a' : Act) (W' : World) : Prop :=
  e = .normal ∧ ∃ va vb u1 u2 u3 u4 u5 u6 u7 u8, a' = { tmps := #[va, .slice (some ⟨g, 0, none⟩) (m + 1) capb, undef, .pointer (some ⟨w.heap.size, 0, none⟩), .pointer (some ⟨w.heap.size + 1, 0, none⟩), .pointer (some ⟨w.heap.size + 1 + 1, 0, none⟩), .int .u64 (s : Int), undef, undef, .slice (some ⟨g, 0, none⟩) (m + 1) capb, .slice (some ⟨g, 0, none⟩) (m + 1) capb, .int .i64 ((m : Int) + 1), .int .i64 (m : Int), .pointer (some ⟨g, m, none⟩), .int .u64 (r : Int), .int .u64 ((r : Int) + 1), .int .u64 (s : Int), u1, u2, u3, u4, u5, u6, u7, u8, undef, undef, undef, undef, undef, undef, undef, undef, undef, undef, undef, undef, undef, undef, undef, undef, undef, undef, undef, undef, undef, undef, undef, undef, undef, undef], defers := [] } ∧
    St w W' vb (.slice none 0 0) (.slice none 0 0) ∧ Sz w.heap.size W' va (a * s) ∧ Sz w.heap.size W' vb (b * s)

set_option maxRecDepth 100000 in
set_option maxHeartbeats 4000000 in
theorem divideSizes_any {w : World} {va vb : Value} {a b : Nat} (ha : Sz 0 w va a) (hb : Sz 0 w vb b) (hb0 : 0 < b) (hla : (limbs a).length ≤ 800000) (hlb : (limbs b).length ≤ 800000) :
    Calls Tryd.prog 54 #[va, vb] w fun e w' => ∃ v1 v2, e = .returned (.tuple #[v1, v2]) ∧ Sz w.heap.size w' v1 (a / b) ∧ Sz w.heap.size w' v2 (a % b) ∧ Below w.heap.size w w' := by
  have HA := Lib.hid ha
  have HB := Lib.hid hb
  obtain ⟨ada, capa, rfl, -, -, -⟩ := ha.view
  obtain ⟨adb, capb, rfl, -, -, hcb⟩ := hb.view
  obtain ⟨la, hlae⟩ : ∃ k, (limbs a).length = k := ⟨_, rfl⟩
  obtain ⟨m, hn⟩ : ∃ k, (limbs b).length = k + 1 := ⟨(limbs b).length - 1, by have := len_pos hb0; omega⟩
  have hsc : scaleOf b = 1000000000 / (lim b m + 1) := by unfold scaleOf; rw [hn]; rfl
  rw [hn] at hcb hlb HB ⊢
  rw [hlae] at hla HA ⊢
  obtain ⟨g, rfl, -, hgs, hcs⟩ := hcb (by omega)
  have hcl := hcs m (by omega)
  rw [limbs_getD] at hcl
  have hb3 := lim_lt b m
  obtain ⟨r, hr⟩ : ∃ r, lim b m = r := ⟨_, rfl⟩
  rw [hr] at hcl hsc hb3
  obtain ⟨s, hs⟩ : ∃ s, scaleOf b = s := ⟨_, rfl⟩
  rw [hs] at hsc
  have HSI : Hid ((1000000000 : Int) / ((r : Int) + 1) = (s : Int)) := Lib.hid (by rw [hsc, Int.natCast_ediv]; rfl)
  have hs1 : 1 ≤ s := by rw [hsc, Nat.le_div_iff_mul_le (by omega)]; omega
  have hr0 : r ≠ 0 := by
    rw [← hr]
    have hne : limbs b ≠ [] := by intro h; rw [h] at hn; simp at hn
    have := limbs_last b hne
    rw [List.getLast_eq_getElem, ← getD_in, limbs_getD, hn] at this
    exact this
  have hs9 : s < 1000000000 := by rw [hsc, Nat.div_lt_iff_lt_mul (by omega)]; omega
  have HLA : Hid ((limbs a).length ≤ 1000000) := Lib.hid (by omega)
  have HLB : Hid ((limbs b).length ≤ 1000000) := Lib.hid (by omega)
  have hmix : Tryd.prog.follows .mixedOrders = true := by kernel_rfl
  have HLAE := Lib.hid hlae
  have HN := Lib.hid hn
  obtain ⟨W0, hW0⟩ : ∃ W0, ((w.alloc (.cells #[.slice (some ⟨g, 0, none⟩) (m + 1) capb] 51)).alloc (.cells #[.slice none 0 0] 51)).alloc (.cells #[.slice none 0 0] 51) = W0 := ⟨_, rfl⟩
  have st0 : St w W0 (.slice (some ⟨g, 0, none⟩) (m + 1) capb) (.slice none 0 0) (.slice none 0 0) := by
    rw [← hW0]
    have b2 := Boxed.new (w.alloc (.cells #[.slice (some ⟨g, 0, none⟩) (m + 1) capb] 51)) 51 (.slice none 0 0)
    have b3 := Boxed.new ((w.alloc (.cells #[.slice (some ⟨g, 0, none⟩) (m + 1) capb] 51)).alloc (.cells #[.slice none 0 0] 51)) 51 (.slice none 0 0)
    rw [World.size_alloc] at b2
    rw [World.size_alloc, World.size_alloc] at b3
    exact ⟨(((Below.refl _ w).alloc (Nat.le_refl _) _).alloc (by simp) _).alloc (by simp; omega) _, ((Boxed.new w _ _).alloc _).alloc _, b2.alloc _, b3⟩
  have hcl0 := (st0.1.cell (p := ⟨g, m, none⟩) hgs).trans hcl
  have cB := st0.2.1.cell
  clear ha hb hcs hcb hlae hn hr hs hsc
  refine (callsIn_wide (n := 9)).1 ?_
  refine callsIn_of_wp_marks Tryd.func54 rfl trivial ?_ rfl
  simp only [Tryd.ntmps54, List.size_toArray, List.length_cons, List.length_nil, Nat.reduceAdd, Nat.reduceSub, Array.replicate_succ, Array.replicate_zero, List.push_toArray, List.append_toArray, List.nil_append, List.cons_append]
  gi_wp2
  rw [HSI.out]
  refine Code.wpIn_mono (Q := Cut2 w ada capa g m capb la r s a b) ?_ (wpIn_wide.2 ?_)
  rotate_left
  · clear hcl hcl0 hgs hW0
    refine wp_region_any hmix ?_
    change wpAny _ _ _ _ _ _ _ (World.drew _)
    have st := st0.below (Below.refl _ W0).drew
    have cB := st.2.1.cell
    obtain ⟨V0, hV0⟩ : ∃ V, W0.drew = V := ⟨_, rfl⟩
    rw [hV0] at st cB ⊢
    clear hV0 st0
    refine wpAny_take (i := 0) (oi := ⟨some 17, .move (.tmp 0), _, _, _, _⟩) (v := ?_) rfl (by kernel_rfl) (by kernel_rfl) (by kernel_rfl) (fun _ _ _ h => absurd h.1 (by simp)) (Or.inl ⟨by rfl, ?_⟩) ?_
    rotate_left
    · intro W'; go_simp; (try (with_reducible rfl))
    (try simp only [Act.put, List.setIfInBounds_toArray, List.set_cons_zero, List.set_cons_succ])
    refine wpAny_take (i := 1) (oi := ⟨some 18, .move (.tmp 6), _, _, _, _⟩) (v := ?_) rfl (by kernel_rfl) (by kernel_rfl) (by kernel_rfl) (fun _ _ _ h => absurd h.1 (by simp)) (Or.inl ⟨by rfl, ?_⟩) ?_
    rotate_left
    · intro W'; go_simp; (try (with_reducible rfl))
    (try simp only [Act.put, List.setIfInBounds_toArray, List.set_cons_zero, List.set_cons_succ])
    refine wpAny_take (i := 5) (oi := ⟨some 22, .move (.tmp 6), _, _, _, _⟩) (v := ?_) rfl (by kernel_rfl) (by kernel_rfl) (by kernel_rfl) (fun _ _ _ h => absurd h.1 (by simp)) (Or.inl ⟨by rfl, ?_⟩) ?_
    rotate_left
    · intro W'; go_simp; (try (with_reducible rfl))
    (try simp only [Act.put, List.setIfInBounds_toArray, List.set_cons_zero, List.set_cons_succ])
    refine wpAny_ready (rs := [2, 4, 6]) (by kernel_rfl) (by simp) ?_
    refine AllReady.cons rfl (fun K hK => ?_) (AllReady.cons rfl (fun K hK => ?_) (AllReady.cons rfl (fun K hK => ?_) AllReady.nil))
    · go_simp
      have tb := (Below.refl V0.heap.size V0).alloc (Nat.le_refl _) (.cells #[.int .u64 (s : Int)] 73)
      have L1 := own_lit (lo := 0) V0 s (Nat.zero_le _)
      obtain ⟨V1, hWn⟩ : ∃ V, V0.alloc (.cells #[.int .u64 (s : Int)] 73) = V := ⟨_, rfl⟩
      rw [hWn] at tb L1 ⊢
      clear hWn
      have st := st.below tb
      have cB := st.2.1.cell
      refine hK _ _ ?_
      clear hK K tb
      refine wpAny_ready (rs := [3, 4, 6]) (by kernel_rfl) (by simp) ?_
      refine AllReady.cons rfl (fun K hK => ?_) (AllReady.cons rfl (fun K hK => ?_) (AllReady.cons rfl (fun K hK => ?_) AllReady.nil))
      · go_simp
        refine (multiplyLow_any (HA.out.below st.1) L1 (low_limbs a) (one_low hs9) HLA.out (by simp)).mono ?_
        rintro e V2 ⟨v1, rfl, P1, tb⟩
        rw [lval_limbs, lval_one] at P1
        have P1 := Sz.mono (lo' := w.heap.size) P1 st.1.size
        have L1 := L1.below tb
        have st := st.below tb
        have cB := st.2.1.cell
        refine hK _ _ ?_
        clear hK K tb
        refine wpAny_ready (rs := [4, 6]) (by kernel_rfl) (by simp) ?_
        refine AllReady.cons rfl (fun K hK => ?_) (AllReady.cons rfl (fun K hK => ?_) AllReady.nil)
        · go_simp
          refine hK _ _ ?_
          clear hK K
          refine wpAny_ready (rs := [6]) (by kernel_rfl) (by simp) ?_
          refine AllReady.cons rfl (fun K hK => ?_) AllReady.nil
          go_simp
          have tb := (Below.refl V2.heap.size V2).alloc (Nat.le_refl _) (.cells #[.int .u64 (s : Int)] 73)
          have L2 := own_lit (lo := 0) V2 s (Nat.zero_le _)
          obtain ⟨V3, hWn⟩ : ∃ V, V2.alloc (.cells #[.int .u64 (s : Int)] 73) = V := ⟨_, rfl⟩
          rw [hWn] at tb L2 ⊢
          clear hWn
          have L1 := L1.below tb
          have P1 := P1.below tb
          have st := st.below tb
          have cB := st.2.1.cell
          refine hK _ _ ?_
          clear hK K tb
          refine wpAny_ready (rs := [7]) (by kernel_rfl) (by simp) ?_
          refine AllReady.cons rfl (fun K hK => ?_) AllReady.nil
          go_simp
          refine (multiplyLow_any (HB.out.below st.1) L2 (low_limbs b) (one_low hs9) HLB.out (by simp)).mono ?_
          rintro e V4 ⟨v2, rfl, P2, tb⟩
          rw [lval_limbs, lval_one] at P2
          have P2 := Sz.mono (lo' := w.heap.size) P2 st.1.size
          have L1 := L1.below tb
          have L2 := L2.below tb
          have P1 := P1.below tb
          have st := st.below tb
          have cB := st.2.1.cell
          have fB := st.2.1.frozen
          have P2v := P2
          obtain ⟨ad2, cap2, rfl, -, -, -⟩ := P2v.view
          clear P2v
          refine hK _ _ ?_
          clear hK K tb
          refine wpAny_ready (rs := [8]) (by kernel_rfl) (by simp) ?_
          refine AllReady.cons rfl (fun K hK => ?_) AllReady.nil
          go_simp
          refine hK _ _ ?_
          clear hK K
          refine wpAny_ready (rs := [9]) (by kernel_rfl) (by simp) ?_
          refine AllReady.cons rfl (fun K hK => ?_) AllReady.nil
          go_simp
          refine hK _ _ ?_
          clear hK K
          refine wpAny_done (by kernel_rfl) ?_ _
          exact ⟨rfl, _, _, _, _, _, _, _, _, _, _, rfl, st.setB _, P1.far1 st.2.1 (by decide), P2.far1 st.2.1 (by decide)⟩
        · go_simp
          have tb := (Below.refl V2.heap.size V2).alloc (Nat.le_refl _) (.cells #[.int .u64 (s : Int)] 73)
          have L2 := own_lit (lo := 0) V2 s (Nat.zero_le _)
          obtain ⟨V5, hWn⟩ : ∃ V, V2.alloc (.cells #[.int .u64 (s : Int)] 73) = V := ⟨_, rfl⟩
          rw [hWn] at tb L2 ⊢
          clear hWn
          have L1 := L1.below tb
          have P1 := P1.below tb
          have st := st.below tb
          have cB := st.2.1.cell
          refine hK _ _ ?_
          clear hK K tb
          refine wpAny_ready (rs := [4]) (by kernel_rfl) (by simp) ?_
          refine AllReady.cons rfl (fun K hK => ?_) AllReady.nil
          go_simp
          refine hK _ _ ?_
          clear hK K
          refine wpAny_ready (rs := [7]) (by kernel_rfl) (by simp) ?_
          refine AllReady.cons rfl (fun K hK => ?_) AllReady.nil
          go_simp
          refine (multiplyLow_any (HB.out.below st.1) L2 (low_limbs b) (one_low hs9) HLB.out (by simp)).mono ?_
          rintro e V6 ⟨v2, rfl, P2, tb⟩
          rw [lval_limbs, lval_one] at P2
          have P2 := Sz.mono (lo' := w.heap.size) P2 st.1.size
          have L1 := L1.below tb
          have L2 := L2.below tb
          have P1 := P1.below tb
          have st := st.below tb
          have cB := st.2.1.cell
          have fB := st.2.1.frozen
          have P2v := P2
          obtain ⟨ad2, cap2, rfl, -, -, -⟩ := P2v.view
          clear P2v
          refine hK _ _ ?_
          clear hK K tb
          refine wpAny_ready (rs := [8]) (by kernel_rfl) (by simp) ?_
          refine AllReady.cons rfl (fun K hK => ?_) AllReady.nil
          go_simp
          refine hK _ _ ?_
          clear hK K
          refine wpAny_ready (rs := [9]) (by kernel_rfl) (by simp) ?_
          refine AllReady.cons rfl (fun K hK => ?_) AllReady.nil
          go_simp
          refine hK _ _ ?_
          clear hK K
          refine wpAny_done (by kernel_rfl) ?_ _
          exact ⟨rfl, _, _, _, _, _, _, _, _, _, _, rfl, st.setB _, P1.far1 st.2.1 (by decide), P2.far1 st.2.1 (by decide)⟩
      · go_simp
        refine hK _ _ ?_
        clear hK K
        refine wpAny_ready (rs := [3, 6]) (by kernel_rfl) (by simp) ?_
        refine AllReady.cons rfl (fun K hK => ?_) (AllReady.cons rfl (fun K hK => ?_) AllReady.nil)
        · go_simp
          refine (multiplyLow_any (HA.out.below st.1) L1 (low_limbs a) (one_low hs9) HLA.out (by simp)).mono ?_
          rintro e V7 ⟨v1, rfl, P1, tb⟩
          rw [lval_limbs, lval_one] at P1
          have P1 := Sz.mono (lo' := w.heap.size) P1 st.1.size
          have L1 := L1.below tb
          have st := st.below tb
          have cB := st.2.1.cell
          refine hK _ _ ?_
          clear hK K tb
          refine wpAny_ready (rs := [6]) (by kernel_rfl) (by simp) ?_
          refine AllReady.cons rfl (fun K hK => ?_) AllReady.nil
          go_simp
          have tb := (Below.refl V7.heap.size V7).alloc (Nat.le_refl _) (.cells #[.int .u64 (s : Int)] 73)
          have L2 := own_lit (lo := 0) V7 s (Nat.zero_le _)
          obtain ⟨V8, hWn⟩ : ∃ V, V7.alloc (.cells #[.int .u64 (s : Int)] 73) = V := ⟨_, rfl⟩
          rw [hWn] at tb L2 ⊢
          clear hWn
          have L1 := L1.below tb
          have P1 := P1.below tb
          have st := st.below tb
          have cB := st.2.1.cell
          refine hK _ _ ?_
          clear hK K tb
          refine wpAny_ready (rs := [7]) (by kernel_rfl) (by simp) ?_
          refine AllReady.cons rfl (fun K hK => ?_) AllReady.nil
          go_simp
          refine (multiplyLow_any (HB.out.below st.1) L2 (low_limbs b) (one_low hs9) HLB.out (by simp)).mono ?_
          rintro e V9 ⟨v2, rfl, P2, tb⟩
          rw [lval_limbs, lval_one] at P2
          have P2 := Sz.mono (lo' := w.heap.size) P2 st.1.size
          have L1 := L1.below tb
          have L2 := L2.below tb
          have P1 := P1.below tb
          have st := st.below tb
          have cB := st.2.1.cell
          have fB := st.2.1.frozen
          have P2v := P2
          obtain ⟨ad2, cap2, rfl, -, -, -⟩ := P2v.view
          clear P2v
          refine hK _ _ ?_
          clear hK K tb
          refine wpAny_ready (rs := [8]) (by kernel_rfl) (by simp) ?_
          refine AllReady.cons rfl (fun K hK => ?_) AllReady.nil
          go_simp
          refine hK _ _ ?_
          clear hK K
          refine wpAny_ready (rs := [9]) (by kernel_rfl) (by simp) ?_
          refine AllReady.cons rfl (fun K hK => ?_) AllReady.nil
          go_simp
          refine hK _ _ ?_
          clear hK K
          refine wpAny_done (by kernel_rfl) ?_ _
          exact ⟨rfl, _, _, _, _, _, _, _, _, _, _, rfl, st.setB _, P1.far1 st.2.1 (by decide), P2.far1 st.2.1 (by decide)⟩
        · go_simp
          have tb := (Below.refl V1.heap.size V1).alloc (Nat.le_refl _) (.cells #[.int .u64 (s : Int)] 73)
          have L2 := own_lit (lo := 0) V1 s (Nat.zero_le _)
          obtain ⟨V10, hWn⟩ : ∃ V, V1.alloc (.cells #[.int .u64 (s : Int)] 73) = V := ⟨_, rfl⟩
          rw [hWn] at tb L2 ⊢
          clear hWn
          have L1 := L1.below tb
          have st := st.below tb
          have cB := st.2.1.cell
          refine hK _ _ ?_
          clear hK K tb
          refine wpAny_ready (rs := [3]) (by kernel_rfl) (by simp) ?_
          refine AllReady.cons rfl (fun K hK => ?_) AllReady.nil
          go_simp
          refine (multiplyLow_any (HA.out.below st.1) L1 (low_limbs a) (one_low hs9) HLA.out (by simp)).mono ?_
          rintro e V11 ⟨v1, rfl, P1, tb⟩
          rw [lval_limbs, lval_one] at P1
          have P1 := Sz.mono (lo' := w.heap.size) P1 st.1.size
          have L1 := L1.below tb
          have L2 := L2.below tb
          have st := st.below tb
          have cB := st.2.1.cell
          refine hK _ _ ?_
          clear hK K tb
          refine wpAny_ready (rs := [7]) (by kernel_rfl) (by simp) ?_
          refine AllReady.cons rfl (fun K hK => ?_) AllReady.nil
          go_simp
          refine (multiplyLow_any (HB.out.below st.1) L2 (low_limbs b) (one_low hs9) HLB.out (by simp)).mono ?_
          rintro e V12 ⟨v2, rfl, P2, tb⟩
          rw [lval_limbs, lval_one] at P2
          have P2 := Sz.mono (lo' := w.heap.size) P2 st.1.size
          have L1 := L1.below tb
          have L2 := L2.below tb
          have P1 := P1.below tb
          have st := st.below tb
          have cB := st.2.1.cell
          have fB := st.2.1.frozen
          have P2v := P2
          obtain ⟨ad2, cap2, rfl, -, -, -⟩ := P2v.view
          clear P2v
          refine hK _ _ ?_
          clear hK K tb
          refine wpAny_ready (rs := [8]) (by kernel_rfl) (by simp) ?_
          refine AllReady.cons rfl (fun K hK => ?_) AllReady.nil
          go_simp
          refine hK _ _ ?_
          clear hK K
          refine wpAny_ready (rs := [9]) (by kernel_rfl) (by simp) ?_
          refine AllReady.cons rfl (fun K hK => ?_) AllReady.nil
          go_simp
          refine hK _ _ ?_
          clear hK K
          refine wpAny_done (by kernel_rfl) ?_ _
          exact ⟨rfl, _, _, _, _, _, _, _, _, _, _, rfl, st.setB _, P1.far1 st.2.1 (by decide), P2.far1 st.2.1 (by decide)⟩
      · go_simp
        have tb := (Below.refl V1.heap.size V1).alloc (Nat.le_refl _) (.cells #[.int .u64 (s : Int)] 73)
        have L2 := own_lit (lo := 0) V1 s (Nat.zero_le _)
        obtain ⟨V13, hWn⟩ : ∃ V, V1.alloc (.cells #[.int .u64 (s : Int)] 73) = V := ⟨_, rfl⟩
        rw [hWn] at tb L2 ⊢
        clear hWn
        have L1 := L1.below tb
        have st := st.below tb
        have cB := st.2.1.cell
        refine hK _ _ ?_
        clear hK K tb
        refine wpAny_ready (rs := [3, 4]) (by kernel_rfl) (by simp) ?_
        refine AllReady.cons rfl (fun K hK => ?_) (AllReady.cons rfl (fun K hK => ?_) AllReady.nil)
        · go_simp
          refine (multiplyLow_any (HA.out.below st.1) L1 (low_limbs a) (one_low hs9) HLA.out (by simp)).mono ?_
          rintro e V14 ⟨v1, rfl, P1, tb⟩
          rw [lval_limbs, lval_one] at P1
          have P1 := Sz.mono (lo' := w.heap.size) P1 st.1.size
          have L1 := L1.below tb
          have L2 := L2.below tb
          have st := st.below tb
          have cB := st.2.1.cell
          refine hK _ _ ?_
          clear hK K tb
          refine wpAny_ready (rs := [4]) (by kernel_rfl) (by simp) ?_
          refine AllReady.cons rfl (fun K hK => ?_) AllReady.nil
          go_simp
          refine hK _ _ ?_
          clear hK K
          refine wpAny_ready (rs := [7]) (by kernel_rfl) (by simp) ?_
          refine AllReady.cons rfl (fun K hK => ?_) AllReady.nil
          go_simp
          refine (multiplyLow_any (HB.out.below st.1) L2 (low_limbs b) (one_low hs9) HLB.out (by simp)).mono ?_
          rintro e V15 ⟨v2, rfl, P2, tb⟩
          rw [lval_limbs, lval_one] at P2
          have P2 := Sz.mono (lo' := w.heap.size) P2 st.1.size
          have L1 := L1.below tb
          have L2 := L2.below tb
          have P1 := P1.below tb
          have st := st.below tb
          have cB := st.2.1.cell
          have fB := st.2.1.frozen
          have P2v := P2
          obtain ⟨ad2, cap2, rfl, -, -, -⟩ := P2v.view
          clear P2v
          refine hK _ _ ?_
          clear hK K tb
          refine wpAny_ready (rs := [8]) (by kernel_rfl) (by simp) ?_
          refine AllReady.cons rfl (fun K hK => ?_) AllReady.nil
          go_simp
          refine hK _ _ ?_
          clear hK K
          refine wpAny_ready (rs := [9]) (by kernel_rfl) (by simp) ?_
          refine AllReady.cons rfl (fun K hK => ?_) AllReady.nil
          go_simp
          refine hK _ _ ?_
          clear hK K
          refine wpAny_done (by kernel_rfl) ?_ _
          exact ⟨rfl, _, _, _, _, _, _, _, _, _, _, rfl, st.setB _, P1.far1 st.2.1 (by decide), P2.far1 st.2.1 (by decide)⟩
        · go_simp
          refine hK _ _ ?_
          clear hK K
          refine wpAny_ready (rs := [3]) (by kernel_rfl) (by simp) ?_
          refine AllReady.cons rfl (fun K hK => ?_) AllReady.nil
          go_simp
          refine (multiplyLow_any (HA.out.below st.1) L1 (low_limbs a) (one_low hs9) HLA.out (by simp)).mono ?_
          rintro e V16 ⟨v1, rfl, P1, tb⟩
          rw [lval_limbs, lval_one] at P1
          have P1 := Sz.mono (lo' := w.heap.size) P1 st.1.size
          have L1 := L1.below tb
          have L2 := L2.below tb
          have st := st.below tb
          have cB := st.2.1.cell
          refine hK _ _ ?_
          clear hK K tb
          refine wpAny_ready (rs := [7]) (by kernel_rfl) (by simp) ?_
          refine AllReady.cons rfl (fun K hK => ?_) AllReady.nil
          go_simp
          refine (multiplyLow_any (HB.out.below st.1) L2 (low_limbs b) (one_low hs9) HLB.out (by simp)).mono ?_
          rintro e V17 ⟨v2, rfl, P2, tb⟩
          rw [lval_limbs, lval_one] at P2
          have P2 := Sz.mono (lo' := w.heap.size) P2 st.1.size
          have L1 := L1.below tb
          have L2 := L2.below tb
          have P1 := P1.below tb
          have st := st.below tb
          have cB := st.2.1.cell
          have fB := st.2.1.frozen
          have P2v := P2
          obtain ⟨ad2, cap2, rfl, -, -, -⟩ := P2v.view
          clear P2v
          refine hK _ _ ?_
          clear hK K tb
          refine wpAny_ready (rs := [8]) (by kernel_rfl) (by simp) ?_
          refine AllReady.cons rfl (fun K hK => ?_) AllReady.nil
          go_simp
          refine hK _ _ ?_
          clear hK K
          refine wpAny_ready (rs := [9]) (by kernel_rfl) (by simp) ?_
          refine AllReady.cons rfl (fun K hK => ?_) AllReady.nil
          go_simp
          refine hK _ _ ?_
          clear hK K
          refine wpAny_done (by kernel_rfl) ?_ _
          exact ⟨rfl, _, _, _, _, _, _, _, _, _, _, rfl, st.setB _, P1.far1 st.2.1 (by decide), P2.far1 st.2.1 (by decide)⟩
    · go_simp
      refine hK _ _ ?_
      clear hK K
      refine wpAny_ready (rs := [2, 6]) (by kernel_rfl) (by simp) ?_
      refine AllReady.cons rfl (fun K hK => ?_) (AllReady.cons rfl (fun K hK => ?_) AllReady.nil)
      · go_simp
        have tb := (Below.refl V0.heap.size V0).alloc (Nat.le_refl _) (.cells #[.int .u64 (s : Int)] 73)
        have L1 := own_lit (lo := 0) V0 s (Nat.zero_le _)
        obtain ⟨V18, hWn⟩ : ∃ V, V0.alloc (.cells #[.int .u64 (s : Int)] 73) = V := ⟨_, rfl⟩
        rw [hWn] at tb L1 ⊢
        clear hWn
        have st := st.below tb
        have cB := st.2.1.cell
        refine hK _ _ ?_
        clear hK K tb
        refine wpAny_ready (rs := [3, 6]) (by kernel_rfl) (by simp) ?_
        refine AllReady.cons rfl (fun K hK => ?_) (AllReady.cons rfl (fun K hK => ?_) AllReady.nil)
        · go_simp
          refine (multiplyLow_any (HA.out.below st.1) L1 (low_limbs a) (one_low hs9) HLA.out (by simp)).mono ?_
          rintro e V19 ⟨v1, rfl, P1, tb⟩
          rw [lval_limbs, lval_one] at P1
          have P1 := Sz.mono (lo' := w.heap.size) P1 st.1.size
          have L1 := L1.below tb
          have st := st.below tb
          have cB := st.2.1.cell
          refine hK _ _ ?_
          clear hK K tb
          refine wpAny_ready (rs := [6]) (by kernel_rfl) (by simp) ?_
          refine AllReady.cons rfl (fun K hK => ?_) AllReady.nil
          go_simp
          have tb := (Below.refl V19.heap.size V19).alloc (Nat.le_refl _) (.cells #[.int .u64 (s : Int)] 73)
          have L2 := own_lit (lo := 0) V19 s (Nat.zero_le _)
          obtain ⟨V20, hWn⟩ : ∃ V, V19.alloc (.cells #[.int .u64 (s : Int)] 73) = V := ⟨_, rfl⟩
          rw [hWn] at tb L2 ⊢
          clear hWn
          have L1 := L1.below tb
          have P1 := P1.below tb
          have st := st.below tb
          have cB := st.2.1.cell
          refine hK _ _ ?_
          clear hK K tb
          refine wpAny_ready (rs := [7]) (by kernel_rfl) (by simp) ?_
          refine AllReady.cons rfl (fun K hK => ?_) AllReady.nil
          go_simp
          refine (multiplyLow_any (HB.out.below st.1) L2 (low_limbs b) (one_low hs9) HLB.out (by simp)).mono ?_
          rintro e V21 ⟨v2, rfl, P2, tb⟩
          rw [lval_limbs, lval_one] at P2
          have P2 := Sz.mono (lo' := w.heap.size) P2 st.1.size
          have L1 := L1.below tb
          have L2 := L2.below tb
          have P1 := P1.below tb
          have st := st.below tb
          have cB := st.2.1.cell
          have fB := st.2.1.frozen
          have P2v := P2
          obtain ⟨ad2, cap2, rfl, -, -, -⟩ := P2v.view
          clear P2v
          refine hK _ _ ?_
          clear hK K tb
          refine wpAny_ready (rs := [8]) (by kernel_rfl) (by simp) ?_
          refine AllReady.cons rfl (fun K hK => ?_) AllReady.nil
          go_simp
          refine hK _ _ ?_
          clear hK K
          refine wpAny_ready (rs := [9]) (by kernel_rfl) (by simp) ?_
          refine AllReady.cons rfl (fun K hK => ?_) AllReady.nil
          go_simp
          refine hK _ _ ?_
          clear hK K
          refine wpAny_done (by kernel_rfl) ?_ _
          exact ⟨rfl, _, _, _, _, _, _, _, _, _, _, rfl, st.setB _, P1.far1 st.2.1 (by decide), P2.far1 st.2.1 (by decide)⟩
        · go_simp
          have tb := (Below.refl V18.heap.size V18).alloc (Nat.le_refl _) (.cells #[.int .u64 (s : Int)] 73)
          have L2 := own_lit (lo := 0) V18 s (Nat.zero_le _)
          obtain ⟨V22, hWn⟩ : ∃ V, V18.alloc (.cells #[.int .u64 (s : Int)] 73) = V := ⟨_, rfl⟩
          rw [hWn] at tb L2 ⊢
          clear hWn
          have L1 := L1.below tb
          have st := st.below tb
          have cB := st.2.1.cell
          refine hK _ _ ?_
          clear hK K tb
          refine wpAny_ready (rs := [3]) (by kernel_rfl) (by simp) ?_
          refine AllReady.cons rfl (fun K hK => ?_) AllReady.nil
          go_simp
          refine (multiplyLow_any (HA.out.below st.1) L1 (low_limbs a) (one_low hs9) HLA.out (by simp)).mono ?_
          rintro e V23 ⟨v1, rfl, P1, tb⟩
          rw [lval_limbs, lval_one] at P1
          have P1 := Sz.mono (lo' := w.heap.size) P1 st.1.size
          have L1 := L1.below tb
          have L2 := L2.below tb
          have st := st.below tb
          have cB := st.2.1.cell
          refine hK _ _ ?_
          clear hK K tb
          refine wpAny_ready (rs := [7]) (by kernel_rfl) (by simp) ?_
          refine AllReady.cons rfl (fun K hK => ?_) AllReady.nil
          go_simp
          refine (multiplyLow_any (HB.out.below st.1) L2 (low_limbs b) (one_low hs9) HLB.out (by simp)).mono ?_
          rintro e V24 ⟨v2, rfl, P2, tb⟩
          rw [lval_limbs, lval_one] at P2
          have P2 := Sz.mono (lo' := w.heap.size) P2 st.1.size
          have L1 := L1.below tb
          have L2 := L2.below tb
          have P1 := P1.below tb
          have st := st.below tb
          have cB := st.2.1.cell
          have fB := st.2.1.frozen
          have P2v := P2
          obtain ⟨ad2, cap2, rfl, -, -, -⟩ := P2v.view
          clear P2v
          refine hK _ _ ?_
          clear hK K tb
          refine wpAny_ready (rs := [8]) (by kernel_rfl) (by simp) ?_
          refine AllReady.cons rfl (fun K hK => ?_) AllReady.nil
          go_simp
          refine hK _ _ ?_
          clear hK K
          refine wpAny_ready (rs := [9]) (by kernel_rfl) (by simp) ?_
          refine AllReady.cons rfl (fun K hK => ?_) AllReady.nil
          go_simp
          refine hK _ _ ?_
          clear hK K
          refine wpAny_done (by kernel_rfl) ?_ _
          exact ⟨rfl, _, _, _, _, _, _, _, _, _, _, rfl, st.setB _, P1.far1 st.2.1 (by decide), P2.far1 st.2.1 (by decide)⟩
      · go_simp
        have tb := (Below.refl V0.heap.size V0).alloc (Nat.le_refl _) (.cells #[.int .u64 (s : Int)] 73)
        have L2 := own_lit (lo := 0) V0 s (Nat.zero_le _)
        obtain ⟨V25, hWn⟩ : ∃ V, V0.alloc (.cells #[.int .u64 (s : Int)] 73) = V := ⟨_, rfl⟩
        rw [hWn] at tb L2 ⊢
        clear hWn
        have st := st.below tb
        have cB := st.2.1.cell
        refine hK _ _ ?_
        clear hK K tb
        refine wpAny_ready (rs := [2]) (by kernel_rfl) (by simp) ?_
        refine AllReady.cons rfl (fun K hK => ?_) AllReady.nil
        go_simp
        have tb := (Below.refl V25.heap.size V25).alloc (Nat.le_refl _) (.cells #[.int .u64 (s : Int)] 73)
        have L1 := own_lit (lo := 0) V25 s (Nat.zero_le _)
        obtain ⟨V26, hWn⟩ : ∃ V, V25.alloc (.cells #[.int .u64 (s : Int)] 73) = V := ⟨_, rfl⟩
        rw [hWn] at tb L1 ⊢
        clear hWn
        have L2 := L2.below tb
        have st := st.below tb
        have cB := st.2.1.cell
        refine hK _ _ ?_
        clear hK K tb
        refine wpAny_ready (rs := [3]) (by kernel_rfl) (by simp) ?_
        refine AllReady.cons rfl (fun K hK => ?_) AllReady.nil
        go_simp
        refine (multiplyLow_any (HA.out.below st.1) L1 (low_limbs a) (one_low hs9) HLA.out (by simp)).mono ?_
        rintro e V27 ⟨v1, rfl, P1, tb⟩
        rw [lval_limbs, lval_one] at P1
        have P1 := Sz.mono (lo' := w.heap.size) P1 st.1.size
        have L1 := L1.below tb
        have L2 := L2.below tb
        have st := st.below tb
        have cB := st.2.1.cell
        refine hK _ _ ?_
        clear hK K tb
        refine wpAny_ready (rs := [7]) (by kernel_rfl) (by simp) ?_
        refine AllReady.cons rfl (fun K hK => ?_) AllReady.nil
        go_simp
        refine (multiplyLow_any (HB.out.below st.1) L2 (low_limbs b) (one_low hs9) HLB.out (by simp)).mono ?_
        rintro e V28 ⟨v2, rfl, P2, tb⟩
        rw [lval_limbs, lval_one] at P2
        have P2 := Sz.mono (lo' := w.heap.size) P2 st.1.size
        have L1 := L1.below tb
        have L2 := L2.below tb
        have P1 := P1.below tb
        have st := st.below tb
        have cB := st.2.1.cell
        have fB := st.2.1.frozen
        have P2v := P2
        obtain ⟨ad2, cap2, rfl, -, -, -⟩ := P2v.view
        clear P2v
        refine hK _ _ ?_
        clear hK K tb
        refine wpAny_ready (rs := [8]) (by kernel_rfl) (by simp) ?_
        refine AllReady.cons rfl (fun K hK => ?_) AllReady.nil
        go_simp
        refine hK _ _ ?_
        clear hK K
        refine wpAny_ready (rs := [9]) (by kernel_rfl) (by simp) ?_
        refine AllReady.cons rfl (fun K hK => ?_) AllReady.nil
        go_simp
        refine hK _ _ ?_
        clear hK K
        refine wpAny_done (by kernel_rfl) ?_ _
        exact ⟨rfl, _, _, _, _, _, _, _, _, _, _, rfl, st.setB _, P1.far1 st.2.1 (by decide), P2.far1 st.2.1 (by decide)⟩
    · go_simp
      have tb := (Below.refl V0.heap.size V0).alloc (Nat.le_refl _) (.cells #[.int .u64 (s : Int)] 73)
      have L2 := own_lit (lo := 0) V0 s (Nat.zero_le _)
      obtain ⟨V29, hWn⟩ : ∃ V, V0.alloc (.cells #[.int .u64 (s : Int)] 73) = V := ⟨_, rfl⟩
      rw [hWn] at tb L2 ⊢
      clear hWn
      have st := st.below tb
      have cB := st.2.1.cell
      refine hK _ _ ?_
      clear hK K tb
      refine wpAny_ready (rs := [2, 4]) (by kernel_rfl) (by simp) ?_
      refine AllReady.cons rfl (fun K hK => ?_) (AllReady.cons rfl (fun K hK => ?_) AllReady.nil)
      · go_simp
        have tb := (Below.refl V29.heap.size V29).alloc (Nat.le_refl _) (.cells #[.int .u64 (s : Int)] 73)
        have L1 := own_lit (lo := 0) V29 s (Nat.zero_le _)
        obtain ⟨V30, hWn⟩ : ∃ V, V29.alloc (.cells #[.int .u64 (s : Int)] 73) = V := ⟨_, rfl⟩
        rw [hWn] at tb L1 ⊢
        clear hWn
        have L2 := L2.below tb
        have st := st.below tb
        have cB := st.2.1.cell
        refine hK _ _ ?_
        clear hK K tb
        refine wpAny_ready (rs := [3, 4]) (by kernel_rfl) (by simp) ?_
        refine AllReady.cons rfl (fun K hK => ?_) (AllReady.cons rfl (fun K hK => ?_) AllReady.nil)
        · go_simp
          refine (multiplyLow_any (HA.out.below st.1) L1 (low_limbs a) (one_low hs9) HLA.out (by simp)).mono ?_
          rintro e V31 ⟨v1, rfl, P1, tb⟩
          rw [lval_limbs, lval_one] at P1
          have P1 := Sz.mono (lo' := w.heap.size) P1 st.1.size
          have L1 := L1.below tb
          have L2 := L2.below tb
          have st := st.below tb
          have cB := st.2.1.cell
          refine hK _ _ ?_
          clear hK K tb
          refine wpAny_ready (rs := [4]) (by kernel_rfl) (by simp) ?_
          refine AllReady.cons rfl (fun K hK => ?_) AllReady.nil
          go_simp
          refine hK _ _ ?_
          clear hK K
          refine wpAny_ready (rs := [7]) (by kernel_rfl) (by simp) ?_
          refine AllReady.cons rfl (fun K hK => ?_) AllReady.nil
          go_simp
          refine (multiplyLow_any (HB.out.below st.1) L2 (low_limbs b) (one_low hs9) HLB.out (by simp)).mono ?_
          rintro e V32 ⟨v2, rfl, P2, tb⟩
          rw [lval_limbs, lval_one] at P2
          have P2 := Sz.mono (lo' := w.heap.size) P2 st.1.size
          have L1 := L1.below tb
          have L2 := L2.below tb
          have P1 := P1.below tb
          have st := st.below tb
          have cB := st.2.1.cell
          have fB := st.2.1.frozen
          have P2v := P2
          obtain ⟨ad2, cap2, rfl, -, -, -⟩ := P2v.view
          clear P2v
          refine hK _ _ ?_
          clear hK K tb
          refine wpAny_ready (rs := [8]) (by kernel_rfl) (by simp) ?_
          refine AllReady.cons rfl (fun K hK => ?_) AllReady.nil
          go_simp
          refine hK _ _ ?_
          clear hK K
          refine wpAny_ready (rs := [9]) (by kernel_rfl) (by simp) ?_
          refine AllReady.cons rfl (fun K hK => ?_) AllReady.nil
          go_simp
          refine hK _ _ ?_
          clear hK K
          refine wpAny_done (by kernel_rfl) ?_ _
          exact ⟨rfl, _, _, _, _, _, _, _, _, _, _, rfl, st.setB _, P1.far1 st.2.1 (by decide), P2.far1 st.2.1 (by decide)⟩
        · go_simp
          refine hK _ _ ?_
          clear hK K
          refine wpAny_ready (rs := [3]) (by kernel_rfl) (by simp) ?_
          refine AllReady.cons rfl (fun K hK => ?_) AllReady.nil
          go_simp
          refine (multiplyLow_any (HA.out.below st.1) L1 (low_limbs a) (one_low hs9) HLA.out (by simp)).mono ?_
          rintro e V33 ⟨v1, rfl, P1, tb⟩
          rw [lval_limbs, lval_one] at P1
          have P1 := Sz.mono (lo' := w.heap.size) P1 st.1.size
          have L1 := L1.below tb
          have L2 := L2.below tb
          have st := st.below tb
          have cB := st.2.1.cell
          refine hK _ _ ?_
          clear hK K tb
          refine wpAny_ready (rs := [7]) (by kernel_rfl) (by simp) ?_
          refine AllReady.cons rfl (fun K hK => ?_) AllReady.nil
          go_simp
          refine (multiplyLow_any (HB.out.below st.1) L2 (low_limbs b) (one_low hs9) HLB.out (by simp)).mono ?_
          rintro e V34 ⟨v2, rfl, P2, tb⟩
          rw [lval_limbs, lval_one] at P2
          have P2 := Sz.mono (lo' := w.heap.size) P2 st.1.size
          have L1 := L1.below tb
          have L2 := L2.below tb
          have P1 := P1.below tb
          have st := st.below tb
          have cB := st.2.1.cell
          have fB := st.2.1.frozen
          have P2v := P2
          obtain ⟨ad2, cap2, rfl, -, -, -⟩ := P2v.view
          clear P2v
          refine hK _ _ ?_
          clear hK K tb
          refine wpAny_ready (rs := [8]) (by kernel_rfl) (by simp) ?_
          refine AllReady.cons rfl (fun K hK => ?_) AllReady.nil
          go_simp
          refine hK _ _ ?_
          clear hK K
          refine wpAny_ready (rs := [9]) (by kernel_rfl) (by simp) ?_
          refine AllReady.cons rfl (fun K hK => ?_) AllReady.nil
          go_simp
          refine hK _ _ ?_
          clear hK K
          refine wpAny_done (by kernel_rfl) ?_ _
          exact ⟨rfl, _, _, _, _, _, _, _, _, _, _, rfl, st.setB _, P1.far1 st.2.1 (by decide), P2.far1 st.2.1 (by decide)⟩
      · go_simp
        refine hK _ _ ?_
        clear hK K
        refine wpAny_ready (rs := [2]) (by kernel_rfl) (by simp) ?_
        refine AllReady.cons rfl (fun K hK => ?_) AllReady.nil
        go_simp
        have tb := (Below.refl V29.heap.size V29).alloc (Nat.le_refl _) (.cells #[.int .u64 (s : Int)] 73)
        have L1 := own_lit (lo := 0) V29 s (Nat.zero_le _)
        obtain ⟨V35, hWn⟩ : ∃ V, V29.alloc (.cells #[.int .u64 (s : Int)] 73) = V := ⟨_, rfl⟩
        rw [hWn] at tb L1 ⊢
        clear hWn
        have L2 := L2.below tb
        have st := st.below tb
        have cB := st.2.1.cell
        refine hK _ _ ?_
        clear hK K tb
        refine wpAny_ready (rs := [3]) (by kernel_rfl) (by simp) ?_
        refine AllReady.cons rfl (fun K hK => ?_) AllReady.nil
        go_simp
        refine (multiplyLow_any (HA.out.below st.1) L1 (low_limbs a) (one_low hs9) HLA.out (by simp)).mono ?_
        rintro e V36 ⟨v1, rfl, P1, tb⟩
        rw [lval_limbs, lval_one] at P1
        have P1 := Sz.mono (lo' := w.heap.size) P1 st.1.size
        have L1 := L1.below tb
        have L2 := L2.below tb
        have st := st.below tb
        have cB := st.2.1.cell
        refine hK _ _ ?_
        clear hK K tb
        refine wpAny_ready (rs := [7]) (by kernel_rfl) (by simp) ?_
        refine AllReady.cons rfl (fun K hK => ?_) AllReady.nil
        go_simp
        refine (multiplyLow_any (HB.out.below st.1) L2 (low_limbs b) (one_low hs9) HLB.out (by simp)).mono ?_
        rintro e V37 ⟨v2, rfl, P2, tb⟩
        rw [lval_limbs, lval_one] at P2
        have P2 := Sz.mono (lo' := w.heap.size) P2 st.1.size
        have L1 := L1.below tb
        have L2 := L2.below tb
        have P1 := P1.below tb
        have st := st.below tb
        have cB := st.2.1.cell
        have fB := st.2.1.frozen
        have P2v := P2
        obtain ⟨ad2, cap2, rfl, -, -, -⟩ := P2v.view
        clear P2v
        refine hK _ _ ?_
        clear hK K tb
        refine wpAny_ready (rs := [8]) (by kernel_rfl) (by simp) ?_
        refine AllReady.cons rfl (fun K hK => ?_) AllReady.nil
        go_simp
        refine hK _ _ ?_
        clear hK K
        refine wpAny_ready (rs := [9]) (by kernel_rfl) (by simp) ?_
        refine AllReady.cons rfl (fun K hK => ?_) AllReady.nil
        go_simp
        refine hK _ _ ?_
        clear hK K
        refine wpAny_done (by kernel_rfl) ?_ _
        exact ⟨rfl, _, _, _, _, _, _, _, _, _, _, rfl, st.setB _, P1.far1 st.2.1 (by decide), P2.far1 st.2.1 (by decide)⟩
  rintro e a' W2 ⟨rfl, va, vb, u1, u2, u3, u4, u5, u6, u7, u8, rfl, st, P1, P2⟩
  clear st0 hcl hcl0 hW0 cB hgs
  have HP1 := Lib.hid P1
  have HP2 := Lib.hid P2
  obtain ⟨adx, capx, rfl, -, -, -⟩ := P1.view
  obtain ⟨add, capd, rfl, -, -, hgd⟩ := P2.view
  obtain ⟨x, hx⟩ : ∃ x, a * s = x := ⟨_, rfl⟩
  obtain ⟨d, hd⟩ : ∃ d, b * s = d := ⟨_, rfl⟩
  have hd0 : 0 < d := by rw [← hd]; exact Nat.mul_pos hb0 (by omega)
  rw [hd] at hgd HP2 st
  obtain ⟨ld, hld0⟩ : ∃ k, (limbs d).length = k := ⟨_, rfl⟩
  have hld1 := len_pos hd0
  rw [hld0] at hgd HP2 st hld1
  obtain ⟨gd, rfl, -, hgd, -⟩ := hgd hld1
  have hlx : (limbs x).length ≤ 800001 := by rw [← hx]; exact limbs_scaled hs9 (by have := HLAE.out; omega)
  have hld : (limbs d).length ≤ 900000 := by rw [← hd]; exact Nat.le_trans (limbs_scaled (n := 800000) hs9 (by have := HN.out; omega)) (by omega)
  rw [hx] at HP1 ⊢
  obtain ⟨lx, hlxe⟩ : ∃ k, (limbs x).length = k := ⟨_, rfl⟩
  rw [hlxe] at HP1 hlx ⊢
  have HLX := Lib.hid hlxe
  have HXE := Lib.hid hx
  have HDE := Lib.hid hd
  have HLD := Lib.hid hld
  have fQ := st.2.2.1.frozen
  have cQ := st.2.2.1.cell
  obtain ⟨i0, hi, hz0, hz1, hz2⟩ := info_parts Tryd.infoU64
  obtain ⟨w1, hrun, hown1, hgrow1⟩ := run_make_full (P := Tryd.prog) W2 w.heap.size 51 73 i0 (.int .u64 0) 1 Tryd.underlying51 hi hz0 hz1 .i64 .i64 lx (by rw [hz2]; omega) (by unfold maxLen; omega) st.1.size
  have hB1 : Below W2.heap.size W2 w1 := (Below.refl _ W2).grown hgrow1 (Nat.le_refl _) (fun k hk => by cases hk)
  have hO1 := Own.made hown1
  have hs1' : W2.heap.size < w1.heap.size := (World.ownsRow.lt hown1 W2.heap.size (by simp [Value.ownBlock])).2
  have st1 := st.below hB1
  have cQ1 := st1.2.2.1.cell
  have fQ1 := st1.2.2.1.frozen
  have hsz2 := st.1.size
  have lt3 := st.2.2.2.lt
  have st0le : w.heap.size ≤ w.heap.size := Nat.le_refl _
  have HX1 := Lib.hid (HP1.out.below hB1)
  have HD1 := Lib.hid (HP2.out.below hB1)
  clear hown1 hgrow1 hx hd hlxe P1 P2 hld fQ cQ hi hz0 hz1 hz2
  gi_wp2_with (refine ⟨trivial, ?_⟩; gi_at_call 64; refine (fromLast_in Fence.wide (9 - 1) trivial rfl _ _ _ _).mono ?_; rintro e w' ⟨rfl, rfl⟩)
  have bC := Boxed.new (w1.setCell ⟨w.heap.size + 1, 0, none⟩ (.slice (some ⟨W2.heap.size, 0, none⟩) lx lx)) 51 (.slice adx lx capx)
  rw [size_setCell] at bC
  have hQ0 := st1.setQ (.slice (some ⟨W2.heap.size, 0, none⟩) lx lx)
  have hal : Below (w1.setCell ⟨w.heap.size + 1, 0, none⟩ (.slice (some ⟨W2.heap.size, 0, none⟩) lx lx)).heap.size (w1.setCell ⟨w.heap.size + 1, 0, none⟩ (.slice (some ⟨W2.heap.size, 0, none⟩) lx lx)) ((w1.setCell ⟨w.heap.size + 1, 0, none⟩ (.slice (some ⟨W2.heap.size, 0, none⟩) lx lx)).alloc (.cells #[.slice adx lx capx] 51)) := (Below.refl _ _).alloc (Nat.le_refl _) _
  have stL := hQ0.below hal
  have hXL := (Sz.far1 (u := .slice (some ⟨W2.heap.size, 0, none⟩) lx lx) HX1.out st1.2.2.1 (by decide)).below hal
  have hDL := (Sz.far1 (u := .slice (some ⟨W2.heap.size, 0, none⟩) lx lx) HD1.out st1.2.2.1 (by decide)).below hal
  have hOL := (Own.far hO1 (show Blk w1 (w.heap.size + 1) #[.slice none 0 0] 51 from st1.2.2.1) (by decide) 0 (.slice (some ⟨W2.heap.size, 0, none⟩) lx lx)).below hal
  obtain ⟨WL, hWL⟩ : ∃ WL, (w1.setCell ⟨w.heap.size + 1, 0, none⟩ (.slice (some ⟨W2.heap.size, 0, none⟩) lx lx)).alloc (.cells #[.slice adx lx capx] 51) = WL := ⟨_, rfl⟩
  have hsL : WL.heap.size = w1.heap.size + 1 := by rw [← hWL, World.size_alloc, size_setCell]
  rw [hWL] at bC stL hXL hDL hOL ⊢
  have HBC := Lib.hid bC
  have HSL := Lib.hid hsL
  have HSL1 : w.heap.size ≤ WL.heap.size := stL.1.size
  have HNR := Lib.hid (not_blocks (bA := w1.heap.size) HP1.out st.2.2.2 (by decide) (by omega))
  have HNQ := Lib.hid (not_blocks_new (bA := w1.heap.size) (B := W2.heap.size) HP1.out (Nat.le_refl _) (by omega))
  clear hrun hO1 hB1 cQ1 fQ1 hQ0 hal hWL st st1 hsL
  refine wpIn_rangeFunc_ownG rfl (by omega) (gf := 80) (lb := #[.pointer (some ⟨w1.heap.size, 0, none⟩)]) rfl trivial (enters_of Tryd.func80 (by kernel_rfl) rfl)
    (fromLast_stops Fence.wide (9 - 1) trivial rfl (by omega) w1.heap.size _ (limbs x) (by rw [HLX.out]; omega) _ HBC.out (hXL.mono (Nat.zero_le _))) KeepB.trans (KeepB.putObj (blocks_lt HBC.out (hXL.mono (Nat.zero_le _)))) (Below.refl _ _) (fun _ => rfl)
    (fun pre W => ∃ rv, Jn w W w1.heap.size (.slice adx lx capx) (.slice (some ⟨gd, 0, none⟩) ld capd) (.slice (some ⟨W2.heap.size, 0, none⟩) lx lx) rv (dfold (limbs x) d lx (places pre)).2 d ∧ Sz w.heap.size W rv (dfold (limbs x) d lx (places pre)).1)
    (fun _ _ _ => False)
    (fun s A B row hs hg hr => by
      obtain ⟨rv, h1, h2⟩ := hs
      exact ⟨rv, h1.kept HSL1 hg hr, own_kept _ _ (fun (_ : Unit) => limbs _) () A B row h2 hg (fun r e => (hr r e).2)⟩)
    (fun _ _ _ _ _ hs _ _ => hs)
    ⟨.slice none 0 0, ⟨stL.1, hOL.mono st0le, stL.2.1, stL.2.2.1, stL.2.2.2, HBC.out, hDL.mono (Nat.zero_le _)⟩, by simp only [places, List.map_nil]; exact nil_zero _ _⟩
    (fun p => { tmps := #[.slice adx lx capx, .slice (some ⟨g, 0, none⟩) (m + 1) capb, undef, .pointer (some ⟨w.heap.size, 0, none⟩), .pointer (some ⟨w.heap.size + 1, 0, none⟩), .pointer (some ⟨w.heap.size + 1 + 1, 0, none⟩), .int .u64 (s : Int), .int .i64 (p.1 : Int), .int .u64 (((limbs x).getD p.1 0 : Nat) : Int), .slice (some ⟨g, 0, none⟩) (m + 1) capb, .slice (some ⟨g, 0, none⟩) (m + 1) capb, .int .i64 ((m : Int) + 1), .int .i64 (m : Int), .pointer (some ⟨g, m, none⟩), .int .u64 (r : Int), .int .u64 ((r : Int) + 1), .int .u64 (s : Int), u1, u2, u3, u4, u5, u6, u7, u8, .slice adx lx capx, .int .i64 (lx : Int), .slice (some ⟨W2.heap.size, 0, none⟩) lx lx, .slice adx lx capx, .func (.func 80) #[] #[.pointer (some ⟨w1.heap.size, 0, none⟩)], .int .i64 (p.1 : Int), .int .u64 (((limbs x).getD p.1 0 : Nat) : Int), undef, undef, undef, undef, undef, undef, undef, undef, undef, undef, undef, undef, undef, undef, undef, undef, undef, undef, undef], defers := [] }) ?assign ?body ?done ?stop
  case assign =>
    intro l p W K hK
    simp only [encL]
    gi_wp2
    exact hK
  case body =>
    rintro l pre p W ⟨rv, hJ, hR⟩ hlen
    have hpl : p.1 < lx := by rw [← HLX.out]; exact p.2
    have hF : dfold (limbs x) d lx (places (pre ++ [p])) = dstep (limbs x) d (dfold (limbs x) d lx (places pre)) p.1 := by
      rw [show places (pre ++ [p]) = places pre ++ [p.1] by simp [places], dfold_snoc]
    have hlenQ := dfold_length (limbs x) d lx (places pre)
    have hr := dfold_rest (L := limbs x) hd0 lx (places pre)
    obtain ⟨st, hst⟩ : ∃ st, dfold (limbs x) d lx (places pre) = st := ⟨_, rfl⟩
    rw [hst] at hJ hR hF hlenQ hr
    obtain ⟨rr, Q⟩ := st
    have hl := (low_limbs x).getD p.1
    obtain ⟨a1, ha1⟩ : ∃ a1, (limbs x).getD p.1 0 = a1 := ⟨_, rfl⟩
    obtain ⟨pk, hpk⟩ : ∃ pk, p.1 = pk := ⟨_, rfl⟩
    simp only at hJ hR hlenQ hr
    rw [ha1] at hl
    obtain ⟨t, ht⟩ : ∃ t, rr * 1000000000 + a1 = t := ⟨_, rfl⟩
    have HF : Hid (dfold (limbs x) d lx (places (pre ++ [p])) = (t % d, Q.set pk (t / d))) := Lib.hid (by rw [hF, dstep, ha1, hpk, ← ht])
    rw [ha1, hpk]
    rw [hpk] at hpl
    have HLQ := Lib.hid hlenQ
    have hlr : (limbs rr).length ≤ 900000 := Nat.le_trans (limbs_le (Nat.le_of_lt hr)) HLD.out
    have htd : t < d * 1000000000 := by omega
    have hlt : (limbs t).length ≤ 1000000 := by
      rw [← ht]
      have : rr * 1000000000 + a1 < d * 1000000000 := by omega
      have h2 := limbs_scaled (a := d) (s := 999999999) (by omega) HLD.out
      have h3 := lval_lt (low_limbs d)
      rw [lval_limbs] at h3
      refine Nat.le_trans (limbs_length (k := (limbs d).length + 1) ?_) (by have := HLD.out; omega)
      rw [Nat.pow_succ]
      exact Nat.lt_of_lt_of_le this (Nat.mul_le_mul_right _ (Nat.le_of_lt h3))
    have hlow : Low ([a1] ++ limbs rr) := by
      intro y hy
      rcases List.mem_append.1 hy with h | h
      · exact one_low hl y h
      · exact low_limbs rr y h
    have hval : lval ([a1] ++ limbs rr) = t := by
      rw [List.singleton_append, lval, lval_limbs, ← ht]; omega
    have HTD := Lib.hid htd
    have HLT := Lib.hid hlt
    have HLOW := Lib.hid hlow
    have HVAL := Lib.hid hval
    have hal : Below W.heap.size W (W.alloc (.cells #[.int .u64 (a1 : Int)] 73)) := (Below.refl _ W).alloc (Nat.le_refl _) _
    have hJL := hJ.below hal
    have HRL := Lib.hid ((hR.below hal).mono (Nat.zero_le _))
    have HLit := Lib.hid (own_lit W a1 (Nat.le_refl _))
    have c5 := hJL.2.2.2.2.1.cell
    have HJ := Lib.hid hJ
    have HR := Lib.hid hR
    have HLr := Lib.hid hlr
    have hszW := hJ.1.size
    clear ha1 hpk hF hst hlenQ hJ ht hal hJL hR htd hlt hlow hval hlr
    gi_wp2_with (first
      | (gi_at_builtin; refine wpListIn_append_limbs _ rfl _ _ rfl rfl rfl HLit.out HRL.out (by have := HLr.out; simp; omega) (by simp) ?_; intro v3 W3 hown3 hgrow3; have hb3 : Below W.heap.size W W3 := ((Below.refl _ W).alloc (Nat.le_refl _) _).grown hgrow3 (by simp) (by intro k hk; cases hk; exact Nat.le_refl _); have HO3 := Lib.hid hown3; have HB3 := Lib.hid hb3; have c6 := (HJ.out.below hb3).2.2.2.2.1.cell; have f6 := (HJ.out.below hb3).2.2.2.2.1.frozen; obtain ⟨ad3, cap3, rfl, -, -, -⟩ := hown3.view; clear hown3 hgrow3 hb3)
      | (refine ⟨trivial, ?_⟩; gi_at_call 62; refine (CallsIn.inRound l (callsIn_wide.2 (trimmed_any HO3.out HLOW.out))).mono ?_; rintro e W4 ⟨v4, rfl, hsz4, rfl⟩; rw [HVAL.out] at hsz4; have HS4 := Lib.hid hsz4; obtain ⟨ad4, cap4, rfl, -, -, -⟩ := hsz4.view; clear hsz4))
    have hb3 := HB3.out
    have hJ3 := HJ.out.below hb3
    have hJ4 := hJ3.setR (by omega) (.slice ad4 (limbs t).length cap4)
    have hS4 := (HS4.out.mono (Nat.zero_le _)).far1 (u := .slice ad4 (limbs t).length cap4) hJ3.2.2.2.2.1 (by decide)
    have hStep : Step WL.heap.size (w1.heap.size :: (Value.slice adx lx capx).ownBlock.toList) W (W3.setCell ⟨w.heap.size + 1 + 1, 0, none⟩ (.slice ad4 (limbs t).length cap4)) := (Step.below hb3).trans (Step.setCell W3 ⟨w.heap.size + 1 + 1, 0, none⟩ _ HNR.out)
    have hszd : W2.heap.size < W3.heap.size := Nat.lt_of_lt_of_le hs1' (Nat.le_trans (Nat.le_of_lt hJ3.2.2.2.2.2.1.lt) (Nat.le_refl _))
    obtain ⟨W4, hW4⟩ : ∃ W4, W3.setCell ⟨w.heap.size + 1 + 1, 0, none⟩ (.slice ad4 (limbs t).length cap4) = W4 := ⟨_, rfl⟩
    have hs4 : W4.heap.size = W3.heap.size := by rw [← hW4]; exact size_setCell _ _ _
    rw [hW4] at hJ4 hS4 hStep ⊢
    obtain ⟨lt, hlt⟩ : ∃ k, (limbs t).length = k := ⟨_, rfl⟩
    have HLT2 := Lib.hid hlt
    rw [hlt] at hJ4 hS4 ⊢
    have HSt := Lib.hid hStep
    have hDr : Below W4.heap.size W4 W4.drew := (Below.refl _ W4).drew
    have hJd := hJ4.below hDr
    have hSd := hS4.below hDr
    have HSd := Lib.hid hSd
    have HJd := Lib.hid hJd
    have HDr := Lib.hid hDr
    have q1 := hJd.2.2.2.1.cell
    have q2 := hJd.2.2.1.cell
    have q3 := hJd.2.2.2.2.1.cell
    clear hb3 hJ3 hW4 c5 c6 f6 HO3 HB3 HS4 hlt hJ4 hS4 hStep hDr hJd hSd HJ HR HRL HLit
    refine region_round (fun W' => W'.cell? ⟨w.heap.size + 1, 0, none⟩ = some (.slice (some ⟨W2.heap.size, 0, none⟩) lx lx) ∧ W'.cell? ⟨w.heap.size, 0, none⟩ = some (.slice (some ⟨gd, 0, none⟩) ld capd)) hmix (by kernel_rfl) (fun ⟨_, _, h⟩ => h) ?_
    have hS : (fun W' : World => W'.cell? ⟨w.heap.size + 1, 0, none⟩ = some (.slice (some ⟨W2.heap.size, 0, none⟩) lx lx) ∧ W'.cell? ⟨w.heap.size, 0, none⟩ = some (.slice (some ⟨gd, 0, none⟩) ld capd)) W4.drew := ⟨q1, q2⟩
    refine wpAnyH_take (i := 0) (oi := ⟨some 38, .load 51 (.tmp 4), _, _, _, _⟩) (v := ?_) rfl (by kernel_rfl) (by kernel_rfl) (by kernel_rfl) (fun _ _ _ h => h) (Or.inl ⟨by rfl, ?_⟩) (by assumption) ?_
    rotate_left
    · intro W' hSw; obtain ⟨q1, q2⟩ := hSw; go_simp; (try (with_reducible rfl))
    (try simp only [Act.put, List.setIfInBounds_toArray, List.set_cons_zero, List.set_cons_succ])
    refine wpAnyH_take (i := 1) (oi := ⟨some 39, .move (.tmp 7), _, _, _, _⟩) (v := ?_) rfl (by kernel_rfl) (by kernel_rfl) (by kernel_rfl) (fun _ _ _ h => h) (Or.inl ⟨by rfl, ?_⟩) (by assumption) ?_
    rotate_left
    · intro W' hSw; obtain ⟨q1, q2⟩ := hSw; go_simp; (try (with_reducible rfl))
    (try simp only [Act.put, List.setIfInBounds_toArray, List.set_cons_zero, List.set_cons_succ])
    refine wpAnyH_take (i := 3) (oi := ⟨some 41, .load 51 (.tmp 3), _, _, _, _⟩) (v := ?_) rfl (by kernel_rfl) (by kernel_rfl) (by kernel_rfl) (fun _ _ _ h => h) (Or.inl ⟨by rfl, ?_⟩) (by assumption) ?_
    rotate_left
    · intro W' hSw; obtain ⟨q1, q2⟩ := hSw; go_simp; (try (with_reducible rfl))
    (try simp only [Act.put, List.setIfInBounds_toArray, List.set_cons_zero, List.set_cons_succ])
    refine wpAnyH_ready (rs := [2]) (by kernel_rfl) (by simp) ?_
    refine AllReadyH.cons (o := ⟨some 40, .load 51 (.tmp 5), _, _, _, _⟩) rfl (fun K hK => ?_) AllReadyH.nil
    go_simp
    refine hK.out _ _ ⟨q1, q2⟩ (fun hS => ?_)
    clear hK K
    refine wpAnyH_ready (rs := [4]) (by kernel_rfl) (by simp) ?_
    refine AllReadyH.cons (o := ⟨some 42, .call { callee := .value (.func 67), args := #[.tmp 40, .tmp 41], argTypes := #[51, 51] }, _, _, _, _⟩) rfl (fun K hK => ?_) AllReadyH.nil
    go_simp
    have hC := divideOnce_any HSd.out HJd.out.2.2.2.2.2.2 hd0 HTD.out HLT.out HLD.out
    obtain ⟨qd, hqd⟩ : ∃ k, t / d = k := ⟨_, rfl⟩
    obtain ⟨rd, hrd⟩ : ∃ k, t % d = k := ⟨_, rfl⟩
    rw [hqd, hrd] at hC HF
    have HCC := Lib.hid hC
    clear hqd hrd hC
    refine HCC.out.mono ?_
    clear HCC
    rintro e W5 ⟨v5, rfl, hsz5, hb5⟩
    have hJ5 := HJd.out.below hb5
    have HJ5 := Lib.hid hJ5
    have HS5 := Lib.hid hsz5
    have HB5 := Lib.hid hb5
    obtain ⟨ad5, cap5, rfl, -, -, -⟩ := hsz5.view
    have q1 := hJ5.2.2.2.1.cell
    have q2 := hJ5.2.2.1.cell
    have q3 := hJ5.2.2.2.2.1.cell
    have f3 := hJ5.2.2.2.2.1.frozen
    clear hJ5 hsz5 hb5
    refine hK.out _ _ ⟨q1, q2⟩ (fun hS => ?_)
    clear hK K
    refine wpAnyH_take (i := 5) (oi := ⟨some 37, .move (.tmp 42), _, _, _, _⟩) (v := ?_) rfl (by kernel_rfl) (by kernel_rfl) (by kernel_rfl) (fun _ _ _ h => h) (Or.inl ⟨by rfl, ?_⟩) (by assumption) ?_
    rotate_left
    · intro W' hSw; obtain ⟨q1, q2⟩ := hSw; go_simp; (try (with_reducible rfl))
    (try simp only [Act.put, List.setIfInBounds_toArray, List.set_cons_zero, List.set_cons_succ])
    refine wpAnyH_take (i := 6) (oi := ⟨some 43, .extract (.tmp 37) 0, _, _, _, _⟩) (v := ?_) rfl (by kernel_rfl) (by kernel_rfl) (by kernel_rfl) (fun _ _ _ h => h) (Or.inl ⟨by rfl, ?_⟩) (by assumption) ?_
    rotate_left
    · intro W' hSw; obtain ⟨q1, q2⟩ := hSw; go_simp; (try (with_reducible rfl))
    (try simp only [Act.put, List.setIfInBounds_toArray, List.set_cons_zero, List.set_cons_succ])
    refine wpAnyH_take (i := 7) (oi := ⟨some 44, .extract (.tmp 37) 1, _, _, _, _⟩) (v := ?_) rfl (by kernel_rfl) (by kernel_rfl) (by kernel_rfl) (fun _ _ _ h => h) (Or.inl ⟨by rfl, ?_⟩) (by assumption) ?_
    rotate_left
    · intro W' hSw; obtain ⟨q1, q2⟩ := hSw; go_simp; (try (with_reducible rfl))
    (try simp only [Act.put, List.setIfInBounds_toArray, List.set_cons_zero, List.set_cons_succ])
    refine wpAnyH_take (i := 8) (oi := ⟨some 45, .indexAddr 51 (.tmp 38) (.tmp 39), _, _, _, _⟩) (v := ?_) rfl (by kernel_rfl) (by kernel_rfl) (by kernel_rfl) (fun _ _ _ h => h) (Or.inl ⟨by rfl, ?_⟩) (by assumption) ?_
    rotate_left
    · intro W' hSw; obtain ⟨q1, q2⟩ := hSw; go_simp; (try (with_reducible rfl))
    (try simp only [Act.put, List.setIfInBounds_toArray, List.set_cons_zero, List.set_cons_succ])
    have hcell := World.ownsRow.cells HJ5.out.2.1 (g := W2.heap.size) rfl pk _ (u64s_at (by rw [HLQ.out]; exact hpl))
    rw [Lib.add_plain, Nat.zero_add] at hcell
    have hfr := HJ5.out.2.1.frozen HLQ.out.symm pk
    obtain ⟨old, hold⟩ : ∃ old, Q.getD pk 0 = old := ⟨_, rfl⟩
    rw [hold] at hcell
    clear hold
    refine wpAnyH_ready (rs := [9]) (by kernel_rfl) (by simp) ?_
    refine AllReadyH.cons (o := ⟨none, .store 73 (.tmp 45) (.tmp 43), _, _, _, _⟩) rfl (fun K hK => ?_) AllReadyH.nil
    go_simp
    have hJ6 := HJ5.out.setQ HLQ.out.symm lt3 (by omega) (by omega) pk qd
    have hS6 : Sz w.heap.size (W5.setCell ⟨W2.heap.size, pk, none⟩ (.int .u64 (qd : Int))) (.slice ad5 (limbs rd).length cap5) rd := by
      exact (Own.low (p := ⟨W2.heap.size, pk, none⟩) HS5.out (by show W2.heap.size < W4.heap.size; rw [hs4]; exact hszd)).mono (by have := HJd.out.1.size; exact this)
    have hStep6 := Step.setCell (K0 := WL.heap.size) (bs := w1.heap.size :: (Value.slice adx lx capx).ownBlock.toList) W5 ⟨W2.heap.size, pk, none⟩ (.int .u64 (qd : Int)) HNQ.out
    obtain ⟨W6, hW6⟩ : ∃ W6, W5.setCell ⟨W2.heap.size, pk, none⟩ (.int .u64 (qd : Int)) = W6 := ⟨_, rfl⟩
    rw [hW6] at hJ6 hS6 hStep6 ⊢
    have HJ6 := Lib.hid hJ6
    have HS6 := Lib.hid hS6
    have HSt6 := Lib.hid hStep6
    have q1 := hJ6.2.2.2.1.cell
    have q2 := hJ6.2.2.1.cell
    have q3 := hJ6.2.2.2.2.1.cell
    have f3 := hJ6.2.2.2.2.1.frozen
    have hJ7 := hJ6.setR (by omega) (.slice ad5 (limbs rd).length cap5)
    have hJ7d := hJ7.below (Below.refl _ _)
    have r1 := hJ7.2.2.2.1.cell
    have r2 := hJ7.2.2.1.cell
    have HJ7 := Lib.hid hJ7
    clear hcell hfr hJ6 hS6 hStep6 hW6 hJ7 hJ7d
    refine hK.out _ _ ⟨q1, q2⟩ (fun _ => ?_)
    clear hK K
    refine wpAnyH_ready (rs := [10]) (by kernel_rfl) (by simp) ?_
    refine AllReadyH.cons (o := ⟨none, .store 51 (.tmp 5) (.tmp 44), _, _, _, _⟩) rfl (fun K hK => ?_) AllReadyH.nil
    go_simp
    refine hK.out _ _ ⟨r1, r2⟩ (fun _ => ?_)
    refine wpAnyH_done (by kernel_rfl) ?_ _
    clear hK K hS
    gi_wp2
    have hS7 := HS6.out.far1 (u := .slice ad5 (limbs rd).length cap5) HJ6.out.2.2.2.2.1 (by decide)
    have hst7 := ((HSt.out.trans ((Step.below HDr.out).trans (Step.below HB5.out))).trans HSt6.out).trans (Step.setCell W6 ⟨w.heap.size + 1 + 1, 0, none⟩ (.slice ad5 (limbs rd).length cap5) HNR.out)
    refine ⟨hst7.1, hst7.2, .slice ad5 (limbs rd).length cap5, ?_, ?_⟩
    · rw [HF.out]; exact HJ7.out
    · rw [HF.out]; exact hS7
  case done =>
    rintro D ys W hD hys ⟨rv, hJ, hR⟩ hK
    have hall := dfold_all (x := x) hd0
    have hlow := dfold_low (low_limbs x) hd0 lx (places ys)
    obtain ⟨q, hq⟩ : ∃ q, places ys = q := ⟨_, rfl⟩
    rw [hq] at hys hJ hR hlow
    rw [← hys, HLX.out] at hall
    have hd1 : x / d = a / b := by rw [← HXE.out, ← HDE.out]; exact Nat.mul_div_mul_right _ _ hs1
    have hd2 : x % d = (a % b) * s := by rw [← HXE.out, ← HDE.out]; exact Nat.mul_mod_mul_right _ _ _
    rw [hall.2, hd2] at hR
    have hle2 : (limbs (a % b * s)).length ≤ 1000000 := by rw [← hd2]; exact Nat.le_trans (limbs_le (Nat.le_of_lt (Nat.mod_lt _ hd0))) (by have := HLD.out; omega)
    rw [hd1] at hall
    have HT : Hid (∀ W', Below W.heap.size W W' → Calls Tryd.prog 62 #[.slice (some ⟨W2.heap.size, 0, none⟩) lx lx] W' fun e w' => Gives w.heap.size W' (a / b) e w') := Lib.hid (fun W' hb => (trimmed_any (hJ.2.1.below hb) hlow).mono fun e w' ⟨v', h1, h2, h3⟩ => ⟨v', h1, by rw [← hall.1]; exact h2, h3⟩)
    have hHDL : ∀ W', Below W.heap.size W W' → Calls Tryd.prog 68 #[rv, .int .u64 (s : Int)] W' fun e w' => Makes W'.heap.size W' (a % b) e w' := fun W' hb => by
      have := divideByLimb_any ((hR.below hb).mono (Nat.zero_le _)) (by omega) hs9 hle2
      rwa [Nat.mul_div_cancel _ (by omega : 0 < s)] at this
    have HDL := Lib.hid hHDL
    have HJW := Lib.hid hJ
    have HRW := Lib.hid hR
    obtain ⟨adr, capr, rfl, -, -, -⟩ := hR.view
    have c4 := hJ.2.2.2.1.cell
    have c5 := hJ.2.2.2.2.1.cell
    have f4 := hJ.2.2.2.1.frozen
    have f5 := hJ.2.2.2.2.1.frozen
    clear hall hlow hys hq hJ hR hle2 hHDL hd1 hd2 stL bC hgd
    gi_wp2
    refine wpIn_normal ?_
    refine wpIn_wide.2 ?_
    refine wp_region_any hmix ?_
    change wpAny _ _ _ _ _ _ _ (World.drew _)
    have hV : Below W.heap.size W W.drew := (Below.refl _ W).drew
    have HJV := Lib.hid (HJW.out.below hV)
    have HKV : Hid (W.drew.heap[D]? = some (.deferred (some []))) := Lib.hid hK
    have c4 := HJV.out.2.2.2.1.cell
    have c5 := HJV.out.2.2.2.2.1.cell
    have HDD : Hid (w.heap.size ≤ D) := Lib.hid (Nat.le_trans HSL1 hD)
    obtain ⟨V, hV0⟩ : ∃ V, W.drew = V := ⟨_, rfl⟩
    rw [hV0] at hV HJV HKV c4 c5 ⊢
    have HV := Lib.hid hV
    clear hV hV0 hK hD f4 f5
    refine wpAny_take (i := 3) (oi := ⟨some 49, .move (.tmp 6), _, _, _, _⟩) (v := ?_) rfl (by kernel_rfl) (by kernel_rfl) (by kernel_rfl) (fun _ _ _ h => absurd h.1 (by simp)) (Or.inl ⟨by rfl, ?_⟩) ?_
    rotate_left
    · intro W'; go_simp; (try (with_reducible rfl))
    (try simp only [Act.put, List.setIfInBounds_toArray, List.set_cons_zero, List.set_cons_succ])
    refine wpAny_ready (rs := [0, 2]) (by kernel_rfl) (by simp) ?_
    refine AllReady.cons rfl (fun K hK => ?_) (AllReady.cons rfl (fun K hK => ?_) AllReady.nil)
    · go_simp
      refine hK _ _ ?_
      clear hK K
      refine wpAny_ready (rs := [1, 2]) (by kernel_rfl) (by simp) ?_
      refine AllReady.cons rfl (fun K hK => ?_) (AllReady.cons rfl (fun K hK => ?_) AllReady.nil)
      · go_simp
        refine (HT.out _ HV.out).mono ?_
        rintro e Vx ⟨v1, rfl, P1, rfl⟩
        obtain ⟨ad1, cap1, rfl, -, -, -⟩ := (id P1).view
        refine hK _ _ ?_
        clear hK K
        refine wpAny_ready (rs := [2]) (by kernel_rfl) (by simp) ?_
        refine AllReady.cons rfl (fun K hK => ?_) AllReady.nil
        go_simp
        refine hK _ _ ?_
        clear hK K
        refine wpAny_ready (rs := [4]) (by kernel_rfl) (by simp) ?_
        refine AllReady.cons rfl (fun K hK => ?_) AllReady.nil
        go_simp
        refine (HDL.out _ HV.out).mono ?_
        rintro e V2 ⟨v2, rfl, P2, hb⟩
        have hJ2 := HJV.out.below hb
        have P1 := Own.below P1 hb
        have P2 := Sz.mono (lo' := w.heap.size) P2 HJV.out.1.size
        have hK2 := hb.block D (Array.getElem?_eq_some_iff.1 HKV.out).1 |>.trans HKV.out
        obtain ⟨ad2, cap2, rfl, -, -, -⟩ := (id P2).view
        have hL := leaf9 hJ2.1 hJ2.2.2.2.1 hJ2.2.2.2.2.1 P1 P2 HDD.out hK2
        have b5 := hJ2.2.2.2.2.1.other (B' := w.heap.size + 1) (by omega) (.slice ad1 (limbs (a / b)).length cap1)
        have c4 := hJ2.2.2.2.1.cell
        have f4 := hJ2.2.2.2.1.frozen
        have c5 := b5.cell
        have f5 := b5.frozen
        clear hJ2 P1 P2 hb b5 hK2
        refine hK _ _ ?_
        clear hK K
        refine wpAny_ready (rs := [5]) (by kernel_rfl) (by simp) ?_
        refine AllReady.cons rfl (fun K hK => ?_) AllReady.nil
        go_simp
        refine hK _ _ ?_
        clear hK K
        refine wpAny_ready (rs := [6]) (by kernel_rfl) (by simp) ?_
        refine AllReady.cons rfl (fun K hK => ?_) AllReady.nil
        go_simp
        refine hK _ _ ?_
        clear hK K
        refine wpAny_done (by kernel_rfl) ?_ _
        refine ⟨rfl, ?_⟩
        gi_wp2
        obtain ⟨l1, l2, l3, l4, l5, l6⟩ := hL
        refine ⟨by simp, .inl ⟨_, _, rfl, run_takeDeferred l1, ?_⟩⟩
        refine ⟨.tuple #[.slice ad1 (limbs (a / b)).length cap1, .slice ad2 (limbs (a % b)).length cap2], ?_, _, _, rfl, l4, l5, l6⟩
        simp [results, Tryd.results54, go_sem, l2, l3]
      · go_simp
        refine hK _ _ ?_
        clear hK K
        refine wpAny_ready (rs := [1]) (by kernel_rfl) (by simp) ?_
        refine AllReady.cons rfl (fun K hK => ?_) AllReady.nil
        go_simp
        refine (HT.out _ HV.out).mono ?_
        rintro e Vx ⟨v1, rfl, P1, rfl⟩
        obtain ⟨ad1, cap1, rfl, -, -, -⟩ := (id P1).view
        refine hK _ _ ?_
        clear hK K
        refine wpAny_ready (rs := [4]) (by kernel_rfl) (by simp) ?_
        refine AllReady.cons rfl (fun K hK => ?_) AllReady.nil
        go_simp
        refine (HDL.out _ HV.out).mono ?_
        rintro e V2 ⟨v2, rfl, P2, hb⟩
        have hJ2 := HJV.out.below hb
        have P1 := Own.below P1 hb
        have P2 := Sz.mono (lo' := w.heap.size) P2 HJV.out.1.size
        have hK2 := hb.block D (Array.getElem?_eq_some_iff.1 HKV.out).1 |>.trans HKV.out
        obtain ⟨ad2, cap2, rfl, -, -, -⟩ := (id P2).view
        have hL := leaf9 hJ2.1 hJ2.2.2.2.1 hJ2.2.2.2.2.1 P1 P2 HDD.out hK2
        have b5 := hJ2.2.2.2.2.1.other (B' := w.heap.size + 1) (by omega) (.slice ad1 (limbs (a / b)).length cap1)
        have c4 := hJ2.2.2.2.1.cell
        have f4 := hJ2.2.2.2.1.frozen
        have c5 := b5.cell
        have f5 := b5.frozen
        clear hJ2 P1 P2 hb b5 hK2
        refine hK _ _ ?_
        clear hK K
        refine wpAny_ready (rs := [5]) (by kernel_rfl) (by simp) ?_
        refine AllReady.cons rfl (fun K hK => ?_) AllReady.nil
        go_simp
        refine hK _ _ ?_
        clear hK K
        refine wpAny_ready (rs := [6]) (by kernel_rfl) (by simp) ?_
        refine AllReady.cons rfl (fun K hK => ?_) AllReady.nil
        go_simp
        refine hK _ _ ?_
        clear hK K
        refine wpAny_done (by kernel_rfl) ?_ _
        refine ⟨rfl, ?_⟩
        gi_wp2
        obtain ⟨l1, l2, l3, l4, l5, l6⟩ := hL
        refine ⟨by simp, .inl ⟨_, _, rfl, run_takeDeferred l1, ?_⟩⟩
        refine ⟨.tuple #[.slice ad1 (limbs (a / b)).length cap1, .slice ad2 (limbs (a % b)).length cap2], ?_, _, _, rfl, l4, l5, l6⟩
        simp [results, Tryd.results54, go_sem, l2, l3]
    · go_simp
      refine hK _ _ ?_
      clear hK K
      refine wpAny_ready (rs := [0]) (by kernel_rfl) (by simp) ?_
      refine AllReady.cons rfl (fun K hK => ?_) AllReady.nil
      go_simp
      refine hK _ _ ?_
      clear hK K
      refine wpAny_ready (rs := [1]) (by kernel_rfl) (by simp) ?_
      refine AllReady.cons rfl (fun K hK => ?_) AllReady.nil
      go_simp
      refine (HT.out _ HV.out).mono ?_
      rintro e Vx ⟨v1, rfl, P1, rfl⟩
      obtain ⟨ad1, cap1, rfl, -, -, -⟩ := (id P1).view
      refine hK _ _ ?_
      clear hK K
      refine wpAny_ready (rs := [4]) (by kernel_rfl) (by simp) ?_
      refine AllReady.cons rfl (fun K hK => ?_) AllReady.nil
      go_simp
      refine (HDL.out _ HV.out).mono ?_
      rintro e V2 ⟨v2, rfl, P2, hb⟩
      have hJ2 := HJV.out.below hb
      have P1 := Own.below P1 hb
      have P2 := Sz.mono (lo' := w.heap.size) P2 HJV.out.1.size
      have hK2 := hb.block D (Array.getElem?_eq_some_iff.1 HKV.out).1 |>.trans HKV.out
      obtain ⟨ad2, cap2, rfl, -, -, -⟩ := (id P2).view
      have hL := leaf9 hJ2.1 hJ2.2.2.2.1 hJ2.2.2.2.2.1 P1 P2 HDD.out hK2
      have b5 := hJ2.2.2.2.2.1.other (B' := w.heap.size + 1) (by omega) (.slice ad1 (limbs (a / b)).length cap1)
      have c4 := hJ2.2.2.2.1.cell
      have f4 := hJ2.2.2.2.1.frozen
      have c5 := b5.cell
      have f5 := b5.frozen
      clear hJ2 P1 P2 hb b5 hK2
      refine hK _ _ ?_
      clear hK K
      refine wpAny_ready (rs := [5]) (by kernel_rfl) (by simp) ?_
      refine AllReady.cons rfl (fun K hK => ?_) AllReady.nil
      go_simp
      refine hK _ _ ?_
      clear hK K
      refine wpAny_ready (rs := [6]) (by kernel_rfl) (by simp) ?_
      refine AllReady.cons rfl (fun K hK => ?_) AllReady.nil
      go_simp
      refine hK _ _ ?_
      clear hK K
      refine wpAny_done (by kernel_rfl) ?_ _
      refine ⟨rfl, ?_⟩
      gi_wp2
      obtain ⟨l1, l2, l3, l4, l5, l6⟩ := hL
      refine ⟨by simp, .inl ⟨_, _, rfl, run_takeDeferred l1, ?_⟩⟩
      refine ⟨.tuple #[.slice ad1 (limbs (a / b)).length cap1, .slice ad2 (limbs (a % b)).length cap2], ?_, _, _, rfl, l4, l5, l6⟩
      simp [results, Tryd.results54, go_sem, l2, l3]
  case stop =>
    rintro D c pre W _ _ h _
    exact h.elim

end Go.Proofs.YtlilojaefpnkmaaDoor
