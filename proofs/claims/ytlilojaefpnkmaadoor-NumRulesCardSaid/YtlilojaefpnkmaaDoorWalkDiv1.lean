/- divideByLimb. -/
import Derived.Test.YtlilojaefpnkmaaDoorWalkPlus
import Derived.Test.YtlilojaefpnkmaaDoorMath3
import Derived.Test.YtlilojaefpnkmaaDoorRound
import Derived.Deep.RegionHeld
namespace Go.Proofs.YtlilojaefpnkmaaDoor
open Go.RowKit Go.Shelf

/-- An owned slice speaks of cells alone. -/
theorem own_kept {β : Type} (lo : Nat) (v : Value) (f : β → List Nat) : _root_.Go.Own (fun (s : β) W => Own lo W v (f s)) := by
  rintro s A B row ⟨h1, h2⟩ hg hr
  refine ⟨h1, ?_⟩
  rcases h2 with h2 | ⟨g, cap, cur, h2, h3, h4, h5⟩
  · exact .inl h2
  · refine .inr ⟨g, cap, cur, h2, h3, ?_, h5⟩
    rw [hg.block g (Array.getElem?_eq_some_iff.1 h4).1 (fun e => ?_)]
    · exact h4
    · obtain ⟨o, ho, hc⟩ := hr g e.symm
      rw [h4] at ho
      cases ho
      exact absurd hc (by simp [Obj.isCells])
theorem own_far_box {lo : Nat} {w : World} {g n cap : Nat} {l : List Nat} {p : Addr} {u : Value} (h : Own lo w (.slice (some ⟨g, 0, none⟩) n cap) l) (hp : g ≠ p.block) : Own lo (w.setCell p u) (.slice (some ⟨g, 0, none⟩) n cap) l := by
  obtain ⟨h1, h2⟩ := h
  refine ⟨h1, ?_⟩
  rcases h2 with h2 | ⟨g', cap', cur, h2, h3, h4, h5⟩
  · exact .inl h2
  · refine .inr ⟨g', cap', cur, h2, h3, ?_, h5⟩
    cases h2
    rw [Below.heap_setCell _ _ _ _ hp]; exact h4
theorem box_other {W : World} {B : Nat} {t : TypeId} {v : Value} {p : Addr} (h : Boxed W B t v) (hp : B ≠ p.block) (u : Value) : Boxed (W.setCell p u) B t v := by
  unfold Boxed
  rw [Below.heap_setCell _ _ _ _ hp]
  exact h
/-- A slice of limbs stands when a block that holds none is turned. -/
theorem Sz.put {lo : Nat} {W : World} {v : Value} {n D : Nat} {o o' : Obj} (h : Sz lo W v n) (hK : W.heap[D]? = some o) (ho : o.isCells = false) : Sz lo (W.putObj D o') v n := by
  obtain ⟨h1, h2⟩ := h
  refine ⟨h1, ?_⟩
  rcases h2 with h2 | ⟨g, cap, cur, h2, h3, h4, h5⟩
  · exact .inl h2
  · refine .inr ⟨g, cap, cur, h2, h3, ?_, h5⟩
    rw [World.putObj_heap_other (fun e => ?_)]
    · exact h4
    · subst e
      rw [h4] at hK
      cases hK
      exact absurd ho (by simp [Obj.isCells])
/-- A call that answers the size n, and leaves the world. -/
def Gives (lo : Nat) (w : World) (n : Nat) (e : Ending) (w' : World) : Prop := ∃ v, e = .returned v ∧ Sz lo w v n ∧ w = w'
theorem boxed_grown {W W' : World} {B : Nat} {t : TypeId} {v : Value} (h : Boxed W B t v) (hg : W.grownBy W' none) : Boxed W' B t v := h.kept hg (by simp)

attribute [local go_sem] Oper.semAt_some

set_option maxRecDepth 100000 in
set_option maxHeartbeats 2000000 in
theorem divideByLimb_any {w : World} {va : Value} {x d : Nat} (hx : Sz 0 w va x) (hd : 0 < d) (hd9 : d < 1000000000) (hlx : (limbs x).length ≤ 1000000) :
    Calls Tryd.prog 68 #[va, .int .u64 d] w fun e w' => Makes w.heap.size w (x / d) e w' := by
  obtain ⟨i0, hi, hz0, hz1, hz2⟩ := info_parts Tryd.infoU64
  have HX := Lib.hid hx
  obtain ⟨ada, capa, rfl, -, -, -⟩ := hx.view
  obtain ⟨la, hla⟩ : ∃ la, (limbs x).length = la := ⟨_, rfl⟩
  have HLA := Lib.hid hla
  rw [hla] at hlx HX ⊢
  clear hx hla
  obtain ⟨w1, hrun, hown1, hgrow1⟩ := run_make_full (P := Tryd.prog) (w.alloc (.cells #[.int .u64 (d : Int)] 73)) w.heap.size 51 73 i0 (.int .u64 0) 1 Tryd.underlying51 hi hz0 hz1 .i64 .i64 la (by rw [hz2]; omega) (by unfold maxLen; omega) (by simp)
  refine (callsIn_wide (n := 9)).1 ?_
  refine callsIn_of_wp_marks Tryd.func68 rfl trivial ?_ rfl
  simp only [Tryd.ntmps68, List.size_toArray, List.length_cons, List.length_nil, Nat.reduceAdd, Nat.reduceSub, Array.replicate_succ, Array.replicate_zero, List.push_toArray, List.append_toArray, List.nil_append, List.cons_append]
  gi_wp2_with (refine ⟨trivial, ?_⟩; gi_at_call 64; refine (fromLast_in Fence.wide (9 - 1) trivial rfl _ _ _ _).mono ?_; rintro e w' ⟨rfl, rfl⟩)
  have hO1 := Own.made hown1
  have hs1 : w.heap.size + 1 < w1.heap.size := by have := (World.ownsRow.lt hown1 (w.heap.size + 1) (by simp [Value.ownBlock])).2; exact this
  have bD := boxed_grown (Boxed.new w 73 (.int .u64 (d : Int))) hgrow1
  have bQ := Boxed.new w1 51 (.slice (some ⟨w.heap.size + 1, 0, none⟩) la la)
  have bR := Boxed.new (w1.alloc (.cells #[.slice (some ⟨w.heap.size + 1, 0, none⟩) la la] 51)) 73 (.int .u64 0)
  have bA := Boxed.new ((w1.alloc (.cells #[.slice (some ⟨w.heap.size + 1, 0, none⟩) la la] 51)).alloc (.cells #[.int .u64 0] 73)) 51 (.slice ada la capa)
  rw [World.size_alloc] at bR
  rw [World.size_alloc, World.size_alloc] at bA
  have hB1 : Below w.heap.size w w1 := ((Below.refl _ w).alloc (Nat.le_refl _) _).grown hgrow1 (by simp) (fun k hk => by cases hk)
  have hB0 : Below w.heap.size w (((w1.alloc (.cells #[.slice (some ⟨w.heap.size + 1, 0, none⟩) la la] 51)).alloc (.cells #[.int .u64 0] 73)).alloc (.cells #[.slice ada la capa] 51)) := ((hB1.alloc (by omega) _).alloc (by simp; omega) _).alloc (by simp; omega) _
  have hXA := HX.out.below hB0
  have hO3 : Own w.heap.size (((w1.alloc (.cells #[.slice (some ⟨w.heap.size + 1, 0, none⟩) la la] 51)).alloc (.cells #[.int .u64 0] 73)).alloc (.cells #[.slice ada la capa] 51)) (.slice (some ⟨w.heap.size + 1, 0, none⟩) la la) (List.replicate la 0) := by
    have := hO1.below ((((Below.refl _ w1).alloc (Nat.le_refl _) (.cells #[.slice (some ⟨w.heap.size + 1, 0, none⟩) la la] 51)).alloc (by simp) (.cells #[.int .u64 0] 73)).alloc (by simp; omega) (.cells #[.slice ada la capa] 51))
    rwa [World.size_alloc] at this
  clear hrun hown1 hgrow1 hO1
  refine wpIn_rangeFunc_ownG rfl (by omega) (gf := 80) (lb := #[.pointer (some ⟨w1.heap.size + 1 + 1, 0, none⟩)]) rfl trivial (enters_of Tryd.func80 (by kernel_rfl) rfl)
    (fromLast_stops Fence.wide (9 - 1) trivial rfl (by omega) (w1.heap.size + 1 + 1) _ (limbs x) (by rw [HLA.out]; exact hlx) _ bA hXA) KeepB.trans (KeepB.putObj (blocks_lt bA hXA)) (Below.refl _ _) (fun _ => rfl)
    (fun pre W => (Own w.heap.size W (.slice (some ⟨w.heap.size + 1, 0, none⟩) la la) (dfold (limbs x) d la (places pre)).2 ∧ Boxed W w.heap.size 73 (.int .u64 (d : Int)) ∧ Boxed W w1.heap.size 51 (.slice (some ⟨w.heap.size + 1, 0, none⟩) la la) ∧ Boxed W (w1.heap.size + 1) 73 (.int .u64 (((dfold (limbs x) d la (places pre)).1 : Nat) : Int)) ∧ Boxed W (w1.heap.size + 1 + 1) 51 (.slice ada la capa)) ∧ Below w.heap.size w W)
    (fun _ _ _ => False)
    (OwnFrom.and (_root_.Go.Own.from (fun s A B row hs hg hr => ⟨own_kept _ _ (fun s => (dfold (limbs x) d la (places s)).2) s A B row hs.1 hg hr, boxed_own _ _ (fun _ => _) s A B row hs.2.1 hg hr, boxed_own _ _ (fun _ => _) s A B row hs.2.2.1 hg hr, boxed_own _ _ (fun s => .int .u64 (((dfold (limbs x) d la (places s)).1 : Nat) : Int)) s A B row hs.2.2.2.1 hg hr, boxed_own _ _ (fun _ => _) s A B row hs.2.2.2.2 hg hr⟩) _) (ownFrom_below (Nat.le_refl _) (by simp; omega)))
    (fun _ _ _ _ _ hs _ _ => hs)
    ⟨⟨hO3, ((bD.alloc _).alloc _).alloc _, (bQ.alloc _).alloc _, bR.alloc _, bA⟩, hB0⟩
    (fun p => { tmps := #[.slice ada la capa, .int .u64 (d : Int), undef, .pointer (some ⟨w.heap.size, 0, none⟩), .slice none 0 0, .pointer (some ⟨w1.heap.size, 0, none⟩), .pointer (some ⟨w1.heap.size + 1, 0, none⟩), .int .i64 (p.1 : Int), .int .u64 (((limbs x).getD p.1 0 : Nat) : Int), .slice ada la capa, .int .i64 la, .slice (some ⟨w.heap.size + 1, 0, none⟩) la la, .slice ada la capa, .func (.func 80) #[] #[.pointer (some ⟨w1.heap.size + 1 + 1, 0, none⟩)], .int .i64 (p.1 : Int), .int .u64 (((limbs x).getD p.1 0 : Nat) : Int), undef, undef, undef, undef, undef, undef, undef, undef, undef, undef, undef, undef, undef, undef, undef], defers := [] }) ?assign ?body ?done ?stop
  case assign =>
    intro l p W K hK
    simp only [encL]
    gi_wp2
    exact hK
  case body =>
    rintro l pre p W ⟨⟨hO, hbD, hbQ, hbR, hbA⟩, hB⟩ hlen
    have hpl : p.1 < la := by rw [← HLA.out]; exact p.2
    have hF : dfold (limbs x) d la (places (pre ++ [p])) = dstep (limbs x) d (dfold (limbs x) d la (places pre)) p.1 := by
      rw [show places (pre ++ [p]) = places pre ++ [p.1] by simp [places], dfold_snoc]
    have hlenQ := dfold_length (limbs x) d la (places pre)
    have hr := dfold_rest (L := limbs x) hd la (places pre)
    obtain ⟨st, hst⟩ : ∃ st, dfold (limbs x) d la (places pre) = st := ⟨_, rfl⟩
    rw [hst] at hO hbR hF hlenQ hr
    obtain ⟨r, Q⟩ := st
    have hl := (low_limbs x).getD p.1
    obtain ⟨a, ha⟩ : ∃ a, (limbs x).getD p.1 0 = a := ⟨_, rfl⟩
    obtain ⟨pk, hpk⟩ : ∃ pk, p.1 = pk := ⟨_, rfl⟩
    simp only at hO hbR hlenQ hr
    rw [ha] at hl
    have HF : Hid (dfold (limbs x) d la (places (pre ++ [p])) = ((r * 1000000000 + a) % d, Q.set pk ((r * 1000000000 + a) / d))) := Lib.hid (by rw [hF, dstep, ha, hpk])
    rw [ha, hpk]
    rw [hpk] at hpl
    have HLQ := Lib.hid hlenQ
    have hcD := hbD.cell
    have hcQ := hbQ.cell
    have hcR := hbR.cell
    have hfR := hbR.frozen
    clear ha hpk hF hst hlenQ
    have hmix : Tryd.prog.follows .mixedOrders = true := by kernel_rfl
    obtain ⟨t, ht⟩ : ∃ t, r * 1000000000 + a = t := ⟨_, rfl⟩
    have htI : (r : Int) * 1000000000 + a = t := by omega
    have htb : t < 1000000000000000000 := by omega
    rw [ht] at HF
    have HB := Lib.hid hB
    have HO := Lib.hid hO
    gi_wp2
    obtain ⟨W2, hW2⟩ : ∃ W2, W.setCell ⟨w1.heap.size + 1, 0, none⟩ (.int .u64 (t : Int)) = W2 := ⟨_, rfl⟩
    rw [hW2]
    have bQ2 : Boxed W2 w1.heap.size 51 (.slice (some ⟨w.heap.size + 1, 0, none⟩) la la) := by rw [← hW2]; exact hbQ.other (by omega) _
    have bR2 : Boxed W2 (w1.heap.size + 1) 73 (.int .u64 (t : Int)) := by rw [← hW2]; exact hbR.set _
    have bD2 : Boxed W2 w.heap.size 73 (.int .u64 (d : Int)) := by rw [← hW2]; exact hbD.other (by omega) _
    have bA2 : Boxed W2 (w1.heap.size + 1 + 1) 51 (.slice ada la capa) := by rw [← hW2]; exact hbA.other (by omega) _
    have hO2 : Own w.heap.size W2 (.slice (some ⟨w.heap.size + 1, 0, none⟩) la la) Q := by rw [← hW2]; exact own_far_box hO (by simp; omega)
    have hB2 : Below w.heap.size w W2 := by rw [← hW2]; exact hB.setCell (p := ⟨w1.heap.size + 1, 0, none⟩) (by simp; omega) _
    have hKF2 : KeepsFrom (((w1.alloc (.cells #[.slice (some ⟨w.heap.size + 1, 0, none⟩) la la] 51)).alloc (.cells #[.int .u64 0] 73)).alloc (.cells #[.slice ada la capa] 51)).heap.size W W2 := by rw [← hW2]; exact (KeepsOthers.setCell _ _ _).from _
    have hcell := World.ownsRow.cells hO2.row (g := w.heap.size + 1) rfl pk _ (u64s_at (by rw [HLQ.out]; exact hpl))
    rw [Lib.add_plain, Nat.zero_add] at hcell
    have hfr := hO2.frozen HLQ.out.symm pk
    obtain ⟨old, hold⟩ : ∃ old, Q.getD pk 0 = old := ⟨_, rfl⟩
    rw [hold] at hcell
    have c1 := bQ2.cell
    have c2 := bR2.cell
    have c3 := bD2.cell
    have f2 := bR2.frozen
    clear hold hcD hcQ hcR hfR hW2 ht htI hB hO
    have hd0 : d ≠ 0 := by omega
    have hwq : IntKind.u64.wrap ((t : Int) / (d : Int)) = ((t / d : Nat) : Int) := by
      rw [IntKind.wrap_u64, Int.natCast_ediv]
      have : (t : Int) / (d : Int) ≤ t := Int.ediv_le_self _ (by omega)
      have : 0 ≤ (t : Int) / (d : Int) := Int.ediv_nonneg (by omega) (by omega)
      omega
    refine region_round (fun W' => W'.cell? ⟨w1.heap.size, 0, none⟩ = some (.slice (some ⟨w.heap.size + 1, 0, none⟩) la la) ∧ W'.cell? ⟨w1.heap.size + 1, 0, none⟩ = some (.int .u64 (t : Int)) ∧ W'.cell? ⟨w.heap.size, 0, none⟩ = some (.int .u64 (d : Int))) hmix (by kernel_rfl) (fun ⟨_, _, h⟩ => h) ?_
    have hS : (fun W' : World => W'.cell? ⟨w1.heap.size, 0, none⟩ = some (.slice (some ⟨w.heap.size + 1, 0, none⟩) la la) ∧ W'.cell? ⟨w1.heap.size + 1, 0, none⟩ = some (.int .u64 (t : Int)) ∧ W'.cell? ⟨w.heap.size, 0, none⟩ = some (.int .u64 (d : Int))) W2.drew := ⟨c1, c2, c3⟩
    refine wpAnyH_take (i := 0) (oi := ⟨some 20, .load 51 (.tmp 5), _, _, _, _⟩) (v := ?_) rfl (by kernel_rfl) (by kernel_rfl) (by kernel_rfl) (fun _ _ _ h => h) (Or.inl ⟨by rfl, ?_⟩) (by assumption) ?_
    rotate_left
    · intro W' hSw; obtain ⟨q1, q2, q3⟩ := hSw; go_simp; (try (with_reducible rfl))
    (try simp only [Act.put, List.setIfInBounds_toArray, List.set_cons_zero, List.set_cons_succ])
    refine wpAnyH_take (i := 1) (oi := ⟨some 21, .move (.tmp 7), _, _, _, _⟩) (v := ?_) rfl (by kernel_rfl) (by kernel_rfl) (by kernel_rfl) (fun _ _ _ h => h) (Or.inl ⟨by rfl, ?_⟩) (by assumption) ?_
    rotate_left
    · intro W' hSw; obtain ⟨q1, q2, q3⟩ := hSw; go_simp; (try (with_reducible rfl))
    (try simp only [Act.put, List.setIfInBounds_toArray, List.set_cons_zero, List.set_cons_succ])
    refine wpAnyH_take (i := 2) (oi := ⟨some 22, .load 73 (.tmp 6), _, _, _, _⟩) (v := ?_) rfl (by kernel_rfl) (by kernel_rfl) (by kernel_rfl) (fun _ _ _ h => h) (Or.inl ⟨by rfl, ?_⟩) (by assumption) ?_
    rotate_left
    · intro W' hSw; obtain ⟨q1, q2, q3⟩ := hSw; go_simp; (try (with_reducible rfl))
    (try simp only [Act.put, List.setIfInBounds_toArray, List.set_cons_zero, List.set_cons_succ])
    refine wpAnyH_take (i := 3) (oi := ⟨some 23, .load 73 (.tmp 3), _, _, _, _⟩) (v := ?_) rfl (by kernel_rfl) (by kernel_rfl) (by kernel_rfl) (fun _ _ _ h => h) (Or.inl ⟨by rfl, ?_⟩) (by assumption) ?_
    rotate_left
    · intro W' hSw; obtain ⟨q1, q2, q3⟩ := hSw; go_simp; (try (with_reducible rfl))
    (try simp only [Act.put, List.setIfInBounds_toArray, List.set_cons_zero, List.set_cons_succ])
    refine wpAnyH_take (i := 4) (oi := ⟨some 24, .binOp .quo 73 (.tmp 22) (.tmp 23) 73, _, _, _, _⟩) (v := ?_) rfl (by kernel_rfl) (by kernel_rfl) (by kernel_rfl) (fun _ _ _ h => h) (Or.inl ⟨by rfl, ?_⟩) (by assumption) ?_
    rotate_left
    · intro W' hSw; obtain ⟨q1, q2, q3⟩ := hSw; go_simp; (try (with_reducible rfl))
    (try simp only [Act.put, List.setIfInBounds_toArray, List.set_cons_zero, List.set_cons_succ])
    refine wpAnyH_take (i := 5) (oi := ⟨some 25, .indexAddr 51 (.tmp 20) (.tmp 21), _, _, _, _⟩) (v := ?_) rfl (by kernel_rfl) (by kernel_rfl) (by kernel_rfl) (fun _ _ _ h => h) (Or.inl ⟨by rfl, ?_⟩) (by assumption) ?_
    rotate_left
    · intro W' hSw; obtain ⟨q1, q2, q3⟩ := hSw; go_simp; (try (with_reducible rfl))
    (try simp only [Act.put, List.setIfInBounds_toArray, List.set_cons_zero, List.set_cons_succ])
    refine wpAnyH_ready (rs := [6]) (by kernel_rfl) (by simp) ?_
    refine AllReadyH.cons (o := ⟨none, .store 73 (.tmp 25) (.tmp 24), _, _, _, _⟩) rfl (fun K hK => ?_) AllReadyH.nil
    go_simp
    have e7 : (t : Int) / (d : Int) = ((t / d : Nat) : Int) := (Int.natCast_ediv t d).symm
    have e8 : Hid ((t : Int) % (d : Int) = ((t % d : Nat) : Int)) := Lib.hid (Int.natCast_emod t d).symm
    rw [e7]
    obtain ⟨W3, hW3⟩ : ∃ W3, (W2.setCell ⟨w.heap.size + 1, pk, none⟩ (.int .u64 ((t / d : Nat) : Int))).drew = W3 := ⟨_, rfl⟩
    rw [hW3]
    have bQ3 : Boxed W3 w1.heap.size 51 (.slice (some ⟨w.heap.size + 1, 0, none⟩) la la) := by rw [← hW3]; exact box_other bQ2 (by simp; omega) _
    have bR3 : Boxed W3 (w1.heap.size + 1) 73 (.int .u64 (t : Int)) := by rw [← hW3]; exact box_other bR2 (by simp; omega) _
    have bD3 : Boxed W3 w.heap.size 73 (.int .u64 (d : Int)) := by rw [← hW3]; exact box_other bD2 (by simp) _
    have bA3 : Boxed W3 (w1.heap.size + 1 + 1) 51 (.slice ada la capa) := by rw [← hW3]; exact box_other bA2 (by simp; omega) _
    have hO3' : Own w.heap.size W3 (.slice (some ⟨w.heap.size + 1, 0, none⟩) la la) (Q.set pk (t / d)) := by rw [← hW3]; exact hO2.set HLQ.out.symm pk (t / d)
    have hB3 : Below w.heap.size w W3 := by rw [← hW3]; exact (hB2.setCell (p := ⟨w.heap.size + 1, pk, none⟩) (by simp) _).drew
    have hKF3 := hKF2.trans (show KeepsFrom _ W2 W3 by rw [← hW3]; exact ((KeepsOthers.setCell W2 ⟨w.heap.size + 1, pk, none⟩ (.int .u64 ((t / d : Nat) : Int))).trans (KeepsOthers.drew _)).from _)
    have d1 := bQ3.cell
    have d2 := bR3.cell
    have d3 := bD3.cell
    have g2 := bR3.frozen
    clear hW3 c1 c2 c3 f2 hcell hfr hwq e7
    refine hK.out _ _ ⟨d1, d2, d3⟩ (fun _ => ?_)
    refine wpAnyH_done (by kernel_rfl) ?_ _
    clear hK K hS
    gi_wp2
    rw [e8.out]
    have bA4 := bA3.other (B' := w1.heap.size + 1) (by omega) (.int .u64 ((t % d : Nat) : Int))
    have hB4 : Below w.heap.size w (W3.setCell ⟨w1.heap.size + 1, 0, none⟩ (.int .u64 ((t % d : Nat) : Int))) := hB3.setCell (p := ⟨w1.heap.size + 1, 0, none⟩) (by simp; omega) _
    refine ⟨hKF3.trans ((KeepsOthers.setCell _ _ _).from _), keepB_box HB.out hB4 HX.out hbA bA4, ⟨?_, bD3.other (B' := w1.heap.size + 1) (by omega) _, bQ3.other (B' := w1.heap.size + 1) (by omega) _, ?_, bA4⟩, hB4⟩
    · rw [HF.out]
      exact own_far_box hO3' (by simp; omega)
    · rw [HF.out]
      exact bR3.set _
  case done =>
    rintro D ys W hD hys ⟨⟨hO, hbD, hbQ, hbR, hbA⟩, hB⟩ hK
    have hall := dfold_all (x := x) hd
    have hlow := dfold_low (low_limbs x) hd la (places ys)
    obtain ⟨q, hq⟩ : ∃ q, places ys = q := ⟨_, rfl⟩
    rw [hq] at hys hO hlow
    rw [← hys, HLA.out] at hall
    have hcQ := hbQ.cell
    have HO := Lib.hid hO
    have HH := Lib.hid hB
    have HT : Hid (Calls Tryd.prog 62 #[.slice (some ⟨w.heap.size + 1, 0, none⟩) la la] W fun e w' => Gives w.heap.size W (x / d) e w') := Lib.hid ((trimmed_any hO hlow).mono fun e w' ⟨v', h1, h2, h3⟩ => ⟨v', h1, by rw [← hall.1]; exact h2, h3⟩)
    clear hall hlow hO hB hys hq hbQ hbR hbA hbD
    gi_wp2_with (refine ⟨trivial, ?_⟩; gi_at_call 62; refine (callsIn_wide.2 HT.out).mono ?_; rintro e W2 ⟨v, rfl, hsz, rfl⟩)
    refine ⟨by simp, .inl ⟨_, _, rfl, run_takeDeferred hK, ?_⟩⟩
    exact ⟨_, results_tmp rfl _ _ _, v, rfl, hsz.put hK rfl, HH.out.trans (belowK_b (w := w) (Nat.le_refl _) W D _ _ (by simp at hD; omega) hK rfl rfl)⟩
  case stop =>
    rintro D c pre W _ _ h _
    exact h.elim

end Go.Proofs.YtlilojaefpnkmaaDoor
