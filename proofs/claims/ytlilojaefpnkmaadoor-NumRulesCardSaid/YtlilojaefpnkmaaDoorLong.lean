/- Append of limbs to limbs; what a round of divideSizes keeps. -/
import Derived.Test.YtlilojaefpnkmaaDoorWalkDiv2
namespace Go.Proofs.YtlilojaefpnkmaaDoor
open Go.RowKit Go.Shelf

theorem run_append_limbs {w : World} {v x : Value} {k l : List Nat} {lo : Nat} (ty : TypeId) (h : Own lo w v k) (hx : Own 0 w x l) (hkl : k.length + l.length ≤ 10000000) (hlo : lo ≤ w.heap.size) :
    ∃ v' w', (Builtin.append_ #[51, 51] ty #[v, x]).run Tryd.prog w = .ok v' w' ∧ Own lo w' v' (k ++ l) ∧ w.grownBy w' v.ownBlock := by
  obtain ⟨i0, hi, hz0, hz1, hz2⟩ := info_parts Tryd.infoU64
  obtain ⟨hxl, hx2⟩ := id hx
  rcases hx2 with ⟨rfl, hl⟩ | ⟨g, cap, cur, rfl, h3, h4, h5, h6, h7⟩
  · have hl0 : l = [] := List.eq_nil_of_length_eq_zero hl
    subst hl0
    have hg0 : w.grownBy w v.ownBlock := by
      refine ⟨rfl, rfl, rfl, Nat.le_refl _, fun _ _ _ => rfl⟩
    exact ⟨v, w, run_append_owned_none w lo 51 ty 73 i0 1 Tryd.underlying51 hi v k.length (u64s k) h, by rw [List.append_nil]; exact h, hg0⟩
  · obtain ⟨v', w', h8, h9, h10, -⟩ := run_append_own (P := Tryd.prog) w lo 51 ty 73 i0 (.int .u64 0) 1 8 Tryd.underlying51 hi hz0 hz1 hz2 rfl (by decide) v k.length (u64s k) h ⟨g, 0, none⟩ l.length cap (u64s l) (by rw [u64s_length]; omega) (fun j u hu => World.ownsRow.cells hx (g := g) rfl j u hu) (by
      intro u hu
      unfold u64s at hu
      rw [List.mem_map] at hu
      obtain ⟨n, -, rfl⟩ := hu
      rfl) (by unfold maxLen; omega) (by omega) hlo
    refine ⟨v', w', h8, ?_, h10⟩
    unfold Own
    rw [u64s_append, List.length_append]
    exact h9

theorem wpListIn_append_limbs {F : Fence} {n : Nat} (w : World) {ops : Array Oper} {rest : List Oper} {o : Oper} {a : Act} {Q : Exit → Act → World → Prop}
    (hg : o.guard = none) (s x : Operand) (hop : o.op = Op.call { callee := Callee.builtin Builtin.append, args := #[s, x], argTypes := #[51, 51] })
    {v vx : Value} {k l : List Nat} {lo : Nat} (hs : a.eval s = v) (hx : a.eval x = vx) (h : Own lo w v k) (hxo : Own 0 w vx l) (hkl : k.length + l.length ≤ 10000000) (hlo : lo ≤ w.heap.size)
    (hK : ∀ v' w', Own lo w' v' (k ++ l) → w.grownBy w' v.ownBlock → wpListIn F n Tryd.prog ops Q rest (a.put o.dst v') w') :
    wpListIn F n Tryd.prog ops Q (o :: rest) a w := by
  refine wpListIn_plain hg fun K hK' => ?_
  obtain ⟨v', w', hrun, r1, r2⟩ := run_append_limbs o.type h hxo hkl hlo
  unfold Oper.wpIn
  refine ⟨?_, ?_⟩
  · simp [Oper.about, hop, resolve, Target.leads, Sem.run_pure]
  · rw [Oper.semAt_plain F _ _ (by rw [hop]; intro c hc'; cases hc')]
    simp [execOp, hop, resolve, invoke, builtin, hs, hx, hrun, Result.andThen]
    exact hK' _ _ (hK v' w' r1 r2)

theorem limbs_le {a b : Nat} (h : a ≤ b) : (limbs a).length ≤ (limbs b).length :=
  limbs_length (Nat.lt_of_le_of_lt h (by have := lval_lt (low_limbs b); rwa [lval_limbs] at this))

theorem limbs_scaled {a s n : Nat} (hs : s < 1000000000) (h : (limbs a).length ≤ n) : (limbs (a * s)).length ≤ n + 1 := by
  have h1 := lval_lt (low_limbs a)
  rw [lval_limbs] at h1
  refine Nat.le_trans (limbs_length (k := (limbs a).length + 1) ?_) (by omega)
  rw [Nat.pow_succ]
  exact Nat.lt_of_le_of_lt (Nat.mul_le_mul_left a (Nat.le_of_lt hs)) (Nat.mul_lt_mul_of_pos_right h1 (by decide))

theorem Sz.far1 {lo : Nat} {W : World} {v u x : Value} {n B : Nat} {t : TypeId} (h : Sz lo W v n) (hb : Boxed W B t x) (ht : t ≠ 73) : Sz lo (W.setCell ⟨B, 0, none⟩ u) v n := Own.far h hb ht 0 u

/-- What a round of divideSizes keeps. -/
def Jn (w W' : World) (bA : Nat) (vA vb qv rv : Value) (Q : List Nat) (d : Nat) : Prop :=
  Below w.heap.size w W' ∧ Own w.heap.size W' qv Q ∧ Boxed W' w.heap.size 51 vb ∧ Boxed W' (w.heap.size + 1) 51 qv ∧ Boxed W' (w.heap.size + 1 + 1) 51 rv ∧ Boxed W' bA 51 vA ∧ Sz 0 W' vb d
theorem Jn.below {bA d : Nat} {w W' W'' : World} {vA vb qv rv : Value} {Q : List Nat} (h : Jn w W' bA vA vb qv rv Q d) (hb : Below W'.heap.size W' W'') : Jn w W'' bA vA vb qv rv Q d :=
  ⟨h.1.trans (hb.mono h.1.size), h.2.1.below hb, (hb.block _ h.2.2.1.lt).trans h.2.2.1, (hb.block _ h.2.2.2.1.lt).trans h.2.2.2.1, (hb.block _ h.2.2.2.2.1.lt).trans h.2.2.2.2.1, (hb.block _ h.2.2.2.2.2.1.lt).trans h.2.2.2.2.2.1, h.2.2.2.2.2.2.below hb⟩
theorem Jn.kept {K0 bA d : Nat} {w A B : World} {vA vb qv rv : Value} {Q : List Nat} {row : Option Nat} (h : Jn w A bA vA vb qv rv Q d) (hk : w.heap.size ≤ K0) (hg : A.grownBy B row) (hr : ∀ r, row = some r → K0 ≤ r ∧ ∃ o : Obj, A.heap[r]? = some o ∧ o.isCells = false) : Jn w B bA vA vb qv rv Q d := by
  have hr2 : ∀ r, row = some r → ∃ o : Obj, A.heap[r]? = some o ∧ o.isCells = false := fun r e => (hr r e).2
  exact ⟨h.1.grown hg h.1.size (fun k e => Nat.le_trans hk (hr k e).1), own_kept _ _ (fun (_ : Unit) => Q) () A B row h.2.1 hg hr2, boxed_own _ _ (fun (_ : Unit) => vb) () A B row h.2.2.1 hg hr2, boxed_own _ _ (fun (_ : Unit) => qv) () A B row h.2.2.2.1 hg hr2, boxed_own _ _ (fun (_ : Unit) => rv) () A B row h.2.2.2.2.1 hg hr2, boxed_own _ _ (fun (_ : Unit) => vA) () A B row h.2.2.2.2.2.1 hg hr2, own_kept _ _ (fun (_ : Unit) => limbs d) () A B row h.2.2.2.2.2.2 hg hr2⟩
theorem Jn.setR {bA d : Nat} {w W : World} {vA vb qv rv : Value} {Q : List Nat} (h : Jn w W bA vA vb qv rv Q d) (hA : bA ≠ w.heap.size + 1 + 1) (u : Value) : Jn w (W.setCell ⟨w.heap.size + 1 + 1, 0, none⟩ u) bA vA vb qv u Q d :=
  ⟨h.1.setCell (p := ⟨w.heap.size + 1 + 1, 0, none⟩) (by simp; omega) _, Own.far h.2.1 (show Blk W (w.heap.size + 1 + 1) #[rv] 51 from h.2.2.2.2.1) (by decide) 0 u, h.2.2.1.other (by omega) u, h.2.2.2.1.other (by omega) u, h.2.2.2.2.1.set u, h.2.2.2.2.2.1.other hA u, h.2.2.2.2.2.2.far1 h.2.2.2.2.1 (by decide)⟩
theorem Jn.setQ {bA d gq gd n cap ld capd : Nat} {w W : World} {vA rv : Value} {Q : List Nat} (h : Jn w W bA vA (.slice (some ⟨gd, 0, none⟩) ld capd) (.slice (some ⟨gq, 0, none⟩) n cap) rv Q d) (hn : n = Q.length) (hgq : w.heap.size + 1 + 1 < gq) (hA : bA ≠ gq) (hd : gd ≠ gq) (j x : Nat) :
    Jn w (W.setCell ⟨gq, j, none⟩ (.int .u64 (x : Int))) bA vA (.slice (some ⟨gd, 0, none⟩) ld capd) (.slice (some ⟨gq, 0, none⟩) n cap) rv (Q.set j x) d :=
  ⟨h.1.setCell (p := ⟨gq, j, none⟩) (by simp; omega) _, h.2.1.set hn j x, box_other h.2.2.1 (by simp; omega) _, box_other h.2.2.2.1 (by simp; omega) _, box_other h.2.2.2.2.1 (by simp; omega) _, box_other h.2.2.2.2.2.1 (by simpa using hA) _, own_far_box h.2.2.2.2.2.2 (by simpa using hd)⟩

/-- A step of a round. -/
def Step (K0 : Nat) (bs : List Nat) (W W' : World) : Prop := KeepsFrom K0 W W' ∧ KeepB bs W W'
theorem Step.trans {K0 : Nat} {bs : List Nat} {A B C : World} (h : Step K0 bs A B) (k : Step K0 bs B C) : Step K0 bs A C := ⟨h.1.trans k.1, h.2.trans k.2⟩
theorem Step.below {K0 : Nat} {bs : List Nat} {A B : World} (h : Below A.heap.size A B) : Step K0 bs A B := ⟨KeepsFrom.of_below h, KeepB.of_below h⟩
theorem Step.setCell {K0 : Nat} {bs : List Nat} (W : World) (p : Addr) (v : Value) (h : p.block ∉ bs) : Step K0 bs W (W.setCell p v) := ⟨(KeepsOthers.setCell W p v).from _, KeepB.setCell W p v h⟩

theorem not_blocks {lo B bA : Nat} {w : World} {v x : Value} {n : Nat} {t : TypeId} (h : Sz lo w v n) (hb : Boxed w B t x) (ht : t ≠ 73) (hA : bA ≠ B) : B ∉ bA :: v.ownBlock.toList := by
  intro hm
  rcases List.mem_cons.1 hm with e | e
  · exact hA e.symm
  · exact hb.not_row ht h (by simpa using (Option.mem_toList.1 e).symm)
theorem not_blocks_new {lo B bA : Nat} {w : World} {v : Value} {n : Nat} (h : Sz lo w v n) (hB : w.heap.size ≤ B) (hA : bA ≠ B) : B ∉ bA :: v.ownBlock.toList := by
  intro hm
  rcases List.mem_cons.1 hm with e | e
  · exact hA e.symm
  · have := (Own.lt h (k := B) (by simpa using e)).2
    omega

theorem Own.low {lo : Nat} {W : World} {v u : Value} {l : List Nat} {p : Addr} (h : Own lo W v l) (hp : p.block < lo) : Own lo (W.setCell p u) v l := by
  obtain ⟨h1, h2⟩ := h
  refine ⟨h1, ?_⟩
  rcases h2 with h2 | ⟨g', cap', cur, h2, h3, h4, h5⟩
  · exact .inl h2
  · refine .inr ⟨g', cap', cur, h2, h3, ?_, h5⟩
    rw [Below.heap_setCell _ _ _ _ (by omega)]; exact h4

/-- The end of divideSizes: both results are stored. -/
theorem leaf9 {w V : World} {D n1 n2 : Nat} {u1 u2 vq vr : Value} (hB : Below w.heap.size w V) (b4 : Boxed V (w.heap.size + 1) 51 vq) (b5 : Boxed V (w.heap.size + 1 + 1) 51 vr) (P1 : Sz w.heap.size V u1 n1) (P2 : Sz w.heap.size V u2 n2) (hD : w.heap.size ≤ D) (hK : V.heap[D]? = some (.deferred (some []))) :
    ((V.setCell ⟨w.heap.size + 1, 0, none⟩ u1).setCell ⟨w.heap.size + 1 + 1, 0, none⟩ u2).heap[D]? = some (.deferred (some [])) ∧
    (((V.setCell ⟨w.heap.size + 1, 0, none⟩ u1).setCell ⟨w.heap.size + 1 + 1, 0, none⟩ u2).putObj D (.deferred none)).cell? ⟨w.heap.size + 1, 0, none⟩ = some u1 ∧
    (((V.setCell ⟨w.heap.size + 1, 0, none⟩ u1).setCell ⟨w.heap.size + 1 + 1, 0, none⟩ u2).putObj D (.deferred none)).cell? ⟨w.heap.size + 1 + 1, 0, none⟩ = some u2 ∧
    Sz w.heap.size (((V.setCell ⟨w.heap.size + 1, 0, none⟩ u1).setCell ⟨w.heap.size + 1 + 1, 0, none⟩ u2).putObj D (.deferred none)) u1 n1 ∧
    Sz w.heap.size (((V.setCell ⟨w.heap.size + 1, 0, none⟩ u1).setCell ⟨w.heap.size + 1 + 1, 0, none⟩ u2).putObj D (.deferred none)) u2 n2 ∧
    Below w.heap.size w (((V.setCell ⟨w.heap.size + 1, 0, none⟩ u1).setCell ⟨w.heap.size + 1 + 1, 0, none⟩ u2).putObj D (.deferred none)) := by
  have hK1 := (KeepsOthers.setCell V ⟨w.heap.size + 1, 0, none⟩ u1).same D _ hK rfl
  have hK2 := (KeepsOthers.setCell (V.setCell ⟨w.heap.size + 1, 0, none⟩ u1) ⟨w.heap.size + 1 + 1, 0, none⟩ u2).same D _ hK1 rfl
  have c4 := (b4.set u1).other (B' := w.heap.size + 1 + 1) (by omega) u2
  have b5' := b5.other (B' := w.heap.size + 1) (by omega) u1
  have c5 := b5'.set u2
  have S1 := (P1.far1 (u := u1) b4 (by decide)).far1 (u := u2) b5' (by decide)
  have S2 := (P2.far1 (u := u1) b4 (by decide)).far1 (u := u2) b5' (by decide)
  have B2 := (hB.setCell (p := ⟨w.heap.size + 1, 0, none⟩) (by simp) u1).setCell (p := ⟨w.heap.size + 1 + 1, 0, none⟩) (by simp; omega) u2
  refine ⟨hK2, ?_, ?_, S1.put hK2 rfl, S2.put hK2 rfl, B2.trans (belowK_b (w := w) (Nat.le_refl _) _ D _ _ hD hK2 rfl rfl)⟩
  · exact cell_kept c4.cell (grownBy_putObj' _ D (.deferred none)) (fun r e => by cases e; exact ⟨_, hK2, rfl⟩)
  · exact cell_kept c5.cell (grownBy_putObj' _ D (.deferred none)) (fun r e => by cases e; exact ⟨_, hK2, rfl⟩)

theorem wpIn_normal {F : Fence} {n : Nat} {P : Program} {c : Code} {Q : Exit → Act → World → Prop} {a : Act} {w : World} (h : c.wpIn F n P (fun e a w => e = .normal ∧ Q e a w) a w) : c.wpIn F n P Q a w :=
  Code.wpIn_mono (fun _ _ _ h => h.2) h

end Go.Proofs.YtlilojaefpnkmaaDoor
