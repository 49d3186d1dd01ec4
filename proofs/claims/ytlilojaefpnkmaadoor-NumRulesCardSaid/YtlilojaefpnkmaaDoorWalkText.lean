/- (size).text. -/
import Derived.Test.YtlilojaefpnkmaaDoorIter
import Derived.Test.YtlilojaefpnkmaaDoorWalkStr
import Derived.Test.YtlilojaefpnkmaaDoorWalkAdd
import Derived.Lib.AppendStr
import Derived.Lib.BufStepsIn
import Derived.Lib.IndexBytes
namespace Go.Proofs.YtlilojaefpnkmaaDoor
open Go.RowKit Go.Shelf

/-- The digits of a limb that isn't the last: nine. -/
def nine (x : Nat) : List UInt8 := (Lib.decDigits (1000000000 + x)).drop 1
/-- What text has written of n limbs of L when these places have come. -/
def wrote (L : List Nat) (n : Nat) (ps : List Nat) : List UInt8 := ps.foldl (fun t p => if p = n - 1 then t ++ Lib.decDigits (L.getD p 0) else t ++ nine (L.getD p 0)) []
theorem wrote_snoc (L : List Nat) (n : Nat) (ps : List Nat) (p : Nat) : wrote L n (ps ++ [p]) = if p = n - 1 then wrote L n ps ++ Lib.decDigits (L.getD p 0) else wrote L n ps ++ nine (L.getD p 0) := by simp [wrote, List.foldl_append]

theorem nDigits_limb {x : Nat} (h : x < 1000000000) : Lib.nDigits (1000000000 + x) = 10 := Lib.nDigits_unique 9 _ (by omega) (by omega)
theorem nine_length {x : Nat} (h : x < 1000000000) : (nine x).length = 9 := by unfold nine; rw [List.length_drop, Lib.decDigits_length, nDigits_limb h]

theorem wrote_length {L : List Nat} (hL : Low L) (n : Nat) (ps : List Nat) : (wrote L n ps).length ≤ 20 * ps.length := by
  induction ps using snoc_ind with
  | h0 => simp [wrote]
  | h1 ps p ih =>
    have h := hL.getD p
    rw [wrote_snoc, List.length_append, List.length_singleton]
    split
    · rw [List.length_append, Lib.decDigits_length]
      have : Lib.nDigits (L.getD p 0) ≤ 9 := nDigits_le (by omega) (by omega)
      omega
    · rw [List.length_append, nine_length h]; omega

theorem decDigits_shift {n x : Nat} (hn : n ≠ 0) (hx : x < 1000000000) : Lib.decDigits (n * 1000000000 + x) = Lib.decDigits n ++ nine x := by
  have h1 : Digs (nine x) := (digs_decDigits _).drop 1
  have hd : dval (nine x) = x := by
    have e : Lib.decDigits (1000000000 + x) = (Lib.decDigits (1000000000 + x)).take 1 ++ nine x := (List.take_append_drop 1 _).symm
    have h2 := dval_append ((Lib.decDigits (1000000000 + x)).take 1) (nine x)
    rw [← e, dval_decDigits, nine_length hx] at h2
    have h3 : dval ((Lib.decDigits (1000000000 + x)).take 1) < 10 := by
      have := dval_lt ((digs_decDigits (1000000000 + x)).take 1)
      rw [List.length_take, Lib.decDigits_length, nDigits_limb hx] at this
      simpa using this
    have h4 : dval (nine x) < 10 ^ 9 := by
      have := dval_lt h1
      rwa [nine_length hx] at this
    omega
  have hc : Canon (Lib.decDigits n ++ nine x) := by
    have h0 := canon_decDigits n
    refine ⟨h0.1.append h1, by simp [decDigits_ne], fun _ => ?_⟩
    rw [head_app (decDigits_ne n)]
    intro h
    exact hn (dec_head0 h)
  have := decDigits_dval hc
  rw [dval_append, dval_decDigits, hd, nine_length hx] at this
  exact this

/-- All places come: the number's text. -/
theorem wrote_all (x : Nat) (hx : x ≠ 0) : wrote (limbs x) (limbs x).length (downs (limbs x).length (limbs x).length) = Lib.decDigits x := by
  have hlen : 0 < (limbs x).length := by rw [limbs_pos hx]; simp
  have key : ∀ k, 1 ≤ k → k ≤ (limbs x).length → wrote (limbs x) (limbs x).length (downs (limbs x).length k) = Lib.decDigits (high x ((limbs x).length - k)) ∧ high x ((limbs x).length - k) ≠ 0 := by
    intro k
    induction k with
    | zero => omega
    | succ k ih =>
      intro _ hk
      rw [downs, upto_succ, wrote_snoc, limbs_getD]
      have hs := high_step x ((limbs x).length - (k + 1))
      rw [show (limbs x).length - (k + 1) + 1 = (limbs x).length - k by omega] at hs
      by_cases h0 : k = 0
      · subst h0
        rw [if_pos (by omega), show (limbs x).length - 1 - 0 = (limbs x).length - (0 + 1) by omega]
        rw [Nat.sub_zero, high_out (Nat.le_refl _)] at hs
        have hl : lim x ((limbs x).length - (0 + 1)) ≠ 0 := by
          have hne : limbs x ≠ [] := by intro h; rw [h] at hlen; simp at hlen
          have := limbs_last x hne
          rw [List.getLast_eq_getElem, ← getD_in, limbs_getD] at this
          exact this
        constructor
        · rw [hs]; simp [upto, wrote]
        · omega
      · have := ih (by omega) (by omega)
        rw [if_neg (by omega)]
        have e : wrote (limbs x) (limbs x).length (upto (fun j => (limbs x).length - 1 - j) k) = Lib.decDigits (high x ((limbs x).length - k)) := this.1
        rw [e, show (limbs x).length - 1 - k = (limbs x).length - (k + 1) by omega, hs, decDigits_shift this.2 (lim_lt _ _)]
        refine ⟨rfl, ?_⟩
        have := this.2
        omega
  have := (key (limbs x).length hlen (Nat.le_refl _)).1
  rwa [Nat.sub_self, high_zero] at this

theorem row_cells {lo : Nat} {e : TypeId} {k n : Nat} {w : World} {v : Value} {xs : List Value} (h : w.ownsRow lo e k v n xs) : ∀ (j : Nat) (o : Obj), v.ownBlock = some j → w.heap[j]? = some o → o.isCells = true := by
  intro j o hj ho
  rcases h.2 with ⟨rfl, _⟩ | ⟨g, cap, cur, rfl, _, hg, _⟩
  · simp [Value.ownBlock] at hj
  · simp [Value.ownBlock] at hj
    subst hj
    rw [hg] at ho
    cases ho
    rfl
theorem KeepsFrom.of_others {B : Nat} {e : TypeId} {W W' : World} (hs : W.heap.size ≤ W'.heap.size) (h : Lib.OthersKept e none W W') : KeepsFrom B W W' :=
  ⟨hs, fun k o _ ho hnc => h k o ho (by simp) (fun c fz hh => by subst hh; simp [Obj.isCells] at hnc)⟩
theorem keepB_box {w W W' : World} {Bs : Nat} {t : TypeId} {v : Value} {L : List Nat} (hB : Below w.heap.size w W) (hB' : Below w.heap.size w W') (hO : Own 0 w v L) (h1 : Boxed W Bs t v) (h2 : Boxed W' Bs t v) : KeepB (Bs :: v.ownBlock.toList) W W' := by
  intro b hb o ho
  rcases List.mem_cons.1 hb with rfl | hb
  · rw [show W.heap[b]? = _ from h1] at ho
    rw [← ho]; exact h2
  · have hlt := (hO.lt (k := b) (by simpa using hb)).2
    rw [hB'.block b hlt, ← hB.block b hlt]; exact ho

/-- What has been written, behind a store into the variable. -/
theorem TextAt.store {lo B : Nat} {T U : List UInt8} {W : World} {tv v : Value} (hb : Boxed W B 43 tv) (hr : W.ownsRow lo 5 1 v (T.length + U.length) (Lib.byteCells T ++ Lib.byteCells U)) : (∃ v', Boxed (W.setCell ⟨B, 0, none⟩ v) B 43 v' ∧ (W.setCell ⟨B, 0, none⟩ v).ownsRow lo 5 1 v' (T ++ U).length (Lib.byteCells (T ++ U)) ∧ True) := by
  refine ⟨v, hb.set v, ?_, trivial⟩
  have h1 := hr.kept (grownBy_setCell' W B v) (.inr (fun e => hb.not_row (by decide) hr e.symm))
  have e : Lib.byteCells (T ++ U) = Lib.byteCells T ++ Lib.byteCells U := by simp [Lib.byteCells]
  rw [List.length_append, e]
  exact h1

/-- An append of a text to an owned row, as one step of a region that draws its order, within a fence. -/
theorem stepIn_append_string {F : Fence} {n' : Nat} {P : Program} {ops : Array Oper} {o : Oper} {a : Act} {w : World} {K : Act → World → Prop} {Q : Exit → Act → World → Prop} {E : Prop} (hgd : o.guard = none) (sl x : Operand) (t u : TypeId)
    (ho : o.op = .call { callee := .builtin .append, args := #[sl, x], argTypes := #[t, u] })
    (base : Nat) (e : TypeId) (i : TypeInfo) (ht : P.underlying t = some (.slice e)) (hu : P.underlying u = some .string) (hi : P.info? e = some i) (hz : i.zero = some (.int .u8 0))
    (hsize : i.size = 1) (hby : i.bytes = 1)
    (v : Value) (n : Nat) (xs : List Value) (hs : a.eval sl = v) (hown : w.ownsRow base e 1 v n xs) (s : ByteArray) (hx : a.eval x = .string s)
    (h63 : n + s.size ≤ maxLen) (hbytes : n + s.size ≤ 140737488355328) (hbase : base ≤ w.heap.size)
    (h : ∀ v' w', w'.ownsRow base e 1 v' (n + s.size) (xs ++ Lib.strCells s) → w.grownBy w' v.ownBlock → K (a.put o.dst v') w') :
    if Region.wanted o (yielded ops a.tmps) = true then Oper.wpIn F n' P o a w K Q else E := by
  have hw : Region.wanted o (yielded ops a.tmps) = true := by simp [Region.wanted, hgd]
  rw [if_pos hw]
  obtain ⟨v', w', hr, h2, h3, _⟩ := Lib.run_append_own_string (P := P) w base t u o.type e i ht hu hi hz hsize hby v n xs hown s h63 hbytes hbase
  unfold Oper.wpIn
  refine ⟨?_, ?_⟩
  · simp [Oper.about, ho, resolve, Target.leads, Sem.run_pure]
  · rw [Oper.semAt_plain F _ _ (by rw [ho]; intro c hc'; cases hc')]
    simp [execOp, ho, resolve, invoke, builtin, hs, hx, hr, Result.andThen]
    exact h v' w' h2 h3

attribute [local go_sem] Oper.semAt_some

/-- text's variable holds what has been written. -/
def TextAt (lo B : Nat) (t : List UInt8) (W : World) : Prop := ∃ v, Boxed W B 43 v ∧ W.ownsRow lo 5 1 v t.length (Lib.byteCells t) ∧ True

set_option maxRecDepth 100000 in
set_option maxHeartbeats 2000000 in
theorem sizeText_any {w : World} {v : Value} {x : Nat} (hx : Sz 0 w v x) (hlx : (limbs x).length ≤ 1000000) (htab : Tab w.heap.size w) :
    Calls Tryd.prog 57 #[v] w fun e w' => e = .returned (.string ⟨(Lib.decDigits x).toArray⟩) ∧ Below w.heap.size w w' := by
  obtain ⟨ada, capa, rfl, -, -, -⟩ := hx.view
  obtain ⟨la, hla⟩ : ∃ la, (limbs x).length = la := ⟨_, rfl⟩
  have HX := Lib.hid hx
  have HLA := Lib.hid hla
  have HT := Lib.hid htab
  rw [hla] at hlx HX ⊢
  clear hx hla htab
  by_cases h0 : la = 0
  · subst h0
    have hx0 : Hid (x = 0) := Lib.hid (limbs_nil.1 (List.length_eq_zero_iff.1 HLA.out))
    go_enter Tryd.func57, Tryd.ntmps57
    go_wp2
    go_ret
    refine ⟨?_, (Below.refl _ _).alloc (Nat.le_refl _) _⟩
    rw [hx0.out, Lib.decDigits_one (by omega)]
    rfl
  · have e1 : ((la : Int) == 0) = false := by simp; omega
    refine (callsIn_wide (n := 9)).1 ?_
    refine callsIn_of_wp_marks Tryd.func57 rfl trivial ?_ rfl
    simp only [Tryd.ntmps57, List.size_toArray, List.length_cons, List.length_nil, Nat.reduceAdd, Nat.reduceSub, Array.replicate_succ, Array.replicate_zero, List.push_toArray, List.append_toArray, List.nil_append, List.cons_append]
    gi_wp2_with (refine ⟨trivial, ?_⟩; gi_at_call 64; refine (fromLast_in Fence.wide (9 - 1) trivial rfl _ _ _ _).mono ?_; rintro e w' ⟨rfl, rfl⟩)
    have bS := Boxed.new w 51 (.slice ada la capa)
    have bT := Boxed.new (w.alloc (.cells #[.slice ada la capa] 51)) 43 (.slice none 0 0)
    have bA := Boxed.new ((w.alloc (.cells #[.slice ada la capa] 51)).alloc (.cells #[.slice none 0 0] 43)) 51 (.slice ada la capa)
    rw [World.size_alloc] at bT
    rw [World.size_alloc, World.size_alloc] at bA
    have hB0 : Below w.heap.size w (((w.alloc (.cells #[.slice ada la capa] 51)).alloc (.cells #[.slice none 0 0] 43)).alloc (.cells #[.slice ada la capa] 51)) := (((Below.refl _ w).alloc (Nat.le_refl _) _).alloc (by simp) _).alloc (by simp; omega) _
    have hXA := HX.out.below hB0
    refine wpIn_rangeFunc_ownG rfl (by omega) (gf := 80) (lb := #[.pointer (some ⟨w.heap.size + 1 + 1, 0, none⟩)]) rfl trivial (enters_of Tryd.func80 (by kernel_rfl) rfl)
      (fromLast_stops Fence.wide (9 - 1) trivial rfl (by omega) (w.heap.size + 1 + 1) _ (limbs x) (by rw [HLA.out]; exact hlx) _ bA hXA) KeepB.trans (KeepB.putObj (blocks_lt bA hXA)) (Below.refl _ _) (fun _ => rfl)
      (fun pre W => (TextAt w.heap.size (w.heap.size + 1) (wrote (limbs x) la (places pre)) W ∧ Boxed W w.heap.size 51 (.slice ada la capa) ∧ Boxed W (w.heap.size + 1 + 1) 51 (.slice ada la capa)) ∧ Below w.heap.size w W)
      (fun _ _ _ => False)
      (OwnFrom.and (Own.from (fun s A B row hs hg hr => ⟨holdsRow_own _ _ _ _ _ (fun s => (wrote (limbs x) la (places s)).length) (fun s => Lib.byteCells (wrote (limbs x) la (places s))) (fun _ _ => True) s A B row hs.1 hg hr, boxed_own _ _ (fun _ => _) s A B row hs.2.1 hg hr, boxed_own _ _ (fun _ => _) s A B row hs.2.2 hg hr⟩) _) (ownFrom_below (Nat.le_refl _) (by simp; omega)))
      (fun _ _ _ _ _ hs _ _ => hs)
      ⟨⟨⟨_, bT.alloc _, World.ownsRow_nil _ _ _ _, trivial⟩, (bS.alloc _).alloc _, bA⟩, hB0⟩
      (fun p => { tmps := #[.slice ada la capa, .pointer (some ⟨w.heap.size, 0, none⟩), .string ⟨#[]⟩, .pointer (some ⟨w.heap.size + 1, 0, none⟩), .int .i64 (p.1 : Int), .int .u64 (((limbs x).getD p.1 0 : Nat) : Int), .slice ada la capa, .int .i64 la, .bool false, .slice ada la capa, .func (.func 80) #[] #[.pointer (some ⟨w.heap.size + 1 + 1, 0, none⟩)], .int .i64 (p.1 : Int), .int .u64 (((limbs x).getD p.1 0 : Nat) : Int), undef, undef, undef, undef, undef, undef, undef, undef, undef, undef, undef, undef, undef, undef, undef, undef], defers := [] }) ?assign ?body ?done ?stop
    case assign =>
      intro l p W K hK
      simp only [encL]
      gi_wp2
      exact hK
    case body =>
      rintro l pre p W ⟨⟨⟨tv, hbT, hrow, -⟩, hbS, hbA⟩, hB⟩ hlen
      have hpl : p.1 < la := by rw [← HLA.out]; exact p.2
      have hl := (low_limbs x).getD p.1
      obtain ⟨a, ha⟩ : ∃ a, (limbs x).getD p.1 0 = a := ⟨_, rfl⟩
      obtain ⟨pk, hpk⟩ : ∃ pk, p.1 = pk := ⟨_, rfl⟩
      have hW := wrote_snoc (limbs x) la (places pre) p.1
      have hwl := wrote_length (low_limbs x) la (places pre)
      rw [show (places pre).length = pre.length by simp [places]] at hwl
      have hlen2 : pre.length < la := by rw [← HLA.out]; exact hlen
      clear hlen
      obtain ⟨T, hT⟩ : ∃ T, wrote (limbs x) la (places pre) = T := ⟨_, rfl⟩
      rw [hT] at hrow hW hwl
      rw [ha, hpk] at hW
      rw [ha] at hl
      rw [ha, hpk]
      rw [hpk] at hpl
      have hcS := hbS.cell
      have hcT := hbT.cell
      have hfT := hbT.frozen
      have HP : Hid (places (pre ++ [p]) = places pre ++ [p.1]) := Lib.hid (by simp [places])
      have HPK := Lib.hid hpk
      have HW := Lib.hid hW
      have hTab := HT.out.below hB (Nat.le_refl _)
      have hbs := hB.size
      by_cases hlast : pk = la - 1
      · have e2 : ((pk : Int) == (la : Int) - 1) = true := beq_iff_eq.2 (by omega)
        have HA := Lib.hid (AppendUint_any w.heap.size T.length a (by omega) tv (Lib.byteCells T) W hrow hbs (by omega) hTab.here)
        have hW2 : Hid (wrote (limbs x) la (places (pre ++ [p])) = T ++ Lib.decDigits a) := Lib.hid (by rw [HP.out, HPK.out, HW.out, if_pos hlast])
        clear hT ha hpk hW hTab hrow
        gi_wp2_with (refine ⟨trivial, ?_⟩; gi_at_call 71; refine (CallsIn.inRound l (callsIn_wide.2 HA.out)).mono ?_; rintro e W2 ⟨v2, rfl, hr2, hb2, ho2⟩; obtain ⟨ad2, cap2, rfl⟩ := row_shape hr2; have hbT2 : Boxed W2 (w.heap.size + 1) 43 tv := ho2 _ _ hbT (by simp) (by intro c fz hh; simp at hh); have hcT2 := hbT2.cell; have hfT2 := hbT2.frozen)
        have hbS2 : Boxed W2 w.heap.size 51 (.slice ada la capa) := ho2 _ _ hbS (by simp) (by intro c fz hh; simp at hh)
        have hbA2 : Boxed W2 (w.heap.size + 1 + 1) 51 (.slice ada la capa) := ho2 _ _ hbA (by simp) (by intro c fz hh; simp at hh)
        have hB2 : Below w.heap.size w (W2.setCell ⟨w.heap.size + 1, 0, none⟩ (.slice ad2 (T.length + (Lib.decDigits a).length) cap2)) := (hB.trans hb2).setCell (p := ⟨w.heap.size + 1, 0, none⟩) (by simp) _
        have hbA3 := hbA2.other (B' := w.heap.size + 1) (by omega) (.slice ad2 (T.length + (Lib.decDigits a).length) cap2)
        exact ⟨(KeepsFrom.of_others hb2.size ho2).trans ((KeepsOthers.setCell _ _ _).from _), keepB_box hB hB2 HX.out hbA hbA3, ⟨by rw [hW2.out]; exact TextAt.store hbT2 hr2, hbS2.other (B' := w.heap.size + 1) (by omega) _, hbA3⟩, hB2⟩
      · have e2 : ((pk : Int) == (la : Int) - 1) = false := beq_eq_false_iff_ne.2 (by omega)
        have hW2 : Hid (wrote (limbs x) la (places (pre ++ [p])) = T ++ nine a) := Lib.hid (by rw [HP.out, HPK.out, HW.out, if_neg hlast])
        clear hT ha hpk hW
        have hmix : Tryd.prog.follows .mixedOrders = true := by kernel_rfl
        have hwr : IntKind.u64.wrap (1000000000 + (a : Int)) = 1000000000 + (a : Int) := by rw [IntKind.wrap_u64]; omega
        have hsz : (⟨(Lib.decDigits (1000000000 + a)).toArray⟩ : ByteArray).size = 10 := by
          show (Lib.decDigits (1000000000 + a)).toArray.size = 10
          rw [List.size_toArray, Lib.decDigits_length, nDigits_limb hl]
        obtain ⟨D, hD⟩ : ∃ D : ByteArray, ⟨(Lib.decDigits (1000000000 + a)).toArray⟩ = D := ⟨_, rfl⟩
        rw [hD] at hsz
        have HF : Hid (∀ W', Below w.heap.size W W' → Calls Tryd.prog 72 #[.int .u64 (1000000000 + (a : Int)), .int .i64 10] W' fun e W2 => e = .returned (.string D) ∧ Below W'.heap.size W' W2) := Lib.hid (fun W' hb => by
          have := FormatUint_any (1000000000 + a) (by omega) (by omega) W' (hTab.below hb (Nat.le_refl _)).here
          rw [hD] at this; exact this)
        have HD := Lib.hid hD
        clear hTab hD
        obtain ⟨i0, hi, hz0, hz1, hz2⟩ := info_parts Tryd.infoU8
        obtain ⟨E, hE⟩ : ∃ E, D.extract 1 D.size = E := ⟨_, rfl⟩
        have hEl : Hid (E.data.toList = nine a) := Lib.hid (by rw [← hE, Lib.extract_to_end, ← HD.out]; rfl)
        have HEs : Hid (E.size = 9) := Lib.hid (by rw [← bytes_len, hEl.out, nine_length hl])
        have hsl : ∀ W', (Instr.sliceAt 9 (.string D) (some (.int .i64 1)) none none).run Tryd.prog W' = .ok (.string E) W' := by
          intro W'
          go_simp
          rw [← hE, hsz]
        have fin : ∀ W2 w3 ad3 cap3, Below W.heap.size W W2 → Boxed W2 (w.heap.size + 1) 43 tv → W2.ownsRow w.heap.size 5 1 tv T.length (Lib.byteCells T) → w3.ownsRow w.heap.size 5 1 (.slice ad3 (T.length + E.size) cap3) (T.length + E.size) (Lib.byteCells T ++ Lib.strCells E) → W2.grownBy w3 tv.ownBlock →
            KeepsFrom (((w.alloc (.cells #[.slice ada la capa] 51)).alloc (.cells #[.slice none 0 0] 43)).alloc (.cells #[.slice ada la capa] 51)).heap.size W (w3.setCell ⟨w.heap.size + 1, 0, none⟩ (.slice ad3 (T.length + E.size) cap3)) ∧
            KeepB ((w.heap.size + 1 + 1) :: (Value.slice ada la capa).ownBlock.toList) W (w3.setCell ⟨w.heap.size + 1, 0, none⟩ (.slice ad3 (T.length + E.size) cap3)) ∧
            (TextAt w.heap.size (w.heap.size + 1) (wrote (limbs x) la (places (pre ++ [p]))) (w3.setCell ⟨w.heap.size + 1, 0, none⟩ (.slice ad3 (T.length + E.size) cap3)) ∧ Boxed (w3.setCell ⟨w.heap.size + 1, 0, none⟩ (.slice ad3 (T.length + E.size) cap3)) w.heap.size 51 (.slice ada la capa) ∧ Boxed (w3.setCell ⟨w.heap.size + 1, 0, none⟩ (.slice ad3 (T.length + E.size) cap3)) (w.heap.size + 1 + 1) 51 (.slice ada la capa)) ∧ Below w.heap.size w (w3.setCell ⟨w.heap.size + 1, 0, none⟩ (.slice ad3 (T.length + E.size) cap3)) := by
          intro W2 w3 ad3 cap3 hb hbT2 hr2 hr3 hg
          have hbS2 : Boxed W2 w.heap.size 51 (.slice ada la capa) := (hb.block _ hbS.lt).trans hbS
          have hbA2 : Boxed W2 (w.heap.size + 1 + 1) 51 (.slice ada la capa) := (hb.block _ hbA.lt).trans hbA
          have hS3 := hbS2.kept hg (hbS2.not_row (by decide) hr2)
          have hA3 := (hbA2.kept hg (hbA2.not_row (by decide) hr2)).other (B' := w.heap.size + 1) (by omega) (.slice ad3 (T.length + E.size) cap3)
          have hT3 := hbT2.kept hg (hbT2.not_row (by decide) hr2)
          have hB3 : Below w.heap.size w (w3.setCell ⟨w.heap.size + 1, 0, none⟩ (.slice ad3 (T.length + E.size) cap3)) := ((hB.trans (hb.mono hbs)).grown hg (Nat.le_trans hbs hb.size) (fun k hk => (hr2.lt k hk).1)).setCell (p := ⟨w.heap.size + 1, 0, none⟩) (by simp) _
          refine ⟨((KeepsFrom.of_below hb).trans ((KeepsOthers.of_grownBy hg (row_cells hr2)).from _)).trans ((KeepsOthers.setCell _ _ _).from _), keepB_box hB hB3 HX.out hbA hA3, ⟨?_, hS3.other (B' := w.heap.size + 1) (by omega) _, hA3⟩, hB3⟩
          rw [hW2.out]
          have e5 : Lib.strCells E = Lib.byteCells (nine a) := by rw [← hEl.out]; rfl
          have e6 : E.size = (nine a).length := by rw [HEs.out, nine_length hl]
          rw [e5, e6] at hr3
          rw [e6]
          exact TextAt.store hT3 hr3
        gi_wp2
        refine wpIn_region_any hmix ?_
        change wpAnyIn _ _ _ _ _ _ _ _ _ (World.drew _)
        refine wpAnyIn_ready (rs := [0, 1]) (by kernel_rfl) (by simp) ?_
        refine AllReadyIn.cons rfl (fun K hK => ?_) (AllReadyIn.cons rfl (fun K hK => ?_) AllReadyIn.nil)
        · go_simp
          refine hK _ _ ?_
          clear hK K
          refine wpAnyIn_ready (rs := [1]) (by kernel_rfl) (by simp) ?_
          refine AllReadyIn.cons rfl (fun K hK => ?_) AllReadyIn.nil
          go_simp
          refine hK _ _ ?_
          clear hK K
          refine wpAnyIn_ready (rs := [2]) (by kernel_rfl) (by simp) ?_
          refine AllReadyIn.cons rfl (fun K hK => ?_) AllReadyIn.nil
          go_simp
          refine hK _ _ ?_
          clear hK K
          refine wpAnyIn_ready (rs := [3]) (by kernel_rfl) (by simp) ?_
          refine AllReadyIn.cons rfl (fun K hK => ?_) AllReadyIn.nil
          go_simp
          refine ⟨trivial, ?_⟩
          refine (CallsIn.inRound l (callsIn_wide.2 (HF.out _ (Below.refl _ _).drew))).mono ?_
          rintro e W2 ⟨rfl, hb2⟩
          have hb3 : Below W.heap.size W W2 := (Below.refl _ W).drew.trans hb2
          have hbT2 : Boxed W2 (w.heap.size + 1) 43 tv := (hb3.block _ hbT.lt).trans hbT
          have hcT2 := hbT2.cell
          have hrow2 := row_below hrow hb3
          refine hK _ _ ?_
          clear hK K
          refine wpAnyIn_ready (rs := [4]) (by kernel_rfl) (by simp) ?_
          refine AllReadyIn.cons rfl (fun K hK => ?_) AllReadyIn.nil
          go_simp
          refine hK _ _ ?_
          clear hK K
          refine wpAnyIn_ready (rs := [5]) (by kernel_rfl) (by simp) ?_
          refine AllReadyIn.cons rfl (fun K hK => ?_) AllReadyIn.nil
          refine stepIn_append_string rfl (.tmp 21) (.tmp 25) 43 9 rfl w.heap.size 5 i0 Tryd.underlying43 Tryd.underlying9 hi hz0 hz1 hz2 tv T.length (Lib.byteCells T) rfl hrow2 E rfl (by rw [HEs.out]; unfold maxLen; omega) (by rw [HEs.out]; omega) (by have := hb3.size; omega) (fun v' w3 hr3 hg3 => ?_)
          obtain ⟨ad3, cap3, rfl⟩ := row_shape hr3
          have hbT3 := hbT2.kept hg3 (hbT2.not_row (by decide) hrow2)
          have hcT3 := hbT3.cell
          have hfT3 := hbT3.frozen
          refine hK _ _ ?_
          clear hK K
          refine wpAnyIn_ready (rs := [6]) (by kernel_rfl) (by simp) ?_
          refine AllReadyIn.cons rfl (fun K hK => ?_) AllReadyIn.nil
          go_simp
          refine hK _ _ ?_
          clear hK K
          refine wpAnyIn_done (by kernel_rfl) ?_ _
          gi_wp2
          exact fin _ _ _ _ hb3 hbT2 hrow2 hr3 hg3
        · go_simp
          refine hK _ _ ?_
          clear hK K
          refine wpAnyIn_ready (rs := [0, 2]) (by kernel_rfl) (by simp) ?_
          refine AllReadyIn.cons rfl (fun K hK => ?_) (AllReadyIn.cons rfl (fun K hK => ?_) AllReadyIn.nil)
          · go_simp
            refine hK _ _ ?_
            clear hK K
            refine wpAnyIn_ready (rs := [2]) (by kernel_rfl) (by simp) ?_
            refine AllReadyIn.cons rfl (fun K hK => ?_) AllReadyIn.nil
            go_simp
            refine hK _ _ ?_
            clear hK K
            refine wpAnyIn_ready (rs := [3]) (by kernel_rfl) (by simp) ?_
            refine AllReadyIn.cons rfl (fun K hK => ?_) AllReadyIn.nil
            go_simp
            refine ⟨trivial, ?_⟩
            refine (CallsIn.inRound l (callsIn_wide.2 (HF.out _ (Below.refl _ _).drew))).mono ?_
            rintro e W2 ⟨rfl, hb2⟩
            have hb3 : Below W.heap.size W W2 := (Below.refl _ W).drew.trans hb2
            have hbT2 : Boxed W2 (w.heap.size + 1) 43 tv := (hb3.block _ hbT.lt).trans hbT
            have hcT2 := hbT2.cell
            have hrow2 := row_below hrow hb3
            refine hK _ _ ?_
            clear hK K
            refine wpAnyIn_ready (rs := [4]) (by kernel_rfl) (by simp) ?_
            refine AllReadyIn.cons rfl (fun K hK => ?_) AllReadyIn.nil
            go_simp
            refine hK _ _ ?_
            clear hK K
            refine wpAnyIn_ready (rs := [5]) (by kernel_rfl) (by simp) ?_
            refine AllReadyIn.cons rfl (fun K hK => ?_) AllReadyIn.nil
            refine stepIn_append_string rfl (.tmp 21) (.tmp 25) 43 9 rfl w.heap.size 5 i0 Tryd.underlying43 Tryd.underlying9 hi hz0 hz1 hz2 tv T.length (Lib.byteCells T) rfl hrow2 E rfl (by rw [HEs.out]; unfold maxLen; omega) (by rw [HEs.out]; omega) (by have := hb3.size; omega) (fun v' w3 hr3 hg3 => ?_)
            obtain ⟨ad3, cap3, rfl⟩ := row_shape hr3
            have hbT3 := hbT2.kept hg3 (hbT2.not_row (by decide) hrow2)
            have hcT3 := hbT3.cell
            have hfT3 := hbT3.frozen
            refine hK _ _ ?_
            clear hK K
            refine wpAnyIn_ready (rs := [6]) (by kernel_rfl) (by simp) ?_
            refine AllReadyIn.cons rfl (fun K hK => ?_) AllReadyIn.nil
            go_simp
            refine hK _ _ ?_
            clear hK K
            refine wpAnyIn_done (by kernel_rfl) ?_ _
            gi_wp2
            exact fin _ _ _ _ hb3 hbT2 hrow2 hr3 hg3
          · go_simp
            refine hK _ _ ?_
            clear hK K
            refine wpAnyIn_ready (rs := [0, 3]) (by kernel_rfl) (by simp) ?_
            refine AllReadyIn.cons rfl (fun K hK => ?_) (AllReadyIn.cons rfl (fun K hK => ?_) AllReadyIn.nil)
            · go_simp
              refine hK _ _ ?_
              clear hK K
              refine wpAnyIn_ready (rs := [3]) (by kernel_rfl) (by simp) ?_
              refine AllReadyIn.cons rfl (fun K hK => ?_) AllReadyIn.nil
              go_simp
              refine ⟨trivial, ?_⟩
              refine (CallsIn.inRound l (callsIn_wide.2 (HF.out _ (Below.refl _ _).drew))).mono ?_
              rintro e W2 ⟨rfl, hb2⟩
              have hb3 : Below W.heap.size W W2 := (Below.refl _ W).drew.trans hb2
              have hbT2 : Boxed W2 (w.heap.size + 1) 43 tv := (hb3.block _ hbT.lt).trans hbT
              have hcT2 := hbT2.cell
              have hrow2 := row_below hrow hb3
              refine hK _ _ ?_
              clear hK K
              refine wpAnyIn_ready (rs := [4]) (by kernel_rfl) (by simp) ?_
              refine AllReadyIn.cons rfl (fun K hK => ?_) AllReadyIn.nil
              go_simp
              refine hK _ _ ?_
              clear hK K
              refine wpAnyIn_ready (rs := [5]) (by kernel_rfl) (by simp) ?_
              refine AllReadyIn.cons rfl (fun K hK => ?_) AllReadyIn.nil
              refine stepIn_append_string rfl (.tmp 21) (.tmp 25) 43 9 rfl w.heap.size 5 i0 Tryd.underlying43 Tryd.underlying9 hi hz0 hz1 hz2 tv T.length (Lib.byteCells T) rfl hrow2 E rfl (by rw [HEs.out]; unfold maxLen; omega) (by rw [HEs.out]; omega) (by have := hb3.size; omega) (fun v' w3 hr3 hg3 => ?_)
              obtain ⟨ad3, cap3, rfl⟩ := row_shape hr3
              have hbT3 := hbT2.kept hg3 (hbT2.not_row (by decide) hrow2)
              have hcT3 := hbT3.cell
              have hfT3 := hbT3.frozen
              refine hK _ _ ?_
              clear hK K
              refine wpAnyIn_ready (rs := [6]) (by kernel_rfl) (by simp) ?_
              refine AllReadyIn.cons rfl (fun K hK => ?_) AllReadyIn.nil
              go_simp
              refine hK _ _ ?_
              clear hK K
              refine wpAnyIn_done (by kernel_rfl) ?_ _
              gi_wp2
              exact fin _ _ _ _ hb3 hbT2 hrow2 hr3 hg3
            · go_simp
              refine ⟨trivial, ?_⟩
              refine (CallsIn.inRound l (callsIn_wide.2 (HF.out _ (Below.refl _ _).drew))).mono ?_
              rintro e W2 ⟨rfl, hb2⟩
              have hb3 : Below W.heap.size W W2 := (Below.refl _ W).drew.trans hb2
              have hbT2 : Boxed W2 (w.heap.size + 1) 43 tv := (hb3.block _ hbT.lt).trans hbT
              have hcT2 := hbT2.cell
              have hrow2 := row_below hrow hb3
              refine hK _ _ ?_
              clear hK K
              refine wpAnyIn_ready (rs := [0, 4]) (by kernel_rfl) (by simp) ?_
              refine AllReadyIn.cons rfl (fun K hK => ?_) (AllReadyIn.cons rfl (fun K hK => ?_) AllReadyIn.nil)
              · go_simp
                refine hK _ _ ?_
                clear hK K
                refine wpAnyIn_ready (rs := [4]) (by kernel_rfl) (by simp) ?_
                refine AllReadyIn.cons rfl (fun K hK => ?_) AllReadyIn.nil
                go_simp
                refine hK _ _ ?_
                clear hK K
                refine wpAnyIn_ready (rs := [5]) (by kernel_rfl) (by simp) ?_
                refine AllReadyIn.cons rfl (fun K hK => ?_) AllReadyIn.nil
                refine stepIn_append_string rfl (.tmp 21) (.tmp 25) 43 9 rfl w.heap.size 5 i0 Tryd.underlying43 Tryd.underlying9 hi hz0 hz1 hz2 tv T.length (Lib.byteCells T) rfl hrow2 E rfl (by rw [HEs.out]; unfold maxLen; omega) (by rw [HEs.out]; omega) (by have := hb3.size; omega) (fun v' w3 hr3 hg3 => ?_)
                obtain ⟨ad3, cap3, rfl⟩ := row_shape hr3
                have hbT3 := hbT2.kept hg3 (hbT2.not_row (by decide) hrow2)
                have hcT3 := hbT3.cell
                have hfT3 := hbT3.frozen
                refine hK _ _ ?_
                clear hK K
                refine wpAnyIn_ready (rs := [6]) (by kernel_rfl) (by simp) ?_
                refine AllReadyIn.cons rfl (fun K hK => ?_) AllReadyIn.nil
                go_simp
                refine hK _ _ ?_
                clear hK K
                refine wpAnyIn_done (by kernel_rfl) ?_ _
                gi_wp2
                exact fin _ _ _ _ hb3 hbT2 hrow2 hr3 hg3
              · go_simp
                refine hK _ _ ?_
                clear hK K
                refine wpAnyIn_ready (rs := [0]) (by kernel_rfl) (by simp) ?_
                refine AllReadyIn.cons rfl (fun K hK => ?_) AllReadyIn.nil
                go_simp
                refine hK _ _ ?_
                clear hK K
                refine wpAnyIn_ready (rs := [5]) (by kernel_rfl) (by simp) ?_
                refine AllReadyIn.cons rfl (fun K hK => ?_) AllReadyIn.nil
                refine stepIn_append_string rfl (.tmp 21) (.tmp 25) 43 9 rfl w.heap.size 5 i0 Tryd.underlying43 Tryd.underlying9 hi hz0 hz1 hz2 tv T.length (Lib.byteCells T) rfl hrow2 E rfl (by rw [HEs.out]; unfold maxLen; omega) (by rw [HEs.out]; omega) (by have := hb3.size; omega) (fun v' w3 hr3 hg3 => ?_)
                obtain ⟨ad3, cap3, rfl⟩ := row_shape hr3
                have hbT3 := hbT2.kept hg3 (hbT2.not_row (by decide) hrow2)
                have hcT3 := hbT3.cell
                have hfT3 := hbT3.frozen
                refine hK _ _ ?_
                clear hK K
                refine wpAnyIn_ready (rs := [6]) (by kernel_rfl) (by simp) ?_
                refine AllReadyIn.cons rfl (fun K hK => ?_) AllReadyIn.nil
                go_simp
                refine hK _ _ ?_
                clear hK K
                refine wpAnyIn_done (by kernel_rfl) ?_ _
                gi_wp2
                exact fin _ _ _ _ hb3 hbT2 hrow2 hr3 hg3
    case done =>
      rintro D ys W hD hys ⟨⟨⟨tv, hbT, hrow, -⟩, hbS, hbA⟩, hB⟩ hK
      have hx0 : x ≠ 0 := fun h => by have := HLA.out; rw [h, limbs_zero] at this; exact h0 this.symm
      have hw := wrote_all x hx0
      obtain ⟨q, hq⟩ : ∃ q, places ys = q := ⟨_, rfl⟩
      rw [hq] at hys hrow
      rw [← hys, HLA.out] at hw
      rw [hw] at hrow
      clear hq
      have hlen : (Lib.decDigits x).length ≠ 0 := fun h => decDigits_ne x (List.length_eq_zero_iff.1 h)
      have hcT := hbT.cell
      have hcv : (convert 43 9 tv).run Tryd.prog W = .ok (.string ⟨(Lib.decDigits x).toArray⟩) W := by
        rcases hrow.2 with ⟨rfl, h2⟩ | ⟨g, cap, cur, rfl, h3, h4, h5, h6, h7, h8⟩
        · exact absurd h2 hlen
        · refine run_convert_bytes_back (P := Tryd.prog) W 43 9 5 ⟨g, 0, none⟩ cap (Lib.decDigits x) Tryd.underlying43 Tryd.underlying5 Tryd.underlying9 (fun j hj => ?_)
          have := World.ownsRow.cells hrow (g := g) rfl j (.int .u8 ((Lib.decDigits x)[j].toNat : Int)) (by simp [Lib.byteCells, hj])
          exact this
      have HH := Lib.hid hB
      clear hw hrow hbT hbS hbA hx0 hlen hys hB
      gi_wp2
      refine ⟨by simp, .inl ⟨_, _, rfl, run_takeDeferred hK, ?_⟩⟩
      exact ⟨_, results_tmp rfl _ _ _, rfl, HH.out.trans (belowK_b (w := w) (Nat.le_refl _) W D _ _ (by simp at hD; omega) hK rfl rfl)⟩
    case stop =>
      rintro D c pre W _ _ h _
      exact h.elim

end Go.Proofs.YtlilojaefpnkmaaDoor
