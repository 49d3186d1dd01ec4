/- object: a whole one; value, by its depth · object: a whole one; value, by its depth · value, by its depth -/
import Derived.Carry
import Derived.Lib.SmallJoins
import Derived.Test.YtblldoniagiboaaGreatDoorJl37
import Derived.Test.YtblldoniagiboaaGreatDoorJl38
import Derived.Test.YtblldoniagiboaaGreatDoorJl39
import Derived.Test.YtblldoniagiboaaGreatDoorJl40
import Derived.Test.YtblldoniagiboaaGreatDoorJl42
namespace Go.Proofs.YtblldoniagiboaaGreatDoor
open Go.RowKit Go.Shelf Go.Sort Go.Maps
set_option linter.unusedVariables false

theorem reads_obj {H P d : Nat} {dep : Int} {t : ByteArray} (hP7 : 7 ≤ P) (hPH : P < H) (hd0 : 0 ≤ dep) (hd1 : dep ≤ 100)
    (hv : ∀ W a n, Rdr W P t a n → ReadyJ W → Calls Tryz.prog 67 #[.pointer (some ⟨P, 0, none⟩), .int .i64 (dep + 1)] W (VEnds W P t (valJ d (rest t a) n))) :
    ReadsC 140 #[.pointer (some ⟨H + 3, 0, none⟩), .pointer (some ⟨H, 0, none⟩), .pointer (some ⟨H + 6, 0, none⟩), .pointer (some ⟨H + 4, 0, none⟩), .pointer (some ⟨H + 1, 0, none⟩)] H P t (ObjSt2 H P dep) (pairJ (valJ d)) where
  enters := enters_of Tryz.func140 (by kernel_rfl) rfl
  stays := fun W W' st n ⟨kv, v, yy, h1, h2, h3, h4⟩ ha => ⟨kv, v, yy, h1.aside ha hPH, h2, h3, h4⟩
  reads := fun W a n st h hR hBW ⟨kv, v, yy, h1, h2, h3, h4⟩ => by
    have hn := h.2.2.2
    have hl : (st.map Prod.fst).length = st.length := by simp
    cases hk : keyJ (st.map Prod.fst) (rest t a) with
    | error b => exact pair_key (d := d) (n' := 0) h hR hP7 hPH rfl h2 h1 (by omega) hd0 hd1 h4 hk
    | ok y =>
      obtain ⟨kk, R1⟩ := y
      cases hc : Lib.hasPrefix (skipB R1) [58] with
      | false => exact pair_colon (d := d) (n' := 0) (R' := []) (T := noTree) (b := (0, 0)) h hR hP7 hPH rfl h2 h1 (by omega) hd0 hd1 h4 hk hc
      | true =>
        cases hvr : valJ d ((skipB R1).drop 1) n with
        | error b => exact pair_val (n' := 0) (R' := []) (T := noTree) h hR hP7 hPH rfl h2 h1 (by omega) hd0 hd1 h4 hk hc hvr hv
        | ok y =>
          obtain ⟨T, R', n'⟩ := y
          have := (valJ_on d _ _ _ _ _ hvr).2
          exact pair_ok (b := (0, 0)) h hR hP7 hPH rfl h2 h1 (by omega) hd0 hd1 h4 hk hc hvr (by omega) hv
  less := fun st R n st' R' n' h => (pairJ_on (valJ_on d) st _ _ _ _ _ h).1
theorem fresh_obj0 {lo B : Nat} {W : World} {v : Value} {k : Int} {b : Bool} {t : ByteArray} (h : Is B W v (.node k b t [] [])) : Fresh lo B W v (.node k b t [] []) := by
  cases h with
  | mk k b t its ks ad cap kv g o ik ib it ii iv hk hc hn ha hcell hrec =>
    obtain ⟨adk, capk, rfl, h1, h2, h3⟩ := hk
    exact Fresh.mk k b t [] [] ad cap _ 0 0 (fun _ => 0) (fun _ => false) (fun _ => ⟨#[]⟩) (fun _ => undef) (fun _ => undef) ⟨adk, capk, rfl, h1, h2, fun h => absurd h (by simp)⟩ hc hn (fun h => absurd h (by simp)) (fun j h => absurd h (by simp)) (fun j i h => absurd h (by simp)) (fun j h => absurd h (by simp))
theorem doc_some {ks : List ByteArray} {Ts : List VT} (h : Ts.length = ks.length) (hn : ks.Nodup) : ∃ z, docObj ks Ts = some z := by
  cases hz : docObj ks Ts with
  | some z => exact ⟨z, rfl⟩
  | none =>
    have := putAll_none _ _ hz (by simp)
    rw [List.nil_append, List.map_fst_zip (by omega)] at this
    exact absurd hn this
theorem getD_small {Ts : List VT} (h : ∀ T ∈ Ts, smallT T) (p : Nat) : smallT (Ts.getD p noTree) := by
  rw [List.getD]
  cases hp : Ts[p]? with
  | none => exact smallT_node.2 ⟨by simp, by simp, by simp⟩
  | some T => exact h T (List.mem_of_getElem? hp)
/-- value.Object of what was read. -/
theorem made_any {w : World} {kv iv : Value} {st : List (ByteArray × VT)} {xs : List It} (hk : StrsAt w.heap.size w kv (st.map Prod.fst)) (hx : ItemsAt w.heap.size w iv xs) (hsm : ∀ e ∈ xs, smallT e.T) (hxx : xs.map It.T = st.map Prod.snd) (hn : st.length ≤ 900000) (hnd : (st.map Prod.fst).Nodup) :
    Calls Tryz.prog 143 #[kv, iv] w fun e w' => ∃ v', e = .returned (.tuple #[v', .int .i64 0]) ∧ Fresh w.heap.size w'.heap.size w' v' (madeT st) ∧ smallT (madeT st) ∧ Below w.heap.size w w' := by
  have hxl : xs.length = st.length := by have := congrArg List.length hxx; simpa using this
  have hTl : (st.map Prod.snd).length = (st.map Prod.fst).length := by simp
  rcases Nat.eq_zero_or_pos st.length with h0 | h0
  · obtain rfl : st = [] := List.length_eq_zero_iff.1 h0
    obtain rfl : xs = [] := List.length_eq_zero_iff.1 (by omega)
    obtain ⟨adx, capx, rfl, -⟩ := hx
    refine (object_none (adx := adx) (capx := capx) hk).mono ?_
    rintro e w' ⟨v', rfl, hi, hb⟩
    exact ⟨v', rfl, fresh_obj0 hi, smallT_node.2 ⟨by simp, by simp, by simp⟩, hb⟩
  · refine (object_any hk hx hsm (by simp [hxl]) (by simpa using h0) (by simp; omega)).mono ?_
    rintro e w' ⟨ps, hp, ⟨⟨v', rfl, hf, hb⟩, hd⟩ | ⟨rfl, hb, hd⟩⟩
    · rw [hxx] at hf
      have hz := make_some hTl hp hd
      have h2 := keyL_all (ks := st.map Prod.fst) (Ts := st.map Prod.snd) (ps := ps)
      have hm : madeT st = objT (pairsOf (st.map Prod.fst) (st.map Prod.snd) ps) := by unfold madeT; rw [hz]
      have hpl : ps.length = st.length := by rw [hp.1.length_eq]; simp
      refine ⟨v', rfl, ?_, ?_, hb⟩
      · rw [hm]
        unfold objT
        rw [← h2.1, ← h2.2]
        exact hf
      · rw [hm]
        unfold objT
        refine smallT_node.2 ⟨by simp [pairs_length]; omega, by simp [pairs_length]; omega, fun x hx => ?_⟩
        rw [← h2.2] at hx
        unfold treeL at hx
        obtain ⟨p, -, rfl⟩ := List.mem_map.1 hx
        refine getD_small (fun T hT => ?_) p
        rw [← hxx] at hT
        obtain ⟨e, he, rfl⟩ := List.mem_map.1 hT
        exact hsm e he
    · have := make_none hTl hp hd
      obtain ⟨z, hz⟩ := doc_some hTl hnd
      rw [this] at hz
      cases hz
/-- What stays true of what was read. -/
theorem seqJ_inv {σ : Type} {rd : σ → RdJ σ} {q : UInt8} {p : σ → Prop} (h : ∀ st R n st' R' n', p st → rd st R n = .ok (st', R', n') → p st') : ∀ (f : Nat) (st : σ) (R : List UInt8) (n : Nat) (x : σ) (R' : List UInt8) (n' : Nat), p st → seqJ rd q f st R n = .ok (x, R', n') → p x
  | 0, st, R, n, x, R', n', hp, he => by unfold seqJ at he; cases he
  | f + 1, st, R, n, x, R', n', hp, he => by
    unfold seqJ at he
    split at he
    · cases he
    · rename_i st1 R1 n1 hr
      have h1 := h _ _ _ _ _ _ hp hr
      split at he
      · cases he; exact h1
      · split at he
        · exact seqJ_inv h f _ _ _ _ _ _ h1 he
        · cases he
theorem eachJ_inv {σ : Type} {rd : σ → RdJ σ} {q : UInt8} {p : σ → Prop} (h : ∀ st R n st' R' n', p st → rd st R n = .ok (st', R', n') → p st') {st x : σ} {R R' : List UInt8} {n n' : Nat} (hp : p st) (he : eachJ rd q st R n = .ok (x, R', n')) : p x := by
  unfold eachJ at he
  split at he
  · cases he; exact hp
  · exact seqJ_inv h _ _ _ _ _ _ _ hp he
theorem bytes_self (k : ByteArray) : (k == k) = true := by
  cases k with | mk x =>
  show (x == x) = true
  exact beq_self_eq_true x
theorem contains_mem {k : ByteArray} : ∀ {ks : List ByteArray}, k ∈ ks → ks.contains k = true
  | [], h => by cases h
  | a :: l, h => by
    rw [List.contains_cons]
    rcases List.mem_cons.1 h with rfl | h
    · rw [bytes_self]; rfl
    · rw [contains_mem h, Bool.or_true]
theorem pairJ_nodup {rd : RdJ VT} : ∀ st R n st' R' n', (st.map Prod.fst).Nodup → pairJ rd st R n = .ok (st', R', n') → (st'.map Prod.fst).Nodup := fun st R n st' R' n' hp he => by
  unfold pairJ at he
  split at he
  · cases he
  · rename_i k R1 hk
    split at he
    · split at he
      · cases he
      · cases he
        rw [List.map_append]
        refine List.nodup_append.2 ⟨hp, by simp, fun a ha b hb => ?_⟩
        simp at hb
        subst hb
        unfold keyJ at hk
        split at hk
        · split at hk
          · cases hk
          · split at hk
            · cases hk
            · rename_i hc
              cases hk
              intro e
              subst e
              exact hc (contains_mem ha)
        · cases hk
    · cases he
end Go.Proofs.YtblldoniagiboaaGreatDoor
namespace Go.Proofs.YtblldoniagiboaaGreatDoor
open Go.RowKit Go.Shelf Go.Sort Go.Maps
set_option linter.unusedVariables false

theorem JObjAt.items {H P : Nat} {dep : Int} {W : World} {sk ks : List ByteArray} {kv v : Value} {yy : List It} (h : JObjAt H P dep W sk ks kv v yy) (hn : yy.length ≤ 1000000) : ItemsAt W.heap.size W v yy :=
  items_of_row h.row (by omega) (fun e he => by
    obtain ⟨lo, hi, h1, h2, h3, -⟩ := h.far e he
    exact h3.at.wide h2)
theorem JObjAt.strs {H P : Nat} {dep : Int} {W : World} {sk ks : List ByteArray} {kv v : Value} {yy : List It} (h : JObjAt H P dep W sk ks kv v yy) (hn : ks.length ≤ 1000000) : StrsAt W.heap.size W kv ks := (strsF_row2 h.krow (by omega)).at
theorem seen_nil {W : World} {M : Nat} (h : W.heap[M]? = some (.map #[] 0)) : SeenAt W M [] := Go.Joins.ownsMap_empty h
set_option maxRecDepth 100000 in
set_option maxHeartbeats 1000000 in
theorem object_read {P d a n : Nat} {dep : Int} {W : World} {t : ByteArray} (h : Rdr W P t a n) (hR : ReadyJ W) (hP7 : 7 ≤ P) (hal : a < t.size) (hd0 : 0 ≤ dep) (hd1 : dep ≤ 100)
    (hv : ∀ W a n, Rdr W P t a n → ReadyJ W → Calls Tryz.prog 67 #[.pointer (some ⟨P, 0, none⟩), .int .i64 (dep + 1)] W (VEnds W P t (valJ d (rest t a) n))) :
    Calls Tryz.prog 105 #[.pointer (some ⟨P, 0, none⟩), .int .i64 dep] W (VEnds W P t (objR (eachJ (pairJ (valJ d)) 125 [] (rest t a) n))) := by
  have hPlt := h.1.lt
  obtain ⟨W1, hW1⟩ : ∃ W1, W.alloc (.cells #[.pointer (some ⟨P, 0, none⟩)] 121) = W1 := ⟨_, rfl⟩
  have hz1 : W1.heap.size = W.heap.size + 1 := by rw [← hW1]; simp
  have b1 : Blk W1 W.heap.size #[.pointer (some ⟨P, 0, none⟩)] 121 := by rw [← hW1]; exact Blk.new _ _ _
  have s1 : Below W.heap.size W W1 := by rw [← hW1]; exact below_new0 _ _
  obtain ⟨W2, hW2⟩ : ∃ W2, W1.alloc (.cells #[.int .i64 dep] 3) = W2 := ⟨_, rfl⟩
  have hz2 : W2.heap.size = W.heap.size + 2 := by rw [← hW2]; simp [hz1]
  have b2 : Blk W2 (W.heap.size + 1) #[.int .i64 dep] 3 := by rw [← hW2, ← hz1]; exact Blk.new _ _ _
  have s2 : Below W1.heap.size W1 W2 := by rw [← hW2]; exact below_new0 _ _
  obtain ⟨W3, hW3⟩ : ∃ W3, W2.alloc (.cells #[.int .i64 0, .bool false, .string ⟨#[]⟩, .slice none 0 0, .slice none 0 0] 26) = W3 := ⟨_, rfl⟩
  have hz3 : W3.heap.size = W.heap.size + 3 := by rw [← hW3]; simp [hz2]
  have b3 : Blk W3 (W.heap.size + 2) nil5 26 := by rw [← hW3, ← hz2]; exact Blk.new _ _ _
  have s3 : Below W2.heap.size W2 W3 := by rw [← hW3]; exact below_new0 _ _
  obtain ⟨W4, hW4⟩ : ∃ W4, W3.alloc (.cells #[.slice none 0 0] 24) = W4 := ⟨_, rfl⟩
  have hz4 : W4.heap.size = W.heap.size + 4 := by rw [← hW4]; simp [hz3]
  have b4 : Blk W4 (W.heap.size + 3) #[.slice none 0 0] 24 := by rw [← hW4, ← hz3]; exact Blk.new _ _ _
  have s4 : Below W3.heap.size W3 W4 := by rw [← hW4]; exact below_new0 _ _
  obtain ⟨W5, hW5⟩ : ∃ W5, W4.alloc (.cells #[.slice none 0 0] 23) = W5 := ⟨_, rfl⟩
  have hz5 : W5.heap.size = W.heap.size + 5 := by rw [← hW5]; simp [hz4]
  have b5 : Blk W5 (W.heap.size + 4) #[.slice none 0 0] 23 := by rw [← hW5, ← hz4]; exact Blk.new _ _ _
  have s5 : Below W4.heap.size W4 W5 := by rw [← hW5]; exact below_new0 _ _
  obtain ⟨W6, hW6⟩ : ∃ W6, W5.alloc (.map #[] 0) = W6 := ⟨_, rfl⟩
  have hz6 : W6.heap.size = W.heap.size + 6 := by rw [← hW6]; simp [hz5]
  have b6 : W6.heap[W.heap.size + 5]? = some (.map #[] 0) := by rw [← hW6, ← hz5]; exact Array.getElem?_push_size
  have s6 : Below W5.heap.size W5 W6 := by rw [← hW6]; exact below_new0 _ _
  obtain ⟨W7, hW7⟩ : ∃ W7, W6.alloc (.cells #[.map (some (W.heap.size + 5))] 185) = W7 := ⟨_, rfl⟩
  have hz7 : W7.heap.size = W.heap.size + 7 := by rw [← hW7]; simp [hz6]
  have b7 : Blk W7 (W.heap.size + 6) #[.map (some (W.heap.size + 5))] 185 := by rw [← hW7, ← hz6]; exact Blk.new _ _ _
  have s7 : Below W6.heap.size W6 W7 := by rw [← hW7]; exact below_new0 _ _
  have s07 : Below W.heap.size W W7 := (((((s1.trans (s2.mono (by omega))).trans (s3.mono (by omega))).trans (s4.mono (by omega))).trans (s5.mono (by omega))).trans (s6.mono (by omega))).trans (s7.mono (by omega))
  have b6' : W7.heap[W.heap.size + 5]? = some (.map #[] 0) := (s7.block _ (by omega)).trans b6
  have e1 := (((((b1.below s2).below s3).below s4).below s5).below s6).below s7
  have e2 := ((((b2.below s3).below s4).below s5).below s6).below s7
  have e3 := (((b3.below s4).below s5).below s6).below s7
  have e4 := ((b4.below s5).below s6).below s7
  have e5 := (b5.below s6).below s7
  have hst : ObjSt2 W.heap.size P dep W7 [] n := ⟨nilV, nilV, [], ⟨e1, e2, e3, e4, e5, b7, seen_nil b6', ⟨rfl, .inl ⟨rfl, rfl⟩⟩, ⟨rfl, .inl ⟨rfl, rfl⟩⟩, (fun e he => by cases he), (fun e he => by cases he), (fun q e => by cases e)⟩, rfl, Nat.zero_le _, (fun k hk => by cases hk)⟩
  have HE := Lib.hid (each_any (h.below s07) (hR.below s07) hP7 hPlt (by omega : W.heap.size ≤ W7.heap.size) hal (reads_obj hP7 hPlt hd0 hd1 hv) hst 125)
  have HW4 := Lib.hid ((h.stays s07).toB (Nat.le_refl _))
  have c0 := e1.cell 0
  have hsz := h.2.2
  have hmf : ∀ (fn : Fn) (first cap : Array Value) (w : World), (Instr.makeFunc fn first cap).run Tryz.prog w = .ok (.func fn first cap) w := fun _ _ _ _ => rfl
  have hmm := @run_makeMap Tryz.prog
  clear s1 s2 s3 s4 s5 s6 s7 b1 b2 b3 b4 b5 b6 b7 b6' e1 e2 e3 e4 e5 hst h hR hv s07
  go_enter Tryz.func105, Tryz.ntmps105
  go_wp2_with fail
  cases hr : eachJ (pairJ (valJ d)) 125 [] (rest t a) n with
  | error b =>
    rw [hr] at HE
    have HX := Lib.hid hr
    clear hr
    go_at_call 137; refine HE.out.mono ?_; rintro e w5 ⟨D, rfl, h1, h2, h3⟩
    refine ⟨rfl, ?_⟩
    exact ThrownB.toA (ThrownB.after ⟨D, rfl, h1, h2, h3⟩ HW4.out.1)
  | ok y =>
    obtain ⟨l, R', n'⟩ := y
    rw [hr] at HE
    have HX := Lib.hid hr
    have hnd : (l.map Prod.fst).Nodup := eachJ_inv (p := fun st : List (ByteArray × VT) => (st.map Prod.fst).Nodup) pairJ_nodup (st := []) (show ([] : List ByteArray).Nodup from List.nodup_nil) hr
    clear hr
    go_at_call 137; refine HE.out.mono ?_; rintro e w5 ⟨rfl, a', hw5, hr5, kv, v, yy, hl5, hl6, hl7, hl8⟩
    have hn5 := hw5.2.2.2.2
    have hyl : yy.length = l.length := by have := congrArg List.length hl6; simpa using this
    have hW5 : WentB W.heap.size W w5 P t a' n' := HW4.out.trans hw5
    have k3 := hl5.kbox.cell 0
    have k4 := hl5.box.cell 0
    have HV := Lib.hid (made_any (st := l) (hl5.strs (by simp; omega)) (hl5.items (by omega)) hl5.small hl6 (by omega) hnd)
    have HN := Lib.hid hl5.res
    have HW5 := Lib.hid hW5
    have HR5 := Lib.hid hr5
    clear hl5 hw5 hW5 hr5 c0 hl6 hl8 hnd
    go_wp2_with fail
    go_at_call 143; refine HV.out.mono ?_; rintro e w6 ⟨v6, rfl, hf6, hsm6, hb6⟩
    obtain ⟨y1, y2, y3, ya, yn, yc, yk, ym, yd, rfl⟩ := hf6.shape
    have HB6 := Lib.hid hb6
    have HF6 := Lib.hid hf6
    have hn6 := HN.out.below hb6
    unfold nil5 at hn6
    have z0 := hn6.cell 0
    have z1 := hn6.cell 1
    have z2 := hn6.cell 2
    have z3 := hn6.cell 3
    have z4 := hn6.cell 4
    have f0 := hn6.frozen 0
    have f1 := hn6.frozen 1
    have f2 := hn6.frozen 2
    have f3 := hn6.frozen 3
    have f4 := hn6.frozen 4
    have hlt6 := hn6.lt
    have hd := (hn6.set5 (.int .i64 y1) (.bool y2) (.string y3) (.slice ya yn yc) (.slice yk ym yd)).below (below_new0 _ (.cells #[.int .i64 y1, .bool y2, .string y3, .slice ya yn yc, .slice yk ym yd] 26))
    have d0 := hd.cell 0
    have d1 := hd.cell 1
    have d2 := hd.cell 2
    have d3 := hd.cell 3
    have d4 := hd.cell 4
    have HSM := Lib.hid hsm6
    clear hn6 hf6 hb6 hd k3 k4 hsm6
    go_wp2_with fail
    refine bodyPost_ret (v := .agg #[.int .i64 y1, .bool y2, .string y3, .slice ya yn yc, .slice yk ym yd]) (by simp [results, Tryz.results105, go_sem, d0, d1, d2, d3, d4]) rfl ?_
    have hs5 : W.heap.size + 2 < w5.heap.size := HN.out.lt
    have hwent : Went W w6 P t a' n' := ⟨(HW5.out.1.trans ((Aside.of HB6.out).toB (by omega))).toA, (HW5.out.2.below HB6.out)⟩
    have hw2 := hwent.set5 hPlt (by omega : W.heap.size ≤ W.heap.size + 2) (.int .i64 y1) (.bool y2) (.string y3) (.slice ya yn yc) (.slice yk ym yd)
    have hf2 := HF6.out.keep (W' := ((((w6.setCell ⟨W.heap.size + 2, 0, none⟩ (.int .i64 y1)).setCell ⟨W.heap.size + 2, 1, none⟩ (.bool y2)).setCell ⟨W.heap.size + 2, 2, none⟩ (.string y3)).setCell ⟨W.heap.size + 2, 3, none⟩ (.slice ya yn yc)).setCell ⟨W.heap.size + 2, 4, none⟩ (.slice yk ym yd)) (lo' := W.heap.size) (B' := w6.heap.size) (fun g h1 h2 => by
      rw [Below.heap_setCell _ _ _ _ (by show g ≠ W.heap.size + 2; omega), Below.heap_setCell _ _ _ _ (by show g ≠ W.heap.size + 2; omega), Below.heap_setCell _ _ _ _ (by show g ≠ W.heap.size + 2; omega), Below.heap_setCell _ _ _ _ (by show g ≠ W.heap.size + 2; omega), Below.heap_setCell _ _ _ _ (by show g ≠ W.heap.size + 2; omega)]) (by omega) (Nat.le_refl _)
    rw [HX.out]
    have hz6 : (((((w6.setCell ⟨W.heap.size + 2, 0, none⟩ (.int .i64 y1)).setCell ⟨W.heap.size + 2, 1, none⟩ (.bool y2)).setCell ⟨W.heap.size + 2, 2, none⟩ (.string y3)).setCell ⟨W.heap.size + 2, 3, none⟩ (.slice ya yn yc)).setCell ⟨W.heap.size + 2, 4, none⟩ (.slice yk ym yd)).heap.size = w6.heap.size := by simp
    generalize (((((w6.setCell ⟨W.heap.size + 2, 0, none⟩ (.int .i64 y1)).setCell ⟨W.heap.size + 2, 1, none⟩ (.bool y2)).setCell ⟨W.heap.size + 2, 2, none⟩ (.string y3)).setCell ⟨W.heap.size + 2, 3, none⟩ (.slice ya yn yc)).setCell ⟨W.heap.size + 2, 4, none⟩ (.slice yk ym yd)) = w8 at *
    have hbn := below_new0 w8 (.cells #[.int .i64 y1, .bool y2, .string y3, .slice ya yn yc, .slice yk ym yd] 26)
    rw [← hz6] at hf2
    exact ⟨_, a', rfl, hf2.keep (fun g h1 h2 => hbn.block g h2) (Nat.le_refl _) hbn.size, HSM.out, hw2.trans (hw2.2.stays hbn), HR5.out⟩
end Go.Proofs.YtblldoniagiboaaGreatDoor
namespace Go.Proofs.YtblldoniagiboaaGreatDoor
open Go.RowKit Go.Shelf Go.Sort Go.Maps
set_option linter.unusedVariables false

set_option maxRecDepth 100000 in
set_option maxHeartbeats 4000000 in
theorem value_obj {W : World} {P a n d : Nat} {dep : Int} {t : ByteArray} (h : Rdr W P t a n) (hR : ReadyJ W) (hP7 : 7 ≤ P) (hd : ¬ 24 < dep) (hn : ¬ n = 2000) (hx : headN (skipB (rest t a)) = 123) (hd0 : 0 ≤ dep) (hv : ∀ W a n, Rdr W P t a n → ReadyJ W → Calls Tryz.prog 67 #[.pointer (some ⟨P, 0, none⟩), .int .i64 (dep + 1)] W (VEnds W P t (valJ d (rest t a) n))) :
    Calls Tryz.prog 67 #[.pointer (some ⟨P, 0, none⟩), .int .i64 dep] W (VEnds W P t (objR (eachJ (pairJ (valJ d)) 125 [] (skipB (rest t a)) (n + 1)))) := by
  have hb0 := below_new0 W (.cells #[.int .i64 0, .bool false, .string ⟨#[]⟩, .slice none 0 0, .slice none 0 0] 26)
  have HB := Lib.hid (blanks_any (h.below hb0))
  have HW0 := Lib.hid (h.stays hb0)
  have HR0 := Lib.hid (hR.below hb0)
  have hP := h.1.lt
  have hsz := h.2
  have HBN := Lib.hid (Blk.new W #[.int .i64 0, .bool false, .string ⟨#[]⟩, .slice none 0 0, .slice none 0 0] 26)
  clear h hR hb0
  have hn1 : ((n : Int) == 2000) = false := beq_eq_false_iff_ne.2 (by omega)
  have hw : IntKind.i64.wrap ((n : Int) + 1) = (n : Int) + 1 := IntWalk.i64_in _ (by omega)
  go_enter Tryz.func67, Tryz.ntmps67
  go_wp2_with fail
  go_at_call 68; refine HB.out.mono ?_; rintro e w1 ⟨rfl, c1, hw1, hc1⟩
  have HW1 := Lib.hid (HW0.out.trans hw1)
  have HR1 := Lib.hid (HR0.out.aside hw1.1 hP7)
  have HN1 := Lib.hid (HBN.out.aside hw1.1 (by omega))
  have HC1 := Lib.hid hc1
  have k1 := hw1.2.1.cell 1
  have k2 := hw1.2.1.cell 2
  have hn2 := hw1.2.2.2.2
  have f2 := hw1.2.1.frozen 2
  clear hw1 hc1 HB
  have HG : Hid (Went w1 (w1.setCell ⟨P, 2, none⟩ (.int .i64 ((n : Int) + 1))) P t c1 (n + 1)) := Lib.hid (by simpa using HW1.out.2.begins (by omega : n < 2000))
  have HW2 := Lib.hid (HW1.out.trans HG.out)
  have HR2 := Lib.hid (HR1.out.aside HG.out.1 hP7)
  have HN2 := Lib.hid (HN1.out.aside HG.out.1 (by omega))
  have HP2 := Lib.hid (peek_any HG.out.2)
  rw [HC1.out, hx] at HP2
  obtain ⟨W2, hW2⟩ : ∃ W2, w1.setCell ⟨P, 2, none⟩ (.int .i64 ((n : Int) + 1)) = W2 := ⟨_, rfl⟩
  rw [hW2] at HG HW2 HR2 HN2 HP2
  go_wp2_with fail
  try rw [hW2]
  clear k1 k2 f2
  go_at_call 101; refine HP2.out.mono ?_; rintro e w3 ⟨rfl, hb3⟩
  have HW3 := Lib.hid (HW2.out.trans (HW2.out.2.stays hb3))
  have HR3 := Lib.hid (HR2.out.below hb3)
  have HN3 := Lib.hid (HN2.out.below hb3)
  clear hb3 HW2 HR2 HN2 HP2 HG HW1 HR1 HN1 hW2
  have hal : c1 < t.size := by
    obtain ⟨r, hr⟩ := head_cons (q := 123) (by decide) hx
    have h2 := rest_length t c1
    rw [HC1.out, hr, List.length_cons] at h2
    omega
  have HQ := Lib.hid (object_read HW3.out.2 HR3.out hP7 hal hd0 (by omega) hv)
  rw [HC1.out] at HQ
  clear hx hal
  go_wp2_with fail
  go_at_call 105; refine HQ.out.mono ?_
  cases hq : objR (eachJ (pairJ (valJ d)) 125 [] (skipB (rest t a)) (n + 1)) with
  | error b =>
    rintro e w4 ⟨D, rfl, h1, h2, h3⟩
    refine ⟨rfl, ?_⟩
    exact Thrown.after ⟨D, rfl, h1, h2, h3⟩ HW3.out.1
  | ok y =>
    obtain ⟨T, R', n'⟩ := y
    rintro e w5 ⟨v5, a5, rfl, hf5, hs5, hw5, hc5⟩
    obtain ⟨y1, y2, y3, ya, yn, yc, yk, ym, yd, rfl⟩ := hf5.shape
    have HC5 := Lib.hid hc5
    have HN5 := Lib.hid (HN3.out.aside hw5.1 (by omega))
    have hz5 : W.heap.size + 1 ≤ w3.heap.size := HN3.out.lt
    have HF5 := Lib.hid hf5
    have HW5 := Lib.hid (HW3.out.trans hw5)
    have HQE := Lib.hid hq
    clear hw5 hc5 hq hf5
    have hn5 := HN5.out
    have z0 := hn5.cell 0
    have z1 := hn5.cell 1
    have z2 := hn5.cell 2
    have z3 := hn5.cell 3
    have z4 := hn5.cell 4
    have f0 := hn5.frozen 0
    have f1 := hn5.frozen 1
    have f2 := hn5.frozen 2
    have f3 := hn5.frozen 3
    have f4 := hn5.frozen 4
    have hd5 := hn5.set5 (.int .i64 y1) (.bool y2) (.string y3) (.slice ya yn yc) (.slice yk ym yd)
    have d0 := hd5.cell 0
    have d1 := hd5.cell 1
    have d2 := hd5.cell 2
    have d3 := hd5.cell 3
    have d4 := hd5.cell 4
    clear hn5 hd5
    go_wp2_with fail
    refine bodyPost_ret (v := .agg #[.int .i64 y1, .bool y2, .string y3, .slice ya yn yc, .slice yk ym yd]) (by simp [results, Tryz.results67, go_sem, d0, d1, d2, d3, d4]) rfl ?_
    rw [HQE.out]
    refine ⟨_, a5, rfl, HF5.out.keep (fun g h1 h2 => ?_) (by omega) (by simp), hs5, HW5.out.set5 hP (Nat.le_refl _) _ _ _ _ _, HC5.out⟩
    rw [Below.heap_setCell _ _ _ _ (by show g ≠ W.heap.size; omega), Below.heap_setCell _ _ _ _ (by show g ≠ W.heap.size; omega), Below.heap_setCell _ _ _ _ (by show g ≠ W.heap.size; omega), Below.heap_setCell _ _ _ _ (by show g ≠ W.heap.size; omega), Below.heap_setCell _ _ _ _ (by show g ≠ W.heap.size; omega)]
theorem value_any {P : Nat} {t : ByteArray} (hP7 : 7 ≤ P) : ∀ (d : Nat), d ≤ 24 → ∀ W a n, Rdr W P t a n → ReadyJ W → Calls Tryz.prog 67 #[.pointer (some ⟨P, 0, none⟩), .int .i64 (25 - (d : Int))] W (VEnds W P t (valJ d (rest t a) n))
  | 0, _, W, a, n, h, hR => value_deep (a := a) (n := n) (d := 0) h hR hP7 (by omega)
  | d + 1, hd, W, a, n, h, hR => by
    have ih := value_any (t := t) hP7 d (by omega)
    have e1 : (25 : Int) - (d : Int) = (25 - ((d + 1 : Nat) : Int)) + 1 := by omega
    rw [e1] at ih
    have hd24 : ¬ (24 : Int) < 25 - ((d + 1 : Nat) : Int) := by omega
    have hd0 : (0 : Int) ≤ 25 - ((d + 1 : Nat) : Int) := by omega
    generalize (25 : Int) - ((d + 1 : Nat) : Int) = dep at *
    by_cases hn : n = 2000
    · rw [valJ_long hn]
      exact value_long (d := 0) h hR hP7 hd24 hn
    · obtain ⟨x, hx⟩ : ∃ x, headN (skipB (rest t a)) = x := ⟨_, rfl⟩
      by_cases h1 : x = 34
      · obtain ⟨r, hr⟩ := head_cons (q := 34) (by decide) (hx.trans h1)
        have := value_text (d := 0) h hR hP7 hd24 hn (hx.trans h1)
        rw [valJ_text hn hr, ← hr]
        exact this
      · by_cases h2 : x = 91
        · obtain ⟨r, hr⟩ := head_cons (q := 91) (by decide) (hx.trans h2)
          have := value_list h hR hP7 hd24 hn (hx.trans h2) hd0 ih
          rw [valJ_list hn hr, ← hr]
          exact this
        · by_cases h3 : x = 123
          · obtain ⟨r, hr⟩ := head_cons (q := 123) (by decide) (hx.trans h3)
            have := value_obj h hR hP7 hd24 hn (hx.trans h3) hd0 ih
            rw [valJ_obj hn hr, ← hr]
            exact this
          · by_cases h4 : x = 45
            · rw [valJ_num hn hx h1 h2 h3 (.inl h4)]
              exact value_numa (d := 0) h hR hP7 hd24 hn hx h1 h2 h3 h4
            · cases h5 : digN x with
              | true =>
                rw [valJ_num hn hx h1 h2 h3 (.inr h5)]
                exact value_numb (d := 0) h hR hP7 hd24 hn hx h1 h2 h3 h4 h5
              | false =>
                rw [valJ_word hn hx h1 h2 h3 h4 h5]
                exact value_word (d := 0) h hR hP7 hd24 hn hx h1 h2 h3 h4 h5
end Go.Proofs.YtblldoniagiboaaGreatDoor
