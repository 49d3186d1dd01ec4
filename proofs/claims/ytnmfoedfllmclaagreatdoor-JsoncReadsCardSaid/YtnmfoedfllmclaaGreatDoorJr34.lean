/- An object's keys and items, one by one · A pair without a colon -/
import Derived.Deep.DeepCutAuto
import Derived.Test.YtnmfoedfllmclaaGreatDoorJr26
import Derived.Test.YtnmfoedfllmclaaGreatDoorJr33
namespace Go.Proofs.YtnmfoedfllmclaaGreatDoor
open Go.RowKit Go.Shelf Go.Sort
set_option linter.unusedVariables false
set_option linter.unusedSimpArgs false

theorem cells3 {H P : Nat} {dep : Int} {X W' : World} {sk ks : List ByteArray} {kv v : Value} {yy : List It} (h : JObjAt H P dep X sk ks kv v yy) (hg : X.grownBy W' kv.ownBlock) : W'.cell? ⟨H, 0, none⟩ = some (.pointer (some ⟨P, 0, none⟩)) ∧ W'.cell? ⟨H + 6, 0, none⟩ = some (.map (some (H + 5))) ∧ W'.cell? ⟨H + 3, 0, none⟩ = some kv ∧ W'.frozen? ⟨H + 3, 0, none⟩ = false := by
  have hk : ∀ q, kv.ownBlock = some q → H + 7 ≤ q ∧ q < X.heap.size := fun q e => World.ownsRow.lt h.krow q e
  have hne : ∀ B, B < H + 7 → some B ≠ kv.ownBlock := fun B h1 e => by have := hk B e.symm; omega
  exact ⟨(h.rp.grows hg (hne _ (by omega))).cell 0, (h.sbox.grows hg (hne _ (by omega))).cell 0, (h.kbox.grows hg (hne _ (by omega))).cell 0, (h.kbox.grows hg (hne _ (by omega))).frozen 0⟩
/-- Behind the key. -/
def Keyed (H P : Nat) (dep : Int) (W wx : World) (t : ByteArray) (n : Nat) (ks : List ByteArray) (kk : ByteArray) (R1 : List UInt8) (v : Value) (yy : List It) : Prop := ∃ a1 g cap, WentB H W wx P t a1 n ∧ rest t a1 = R1 ∧ JObjAt H P dep wx (ks ++ [kk]) (ks ++ [kk]) (.slice (some ⟨g, 0, none⟩) (ks.length + 1) cap) v yy
theorem keyed_of {H P n a1 g cap : Nat} {dep : Int} {W W0 w5 w7 : World} {t : ByteArray} {ks : List ByteArray} {kk : ByteArray} {R1 : List UInt8} {kv v : Value} {yy : List It} {k : Nat} {o : Obj} (hkk : ks.length = k) (hP : P < H) (hA : AsideB H P W W0) (hz0 : H + 7 ≤ W0.heap.size) (hoff : OffM P (H + 5) W0 w5) (hrd : Rdr w5 P t a1 n) (hr : rest t a1 = R1) (h : JObjAt H P dep w5 (ks ++ [kk]) ks kv v yy)
    (hown : w7.ownsRow (H + 7) 9 1 (.slice (some ⟨g, 0, none⟩) (k + 1) cap) (k + 1) (ks.map Value.string ++ [.string kk])) (hg : (w5.alloc o).grownBy w7 kv.ownBlock) (hat : kv.ownBlock = some g ∨ g = (w5.alloc o).heap.size) :
    Keyed H P dep W (w7.setCell ⟨H + 3, 0, none⟩ (.slice (some ⟨g, 0, none⟩) (k + 1) cap)) t n ks kk R1 v yy := by
  subst hkk
  have hb : Below w5.heap.size w5 (w5.alloc o) := below_new0 w5 o
  refine ⟨a1, g, cap, ?_, hr, h.keyed hb hown hg hat⟩
  have hk : ∀ q, kv.ownBlock = some q → H + 7 ≤ q ∧ q < w5.heap.size := fun q e => World.ownsRow.lt h.krow q e
  have hz5 : H + 7 ≤ w5.heap.size := Nat.le_trans hz0 hoff.size
  have hlow : ∀ q, q < H → w7.heap[q]? = w5.heap[q]? := fun q hq => by
    rw [hg.block q (by have := hb.size; omega) (fun e => by have := hk q e.symm; omega)]
    exact hb.block q (by omega)
  have hs1 : AsideB H P w5 w7 := ⟨hg.os.trans hb.os, hg.tape.trans hb.tape, hg.output.trans hb.output, by have := hg.size; have := hb.size; omega, fun q hq _ => hlow q hq⟩
  have hs2 := hs1.setFar (p := ⟨H + 3, 0, none⟩) (by show H ≤ H + 3; omega) (.slice (some ⟨g, 0, none⟩) (ks.length + 1) cap)
  have hpb : (w7.setCell ⟨H + 3, 0, none⟩ (.slice (some ⟨g, 0, none⟩) (ks.length + 1) cap)).heap[P]? = w5.heap[P]? := by
    rw [Below.heap_setCell _ _ _ _ (by show P ≠ H + 3; omega)]
    exact hlow P hP
  exact ⟨(hA.trans (hoff.toB (by omega) (by omega))).trans hs2, ⟨hpb.trans hrd.1, hrd.2⟩⟩
theorem news1 {X : World} {B : Nat} {k : ByteArray} {ty : TypeId} (h : Blk X B #[.string k] ty) : ∀ j u, [Value.string k][j]? = some u → X.cell? ((⟨B, 0, none⟩ : Addr).add j) = some u := World.news_of_block h
theorem pairJ_key {rd : RdJ VT} {st : List (ByteArray × VT)} {R : List UInt8} {n : Nat} {b : Bad} (h : keyJ (st.map Prod.fst) R = .error b) : pairJ rd st R n = .error b := by
  unfold pairJ; rw [h]
theorem pairJ_colon {rd : RdJ VT} {st : List (ByteArray × VT)} {R R1 : List UInt8} {n : Nat} {k : ByteArray} (h : keyJ (st.map Prod.fst) R = .ok (k, R1)) (hc : Lib.hasPrefix (skipB R1) [58] = false) : pairJ rd st R n = .error (30, (skipB R1).length) := by
  unfold pairJ; rw [h]; simp only; rw [if_neg (by rw [hc]; decide)]
theorem pairJ_val {rd : RdJ VT} {st : List (ByteArray × VT)} {R R1 : List UInt8} {n : Nat} {k : ByteArray} {b : Bad} (h : keyJ (st.map Prod.fst) R = .ok (k, R1)) (hc : Lib.hasPrefix (skipB R1) [58] = true) (hv : rd ((skipB R1).drop 1) n = .error b) : pairJ rd st R n = .error b := by
  unfold pairJ; rw [h]; simp only; rw [if_pos hc, hv]
theorem pairJ_ok {rd : RdJ VT} {st : List (ByteArray × VT)} {R R1 R' : List UInt8} {n n' : Nat} {k : ByteArray} {T : VT} (h : keyJ (st.map Prod.fst) R = .ok (k, R1)) (hc : Lib.hasPrefix (skipB R1) [58] = true) (hv : rd ((skipB R1).drop 1) n = .ok (T, R', n')) : pairJ rd st R n = .ok (st ++ [(k, T)], R', n') := by
  unfold pairJ; rw [h]; simp only; rw [if_pos hc, hv]
/-- The end of one pair more. -/
theorem obj_fin {H P n' k a' : Nat} {dep : Int} {WW Wc w5 X w7 Wf : World} {t : ByteArray} {ks : List ByteArray} {kk : ByteArray} {kv v : Value} {yy : List It} {st : List (ByteArray × VT)} {T : VT} {R' : List UInt8} {g cap : Nat} {y1 : Int} {y2 : Bool} {y3 : ByteArray} {y4 y5 : Value} {r : Except Bad (List (ByteArray × VT) × List UInt8 × Nat)} (hk : yy.length = k) (hst : st.map Prod.fst = ks) (hyy : yy.map It.T = st.map Prod.snd) (hI : r = .ok (st ++ [(kk, T)], R', n')) (hPH : P < H) (hAc : AsideB H P WW Wc) (hL : JObjAt H P dep Wc (ks ++ [kk]) (ks ++ [kk]) kv v yy) (hfr : Fresh Wc.heap.size w5.heap.size w5 (.agg #[.int .i64 y1, .bool y2, .string y3, y4, y5]) T) (hw5 : Went Wc w5 P t a' n') (hr5 : rest t a' = R') (hsm : smallT T) (hbX : Below w5.heap.size w5 X)
    (hP7 : JObjPre H P dep w7 (ks ++ [kk]) (ks ++ [kk]) kv v g cap yy) (hG : X.grownBy w7 v.ownBlock ∧ (v.ownBlock = some g ∨ g = X.heap.size)) (hlen : k + 1 ≤ n') (hks : ∀ x ∈ ks ++ [kk], x.size ≤ 16384)
    (hf : Wf = (set5 w7 g (k * 5) (.int .i64 y1) (.bool y2) (.string y3) y4 y5).setCell ⟨H + 4, 0, none⟩ (.slice (some ⟨g, 0, none⟩) (k + 1) cap) ∨ Wf = set5 (w7.setCell ⟨H + 4, 0, none⟩ (.slice (some ⟨g, 0, none⟩) (k + 1) cap)) g (k * 5) (.int .i64 y1) (.bool y2) (.string y3) y4 y5) :
    CEnds H WW P t (ObjSt2 H P dep) r (.returned (.tuple #[])) Wf := by
  subst hI
  subst hk
  have hb := hP7.base
  have hf' : Wf = (set5 w7 g (yy.length * 5) (.int .i64 y1) (.bool y2) (.string y3) y4 y5).setCell ⟨H + 4, 0, none⟩ (.slice (some ⟨g, 0, none⟩) (yy.length + 1) cap) := by
    rcases hf with h | h
    · exact h
    · rw [h]; exact set5_comm w7 (by omega) _ _ _ _ _ _
  subst hf'
  have hown : ∀ q, v.ownBlock = some q → H + 7 ≤ q ∧ q < Wc.heap.size := fun q e => World.ownsRow.lt hL.row q e
  have hkown : ∀ q, kv.ownBlock = some q → H + 7 ≤ q ∧ q < Wc.heap.size := fun q e => World.ownsRow.lt hL.krow q e
  have hs5 := hw5.1.size
  have hsX := hbX.size
  have hs7 := hG.1.size
  have hcs := hL.sbox.lt
  have hnew : FarIt (H + 6) w7 kv (.slice (some ⟨g, 0, none⟩) (yy.length + 1) cap) ⟨y1, y2, y3, y4, y5, T⟩ := by
    refine ⟨Wc.heap.size, w5.heap.size, by omega, by omega, hfr.keep (fun q h1 h2 => ?_) (Nat.le_refl _) (Nat.le_refl _), fun q e => .inl (hkown q e).2, fun q e => ?_⟩
    · rw [hG.1.block q (by omega) (fun e => by have := hown q e.symm; omega)]
      exact hbX.block q h2
    · obtain rfl : g = q := Option.some.inj e
      rcases hG.2 with h | h
      · exact .inl (hown _ h).2
      · exact .inr (by omega)
  have hdone := hP7.done hnew hsm
  have hlow : ∀ q, q < H → w7.heap[q]? = w5.heap[q]? := fun q hq => by
    rw [hG.1.block q (by omega) (fun e => by have := hown q e.symm; omega)]
    exact hbX.block q (by omega)
  have hs1 : AsideB H P w5 w7 := ⟨hG.1.os.trans hbX.os, hG.1.tape.trans hbX.tape, hG.1.output.trans hbX.output, by omega, fun q hq _ => hlow q hq⟩
  have hs2 := (hs1.set5 (B := g) (by omega) (yy.length * 5) (.int .i64 y1) (.bool y2) (.string y3) y4 y5).setFar (p := ⟨H + 4, 0, none⟩) (by show H ≤ H + 4; omega) (.slice (some ⟨g, 0, none⟩) (yy.length + 1) cap)
  have hpb : ((set5 w7 g (yy.length * 5) (.int .i64 y1) (.bool y2) (.string y3) y4 y5).setCell ⟨H + 4, 0, none⟩ (.slice (some ⟨g, 0, none⟩) (yy.length + 1) cap)).heap[P]? = w5.heap[P]? := by
    rw [Below.heap_setCell _ _ _ _ (by show P ≠ H + 4; omega), set5_other _ _ _ _ _ _ _ _ (by omega)]
    exact hlow P hPH
  have hkk : (st ++ [(kk, T)]).map Prod.fst = ks ++ [kk] := by rw [List.map_append, hst]; rfl
  have hTT : (yy ++ [(⟨y1, y2, y3, y4, y5, T⟩ : It)]).map It.T = (st ++ [(kk, T)]).map Prod.snd := by rw [List.map_append, List.map_append, hyy]; rfl
  have hlen2 : (st ++ [(kk, T)]).length = yy.length + 1 := by
    have := congrArg List.length hyy
    simp at this
    simp [this]
  exact ⟨rfl, a', ⟨(hAc.trans (hw5.1.toB (by omega))).trans hs2, ⟨hpb.trans hw5.2.1, hw5.2.2⟩⟩, hr5, kv, _, _, by rw [hkk]; exact hdone, hTT, by omega, by rw [hkk]; exact hks⟩
set_option maxRecDepth 100000 in
set_option maxHeartbeats 8000000 in
theorem pair_key {H P a n d n' : Nat} {dep : Int} {W : World} {t : ByteArray} {kv v : Value} {yy : List It} {st : List (ByteArray × VT)} {ks : List ByteArray} (h : Rdr W P t a n) (hR : ReadyJ W) (hP7 : 7 ≤ P) (hPH : P < H) (hks : st.map Prod.fst = ks) (hyy : yy.map It.T = st.map Prod.snd) (hst : JObjAt H P dep W ks ks kv v yy) (hlen2 : ks.length ≤ 10000) (hd0 : 0 ≤ dep) (hd1 : dep ≤ 100) (hsm : ∀ x ∈ ks, x.size ≤ 16384) {b : Bad} (hr : keyJ ks (rest t a) = .error b) :
    Calls Tryz.prog 79 #[.pointer (some ⟨H + 3, 0, none⟩), .pointer (some ⟨H, 0, none⟩), .pointer (some ⟨H + 6, 0, none⟩), .pointer (some ⟨H + 4, 0, none⟩), .pointer (some ⟨H + 1, 0, none⟩)] W (CEnds H W P t (ObjSt2 H P dep) (pairJ (valJ d) st (rest t a) n)) := by
  obtain ⟨adk, capk, hkv⟩ := row_shape hst.krow
  obtain ⟨ad, cap, hv0⟩ := row_shape hst.row
  have hyl : yy.length = ks.length := by
    have := congrArg List.length hyy
    rw [List.length_map, List.length_map] at this
    rw [this, ← hks, List.length_map]
  obtain ⟨k, hk⟩ : ∃ k, ks.length = k := ⟨_, rfl⟩
  have hyk : yy.length = k := hyl.trans hk
  rw [hk] at hkv hlen2
  rw [hyk] at hv0
  subst hkv
  subst hv0
  have HK := Lib.hid hk
  have HYK := Lib.hid hyk
  have HL := Lib.hid hst
  have HSM := Lib.hid hsm
  have HYY := Lib.hid hyy
  have HKS := Lib.hid hks
  have hHW : H + 7 ≤ W.heap.size := by have := hst.sbox.lt; omega
  have HBW : Hid (∀ X, AsideB (H + 7) P W X → Below (H + 7) W X → Rdr X P t a n ∧ ReadyJ X ∧ SeenAt X (H + 5) ks) := Lib.hid (fun X _ hb => ⟨⟨(hb.block P (by omega)).trans h.1, h.2⟩, hR.below7 ⟨hb.os, hb.tape, hb.output, hb.size, fun k hk => hb.block k (by omega)⟩, hst.seen.same (hb.block _ (by omega))⟩)
  obtain ⟨r0, hr0⟩ : ∃ r0, keyJ ks (rest t a) = r0 := ⟨_, rfl⟩
  have HKC : Hid (Calls Tryz.prog 80 #[.pointer (some ⟨P, 0, none⟩), .map (some (H + 5))] W.drew (KEnds W.drew P (H + 5) t n ks r0)) := Lib.hid (by
    have hb : Below (H + 7) W W.drew := (below_drew W).mono hHW
    have := HBW.out W.drew (AsideB.ofBelow hb) hb
    rw [← hr0]
    exact key_any this.1 this.2.1 hP7 this.2.2 (by omega) (by rw [hk]; exact hlen2))
  rw [← hks] at hr0
  obtain rfl : r0 = .error b := by rw [← hr0, hks]; exact hr
  have HX := Lib.hid (pairJ_key (rd := valJ d) (n := n) hr0)
  clear h hR hst hr hr0 hks hyy hyl hk hyk hsm
  go_enter Tryz.func79, Tryz.ntmps79
  go_wp2_with fail
  obtain ⟨W0, hW0⟩ : ∃ W0, W.drew = W0 := ⟨_, rfl⟩
  rw [hW0] at HKC
  have HL0 : Hid (JObjAt H P dep W0 ks ks (.slice adk k capk) (.slice ad k cap) yy) := by rw [← hW0]; exact Lib.hid (HL.out.aside (Aside.of (below_drew W)) hPH)
  have HA0 : Hid (AsideB H P W W0) := by rw [← hW0]; exact Lib.hid ((Aside.of (below_drew W)).toB (by omega))
  have hz0 : H + 7 ≤ W0.heap.size := by rw [← hW0]; exact hHW
  have hn3 : ¬ H = H + 3 := by omega
  have hn63 : ¬ H + 6 = H + 3 := by omega
  have c0 := HL0.out.rp.cell 0
  have c6 := HL0.out.sbox.cell 0
  have c3 := HL0.out.kbox.cell 0
  have hz0' : H ≤ W0.heap.size := by omega
  refine wp_region_held_drew (S := fun w' => w'.cell? ⟨H, 0, none⟩ = some (.pointer (some ⟨P, 0, none⟩)) ∧ w'.cell? ⟨H + 6, 0, none⟩ = some (.map (some (H + 5)))) (by kernel_rfl) ?_ (fun hHeld => ?_)
  · rw [hW0]; exact ⟨c0, c6⟩
  rw [hW0] at hHeld ⊢
  refine wpAnyH_take (i := 1) (oi := _) (v := ?e_v1) rfl (by kernel_rfl) (by kernel_rfl) (by kernel_rfl) (fun _ _ _ h => h) (Or.inl ⟨by rfl, ?e_y1⟩) (by assumption) ?e_r1
  case e_y1 => (intro w hSw; (try dsimp only at hSw); go_simp; (try with_reducible rfl))
  try simp only [Act.put, List.setIfInBounds_toArray, List.set_cons_zero, List.set_cons_succ]
  refine wpAnyH_take (i := 2) (oi := _) (v := ?e_v2) rfl (by kernel_rfl) (by kernel_rfl) (by kernel_rfl) (fun _ _ _ h => h) (Or.inl ⟨by rfl, ?e_y2⟩) (by assumption) ?e_r2
  case e_y2 => (intro w hSw; (try dsimp only at hSw); go_simp; (try with_reducible rfl))
  try simp only [Act.put, List.setIfInBounds_toArray, List.set_cons_zero, List.set_cons_succ]
  refine wpAnyH_ready (rs := [0, 3]) (by kernel_rfl) (by simp) ?_
  refine AllReadyH.cons (o := _) rfl (fun K hK => ?_) ?_
  · go_simp
    refine hK.out _ _ ⟨c0, c6⟩ (fun hHeld => ?_)
    clear hK K
    try simp only [Act.put, List.setIfInBounds_toArray, List.set_cons_zero, List.set_cons_succ]
    refine wpAnyH_ready (rs := [3]) (by kernel_rfl) (by simp) ?_
    refine AllReadyH.cons (o := _) rfl (fun K hK => ?_) ?_
    · go_simp
      go_at_call 80; refine HKC.out.mono ?_; rintro e w5 ⟨D, rfl, h1, h2, h3⟩
      refine ⟨rfl, ?_⟩
      rw [HX.out]
      exact ThrownB.after (Thrown.toB ⟨D, rfl, h1, h2, h3⟩ hz0') HA0.out
    exact AllReadyH.nil
  refine AllReadyH.cons (o := _) rfl (fun K hK => ?_) ?_
  · go_simp
    go_at_call 80; refine HKC.out.mono ?_; rintro e w5 ⟨D, rfl, h1, h2, h3⟩
    refine ⟨rfl, ?_⟩
    rw [HX.out]
    exact ThrownB.after (Thrown.toB ⟨D, rfl, h1, h2, h3⟩ hz0') HA0.out
  exact AllReadyH.nil
end Go.Proofs.YtnmfoedfllmclaaGreatDoor
namespace Go.Proofs.YtnmfoedfllmclaaGreatDoor
open Go.RowKit Go.Shelf Go.Sort
set_option linter.unusedVariables false
set_option linter.unusedSimpArgs false

theorem info_strg : ∃ iV zV, Tryz.prog.info? 9 = some iV ∧ iV.zero = some zV ∧ zV = .string ⟨#[]⟩ ∧ iV.size = 1 ∧ iV.bytes = 16 := by
  have h := info_str1
  cases hi : Tryz.prog.info? 9 with
  | none => rw [hi] at h; cases h
  | some iV =>
    rw [hi] at h
    simp only [Option.map_some, Option.some.injEq, Prod.mk.injEq] at h
    exact ⟨iV, .string ⟨#[]⟩, rfl, h.1, rfl, h.2.1, h.2.2⟩
theorem keyJ_size {ks : List ByteArray} {R R' : List UInt8} {k : ByteArray} (h : keyJ ks R = .ok (k, R')) : k.size ≤ 16384 := by
  unfold keyJ at h
  split at h
  · split at h
    · cases h
    · rename_i hq
      split at h
      · cases h
      · cases h
        exact quotedJ_size hq
  · cases h
set_option maxRecDepth 100000 in
set_option maxHeartbeats 8000000 in
theorem pair_colon {H P a n d n' : Nat} {dep : Int} {W : World} {t : ByteArray} {kv v : Value} {yy : List It} {st : List (ByteArray × VT)} {ks : List ByteArray} (h : Rdr W P t a n) (hR : ReadyJ W) (hP7 : 7 ≤ P) (hPH : P < H) (hks : st.map Prod.fst = ks) (hyy : yy.map It.T = st.map Prod.snd) (hst : JObjAt H P dep W ks ks kv v yy) (hlen2 : ks.length ≤ 10000) (hd0 : 0 ≤ dep) (hd1 : dep ≤ 100) (hsm : ∀ x ∈ ks, x.size ≤ 16384) {kk : ByteArray} {R1 R' : List UInt8} {T : VT} {b : Bad} (hr : keyJ ks (rest t a) = .ok (kk, R1)) (hc : Lib.hasPrefix (skipB R1) [58] = false) :
    Calls Tryz.prog 79 #[.pointer (some ⟨H + 3, 0, none⟩), .pointer (some ⟨H, 0, none⟩), .pointer (some ⟨H + 6, 0, none⟩), .pointer (some ⟨H + 4, 0, none⟩), .pointer (some ⟨H + 1, 0, none⟩)] W (CEnds H W P t (ObjSt2 H P dep) (pairJ (valJ d) st (rest t a) n)) := by
  obtain ⟨iV, zV, hiV, hzV, hzV5, hsV, hbV⟩ := info_val
  have hzs : zV.cells.size = 5 := by rw [hzV5]; rfl
  clear hzV5
  obtain ⟨iS, zS, hiS, hzS, hzS1, hsS, hbS⟩ := info_strg
  have hzsS : zS.cells.size = 1 := by rw [hzS1]; rfl
  clear hzS1
  obtain ⟨adk, capk, hkv⟩ := row_shape hst.krow
  obtain ⟨ad, cap, hv0⟩ := row_shape hst.row
  have hyl : yy.length = ks.length := by
    have := congrArg List.length hyy
    rw [List.length_map, List.length_map] at this
    rw [this, ← hks, List.length_map]
  obtain ⟨k, hk⟩ : ∃ k, ks.length = k := ⟨_, rfl⟩
  have hyk : yy.length = k := hyl.trans hk
  rw [hk] at hkv hlen2
  rw [hyk] at hv0
  subst hkv
  subst hv0
  have HK := Lib.hid hk
  have HYK := Lib.hid hyk
  have HL := Lib.hid hst
  have HSM := Lib.hid hsm
  have HYY := Lib.hid hyy
  have HKS := Lib.hid hks
  have hHW : H + 7 ≤ W.heap.size := by have := hst.sbox.lt; omega
  have HBW : Hid (∀ X, AsideB (H + 7) P W X → Below (H + 7) W X → Rdr X P t a n ∧ ReadyJ X ∧ SeenAt X (H + 5) ks) := Lib.hid (fun X _ hb => ⟨⟨(hb.block P (by omega)).trans h.1, h.2⟩, hR.below7 ⟨hb.os, hb.tape, hb.output, hb.size, fun k hk => hb.block k (by omega)⟩, hst.seen.same (hb.block _ (by omega))⟩)
  obtain ⟨r0, hr0⟩ : ∃ r0, keyJ ks (rest t a) = r0 := ⟨_, rfl⟩
  have HKC : Hid (Calls Tryz.prog 80 #[.pointer (some ⟨P, 0, none⟩), .map (some (H + 5))] W.drew (KEnds W.drew P (H + 5) t n ks r0)) := Lib.hid (by
    have hb : Below (H + 7) W W.drew := (below_drew W).mono hHW
    have := HBW.out W.drew (AsideB.ofBelow hb) hb
    rw [← hr0]
    exact key_any this.1 this.2.1 hP7 this.2.2 (by omega) (by rw [hk]; exact hlen2))
  rw [← hks] at hr0
  obtain rfl : r0 = .ok (kk, R1) := by rw [← hr0, hks]; exact hr
  have HQ := Lib.hid hr0
  have HRR := Lib.hid hR
  have hkk := keyJ_size hr
  clear h hst hr hr0 hks hyy hyl hk hyk hsm
  go_enter Tryz.func79, Tryz.ntmps79
  go_upto_region 0 with fail
  go_cut [] (fun wx => Keyed H P dep W wx t n ks kk R1 (.slice ad k cap) yy)
  case first =>
    obtain ⟨W0, hW0⟩ : ∃ W0, W.drew = W0 := ⟨_, rfl⟩
    rw [hW0] at HKC
    have HL0 : Hid (JObjAt H P dep W0 ks ks (.slice adk k capk) (.slice ad k cap) yy) := by rw [← hW0]; exact Lib.hid (HL.out.aside (Aside.of (below_drew W)) hPH)
    have HA0 : Hid (AsideB H P W W0) := by rw [← hW0]; exact Lib.hid ((Aside.of (below_drew W)).toB (by omega))
    have hz0 : H + 7 ≤ W0.heap.size := by rw [← hW0]; exact hHW
    have hn3 : ¬ H = H + 3 := by omega
    have hn63 : ¬ H + 6 = H + 3 := by omega
    have c0 := HL0.out.rp.cell 0
    have c6 := HL0.out.sbox.cell 0
    have c3 := HL0.out.kbox.cell 0
    have hz0' : H ≤ W0.heap.size := by omega
    refine wp_region_held_drew (S := fun w' => w'.cell? ⟨H, 0, none⟩ = some (.pointer (some ⟨P, 0, none⟩)) ∧ w'.cell? ⟨H + 6, 0, none⟩ = some (.map (some (H + 5)))) (by kernel_rfl) ?_ (fun hHeld => ?_)
    · rw [hW0]; exact ⟨c0, c6⟩
    rw [hW0] at hHeld ⊢
    refine wpAnyH_take (i := 1) (oi := _) (v := ?f_v1) rfl (by kernel_rfl) (by kernel_rfl) (by kernel_rfl) (fun _ _ _ h => h) (Or.inl ⟨by rfl, ?f_y1⟩) (by assumption) ?f_r1
    case f_y1 => (intro w hSw; (try dsimp only at hSw); go_simp; (try with_reducible rfl))
    try simp only [Act.put, List.setIfInBounds_toArray, List.set_cons_zero, List.set_cons_succ]
    refine wpAnyH_take (i := 2) (oi := _) (v := ?f_v2) rfl (by kernel_rfl) (by kernel_rfl) (by kernel_rfl) (fun _ _ _ h => h) (Or.inl ⟨by rfl, ?f_y2⟩) (by assumption) ?f_r2
    case f_y2 => (intro w hSw; (try dsimp only at hSw); go_simp; (try with_reducible rfl))
    try simp only [Act.put, List.setIfInBounds_toArray, List.set_cons_zero, List.set_cons_succ]
    refine wpAnyH_ready (rs := [0, 3]) (by kernel_rfl) (by simp) ?_
    refine AllReadyH.cons (o := _) rfl (fun K hK => ?_) ?_
    · go_simp
      refine hK.out _ _ ⟨c0, c6⟩ (fun hHeld => ?_)
      clear hK K
      try simp only [Act.put, List.setIfInBounds_toArray, List.set_cons_zero, List.set_cons_succ]
      refine wpAnyH_ready (rs := [3]) (by kernel_rfl) (by simp) ?_
      refine AllReadyH.cons (o := _) rfl (fun K hK => ?_) ?_
      · go_simp
        go_at_call 80; refine HKC.out.mono ?_; rintro e w5 ⟨rfl, hk16, a1, hoff, hrd5, hr5, hseen5⟩
        have HL5 := Lib.hid (HL0.out.off hoff hseen5 hPH)
        have d0 := HL5.out.rp.cell 0
        have d6 := HL5.out.sbox.cell 0
        have d3 := HL5.out.kbox.cell 0
        have HL6 := Lib.hid (HL5.out.aside (Aside.of (below_new0 w5 (.cells #[.string kk] 9))) hPH)
        have da0 := HL6.out.rp.cell 0
        have da6 := HL6.out.sbox.cell 0
        have da3 := HL6.out.kbox.cell 0
        have hrow6 := HL6.out.krow
        rw [HK.out] at hrow6
        have hb6 : H + 7 ≤ (w5.alloc (.cells #[.string kk] 9)).heap.size := by have := hoff.size; have := (below_new0 w5 (.cells #[.string kk] 9)).size; omega
        have hnews6 := news1 (Blk.new w5 #[.string kk] 9)
        have HOFF := Lib.hid hoff
        have HRD5 := Lib.hid hrd5
        have HR5 := Lib.hid hr5
        clear hoff hrd5 hr5 hseen5
        refine hK.out _ _ ⟨d0, d6⟩ (fun hHeld => ?_)
        clear hK K
        try simp only [Act.put, List.setIfInBounds_toArray, List.set_cons_zero, List.set_cons_succ]
        refine wpAnyH_ready (rs := [4]) (by kernel_rfl) (by simp) ?_
        refine AllReadyH.cons (o := _) rfl (fun K hK => ?_) ?_
        · go_simp
          refine hK.out _ _ ⟨da0, da6⟩ (fun hHeld => ?_)
          clear hK K
          try simp only [Act.put, List.setIfInBounds_toArray, List.set_cons_zero, List.set_cons_succ]
          refine wpAnyH_ready (rs := [5]) (by kernel_rfl) (by simp) ?_
          refine AllReadyH.cons (o := _) rfl (fun K hK => ?_) ?_
          · refine app_key Tryz.underlying24 hiS hzS hsS hbS hzsS rfl rfl rfl hrow6 rfl hnews6 hlen2 hb6 ?_
            intro g2 cap2 w7 hown7 hgrow7 hat7 hlt7
            have he := cells3 HL6.out hgrow7
            obtain ⟨e0, e6, e3, f3⟩ := he
            have HO7 := Lib.hid hown7
            have HG7 := Lib.hid (And.intro hgrow7 hat7)
            clear hown7 hgrow7 hat7
            refine hK.out _ _ ⟨e0, e6⟩ (fun hHeld => ?_)
            clear hK K
            try simp only [Act.put, List.setIfInBounds_toArray, List.set_cons_zero, List.set_cons_succ]
            refine wpAnyH_ready (rs := [6]) (by kernel_rfl) (by simp) ?_
            refine AllReadyH.cons (o := _) rfl (fun K hK => ?_) ?_
            · go_simp
              refine hK.out _ _ (held_set hHeld hn3 hn63) (fun hHeld => ?_)
              clear hK K
              try simp only [Act.put, List.setIfInBounds_toArray, List.set_cons_zero, List.set_cons_succ]
              refine wpAnyH_done (by kernel_rfl) ?_ _
              go_wp2_with fail
              go_meet
              exact keyed_of HK.out hPH HA0.out hz0 HOFF.out HRD5.out HR5.out HL5.out HO7.out HG7.out.1 HG7.out.2
            exact AllReadyH.nil
          exact AllReadyH.nil
        exact AllReadyH.nil
      exact AllReadyH.nil
    refine AllReadyH.cons (o := _) rfl (fun K hK => ?_) ?_
    · go_simp
      go_at_call 80; refine HKC.out.mono ?_; rintro e w5 ⟨rfl, hk16, a1, hoff, hrd5, hr5, hseen5⟩
      have HL5 := Lib.hid (HL0.out.off hoff hseen5 hPH)
      have d0 := HL5.out.rp.cell 0
      have d6 := HL5.out.sbox.cell 0
      have d3 := HL5.out.kbox.cell 0
      have HL6 := Lib.hid (HL5.out.aside (Aside.of (below_new0 w5 (.cells #[.string kk] 9))) hPH)
      have da0 := HL6.out.rp.cell 0
      have da6 := HL6.out.sbox.cell 0
      have da3 := HL6.out.kbox.cell 0
      have hrow6 := HL6.out.krow
      rw [HK.out] at hrow6
      have hb6 : H + 7 ≤ (w5.alloc (.cells #[.string kk] 9)).heap.size := by have := hoff.size; have := (below_new0 w5 (.cells #[.string kk] 9)).size; omega
      have hnews6 := news1 (Blk.new w5 #[.string kk] 9)
      have HOFF := Lib.hid hoff
      have HRD5 := Lib.hid hrd5
      have HR5 := Lib.hid hr5
      clear hoff hrd5 hr5 hseen5
      refine hK.out _ _ ⟨d0, d6⟩ (fun hHeld => ?_)
      clear hK K
      try simp only [Act.put, List.setIfInBounds_toArray, List.set_cons_zero, List.set_cons_succ]
      refine wpAnyH_ready (rs := [0, 4]) (by kernel_rfl) (by simp) ?_
      refine AllReadyH.cons (o := _) rfl (fun K hK => ?_) ?_
      · go_simp
        refine hK.out _ _ ⟨d0, d6⟩ (fun hHeld => ?_)
        clear hK K
        try simp only [Act.put, List.setIfInBounds_toArray, List.set_cons_zero, List.set_cons_succ]
        refine wpAnyH_ready (rs := [4]) (by kernel_rfl) (by simp) ?_
        refine AllReadyH.cons (o := _) rfl (fun K hK => ?_) ?_
        · go_simp
          refine hK.out _ _ ⟨da0, da6⟩ (fun hHeld => ?_)
          clear hK K
          try simp only [Act.put, List.setIfInBounds_toArray, List.set_cons_zero, List.set_cons_succ]
          refine wpAnyH_ready (rs := [5]) (by kernel_rfl) (by simp) ?_
          refine AllReadyH.cons (o := _) rfl (fun K hK => ?_) ?_
          · refine app_key Tryz.underlying24 hiS hzS hsS hbS hzsS rfl rfl rfl hrow6 rfl hnews6 hlen2 hb6 ?_
            intro g2 cap2 w7 hown7 hgrow7 hat7 hlt7
            have he := cells3 HL6.out hgrow7
            obtain ⟨e0, e6, e3, f3⟩ := he
            have HO7 := Lib.hid hown7
            have HG7 := Lib.hid (And.intro hgrow7 hat7)
            clear hown7 hgrow7 hat7
            refine hK.out _ _ ⟨e0, e6⟩ (fun hHeld => ?_)
            clear hK K
            try simp only [Act.put, List.setIfInBounds_toArray, List.set_cons_zero, List.set_cons_succ]
            refine wpAnyH_ready (rs := [6]) (by kernel_rfl) (by simp) ?_
            refine AllReadyH.cons (o := _) rfl (fun K hK => ?_) ?_
            · go_simp
              refine hK.out _ _ (held_set hHeld hn3 hn63) (fun hHeld => ?_)
              clear hK K
              try simp only [Act.put, List.setIfInBounds_toArray, List.set_cons_zero, List.set_cons_succ]
              refine wpAnyH_done (by kernel_rfl) ?_ _
              go_wp2_with fail
              go_meet
              exact keyed_of HK.out hPH HA0.out hz0 HOFF.out HRD5.out HR5.out HL5.out HO7.out HG7.out.1 HG7.out.2
            exact AllReadyH.nil
          exact AllReadyH.nil
        exact AllReadyH.nil
      refine AllReadyH.cons (o := _) rfl (fun K hK => ?_) ?_
      · go_simp
        refine hK.out _ _ ⟨da0, da6⟩ (fun hHeld => ?_)
        clear hK K
        try simp only [Act.put, List.setIfInBounds_toArray, List.set_cons_zero, List.set_cons_succ]
        refine wpAnyH_ready (rs := [0]) (by kernel_rfl) (by simp) ?_
        refine AllReadyH.cons (o := _) rfl (fun K hK => ?_) ?_
        · go_simp
          refine hK.out _ _ ⟨da0, da6⟩ (fun hHeld => ?_)
          clear hK K
          try simp only [Act.put, List.setIfInBounds_toArray, List.set_cons_zero, List.set_cons_succ]
          refine wpAnyH_ready (rs := [5]) (by kernel_rfl) (by simp) ?_
          refine AllReadyH.cons (o := _) rfl (fun K hK => ?_) ?_
          · refine app_key Tryz.underlying24 hiS hzS hsS hbS hzsS rfl rfl rfl hrow6 rfl hnews6 hlen2 hb6 ?_
            intro g2 cap2 w7 hown7 hgrow7 hat7 hlt7
            have he := cells3 HL6.out hgrow7
            obtain ⟨e0, e6, e3, f3⟩ := he
            have HO7 := Lib.hid hown7
            have HG7 := Lib.hid (And.intro hgrow7 hat7)
            clear hown7 hgrow7 hat7
            refine hK.out _ _ ⟨e0, e6⟩ (fun hHeld => ?_)
            clear hK K
            try simp only [Act.put, List.setIfInBounds_toArray, List.set_cons_zero, List.set_cons_succ]
            refine wpAnyH_ready (rs := [6]) (by kernel_rfl) (by simp) ?_
            refine AllReadyH.cons (o := _) rfl (fun K hK => ?_) ?_
            · go_simp
              refine hK.out _ _ (held_set hHeld hn3 hn63) (fun hHeld => ?_)
              clear hK K
              try simp only [Act.put, List.setIfInBounds_toArray, List.set_cons_zero, List.set_cons_succ]
              refine wpAnyH_done (by kernel_rfl) ?_ _
              go_wp2_with fail
              go_meet
              exact keyed_of HK.out hPH HA0.out hz0 HOFF.out HRD5.out HR5.out HL5.out HO7.out HG7.out.1 HG7.out.2
            exact AllReadyH.nil
          exact AllReadyH.nil
        exact AllReadyH.nil
      exact AllReadyH.nil
    exact AllReadyH.nil
  case rest =>
    obtain ⟨w2, hw2⟩ : ∃ w2 : World, w2 = wc := ⟨_, rfl⟩
    subst hw2
    obtain ⟨a1, g1, cap1, hw2, hr2, hj2⟩ := hcut
    have HW2 := Lib.hid hw2
    have HR2 := Lib.hid hr2
    have HJ2 := Lib.hid hj2
    have HRW2 := Lib.hid (HRR.out.asideB hw2.1 hP7 (by omega))
    have c0 := hj2.rp.cell 0
    clear hw2 hr2 hj2 HKC HL HBW HRR
    have HI := Lib.hid (pairJ_colon (rd := valJ d) (n := n) HQ.out hc)
    have HN := Lib.hid (want_no HW2.out.2 (q := 58) (by rw [HR2.out]; exact hc))
    clear hc
    go_wp2_with (go_at_call 81; refine HN.out.mono ?_; rintro e w4 ⟨D, rfl, h1, h2, h3⟩)
    refine ⟨rfl, ?_⟩
    rw [HI.out]
    rw [HR2.out] at h2
    exact ThrownB.after (Thrown.toB ⟨D, rfl, h1, h2, h3⟩ (by have := HJ2.out.sbox.lt; omega)) HW2.out.1
end Go.Proofs.YtnmfoedfllmclaaGreatDoor
