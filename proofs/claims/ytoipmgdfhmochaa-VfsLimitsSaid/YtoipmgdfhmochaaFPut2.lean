/- A file is put. -/
import Derived.Test.YtoipmgdfhmochaaFPut
namespace Go.Proofs.Ytoipmgdfhmochaa
open Go.RowKit Go.Shelf
set_option linter.unusedVariables false
set_option linter.unusedSimpArgs false

theorem cell_far_map {w w' : World} {b : Nat} {es : Array MapEntry} {clock : Nat} (hb : w.heap[b]? = some (.map es clock)) (hg : ∀ k, k < w.heap.size → k ≠ b → w'.heap[k]? = w.heap[k]?) {p : Addr} {v : Value} (h : w.cell? p = some v) : w'.cell? p = some v := by
  have hlt := World.block_lt_of_cell? w _ h
  have hne : p.block ≠ b := by
    intro e
    unfold World.cell? at h
    rw [e, hb] at h
    cases h
  have := hg p.block hlt hne
  rw [← h]
  exact World.cell?_of_block this
theorem BR.far {w w' : World} {b : Nat} {es : Array MapEntry} {clock : Nat} (hb : w.heap[b]? = some (.map es clock)) (hs : w.heap.size ≤ w'.heap.size) (hg : ∀ k, k < w.heap.size → k ≠ b → w'.heap[k]? = w.heap[k]?) {v : Value} {L : List UInt8} (h : BR w v L) : BR w' v L := by
  obtain ⟨a, c, h1, h2, h3, h4⟩ := h
  refine ⟨a, c, h1, h2, h3, ?_⟩
  rcases h4 with h4 | ⟨ad, h4, h5, h6⟩
  · exact .inl h4
  · exact .inr ⟨ad, h4, Nat.lt_of_lt_of_le h5 hs, fun i hi => cell_far_map hb hg (h6 i hi)⟩
theorem FileIs.far {w w' : World} {b : Nat} {es : Array MapEntry} {clock : Nat} (hb : w.heap[b]? = some (.map es clock)) (hs : w.heap.size ≤ w'.heap.size) (hg : ∀ k, k < w.heap.size → k ≠ b → w'.heap[k]? = w.heap[k]?) {v : Value} {f : FV} (h : FileIs w v f) : FileIs w' v f := by
  obtain ⟨dv, sv, h1, h2, h3⟩ := h
  exact ⟨dv, sv, h1, h2.far hb hs hg, h3.far hb hs hg⟩
theorem MapAt.raw {w : World} {b n : Nat} {C : List UInt8 → Option FV} {D : DataW Value} (h : MapAt w b C n D) : ∃ es clock, w.heap[b]? = some (.map es clock) := by
  obtain ⟨es, clock, h1, -⟩ := h.own
  exact ⟨es, clock, h1⟩
theorem MapAt.put {w w' : World} {b n : Nat} {C : List UInt8 → Option FV} {D : DataW Value} (h : MapAt w b C n D) {x : List UInt8} (hk : WideAt.IsKeyLit (.string x)) (hxl : x.length ≤ 1000000) {v : Value} {f : FV} (hf : FileIs w v f)
    (ho : w'.ownsMap Try.prog 9 Rf b (n + 1) (D.put (.string x) (.held v))) (hs : w.heap.size ≤ w'.heap.size) (hg : ∀ k, k < w.heap.size → k ≠ b → w'.heap[k]? = w.heap[k]?) :
    MapAt w' b (fun y => if y = x then some f else C y) (if (C x).isSome then n else n + 1) (D.put (.string x) (.held v)) := by
  obtain ⟨es, clock, hb⟩ := h.raw
  have htd := h.own.tidy keyed
  have hsz : Maps.size (D.put (.string x) (.held v)) = if (C x).isSome then n else n + 1 := by
    rw [Maps.size_put htd, h.has, h.size]
  refine ⟨?_, hsz, fun y => ?_, fun y g hy => ?_, fun y hy => ?_⟩
  · rw [← hsz]; exact own_tight ho
  · by_cases e : y = x
    · subst e
      rw [Maps.has_put_same h.own.isMap hk, if_pos rfl]; rfl
    · rw [Maps.has_put_other (fun e2 => e (Lit.string.inj e2)), if_neg e]; exact h.has y
  · by_cases e : y = x
    · subst e
      rw [if_pos rfl] at hy
      cases hy
      exact ⟨v, fun z => Maps.atKey_put_same h.own.isMap hk _ z, hf.far hb hs hg⟩
    · rw [if_neg e] at hy
      obtain ⟨v2, h1, h2⟩ := h.file y g hy
      exact ⟨v2, fun z => (Maps.atKey_put_other (fun e2 => e (Lit.string.inj e2)) _ z).trans (h1 z), h2.far hb hs hg⟩
  · by_cases e : y = x
    · rw [e]; exact hxl
    · rw [if_neg e] at hy; exact h.short y hy
theorem MapAt.del {w w' : World} {b n : Nat} {C : List UInt8 → Option FV} {D : DataW Value} (h : MapAt w b C n D) {x : List UInt8}
    (ho : w'.ownsMap Try.prog 9 Rf b n (D.del (.string x))) (hs : w.heap.size ≤ w'.heap.size) (hg : ∀ k, k < w.heap.size → k ≠ b → w'.heap[k]? = w.heap[k]?) :
    MapAt w' b (fun y => if y = x then none else C y) (if (C x).isSome then n - 1 else n) (D.del (.string x)) := by
  obtain ⟨es, clock, hb⟩ := h.raw
  have htd := h.own.tidy keyed
  have hsz : Maps.size (D.del (.string x)) = if (C x).isSome then n - 1 else n := by
    have := Maps.size_del (k := .string x) htd
    rw [h.has, h.size] at this
    cases hc : (C x).isSome
    · rw [hc] at this; simpa using this
    · rw [hc] at this; simp at this ⊢; omega
  refine ⟨?_, hsz, fun y => ?_, fun y g hy => ?_, fun y hy => ?_⟩
  · rw [← hsz]; exact own_tight ho
  · by_cases e : y = x
    · subst e
      rw [Maps.has_del_same, if_pos rfl]; rfl
    · rw [Maps.has_del_other (fun e2 => e (Lit.string.inj e2)), if_neg e]; exact h.has y
  · by_cases e : y = x
    · subst e
      rw [if_pos rfl] at hy
      cases hy
    · rw [if_neg e] at hy
      obtain ⟨v2, h1, h2⟩ := h.file y g hy
      exact ⟨v2, fun z => (Maps.atKey_del_other (fun e2 => e (Lit.string.inj e2)) z).trans (h1 z), h2.far hb hs hg⟩
  · by_cases e : y = x
    · rw [if_pos e] at hy; cases hy
    · rw [if_neg e] at hy; exact h.short y hy
/-- All cells that had a value have it still. -/
def KC (w w' : World) : Prop := ∀ a v, w.cell? a = some v → w'.cell? a = some v
theorem KC.trans {a b c : World} (h : KC a b) (k : KC b c) : KC a c := fun q v hv => k q v (h q v hv)
theorem KC.of {w w' : World} (hb : Below w.heap.size w w') : KC w w' := fun q v hv => cells_keep hb hv
set_option maxRecDepth 100000 in
set_option maxHeartbeats 2000000 in
theorem put_any5 {W : World} {lo p : Nat} {s : FS} (h : FsAt W lo p s) (x : ByteArray) (hx : x.size ≤ 1000000) {dn sn : Option Addr} {dl dc sl sc : Nat} {ok : Bool} {f : FV} (hf : FileIs W (.agg #[.slice dn dl dc, .slice sn sl sc, .bool ok]) f) (hn : s.n ≤ 1000000) (hlo : lo ≤ W.heap.size) :
    Calls Try.prog 35 #[.pointer (some ⟨p, 0, none⟩), .string x, .agg #[.slice dn dl dc, .slice sn sl sc, .bool ok]] W fun e w' => e = .returned (.tuple #[]) ∧ FsAt w' lo p (s.put x.data.toList f) ∧ Below lo W w' ∧ KB W w' ∧ KC W w' := by
  obtain ⟨h0, b, D, h1, hb, hm⟩ := h
  have s1 := below_new W (.cells #[.slice dn dl dc, .slice sn sl sc, .bool ok] 72)
  have bq := Blk.new W #[.slice dn dl dc, .slice sn sl sc, .bool ok] 72
  have HQ : Hid (∀ w', Below (W.alloc (.cells #[.slice dn dl dc, .slice sn sl sc, .bool ok] 72)).heap.size (W.alloc (.cells #[.slice dn dl dc, .slice sn sl sc, .bool ok] 72)) w' → Blk w' W.heap.size #[.slice dn dl dc, .slice sn sl sc, .bool ok] 72 ∧ Blk w' p #[.map (some b), .int .i64 (s.steps : Int), .bool s.armed, .int .i64 (s.ahead : Int), .bool s.dead] 64) := Lib.hid (fun w' hw => ⟨bq.below hw, (hb.below s1).below hw⟩)
  have HM := Lib.hid (And.intro (hm.below s1) (And.intro (hf.below s1) (And.intro h0 h1)))
  have HS1 := Lib.hid s1
  have HC := Lib.hid (fun w => clone_any (W := w) x (by omega))
  have hsz : (W.alloc (.cells #[.slice dn dl dc, .slice sn sl sc, .bool ok] 72)).heap.size = W.heap.size + 1 := by simp
  have HSZ := Lib.hid hsz
  obtain ⟨W1, hW1⟩ : ∃ w, W.alloc (.cells #[.slice dn dl dc, .slice sn sl sc, .bool ok] 72) = w := ⟨_, rfl⟩
  rw [hW1] at HQ HM HS1 HSZ
  have HW1 := Lib.hid hW1
  clear s1 bq hm hf hb hW1 hsz
  go_enter Try.func35, Try.ntmps35
  go_wp2_with fail
  rw [HW1.out]
  obtain ⟨q, hq⟩ : ∃ k, W.heap.size = k := ⟨_, rfl⟩
  rw [hq] at HQ ⊢
  refine wp_region_held_drew (S := fun w' => Blk w' q #[.slice dn dl dc, .slice sn sl sc, .bool ok] 72 ∧ Blk w' p #[.map (some b), .int .i64 (s.steps : Int), .bool s.armed, .int .i64 (s.ahead : Int), .bool s.dead] 64) (by kernel_rfl) (HQ.out _ (Below.refl _ _).drew) (fun hHeld => ?_)
  refine wpAnyH_take (i := 0) (oi := _) (v := ?q_v0) rfl (by kernel_rfl) (by kernel_rfl) (by kernel_rfl) (fun _ _ _ h => h) (Or.inl ⟨by rfl, ?q_y0⟩) (by assumption) ?q_r0
  case q_y0 => (intro w hSw; have z0 := hSw.1.cell 0; have z1 := hSw.1.cell 1; have z2 := hSw.1.cell 2; have x0 := hSw.2.cell 0; clear hSw; go_simp; (try with_reducible rfl))
  try simp only [Act.put, List.setIfInBounds_toArray, List.set_cons_zero, List.set_cons_succ]
  refine wpAnyH_take (i := 1) (oi := _) (v := ?q_v1) rfl (by kernel_rfl) (by kernel_rfl) (by kernel_rfl) (fun _ _ _ h => h) (Or.inl ⟨by rfl, ?q_y1⟩) (by assumption) ?q_r1
  case q_y1 => (intro w hSw; have z0 := hSw.1.cell 0; have z1 := hSw.1.cell 1; have z2 := hSw.1.cell 2; have x0 := hSw.2.cell 0; clear hSw; go_simp; (try with_reducible rfl))
  try simp only [Act.put, List.setIfInBounds_toArray, List.set_cons_zero, List.set_cons_succ]
  refine wpAnyH_take (i := 2) (oi := _) (v := ?q_v2) rfl (by kernel_rfl) (by kernel_rfl) (by kernel_rfl) (fun _ _ _ h => h) (Or.inl ⟨by rfl, ?q_y2⟩) (by assumption) ?q_r2
  case q_y2 => (intro w hSw; have z0 := hSw.1.cell 0; have z1 := hSw.1.cell 1; have z2 := hSw.1.cell 2; have x0 := hSw.2.cell 0; clear hSw; go_simp; (try with_reducible rfl))
  try simp only [Act.put, List.setIfInBounds_toArray, List.set_cons_zero, List.set_cons_succ]
  refine wpAnyH_take (i := 3) (oi := _) (v := ?q_v3) rfl (by kernel_rfl) (by kernel_rfl) (by kernel_rfl) (fun _ _ _ h => h) (Or.inl ⟨by rfl, ?q_y3⟩) (by assumption) ?q_r3
  case q_y3 => (intro w hSw; have z0 := hSw.1.cell 0; have z1 := hSw.1.cell 1; have z2 := hSw.1.cell 2; have x0 := hSw.2.cell 0; clear hSw; go_simp; (try with_reducible rfl))
  try simp only [Act.put, List.setIfInBounds_toArray, List.set_cons_zero, List.set_cons_succ]
  refine wpAnyH_take (i := 4) (oi := _) (v := ?q_v4) rfl (by kernel_rfl) (by kernel_rfl) (by kernel_rfl) (fun _ _ _ h => h) (Or.inl ⟨by rfl, ?q_y4⟩) (by assumption) ?q_r4
  case q_y4 => (intro w hSw; have z0 := hSw.1.cell 0; have z1 := hSw.1.cell 1; have z2 := hSw.1.cell 2; have x0 := hSw.2.cell 0; clear hSw; go_simp; (try with_reducible rfl))
  try simp only [Act.put, List.setIfInBounds_toArray, List.set_cons_zero, List.set_cons_succ]
  refine wpAnyH_take (i := 6) (oi := _) (v := ?q_v6) rfl (by kernel_rfl) (by kernel_rfl) (by kernel_rfl) (fun _ _ _ h => h) (Or.inl ⟨by rfl, ?q_y6⟩) (by assumption) ?q_r6
  case q_y6 => (intro w hSw; have z0 := hSw.1.cell 0; have z1 := hSw.1.cell 1; have z2 := hSw.1.cell 2; have x0 := hSw.2.cell 0; clear hSw; go_simp; (try with_reducible rfl))
  try simp only [Act.put, List.setIfInBounds_toArray, List.set_cons_zero, List.set_cons_succ]
  refine wpAnyH_ready (rs := [5]) (by kernel_rfl) (by simp) ?_
  refine AllReadyH.cons (o := _) rfl (fun K hK => ?_) AllReadyH.nil
  go_simp
  go_at_call 41; refine (HC.out _).mono ?_
  rintro e w20 ⟨rfl, hb20⟩
  have hb21 : Below W1.heap.size W1 w20 := (Below.refl _ _).drew.trans hb20
  refine hK.out _ _ (HQ.out _ hb21) (fun hHeld => ?_)
  clear hK K
  try simp only [Act.put, List.setIfInBounds_toArray, List.set_cons_zero, List.set_cons_succ]
  obtain ⟨w22, hrun, hown, hgr⟩ := (HM.out.1.below hb21).own.update keyed Try.underlying62 (by unfold maxLen; omega) (key_of (s := x) (by omega)) (val := .agg #[.slice dn dl dc, .slice sn sl sc, .bool ok]) (d := .held (.agg #[.slice dn dl dc, .slice sn sl sc, .bool ok])) (ps := []) rfl
  have hmp := (HM.out.1.below hb21).put (keyed.key (key_of (s := x) (by omega))) (by simpa using hx) (HM.out.2.1.below hb21) hown hgr.size (fun k hk hne => hgr.block k hk (fun e => hne (Option.some.inj e)))
  have hpb : p ≠ b := by
    intro e
    obtain ⟨es, clock, hbb⟩ := (HM.out.1.below hb21).raw
    have := (HQ.out _ hb21).2
    unfold Blk at this
    rw [e, hbb] at this
    cases this
  have hqb : q ≠ b := by
    intro e
    obtain ⟨es, clock, hbb⟩ := (HM.out.1.below hb21).raw
    have := (HQ.out _ hb21).1
    unfold Blk at this
    rw [e, hbb] at this
    cases this
  have hp2 : Blk w22 p #[.map (some b), .int .i64 (s.steps : Int), .bool s.armed, .int .i64 (s.ahead : Int), .bool s.dead] 64 := (hgr.block p (HQ.out _ hb21).2.lt (fun e => hpb (Option.some.inj e))).trans (HQ.out _ hb21).2
  have hq2 : Blk w22 q #[.slice dn dl dc, .slice sn sl sc, .bool ok] 72 := (hgr.block q (HQ.out _ hb21).1.lt (fun e => hqb (Option.some.inj e))).trans (HQ.out _ hb21).1
  have HF : Hid (FsAt w22 lo p (s.put x.data.toList f)) := Lib.hid ⟨HM.out.2.2.1, b, _, HM.out.2.2.2, hp2, hmp⟩
  have HB : Hid (Below lo W w22) := Lib.hid (by
    have hA : Below lo W w20 := (HS1.out.mono hlo).trans (hb21.mono (by have := HS1.out.size; omega))
    refine hA.trans ⟨hgr.os, hgr.tape, hgr.output, hgr.size, fun k hk => ?_⟩
    have hks : k < w20.heap.size := by have := hA.size; omega
    exact hgr.block k hks (fun e => by have := Option.some.inj e; have := HM.out.2.2.2; omega))
  have HKB : Hid (KB W w22) := Lib.hid (by
    obtain ⟨es, clock, hbb⟩ := (HM.out.1.below hb21).raw
    exact (KB.of (HS1.out.trans (hb21.mono (by have := HS1.out.size; omega)))).trans fun v L hv => hv.far hbb hgr.size (fun k hk hne => hgr.block k hk (fun e => hne (Option.some.inj e))))
  have HKC : Hid (KC W w22) := Lib.hid (by
    obtain ⟨es, clock, hbb⟩ := (HM.out.1.below hb21).raw
    exact (KC.of (HS1.out.trans (hb21.mono (by have := HS1.out.size; omega)))).trans fun a v hv => cell_far_map hbb (fun k hk hne => hgr.block k hk (fun e => hne (Option.some.inj e))) hv)
  refine wpAnyH_ready (rs := [7]) (by kernel_rfl) (by simp) ?_
  refine AllReadyH.cons (o := _) rfl (fun K hK => ?_) AllReadyH.nil
  clear hown hgr hmp hpb hqb
  go_simp
  refine hK.out _ _ ⟨hq2, hp2⟩ (fun hHeld => ?_)
  clear hK K
  try simp only [Act.put, List.setIfInBounds_toArray, List.set_cons_zero, List.set_cons_succ]
  refine wpAnyH_done (by kernel_rfl) ?_ _
  go_end0
  exact ⟨rfl, HF.out, HB.out, HKB.out, HKC.out⟩
theorem put_any {W : World} {lo p : Nat} {s : FS} (h : FsAt W lo p s) (x : ByteArray) (hx : x.size ≤ 1000000) {dn sn : Option Addr} {dl dc sl sc : Nat} {ok : Bool} {f : FV} (hf : FileIs W (.agg #[.slice dn dl dc, .slice sn sl sc, .bool ok]) f) (hn : s.n ≤ 1000000) (hlo : lo ≤ W.heap.size) :
    Calls Try.prog 35 #[.pointer (some ⟨p, 0, none⟩), .string x, .agg #[.slice dn dl dc, .slice sn sl sc, .bool ok]] W fun e w' => e = .returned (.tuple #[]) ∧ FsAt w' lo p (s.put x.data.toList f) ∧ Below lo W w' ∧ KB W w' := by
  refine (put_any5 h x hx hf hn hlo).mono ?_
  rintro r w' ⟨h1, h2, h3, h4, -⟩
  exact ⟨h1, h2, h3, h4⟩
end Go.Proofs.Ytoipmgdfhmochaa
