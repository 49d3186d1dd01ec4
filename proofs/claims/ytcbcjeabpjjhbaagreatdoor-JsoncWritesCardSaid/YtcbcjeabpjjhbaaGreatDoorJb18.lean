/- Bytes that grow: what appends of a text's pieces leave · appendRune: any rune · appendText: a text between its quotes -/
import Derived.Lib.AppendStr
import Derived.Deep.AppendLies
import Derived.Deep.RegionHeld2
import Derived.Lib.MapLaws
import Derived.Lib.RuneCountTail
import Derived.Test.YtcbcjeabpjjhbaaGreatDoorJb16
import Derived.Test.YtcbcjeabpjjhbaaGreatDoorJb17
namespace Go.Proofs.YtcbcjeabpjjhbaaGreatDoor
open Go.RowKit Go.Shelf
set_option linter.unusedVariables false

/-- A byte's digit. -/
def hexB (n : Nat) : UInt8 := if n < 10 then (48 + n).toUInt8 else (87 + n).toUInt8
/-- A rune's JSON within a text. -/
def runeQ (r : Int) : List UInt8 := if r = 34 then [92, 34] else if r = 92 then [92, 92] else if r = 8 then [92, 98] else if r = 12 then [92, 102] else if r = 10 then [92, 110] else if r = 13 then [92, 114] else if r = 9 then [92, 116] else if r < 32 then [92, 117, 48, 48, hexB (r.toNat / 16), hexB (r.toNat % 16)] else Lib.encodeRune r
abbrev Row (B : Nat) (w : World) (v : Value) (L : List UInt8) : Prop := w.ownsRow B 5 1 v L.length (Lib.byteCells L)
abbrev Oth (w w' : World) : Prop := Lib.OthersKept 5 none w w'
/-- How an append ends: the bytes are these; all else is as it was. -/
def AppE (B : Nat) (W : World) (L : List UInt8) (e : Ending) (w' : World) : Prop := ∃ v', e = .returned v' ∧ Row B w' v' L ∧ Below B W w' ∧ Oth W w'
theorem row_kind {w : World} {B e n : Nat} {v : Value} {xs : List Value} (h : w.ownsRow B e 1 v n xs) : ∀ g, v.ownBlock = some g → B ≤ g ∧ ∃ c fz, w.heap[g]? = some (.cells c e fz) := by
  intro g hg
  rcases h.2 with ⟨rfl, _⟩ | ⟨g', cap, cur, rfl, h1, hgg, _⟩
  · cases hg
  · cases hg
    exact ⟨h1, cur, _, hgg⟩
theorem grown_app {B n : Nat} {w w' : World} {v : Value} {xs : List Value} (h : w.ownsRow B 5 1 v n xs) (hB : B ≤ w.heap.size) (hg : w.grownBy w' v.ownBlock) : Below B w w' ∧ Oth w w' :=
  ⟨(Below.refl B w).grown hg hB (fun q hq => (row_kind h q hq).1), (Lib.OthersKept.refl _ _ w).grown hg (fun g e => (row_kind h g e).2)⟩
theorem Oth.of {w w' : World} (h : Below w.heap.size w w') : Oth w w' := fun k o hk _ _ => (h.block k (Array.getElem?_eq_some_iff.1 hk).1).trans hk
theorem Row.below {B : Nat} {w w' : World} {v : Value} {L : List UInt8} (h : Row B w v L) (hb : Below w.heap.size w w') : Row B w' v L := by
  obtain ⟨h1, h2⟩ := h
  refine ⟨h1, ?_⟩
  rcases h2 with h2 | ⟨g, cap, cur, rfl, h3, h4, h5⟩
  · exact .inl h2
  · exact .inr ⟨g, cap, cur, rfl, h3, (hb.block g (Array.getElem?_eq_some_iff.1 h4).1).trans h4, h5⟩
theorem AppE.after {B : Nat} {W W1 w' : World} {L : List UInt8} {e : Ending} (hb : Below B W W1) (ho : Oth W W1) (h : AppE B W1 L e w') : AppE B W L e w' := by
  obtain ⟨v', h1, h2, h3, h4⟩ := h
  exact ⟨v', h1, h2, hb.trans h3, ho.trans h4⟩
theorem AppE.cast {B : Nat} {W w' : World} {L L' : List UInt8} {e : Ending} (h : AppE B W L e w') (hl : L = L') : AppE B W L' e w' := hl ▸ h
theorem infoB : (Tryz.prog.info? 5).map (fun i => (i.zero, i.size, i.bytes)) = some (some (.int .u8 0), 1, 1) := by kernel_rfl
theorem info_byte : ∃ i, Tryz.prog.info? 5 = some i ∧ i.zero = some (.int .u8 0) ∧ i.size = 1 ∧ i.bytes = 1 := by
  have h := infoB
  cases hi : Tryz.prog.info? 5 with
  | none => rw [hi] at h; cases h
  | some i =>
    rw [hi] at h
    simp only [Option.map_some, Option.some.injEq, Prod.mk.injEq] at h
    exact ⟨i, rfl, h.1, h.2.1, h.2.2⟩
theorem byte_one (l : List UInt8) : ∀ u ∈ Lib.byteCells l, u.oneCell' = true := by
  intro u hu
  obtain ⟨x, -, rfl⟩ := List.mem_map.1 hu
  rfl
/-- 'append' of bytes that lie in a block. -/
theorem app_u8 {ops : Array Oper} {rest : List Oper} {o : Oper} {a : Act} {Q : Exit → Act → World → Prop} {w : World} {B D s x c : Nat} {v : Value} {L N : List UInt8} {cs : Array Value} {ty : TypeId} (hgd : o.guard = none)
    (ho : o.op = .call { callee := .builtin .append, args := #[.tmp s, .tmp x], argTypes := #[44, 44] }) (hs : a.eval (.tmp s) = v) (hx : a.eval (.tmp x) = .slice (some ⟨D, 0, none⟩) N.length c) (hown : Row B w v L) (hblk : Blk w D cs ty) (hcs : cs.toList = Lib.byteCells N) (hN : 0 < N.length) (hlen : L.length + N.length ≤ 100000000000) (hB : B ≤ w.heap.size)
    (h : ∀ v' w', Row B w' v' (L ++ N) → Below B w w' → Oth w w' → wpList Tryz.prog ops Q rest (a.put o.dst v') w') : wpList Tryz.prog ops Q (o :: rest) a w := by
  obtain ⟨i, hi, hz, hsz, hby⟩ := info_byte
  refine wpList_append_lies w hgd (.tmp s) (.tmp x) 44 ho B 5 i (.int .u8 0) 1 1 Tryz.underlying44 hi hz hsz hby rfl (by decide) v L.length (Lib.byteCells L) hs hown ⟨D, 0, none⟩ N.length c (Lib.byteCells N) hx (by rw [Lib.byteCells_length]; omega) ?_ (byte_one N) hN (by unfold maxLen; omega) (by omega) hB w.heap.size rfl ?_
  · rw [← hcs]; exact World.news_of_block hblk
  · intro g cap w' hrow hg hat hlt
    have hga := grown_app hown hB hg
    refine h _ w' ?_ hga.1 hga.2
    unfold Row
    rw [List.length_append, Lib.byteCells_append]
    exact hrow
/-- The same at a step of a region that draws. -/
theorem app_u8S {ops : Array Oper} {o : Oper} {a : Act} {K : Act → World → Prop} {Q : Exit → Act → World → Prop} {E : Prop} {w : World} {B D s x c : Nat} {v : Value} {L N : List UInt8} {cs : Array Value} {ty : TypeId} (hgd : o.guard = none)
    (ho : o.op = .call { callee := .builtin .append, args := #[.tmp s, .tmp x], argTypes := #[44, 44] }) (hs : a.eval (.tmp s) = v) (hx : a.eval (.tmp x) = .slice (some ⟨D, 0, none⟩) N.length c) (hown : Row B w v L) (hblk : Blk w D cs ty) (hcs : cs.toList = Lib.byteCells N) (hN : 0 < N.length) (hlen : L.length + N.length ≤ 100000000000) (hB : B ≤ w.heap.size)
    (h : ∀ v' w', Row B w' v' (L ++ N) → Below B w w' → Oth w w' → K (a.put o.dst v') w') : if Region.wanted o (yielded ops a.tmps) = true then Oper.wp Tryz.prog o a w K Q else E := by
  obtain ⟨i, hi, hz, hsz, hby⟩ := info_byte
  refine step_append_lies w hgd (.tmp s) (.tmp x) 44 ho B 5 i (.int .u8 0) 1 1 Tryz.underlying44 hi hz hsz hby rfl (by decide) v L.length (Lib.byteCells L) hs hown ⟨D, 0, none⟩ N.length c (Lib.byteCells N) hx (by rw [Lib.byteCells_length]; omega) ?_ (byte_one N) hN (by unfold maxLen; omega) (by omega) hB w.heap.size rfl ?_
  · rw [← hcs]; exact World.news_of_block hblk
  · intro g cap w' hrow hg hat hlt
    have hga := grown_app hown hB hg
    refine h _ w' ?_ hga.1 hga.2
    unfold Row
    rw [List.length_append, Lib.byteCells_append]
    exact hrow
/-- 'append' of a string's bytes. -/
theorem app_str {ops : Array Oper} {rest : List Oper} {o : Oper} {a : Act} {Q : Exit → Act → World → Prop} {w : World} {B s : Nat} {x : Operand} {v : Value} {L : List UInt8} {t : ByteArray} (hgd : o.guard = none)
    (ho : o.op = .call { callee := .builtin .append, args := #[.tmp s, x], argTypes := #[44, 9] }) (hs : a.eval (.tmp s) = v) (hx : a.eval x = .string t) (hown : Row B w v L) (hlen : L.length + t.size ≤ 100000000000) (hB : B ≤ w.heap.size)
    (h : ∀ v' w', Row B w' v' (L ++ t.data.toList) → Below B w w' → Oth w w' → wpList Tryz.prog ops Q rest (a.put o.dst v') w') : wpList Tryz.prog ops Q (o :: rest) a w := by
  obtain ⟨i, hi, hz, hsz, hby⟩ := info_byte
  refine Lib.wpList_append_own_string w hgd (.tmp s) x 44 9 ho B 5 i Tryz.underlying44 Tryz.underlying9 hi hz hsz hby v L.length (Lib.byteCells L) hs hown t hx (by unfold maxLen; omega) (by omega) hB ?_
  intro v' w' hrow hg _
  have hga := grown_app hown hB hg
  refine h _ w' ?_ hga.1 hga.2
  unfold Row
  rw [List.length_append, Lib.byteCells_append, ← Lib.size_eq]
  exact hrow
set_option maxRecDepth 100000 in
set_option maxHeartbeats 2000000 in
theorem appRune_esc {B : Nat} {W : World} {v : Value} {L : List UInt8} {r place : Int} {c : UInt8} (h : Row B W v L) (hB : B ≤ W.heap.size) (hL : L.length ≤ 10000000000) (h0 : 0 ≤ r) (h1 : r ≤ 1114111) (hv : Utf8.valid r = true) (hp : placeQ r = place) (hp0 : 0 ≤ place) (hix : ∀ w : World, (Instr.index 9 (.string ⟨#[34, 92, 98, 102, 110, 114, 116]⟩) (.int .i64 place)).run Tryz.prog w = .ok (.int .u8 (c.toNat : Int)) w) :
    Calls Tryz.prog 55 #[v, .int .i32 r] W (AppE B W (L ++ [92, c])) := by
  have HI := Lib.hid (index_any h0 h1 hv W)
  rw [hp] at HI
  have HO := Lib.hid h
  clear h hp
  go_enter Tryz.func55, Tryz.ntmps55
  go_wp2_with fail
  go_at_call 71; refine HI.out.mono ?_; rintro e w1 ⟨rfl, hb1⟩
  have hrow := HO.out.below hb1
  have hrow2 := hrow.below (below_new0 w1 (.cells #[.int .u8 92, .int .u8 (c.toNat : Int)] 5))
  have hsz : B ≤ (w1.alloc (.cells #[.int .u8 92, .int .u8 (c.toNat : Int)] 5)).heap.size := by have := hb1.size; simp; omega
  have HB1 := Lib.hid (hb1.trans ((below_new0 w1 (.cells #[.int .u8 92, .int .u8 (c.toNat : Int)] 5)).mono hb1.size))
  clear hb1 hrow
  go_wp2_with (at_builtin; refine app_u8 (N := [92, c]) rfl rfl rfl rfl hrow2 (Blk.new _ _ _) rfl (by simp) (by simp; omega) hsz ?_; intro v' w2 hown2 hb2 ho2)
  go_ret
  exact ⟨v', rfl, hown2, (HB1.out.mono hB).trans hb2, (Oth.of HB1.out).trans ho2⟩
end Go.Proofs.YtcbcjeabpjjhbaaGreatDoor
namespace Go.Proofs.YtcbcjeabpjjhbaaGreatDoor
open Go.RowKit Go.Shelf
set_option linter.unusedVariables false
set_option linter.unusedSimpArgs false

set_option maxRecDepth 100000 in
theorem low_ops {r : Int} (h0 : 0 ≤ r) (h1 : r < 32) : (∀ w : World, (binOp BinOp.shr 21 (.int .i32 r) (.int .u64 4)).run Tryz.prog w = .ok (.int .i32 (r / 16)) w) ∧ bits BinOp.and IntKind.i32 r 15 = r % 16
    ∧ (∀ w : World, (Instr.index 9 (.string ⟨#[48, 49, 50, 51, 52, 53, 54, 55, 56, 57, 97, 98, 99, 100, 101, 102]⟩) (.int .i32 (r / 16))).run Tryz.prog w = .ok (.int .u8 ((hexB (r.toNat / 16)).toNat : Int)) w) ∧ (∀ w : World, (Instr.index 9 (.string ⟨#[48, 49, 50, 51, 52, 53, 54, 55, 56, 57, 97, 98, 99, 100, 101, 102]⟩) (.int .i32 (r % 16))).run Tryz.prog w = .ok (.int .u8 ((hexB (r.toNat % 16)).toNat : Int)) w) := by
  rcases (show r = 0 ∨ r = 1 ∨ r = 2 ∨ r = 3 ∨ r = 4 ∨ r = 5 ∨ r = 6 ∨ r = 7 ∨ r = 8 ∨ r = 9 ∨ r = 10 ∨ r = 11 ∨ r = 12 ∨ r = 13 ∨ r = 14 ∨ r = 15 ∨ r = 16 ∨ r = 17 ∨ r = 18 ∨ r = 19 ∨ r = 20 ∨ r = 21 ∨ r = 22 ∨ r = 23 ∨ r = 24 ∨ r = 25 ∨ r = 26 ∨ r = 27 ∨ r = 28 ∨ r = 29 ∨ r = 30 ∨ r = 31 by omega) with rfl | rfl | rfl | rfl | rfl | rfl | rfl | rfl | rfl | rfl | rfl | rfl | rfl | rfl | rfl | rfl | rfl | rfl | rfl | rfl | rfl | rfl | rfl | rfl | rfl | rfl | rfl | rfl | rfl | rfl | rfl | rfl <;> exact ⟨fun w => by kernel_rfl, by decide, fun w => by kernel_rfl, fun w => by kernel_rfl⟩
set_option maxRecDepth 100000 in
set_option maxHeartbeats 2000000 in
theorem appRune_low {B : Nat} {W : World} {v : Value} {L : List UInt8} {r : Int} (h : Row B W v L) (hB : B ≤ W.heap.size) (hL : L.length ≤ 10000000000) (h0 : 0 ≤ r) (h1 : r < 32) (hv : Utf8.valid r = true) (hp : placeQ r = -1) :
    Calls Tryz.prog 55 #[v, .int .i32 r] W (AppE B W (L ++ [92, 117, 48, 48, hexB (r.toNat / 16), hexB (r.toNat % 16)])) := by
  have HI := Lib.hid (index_any h0 (by omega) hv W)
  rw [hp] at HI
  have HO := Lib.hid h
  obtain ⟨o1, o2, o3, o4⟩ := low_ops h0 h1
  obtain ⟨x, hx⟩ : ∃ x, hexB (r.toNat / 16) = x := ⟨_, rfl⟩
  obtain ⟨y, hy⟩ : ∃ y, hexB (r.toNat % 16) = y := ⟨_, rfl⟩
  rw [hx] at o3
  rw [hy] at o4
  rw [hx, hy]
  clear h hp hx hy
  go_enter Tryz.func55, Tryz.ntmps55
  go_wp2_with fail
  go_at_call 71; refine HI.out.mono ?_; rintro e w1 ⟨rfl, hb1⟩
  go_wp2_with fail
  have hb2 := hb1.drew
  have hrow := HO.out.below hb2
  have hrow2 := hrow.below (below_new0 w1.drew (.cells #[.int .u8 92, .int .u8 117, .int .u8 48, .int .u8 48, .int .u8 (x.toNat : Int), .int .u8 (y.toNat : Int)] 5))
  have hsz : B ≤ (w1.drew.alloc (.cells #[.int .u8 92, .int .u8 117, .int .u8 48, .int .u8 48, .int .u8 (x.toNat : Int), .int .u8 (y.toNat : Int)] 5)).heap.size := by have := hb2.size; have := (below_new0 w1.drew (.cells #[.int .u8 92, .int .u8 117, .int .u8 48, .int .u8 48, .int .u8 (x.toNat : Int), .int .u8 (y.toNat : Int)] 5)).size; omega
  have HB1 := Lib.hid (hb2.trans ((below_new0 w1.drew (.cells #[.int .u8 92, .int .u8 117, .int .u8 48, .int .u8 48, .int .u8 (x.toNat : Int), .int .u8 (y.toNat : Int)] 5)).mono hb2.size))
  clear hb1 hb2 hrow
  obtain ⟨w2, hw2⟩ : ∃ w2, w1.drew = w2 := ⟨_, rfl⟩
  rw [hw2] at hrow2 hsz HB1
  refine wp_region_held_drew (S := fun _ => True) (by kernel_rfl) ?_ (fun hHeld => ?_)
  · trivial
  rw [hw2]
  refine wpAnyH_take (i := 0) (oi := _) (v := ?k_v1) rfl (by kernel_rfl) (by kernel_rfl) (by kernel_rfl) (fun _ _ _ h => h) (Or.inl ⟨by rfl, ?k_y1⟩) (by assumption) ?k_r1
  case k_y1 => (intro w hSw; (try dsimp only at hSw); go_simp; (try with_reducible rfl))
  try simp only [Act.put, List.setIfInBounds_toArray, List.set_cons_zero, List.set_cons_succ]
  refine wpAnyH_take (i := 1) (oi := _) (v := ?k_v2) rfl (by kernel_rfl) (by kernel_rfl) (by kernel_rfl) (fun _ _ _ h => h) (Or.inl ⟨by rfl, ?k_y2⟩) (by assumption) ?k_r2
  case k_y2 => (intro w hSw; (try dsimp only at hSw); go_simp; (try with_reducible rfl))
  try simp only [Act.put, List.setIfInBounds_toArray, List.set_cons_zero, List.set_cons_succ]
  refine wpAnyH_take (i := 2) (oi := _) (v := ?k_v3) rfl (by kernel_rfl) (by kernel_rfl) (by kernel_rfl) (fun _ _ _ h => h) (Or.inl ⟨by rfl, ?k_y3⟩) (by assumption) ?k_r3
  case k_y3 => (intro w hSw; (try dsimp only at hSw); go_simp; (try with_reducible rfl))
  try simp only [Act.put, List.setIfInBounds_toArray, List.set_cons_zero, List.set_cons_succ]
  refine wpAnyH_take (i := 3) (oi := _) (v := ?k_v4) rfl (by kernel_rfl) (by kernel_rfl) (by kernel_rfl) (fun _ _ _ h => h) (Or.inl ⟨by rfl, ?k_y4⟩) (by assumption) ?k_r4
  case k_y4 => (intro w hSw; (try dsimp only at hSw); go_simp; (try with_reducible rfl))
  try simp only [Act.put, List.setIfInBounds_toArray, List.set_cons_zero, List.set_cons_succ]
  refine wpAnyH_take (i := 4) (oi := _) (v := ?k_v5) rfl (by kernel_rfl) (by kernel_rfl) (by kernel_rfl) (fun _ _ _ h => h) (Or.inl ⟨by rfl, ?k_y5⟩) (by assumption) ?k_r5
  case k_y5 => (intro w hSw; (try dsimp only at hSw); go_simp; (try with_reducible rfl))
  try simp only [Act.put, List.setIfInBounds_toArray, List.set_cons_zero, List.set_cons_succ]
  refine wpAnyH_take (i := 5) (oi := _) (v := ?k_v6) rfl (by kernel_rfl) (by kernel_rfl) (by kernel_rfl) (fun _ _ _ h => h) (Or.inl ⟨by rfl, ?k_y6⟩) (by assumption) ?k_r6
  case k_y6 => (intro w hSw; (try dsimp only at hSw); go_simp; (try with_reducible rfl))
  try simp only [Act.put, List.setIfInBounds_toArray, List.set_cons_zero, List.set_cons_succ]
  refine wpAnyH_take (i := 6) (oi := _) (v := ?k_v7) rfl (by kernel_rfl) (by kernel_rfl) (by kernel_rfl) (fun _ _ _ h => h) (Or.inl ⟨by rfl, ?k_y7⟩) (by assumption) ?k_r7
  case k_y7 => (intro w hSw; (try dsimp only at hSw); go_simp; (try with_reducible rfl))
  try simp only [Act.put, List.setIfInBounds_toArray, List.set_cons_zero, List.set_cons_succ]
  refine wpAnyH_ready (rs := [7]) (by kernel_rfl) (by simp) ?_
  refine AllReadyH.cons (o := _) rfl (fun K hK => ?_) ?_
  · go_simp
    refine hK.out _ _ trivial (fun hHeld => ?_)
    clear hK K
    try simp only [Act.put, List.setIfInBounds_toArray, List.set_cons_zero, List.set_cons_succ]
    refine wpAnyH_ready (rs := [8]) (by kernel_rfl) (by simp) ?_
    refine AllReadyH.cons (o := _) rfl (fun K hK => ?_) ?_
    · refine app_u8S (N := [92, 117, 48, 48, x, y]) rfl rfl rfl rfl hrow2 (Blk.new _ _ _) rfl (by simp) (by simp; omega) hsz ?_
      intro v' w3 hown2 hb2 ho2
      refine hK.out _ _ trivial (fun hHeld => ?_)
      clear hK K
      try simp only [Act.put, List.setIfInBounds_toArray, List.set_cons_zero, List.set_cons_succ]
      refine wpAnyH_ready (rs := [9]) (by kernel_rfl) (by simp) ?_
      refine AllReadyH.cons (o := _) rfl (fun K hK => ?_) ?_
      · go_simp
        refine hK.out _ _ trivial (fun hHeld => ?_)
        clear hK K
        try simp only [Act.put, List.setIfInBounds_toArray, List.set_cons_zero, List.set_cons_succ]
        refine wpAnyH_done (by kernel_rfl) ?_ _
        go_wp2_with fail
        go_ret
        exact ⟨v', rfl, hown2, (HB1.out.mono hB).trans hb2, (Oth.of HB1.out).trans ho2⟩
      exact AllReadyH.nil
    exact AllReadyH.nil
  exact AllReadyH.nil
set_option maxRecDepth 100000 in
set_option maxHeartbeats 2000000 in
theorem appRune_else {B : Nat} {W : World} {v : Value} {L : List UInt8} {r : Int} (h : Row B W v L) (hB : B ≤ W.heap.size) (hL : L.length ≤ 10000000000) (h0 : 32 ≤ r) (h1 : r ≤ 1114111) (hv : Utf8.valid r = true) (hp : placeQ r = -1) :
    Calls Tryz.prog 55 #[v, .int .i32 r] W (AppE B W (L ++ Lib.encodeRune r)) := by
  have HI := Lib.hid (index_any (by omega) h1 hv W)
  rw [hp] at HI
  have HO := Lib.hid h
  have i0 : ¬ r < 32 := by omega
  clear h hp
  go_enter Tryz.func55, Tryz.ntmps55
  go_wp2_with fail
  go_at_call 71; refine HI.out.mono ?_; rintro e w1 ⟨rfl, hb1⟩
  have HR := Lib.hid (HO.out.below hb1)
  have HB1 := Lib.hid hb1
  have HA := Lib.hid (Tryz.utf8_AppendRune_plain B v L.length (Lib.byteCells L) r (by omega) (by omega) w1 HR.out (by omega) (Nat.le_trans hB hb1.size))
  clear hb1
  go_wp2_with (go_at_call 72; refine HA.out.mono ?_; rintro e w2 ⟨v', rfl, hown, o, hg⟩)
  go_ret
  have hbn := below_new0 w1 o
  have hga := grown_app (HR.out.below hbn) (by have := hbn.size; have := HB1.out.size; omega) hg
  refine ⟨v', rfl, ?_, ((HB1.out.mono hB).trans (hbn.mono (by have := HB1.out.size; omega))).trans hga.1, ((Oth.of HB1.out).trans (Oth.of hbn)).trans hga.2⟩
  unfold Row
  rw [List.length_append, Lib.byteCells_append, Lib.byteCells_encodeRune, ← Lib.runeCells_length]
  exact hown
theorem appRune_any {B : Nat} {W : World} {v : Value} {L : List UInt8} {r : Int} (h : Row B W v L) (hB : B ≤ W.heap.size) (hL : L.length ≤ 10000000000) (h0 : 0 ≤ r) (h1 : r ≤ 1114111) (hv : Utf8.valid r = true) :
    Calls Tryz.prog 55 #[v, .int .i32 r] W (AppE B W (L ++ runeQ r)) := by
  by_cases e0 : r = 34
  · subst e0; exact appRune_esc (place := 0) (c := 34) h hB hL h0 h1 hv rfl (by decide) (fun w => by kernel_rfl)
  by_cases e1 : r = 92
  · subst e1; exact appRune_esc (place := 1) (c := 92) h hB hL h0 h1 hv rfl (by decide) (fun w => by kernel_rfl)
  by_cases e2 : r = 8
  · subst e2; exact appRune_esc (place := 2) (c := 98) h hB hL h0 h1 hv rfl (by decide) (fun w => by kernel_rfl)
  by_cases e3 : r = 12
  · subst e3; exact appRune_esc (place := 3) (c := 102) h hB hL h0 h1 hv rfl (by decide) (fun w => by kernel_rfl)
  by_cases e4 : r = 10
  · subst e4; exact appRune_esc (place := 4) (c := 110) h hB hL h0 h1 hv rfl (by decide) (fun w => by kernel_rfl)
  by_cases e5 : r = 13
  · subst e5; exact appRune_esc (place := 5) (c := 114) h hB hL h0 h1 hv rfl (by decide) (fun w => by kernel_rfl)
  by_cases e6 : r = 9
  · subst e6; exact appRune_esc (place := 6) (c := 116) h hB hL h0 h1 hv rfl (by decide) (fun w => by kernel_rfl)
  have hp : placeQ r = -1 := by unfold placeQ; rw [if_neg e0, if_neg e1, if_neg e2, if_neg e3, if_neg e4, if_neg e5, if_neg e6]
  unfold runeQ
  rw [if_neg e0, if_neg e1, if_neg e2, if_neg e3, if_neg e4, if_neg e5, if_neg e6]
  by_cases hl : r < 32
  · rw [if_pos hl]; exact appRune_low h hB hL h0 hl hv hp
  · rw [if_neg hl]; exact appRune_else h hB hL (by omega) h1 hv hp
end Go.Proofs.YtcbcjeabpjjhbaaGreatDoor
namespace Go.Proofs.YtcbcjeabpjjhbaaGreatDoor
open Go.RowKit Go.Shelf
set_option linter.unusedVariables false

def textQ : Nat → List UInt8 → List UInt8
  | 0, _ => []
  | f + 1, R => if R = [] then [] else runeQ ((Lib.decodeL R).1 : Int) ++ textQ f (R.drop (Lib.decodeL R).2)
/-- A text's JSON behind what stands there: nothing, if that is too long. -/
def quoteL (L : List UInt8) (t : ByteArray) : List UInt8 := if 65536 < L.length then L else L ++ 34 :: (textQ t.size t.data.toList ++ [34])
theorem decode_rest (t : ByteArray) (p : Nat) : Utf8.decode t p = Lib.decodeL (rest t p) := by
  have h := Lib.tail_decode t p 0
  rw [Nat.add_zero] at h
  rw [← h, str_eq (rest_extract t p)]
  rfl
theorem decodeL_valid (R : List UInt8) : 0 ≤ ((Lib.decodeL R).1 : Int) ∧ ((Lib.decodeL R).1 : Int) ≤ 1114111 ∧ Utf8.valid ((Lib.decodeL R).1 : Int) = true := by
  have h := Lib.rune_valid ⟨R.toArray⟩
  refine ⟨by omega, ?_, (valid_lib _).trans h⟩
  have h2 : Lib.validRune ((Lib.decodeL R).1 : Int) = true := h
  unfold Lib.validRune at h2
  simp at h2
  omega
theorem runeQ_len (r : Int) : (runeQ r).length ≤ 6 := by
  unfold runeQ
  repeat (split; · simp)
  have := (Lib.encodeRuneZ_length r).2
  unfold Lib.encodeRune
  simp
  omega
theorem textQ_len : ∀ (f : Nat) (R : List UInt8), (textQ f R).length ≤ 6 * f
  | 0, R => by unfold textQ; simp
  | f + 1, R => by
    unfold textQ
    split
    · simp
    · have h1 := runeQ_len ((Lib.decodeL R).1 : Int)
      have h2 := textQ_len f (R.drop (Lib.decodeL R).2)
      rw [List.length_append]
      omega
theorem Row.iter {B k : Nat} {w : World} {v : Value} {L : List UInt8} {s : ByteArray} {p : Nat} (h : Row B w v L) (hk : w.heap[k]? = some (.stringIter s p)) (p' : Nat) : Row B (w.iterAt k s p') v L := by
  obtain ⟨h1, h2⟩ := h
  refine ⟨h1, ?_⟩
  rcases h2 with h2 | ⟨g, cap, cur, rfl, h3, h4, h5⟩
  · exact .inl h2
  · have hne : k ≠ g := by
      rintro rfl
      rw [hk] at h4
      cases h4
    refine .inr ⟨g, cap, cur, rfl, h3, ?_, h5⟩
    rw [← h4]
    simp only [World.iterAt]
    rw [Array.getElem?_setIfInBounds_ne hne]
theorem Oth.iter {k : Nat} {W w : World} (h : Oth W w) (hk : W.heap.size ≤ k) (s : ByteArray) (p : Nat) : Oth W (w.iterAt k s p) := by
  intro j o hj hn ho
  have hlt := (Array.getElem?_eq_some_iff.1 hj).1
  rw [← h j o hj hn ho]
  simp only [World.iterAt]
  rw [Array.getElem?_setIfInBounds_ne (by omega)]
theorem Oth.keeps {k : Nat} {w w' : World} {s : ByteArray} {p : Nat} (h : Oth w w') (hk : w.heap[k]? = some (.stringIter s p)) : w'.heap[k]? = some (.stringIter s p) := h k _ hk (by simp) (fun c fz e => by cases e)
set_option maxRecDepth 100000 in
set_option maxHeartbeats 2000000 in
theorem appText_long {B : Nat} {W : World} {v : Value} {L : List UInt8} {t : ByteArray} (h : Row B W v L) (hl : 65536 < L.length) : Calls Tryz.prog 35 #[v, .string t] W (AppE B W (quoteL L t)) := by
  have hq : quoteL L t = L := by unfold quoteL; rw [if_pos hl]
  rw [hq]
  have HO := Lib.hid h
  obtain ⟨ad, cap, rfl⟩ := row_shape h
  have i0 : (65536 : Int) < (L.length : Int) := by omega
  clear h hq
  go_enter Tryz.func35, Tryz.ntmps35
  go_wp2
  go_ret
  exact ⟨_, rfl, HO.out, Below.refl _ _, Lib.OthersKept.refl _ _ _⟩
set_option maxRecDepth 100000 in
set_option maxHeartbeats 4000000 in
theorem appText_short {B : Nat} {W : World} {v : Value} {L : List UInt8} {t : ByteArray} (h : Row B W v L) (hB : B ≤ W.heap.size) (hl : ¬ 65536 < L.length) (hbd : (quoteL L t).length ≤ 10000000000) : Calls Tryz.prog 35 #[v, .string t] W (AppE B W (quoteL L t)) := by
  obtain ⟨X, hX⟩ : ∃ X, (L ++ [34]) ++ textQ t.size (rest t 0) = X := ⟨_, rfl⟩
  have hq : quoteL L t = X ++ [34] := by unfold quoteL; rw [if_neg hl, ← hX]; simp [rest]
  rw [hq] at hbd ⊢
  rw [List.length_append, List.length_singleton] at hbd
  have HX := Lib.hid hX
  have hrow2 := h.below (below_new0 W (.cells #[.int .u8 34] 5))
  have hsz : B ≤ (W.alloc (.cells #[.int .u8 34] 5)).heap.size := by simp; omega
  have HB0 := Lib.hid (below_new0 W (.cells #[.int .u8 34] 5))
  obtain ⟨ad, cap, hv⟩ := row_shape h
  have hlen : v = .slice ad L.length cap := hv
  have i0 : ¬ (65536 : Int) < (L.length : Int) := by omega
  subst hlen
  clear h hq hX
  go_enter Tryz.func35, Tryz.ntmps35
  go_wp2_with (at_builtin; refine app_u8 (N := [34]) rfl rfl rfl rfl hrow2 (Blk.new _ _ _) rfl (by simp) (by simp; omega) hsz ?_; intro v1 w1 hown1 hb1 ho1)
  have HB1 : Hid (Below B W w1) := Lib.hid ((HB0.out.mono hB).trans hb1)
  have HO1 : Hid (Oth W w1) := Lib.hid ((Oth.of HB0.out).trans ho1)
  have HR1 := Lib.hid hown1
  have hs1 : W.heap.size ≤ w1.heap.size := Nat.le_trans HB0.out.size hb1.size
  clear hb1 ho1 hown1 hrow2 hsz
  go_wp2_with fail
  have HAR := Lib.hid (fun (v : Value) (acc : List UInt8) (R : List UInt8) (w : World) (hr : Row B w v acc) (hBw : B ≤ w.heap.size) (hacc : acc.length ≤ 10000000000) => appRune_any hr hBw hacc (decodeL_valid R).1 (decodeL_valid R).2.1 (decodeL_valid R).2.2)
  go_loopg [0] (t.size + 1) (fun gf s0 wx => ∃ (pos : Nat) (acc : List UInt8), Hid (wx.heap[w1.heap.size]? = some (.stringIter t pos)) ∧ Hid (Below B W wx) ∧ Hid (Oth W wx) ∧ Hid (Row B wx s0 acc) ∧ Hid (acc ++ textQ (gf - 1) (rest t pos) = X) ∧ t.size - pos < gf)
  case atStart =>
    refine ⟨0, L ++ [34], Lib.hid (World.iter_heap _ _ _), Lib.hid ?_, Lib.hid ?_, Lib.hid ?_, HX, by omega⟩
    · exact HB1.out.trans ((below_new0 w1 _).mono (by omega))
    · exact HO1.out.trans (Oth.of (below_new0 w1 _))
    · exact HR1.out.below (below_new0 w1 _)
  case round =>
    obtain ⟨pos, acc, HI, HB, HO, HR, HE, hf⟩ := hrel
    have hal : acc.length ≤ 10000000000 := by
      have := congrArg List.length HE.out
      rw [List.length_append] at this
      omega
    obtain ⟨g', rfl⟩ : ∃ g', gk = g' + 1 := ⟨gk - 1, by omega⟩
    rw [Nat.add_sub_cancel] at HE
    have hrl := rest_length t pos
    by_cases hlt : pos < t.size
    · have hnx := fun ty => Lib.run_next_any_at (P := Tryz.prog) wr w1.heap.size t pos ty HI.out hlt
      rw [decode_rest] at hnx
      obtain ⟨g2, rfl⟩ : ∃ g2, g' = g2 + 1 := ⟨g' - 1, by omega⟩
      have hne : rest t pos ≠ [] := fun e => by rw [e] at hrl; simp at hrl; omega
      have hw1 : 1 ≤ (Lib.decodeL (rest t pos)).2 := by rw [← decode_rest]; exact Lib.decode_width_pos t pos hlt
      have HE2 : Hid ((acc ++ runeQ ((Lib.decodeL (rest t pos)).1 : Int)) ++ textQ g2 (rest t (pos + (Lib.decodeL (rest t pos)).2)) = X) := Lib.hid (by
        rw [← HE.out, List.append_assoc, rest_add]
        conv => rhs; unfold textQ
        rw [if_neg hne])
      have hql := runeQ_len ((Lib.decodeL (rest t pos)).1 : Int)
      have HC := Lib.hid (HAR.out)
      obtain ⟨x, hx⟩ : ∃ x : Nat, (Lib.decodeL (rest t pos)).1 = x := ⟨_, rfl⟩
      obtain ⟨wd, hwd⟩ : ∃ x : Nat, (Lib.decodeL (rest t pos)).2 = x := ⟨_, rfl⟩
      have HCR := Lib.hid (fun (w : World) (hr : Row B w u0 acc) (hBw : B ≤ w.heap.size) => HAR.out u0 acc (rest t pos) w hr hBw (by omega))
      rw [hx] at hnx HCR HE2 hql
      rw [hwd] at hnx HE2 hw1
      have HI2 := Lib.hid (Lib.iterAt_heap wr w1.heap.size t pos (pos + wd) HI.out)
      have HB2 := Lib.hid (below_iterAt HB.out (by omega : B ≤ w1.heap.size) t (pos + wd))
      have HO2 := Lib.hid (HO.out.iter hs1 t (pos + wd))
      have HR2 := Lib.hid (HR.out.iter HI.out (pos + wd))
      clear hx hwd HC
      go_wp2_with (go_at_call 55; refine (HCR.out _ HR2.out (Nat.le_trans hB (by have := HB2.out.size; omega))).mono ?_; rintro e w3 ⟨v3, rfl, hr3, hb3, ho3⟩; refine Hid.out ?_)
      refine Lib.hid ?_
      have HI3 := Lib.hid (ho3.keeps HI2.out)
      have HB3 := Lib.hid (HB2.out.trans hb3)
      have HO3 := Lib.hid (HO2.out.trans ho3)
      have HR3 := Lib.hid hr3
      clear hr3 hb3 ho3
      go_wp2_with fail
      go_roundg (g2 + 1)
      case measure => omega
      case rel => exact ⟨pos + wd, acc ++ runeQ (x : Int), HI3, HB3, HO3, HR3, HE2, by omega⟩
    · have hnx := fun ty => Lib.run_next_end_at (P := Tryz.prog) wr w1.heap.size t pos ty HI.out hlt
      have hnil : rest t pos = [] := List.length_eq_zero_iff.1 (by omega)
      have hXa : acc = X := by
        rw [← HE.out, hnil]
        cases g' <;> simp [textQ]
      have hrow2 := HR.out.below (below_new0 wr (.cells #[.int .u8 34] 5))
      have hsz : B ≤ (wr.alloc (.cells #[.int .u8 34] 5)).heap.size := by have := HB.out.size; simp; omega
      go_wp2_with (at_builtin; refine app_u8 (N := [34]) rfl rfl rfl rfl hrow2 (Blk.new _ _ _) rfl (by simp) (by simp; omega) hsz ?_; intro v4 w4 hown4 hb4 ho4)
      go_ret
      have hbn := below_new0 wr (.cells #[.int .u8 34] 5)
      rw [← hXa]
      exact ⟨v4, rfl, hown4, (HB.out.trans (hbn.mono (by have := HB.out.size; omega))).trans hb4, (HO.out.trans (Oth.of hbn)).trans ho4⟩
theorem appText_any {B : Nat} {W : World} {v : Value} {L : List UInt8} {t : ByteArray} (h : Row B W v L) (hB : B ≤ W.heap.size) (hbd : (quoteL L t).length ≤ 10000000000) : Calls Tryz.prog 35 #[v, .string t] W (AppE B W (quoteL L t)) := by
  by_cases hl : 65536 < L.length
  · exact appText_long h hl
  · exact appText_short h hB hl hbd
end Go.Proofs.YtcbcjeabpjjhbaaGreatDoor
