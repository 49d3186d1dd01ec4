/- . -/
import Derived.Deep.RegionWith
import Derived.Deep.RegionHeld
import Derived.Test.YtljgggohjigaoaaGreatDoorSk34
namespace Go.Proofs.YtljgggohjigaoaaGreatDoor
open Go.RowKit Go.Shelf
set_option linter.unusedVariables false
set_option linter.unusedSimpArgs false

set_option maxRecDepth 100000 in
set_option maxHeartbeats 8000000 in
theorem same_else {W : World} {ev bv tv ev' bv' tv' : Value} {f f' : Fi} (h : FileRd W ev bv tv f) (h' : FileRd W ev' bv' tv' f') (hl : FiLike false f f') (hs : Small f) :
  Calls Tryz.prog 12 #[.agg #[ev, bv, tv], .agg #[ev', bv', tv'], .bool false] W fun e w' => e = .returned (.bool true) ∧ Below W.heap.size W w' := by
 obtain ⟨aE, cE, rfl⟩ := h.sv
 obtain ⟨aB, cB, rfl⟩ := h.su
 obtain ⟨⟨aT, cT, rfl⟩, -⟩ := h.top
 obtain ⟨aE', cE', rfl⟩ := h'.sv
 obtain ⟨aB', cB', rfl⟩ := h'.su
 obtain ⟨⟨aT', cT', rfl⟩, -⟩ := h'.top
 have hT := h.top
 have hT' := h'.top
 rw [← hl.top] at hT'
 obtain ⟨nE, hnE⟩ : ∃ n, f.exprs.length = n := ⟨_, rfl⟩
 obtain ⟨nB, hnB⟩ : ∃ n, f.blocks.length = n := ⟨_, rfl⟩
 obtain ⟨nT, hnT⟩ : ∃ n, f.top.length = n := ⟨_, rfl⟩
 have hE := h.exprs
 have hE' := h'.exprs
 have hB := h.blocks
 have hB' := h'.blocks
 rw [← hl.nE, hnE] at hE'
 rw [← hl.nB, hnB] at hB'
 rw [hnE] at hE
 rw [hnB] at hB
 rw [hnT] at hT hT'
 rw [hnE, hnB, hnT, ← hl.nE, ← hl.nB, ← hl.top, hnE, hnB, hnT]
 have hbE : nE ≤ 9223372036854775807 := by rw [← hnE]; exact hs.nE
 have hbB : nB ≤ 9223372036854775807 := by rw [← hnB]; exact hs.nB
 obtain ⟨W1, hW1⟩ : ∃ W1, W.alloc (.cells #[.slice aE nE cE, .slice aB nB cB, .slice aT nT cT] 28) = W1 := ⟨_, rfl⟩
 have b1 : Blk W1 W.heap.size #[.slice aE nE cE, .slice aB nB cB, .slice aT nT cT] 28 := by rw [← hW1]; exact Blk.new _ _ _
 have z1 : W1.heap.size = W.heap.size + 1 := by rw [← hW1]; simp
 have s1 : Below W.heap.size W W1 := by rw [← hW1]; exact below_new _ _
 obtain ⟨W2, hW2⟩ : ∃ W2, W1.alloc (.cells #[.slice aE' nE cE', .slice aB' nB cB', .slice aT' nT cT'] 28) = W2 := ⟨_, rfl⟩
 have b2 : Blk W2 (W.heap.size + 1) #[.slice aE' nE cE', .slice aB' nB cB', .slice aT' nT cT'] 28 := by rw [← hW2, ← z1]; exact Blk.new _ _ _
 have s2 : Below W1.heap.size W1 W2 := by rw [← hW2]; exact below_new _ _
 have b1 := b1.below s2
 have HBW : Hid (Below W.heap.size W W2) := Lib.hid (s1.trans (s2.mono (by omega)))
 have HI := Lib.hid (ints_same (hT.below HBW.out) (hT'.below HBW.out) hnT (by rw [← hnT]; exact hs.top))
 have HF := Lib.hid (And.intro hE (And.intro hE' (And.intro hB hB')))
 have HN := Lib.hid (And.intro hnE (And.intro hnB hl))
 have HN' : Hid (f'.exprs.length = nE ∧ f'.blocks.length = nB) := Lib.hid ⟨hl.nE ▸ hnE, hl.nB ▸ hnB⟩
 have HSM := Lib.hid hs
 have HP := Lib.hid (And.intro b1 b2)
 have HW1 := Lib.hid hW1
 have HW2 := Lib.hid hW2
 have k1 := b1.cell 0
 have k2 := b2.cell 0
 have k3 := b1.cell 1
 have k4 := b2.cell 1
 have k5 := b1.cell 2
 have k6 := b2.cell 2
 clear h h' hl hs hT hT' hE hE' hB hB' hnE hnB hnT b1 b2 s1 s2 z1 hW1 hW2
 go_enter Tryz.func12, Tryz.ntmps12
 go_wp2_with fail
 go_at_call 21; rw [HW1.out, HW2.out]; refine HI.out.mono ?_; rintro r w3 ⟨rfl, hb3⟩
 have HB3 := Lib.hid hb3
 clear hb3 HI HW1 HW2 k1 k2 k3 k4 k5 k6
 have k1 := (HP.out.1.below HB3.out).cell 0
 go_wp2_with fail
 clear k1
 go_loopg [41] (nE + 1) (fun gf s41 wx => ∃ i : Nat, s41 = .int .i64 (i : Int) ∧ Hid (Below W2.heap.size W2 wx) ∧ i + gf = nE + 1)
 case atStart => exact ⟨0, rfl, HB3, by omega⟩
 case round =>
  obtain ⟨i, rfl, HBi, hgf⟩ := hrel
  clear HB3
  by_cases hi : i < nE
  ·obtain ⟨g', rfl⟩ : ∃ g', gk = g' + 1 := ⟨gk - 1, by omega⟩
   rcases HF.out.1 with h0 | ⟨gE, cE2, e0, hcE, hxs⟩
   ·omega
   rcases HF.out.2.1 with h0 | ⟨gE2, cE3, e3, hcE2, hxs2⟩
   ·omega
   cases e0
   cases e3
   obtain ⟨e, he⟩ : ∃ e, f.exprs[i]? = some e := ⟨_, List.getElem?_eq_getElem (by rw [HN.out.1]; exact hi)⟩
   obtain ⟨e2, he2⟩ : ∃ e, f'.exprs[i]? = some e := ⟨_, List.getElem?_eq_getElem (by rw [HN'.out.1]; exact hi)⟩
   have hlk := HN.out.2.2.exprs i e e2 he he2
   have hsm := HSM.out.args e (List.mem_of_getElem? he)
   obtain ⟨av, kv, hx⟩ := hxs i e he
   obtain ⟨av2, kv2, hx2⟩ := hxs2 i e2 he2
   have hxr := (hx.below HBW.out).below HBi.out
   have hxr2 := (hx2.below HBW.out).below HBi.out
   obtain ⟨⟨adA, cA, rfl⟩, -⟩ := hx.args
   obtain ⟨⟨adK, cK, rfl⟩, -⟩ := hx.keys
   obtain ⟨⟨adA2, cA2, rfl⟩, -⟩ := hx2.args
   obtain ⟨⟨adK2, cK2, rfl⟩, -⟩ := hx2.keys
   have hra := hxr.args
   have hrk := hxr.keys
   have hra2 := hxr2.args
   have hrk2 := hxr2.keys
   have r0 := hxr.c_k
   have r1 := hxr.c_x
   have r2 := hxr.c_av
   have r3 := hxr.c_kv
   have r4 := hxr.c_at_
   have s0 := hxr2.c_k
   have s1 := hxr2.c_x
   have s2 := hxr2.c_av
   have s3 := hxr2.c_kv
   have s4 := hxr2.c_at_
   rw [← hlk.k] at s0
   rw [← hlk.x] at s1
   rw [← hlk.args] at hra2 s2
   rw [← hlk.keys] at hrk2 s3
   obtain ⟨nA, hnA⟩ : ∃ n, e.args.length = n := ⟨_, rfl⟩
   obtain ⟨nK, hnK⟩ : ∃ n, e.keys.length = n := ⟨_, rfl⟩
   rw [hnA] at hra hra2 r2 s2
   rw [hnK] at hrk hrk2 r3 s3
   have k1 := (HP.out.1.below HBi.out).cell 0
   have k2 := (HP.out.2.below HBi.out).cell 0
   have q1 : (i : Int) < (nE : Int) := by omega
   have q0 : (0 : Int) ≤ (i : Int) := by omega
   have HRW := Lib.hid (And.intro hra (And.intro hra2 (And.intro hrk hrk2)))
   have HEE := Lib.hid (And.intro hlk (And.intro hnA (And.intro hnK hsm)))
   clear hra hra2 hrk hrk2 hlk hsm hx hx2 hxr hxr2 hxs hxs2 he he2 hnA hnK
   go_wp2_with fail
   refine have AFTER : (∀ (w' : World) (p q : Nat), (Blk w' p #[.int .i64 e.k, .string e.x, .slice adA nA cA, .slice adK nK cK, .int .i64 (e.at_ : Int)] 38 ∧ Blk w' q #[.int .i64 e.k, .string e.x, .slice adA2 nA cA2, .slice adK2 nK cK2, .int .i64 (e2.at_ : Int)] 38 ∧ Below wr.heap.size wr w') → (?G : World → Nat → Nat → Prop) w' p q) := ?later; ?main
   case main =>
    obtain ⟨H, hH⟩ : ∃ H, wr.heap.size = H := ⟨_, rfl⟩
    refine wp_region_held_drew (S := fun w' => Below wr.heap.size wr w') (by kernel_rfl) ((Below.refl _ wr).drew) (fun hHeld => ?_)
    refine wpAnyH_take (i := 0) (v := ?q_v0) rfl (by kernel_rfl) (by kernel_rfl) (by kernel_rfl) (fun _ _ _ h => h) (Or.inl ⟨by rfl, ?q_y0⟩) (by assumption) ?q_r0
    case q_y0 => (intro w s; have k := @cells_keep _ _ s; have z1 := k k1; have z2 := k k2; have z3 := k r0; have z4 := k r1; have z5 := k r2; have z6 := k r3; have z7 := k r4; have z8 := k s0; have z9 := k s1; have y0 := k s2; have y1 := k s3; have y2 := k s4; clear s k; go_simp; (try with_reducible rfl))
    try simp only [List.getElem_toArray, List.getElem_cons_succ, List.getElem_cons_zero]
    try simp only [Act.put, List.setIfInBounds_toArray, List.set_cons_zero, List.set_cons_succ]
    refine wpAnyH_take (i := 1) (v := ?q_v1) rfl (by kernel_rfl) (by kernel_rfl) (by kernel_rfl) (fun _ _ _ h => h) (Or.inl ⟨by rfl, ?q_y1⟩) (by assumption) ?q_r1
    case q_y1 => (intro w s; have k := @cells_keep _ _ s; have z1 := k k1; have z2 := k k2; have z3 := k r0; have z4 := k r1; have z5 := k r2; have z6 := k r3; have z7 := k r4; have z8 := k s0; have z9 := k s1; have y0 := k s2; have y1 := k s3; have y2 := k s4; clear s k; go_simp; (try with_reducible rfl))
    try simp only [List.getElem_toArray, List.getElem_cons_succ, List.getElem_cons_zero]
    try simp only [Act.put, List.setIfInBounds_toArray, List.set_cons_zero, List.set_cons_succ]
    refine wpAnyH_take (i := 2) (v := ?q_v2) rfl (by kernel_rfl) (by kernel_rfl) (by kernel_rfl) (fun _ _ _ h => h) (Or.inl ⟨by rfl, ?q_y2⟩) (by assumption) ?q_r2
    case q_y2 => (intro w s; have k := @cells_keep _ _ s; have z1 := k k1; have z2 := k k2; have z3 := k r0; have z4 := k r1; have z5 := k r2; have z6 := k r3; have z7 := k r4; have z8 := k s0; have z9 := k s1; have y0 := k s2; have y1 := k s3; have y2 := k s4; clear s k; go_simp; (try with_reducible rfl))
    try simp only [List.getElem_toArray, List.getElem_cons_succ, List.getElem_cons_zero]
    try simp only [Act.put, List.setIfInBounds_toArray, List.set_cons_zero, List.set_cons_succ]
    refine wpAnyH_take (i := 3) (v := ?q_v3) rfl (by kernel_rfl) (by kernel_rfl) (by kernel_rfl) (fun _ _ _ h => h) (Or.inl ⟨by rfl, ?q_y3⟩) (by assumption) ?q_r3
    case q_y3 => (intro w s; have k := @cells_keep _ _ s; have z1 := k k1; have z2 := k k2; have z3 := k r0; have z4 := k r1; have z5 := k r2; have z6 := k r3; have z7 := k r4; have z8 := k s0; have z9 := k s1; have y0 := k s2; have y1 := k s3; have y2 := k s4; clear s k; go_simp; (try with_reducible rfl))
    try simp only [List.getElem_toArray, List.getElem_cons_succ, List.getElem_cons_zero]
    try simp only [Act.put, List.setIfInBounds_toArray, List.set_cons_zero, List.set_cons_succ]
    refine wpAnyH_take (i := 4) (v := ?q_v4) rfl (by kernel_rfl) (by kernel_rfl) (by kernel_rfl) (fun _ _ _ h => h) (Or.inl ⟨by rfl, ?q_y4⟩) (by assumption) ?q_r4
    case q_y4 => (intro w s; have k := @cells_keep _ _ s; have z1 := k k1; have z2 := k k2; have z3 := k r0; have z4 := k r1; have z5 := k r2; have z6 := k r3; have z7 := k r4; have z8 := k s0; have z9 := k s1; have y0 := k s2; have y1 := k s3; have y2 := k s4; clear s k; go_simp; (try with_reducible rfl))
    try simp only [List.getElem_toArray, List.getElem_cons_succ, List.getElem_cons_zero]
    try simp only [Act.put, List.setIfInBounds_toArray, List.set_cons_zero, List.set_cons_succ]
    refine wpAnyH_take (i := 5) (v := ?q_v5) rfl (by kernel_rfl) (by kernel_rfl) (by kernel_rfl) (fun _ _ _ h => h) (Or.inl ⟨by rfl, ?q_y5⟩) (by assumption) ?q_r5
    case q_y5 => (intro w s; have k := @cells_keep _ _ s; have z1 := k k1; have z2 := k k2; have z3 := k r0; have z4 := k r1; have z5 := k r2; have z6 := k r3; have z7 := k r4; have z8 := k s0; have z9 := k s1; have y0 := k s2; have y1 := k s3; have y2 := k s4; clear s k; go_simp; (try with_reducible rfl))
    try simp only [List.getElem_toArray, List.getElem_cons_succ, List.getElem_cons_zero]
    try simp only [Act.put, List.setIfInBounds_toArray, List.set_cons_zero, List.set_cons_succ]
    refine wpAnyH_take (i := 6) (v := ?q_v6) rfl (by kernel_rfl) (by kernel_rfl) (by kernel_rfl) (fun _ _ _ h => h) (Or.inl ⟨by rfl, ?q_y6⟩) (by assumption) ?q_r6
    case q_y6 => (intro w s; have k := @cells_keep _ _ s; have z1 := k k1; have z2 := k k2; have z3 := k r0; have z4 := k r1; have z5 := k r2; have z6 := k r3; have z7 := k r4; have z8 := k s0; have z9 := k s1; have y0 := k s2; have y1 := k s3; have y2 := k s4; clear s k; go_simp; (try with_reducible rfl))
    try simp only [List.getElem_toArray, List.getElem_cons_succ, List.getElem_cons_zero]
    try simp only [Act.put, List.setIfInBounds_toArray, List.set_cons_zero, List.set_cons_succ]
    refine wpAnyH_take (i := 7) (v := ?q_v7) rfl (by kernel_rfl) (by kernel_rfl) (by kernel_rfl) (fun _ _ _ h => h) (Or.inl ⟨by rfl, ?q_y7⟩) (by assumption) ?q_r7
    case q_y7 => (intro w s; have k := @cells_keep _ _ s; have z1 := k k1; have z2 := k k2; have z3 := k r0; have z4 := k r1; have z5 := k r2; have z6 := k r3; have z7 := k r4; have z8 := k s0; have z9 := k s1; have y0 := k s2; have y1 := k s3; have y2 := k s4; clear s k; go_simp; (try with_reducible rfl))
    try simp only [List.getElem_toArray, List.getElem_cons_succ, List.getElem_cons_zero]
    try simp only [Act.put, List.setIfInBounds_toArray, List.set_cons_zero, List.set_cons_succ]
    refine wpAnyH_take (i := 8) (v := ?q_v8) rfl (by kernel_rfl) (by kernel_rfl) (by kernel_rfl) (fun _ _ _ h => h) (Or.inl ⟨by rfl, ?q_y8⟩) (by assumption) ?q_r8
    case q_y8 => (intro w s; have k := @cells_keep _ _ s; have z1 := k k1; have z2 := k k2; have z3 := k r0; have z4 := k r1; have z5 := k r2; have z6 := k r3; have z7 := k r4; have z8 := k s0; have z9 := k s1; have y0 := k s2; have y1 := k s3; have y2 := k s4; clear s k; go_simp; (try with_reducible rfl))
    try simp only [List.getElem_toArray, List.getElem_cons_succ, List.getElem_cons_zero]
    try simp only [Act.put, List.setIfInBounds_toArray, List.set_cons_zero, List.set_cons_succ]
    refine wpAnyH_take (i := 9) (v := ?q_v9) rfl (by kernel_rfl) (by kernel_rfl) (by kernel_rfl) (fun _ _ _ h => h) (Or.inl ⟨by rfl, ?q_y9⟩) (by assumption) ?q_r9
    case q_y9 => (intro w s; have k := @cells_keep _ _ s; have z1 := k k1; have z2 := k k2; have z3 := k r0; have z4 := k r1; have z5 := k r2; have z6 := k r3; have z7 := k r4; have z8 := k s0; have z9 := k s1; have y0 := k s2; have y1 := k s3; have y2 := k s4; clear s k; go_simp; (try with_reducible rfl))
    try simp only [List.getElem_toArray, List.getElem_cons_succ, List.getElem_cons_zero]
    try simp only [Act.put, List.setIfInBounds_toArray, List.set_cons_zero, List.set_cons_succ]
    refine wpAnyH_ready (rs := [10, 11]) (by kernel_rfl) (by simp) ?_
    refine AllReadyH.cons (o := _) rfl (fun K hK => ?_) ?_
    ·skip
     go_simp
     refine hK.out _ _ (((Below.refl _ wr).drew).alloc (Nat.le_refl _) _) (fun hHeld => ?_)
     clear hK K
     try simp only [Act.put, List.setIfInBounds_toArray, List.set_cons_zero, List.set_cons_succ]
     refine wpAnyH_ready (rs := [11]) (by kernel_rfl) (by simp) ?_
     refine AllReadyH.cons (o := _) rfl (fun K hK => ?_) AllReadyH.nil
     have sb : Below wr.heap.size wr ((wr.alloc (.cells #[.int .i64 0, .string ⟨#[]⟩, .slice none 0 0, .slice none 0 0, .int .i64 0] 38)).alloc (.cells #[.int .i64 0, .string ⟨#[]⟩, .slice none 0 0, .slice none 0 0, .int .i64 0] 38)).drew := ((((Below.refl wr.heap.size wr)).alloc (Nat.le_refl _) (.cells #[.int .i64 0, .string ⟨#[]⟩, .slice none 0 0, .slice none 0 0, .int .i64 0] 38)).alloc (by simp) (.cells #[.int .i64 0, .string ⟨#[]⟩, .slice none 0 0, .slice none 0 0, .int .i64 0] 38)).drew
     have n1 : Blk ((wr.alloc (.cells #[.int .i64 0, .string ⟨#[]⟩, .slice none 0 0, .slice none 0 0, .int .i64 0] 38)).alloc (.cells #[.int .i64 0, .string ⟨#[]⟩, .slice none 0 0, .slice none 0 0, .int .i64 0] 38)).drew wr.heap.size #[.int .i64 0, .string ⟨#[]⟩, .slice none 0 0, .slice none 0 0, .int .i64 0] 38 := show Blk _ _ _ _ from (Blk.new wr #[.int .i64 0, .string ⟨#[]⟩, .slice none 0 0, .slice none 0 0, .int .i64 0] 38).alloc (.cells #[.int .i64 0, .string ⟨#[]⟩, .slice none 0 0, .slice none 0 0, .int .i64 0] 38)
     have n2 : Blk ((wr.alloc (.cells #[.int .i64 0, .string ⟨#[]⟩, .slice none 0 0, .slice none 0 0, .int .i64 0] 38)).alloc (.cells #[.int .i64 0, .string ⟨#[]⟩, .slice none 0 0, .slice none 0 0, .int .i64 0] 38)).drew (wr.heap.size + 1) #[.int .i64 0, .string ⟨#[]⟩, .slice none 0 0, .slice none 0 0, .int .i64 0] 38 := by
      have := Blk.new (wr.alloc (.cells #[.int .i64 0, .string ⟨#[]⟩, .slice none 0 0, .slice none 0 0, .int .i64 0] 38)) #[.int .i64 0, .string ⟨#[]⟩, .slice none 0 0, .slice none 0 0, .int .i64 0] 38
      have hz : (wr.alloc (.cells #[.int .i64 0, .string ⟨#[]⟩, .slice none 0 0, .slice none 0 0, .int .i64 0] 38)).heap.size = wr.heap.size + 1 := by simp
      rw [hz] at this
      exact this
     go_simp
     refine hK.out _ _ sb (fun hHeld => ?_)
     clear hK K
     try simp only [Act.put, List.setIfInBounds_toArray, List.set_cons_zero, List.set_cons_succ]
     obtain ⟨wa, hwa⟩ : ∃ wa, ((wr.alloc (.cells #[.int .i64 0, .string ⟨#[]⟩, .slice none 0 0, .slice none 0 0, .int .i64 0] 38)).alloc (.cells #[.int .i64 0, .string ⟨#[]⟩, .slice none 0 0, .slice none 0 0, .int .i64 0] 38)).drew = wa := ⟨_, rfl⟩
     rw [hwa] at sb n1 n2 ⊢
     rw [hH] at sb n1 n2 ⊢
     obtain ⟨H2, hH2⟩ : ∃ k, H + 1 = k := ⟨_, rfl⟩
     rw [hH2] at n2 ⊢
     clear hwa
     have c0 := n1.cell 0
     have c1 := n1.cell 1
     have c2 := n1.cell 2
     have c3 := n1.cell 3
     have c4 := n1.cell 4
     have f0 := n1.frozen 0
     have f1 := n1.frozen 1
     have f2 := n1.frozen 2
     have f3 := n1.frozen 3
     have f4 := n1.frozen 4
     have N2 := Lib.hid (And.intro n1 n2)
     clear n1 n2
     refine wpAnyH_ready (rs := [12]) (by kernel_rfl) (by simp) ?_
     refine AllReadyH.cons (o := _) rfl (fun K hK => ?_) AllReadyH.nil
     go_simp
     have sb2 : Below H wr (((((wa.setCell ⟨H, 0, none⟩ (.int .i64 e.k)).setCell ⟨H, 1, none⟩ (.string e.x)).setCell ⟨H, 2, none⟩ (.slice adA nA cA)).setCell ⟨H, 3, none⟩ (.slice adK nK cK)).setCell ⟨H, 4, none⟩ (.int .i64 (e.at_ : Int))) := below_put5 sb (by omega) _ _ _ _ _
     refine hK.out _ _ sb2 (fun hHeld => ?_)
     clear hK K
     try simp only [Act.put, List.setIfInBounds_toArray, List.set_cons_zero, List.set_cons_succ]
     clear c0 c1 c2 c3 c4 f0 f1 f2 f3 f4
     have x1 := N2.out.1.put5 (.int .i64 e.k) (.string e.x) (.slice adA nA cA) (.slice adK nK cK) (.int .i64 (e.at_ : Int))
     have y1 := N2.out.2.far5 (B := H) (by omega) (.int .i64 e.k) (.string e.x) (.slice adA nA cA) (.slice adK nK cK) (.int .i64 (e.at_ : Int))
     obtain ⟨wb, hwb⟩ : ∃ wb, (((((wa.setCell ⟨H, 0, none⟩ (.int .i64 e.k)).setCell ⟨H, 1, none⟩ (.string e.x)).setCell ⟨H, 2, none⟩ (.slice adA nA cA)).setCell ⟨H, 3, none⟩ (.slice adK nK cK)).setCell ⟨H, 4, none⟩ (.int .i64 (e.at_ : Int))) = wb := ⟨_, rfl⟩
     rw [hwb] at x1 y1 sb2 ⊢
     clear hwb
     have c0 := y1.cell 0
     have c1 := y1.cell 1
     have c2 := y1.cell 2
     have c3 := y1.cell 3
     have c4 := y1.cell 4
     have f0 := y1.frozen 0
     have f1 := y1.frozen 1
     have f2 := y1.frozen 2
     have f3 := y1.frozen 3
     have f4 := y1.frozen 4
     have HXY := Lib.hid (And.intro x1 y1)
     clear x1 y1
     refine wpAnyH_ready (rs := [13]) (by kernel_rfl) (by simp) ?_
     refine AllReadyH.cons (o := _) rfl (fun K hK => ?_) AllReadyH.nil
     go_simp
     have sb3 : Below H wr (((((wb.setCell ⟨H2, 0, none⟩ (.int .i64 e.k)).setCell ⟨H2, 1, none⟩ (.string e.x)).setCell ⟨H2, 2, none⟩ (.slice adA2 nA cA2)).setCell ⟨H2, 3, none⟩ (.slice adK2 nK cK2)).setCell ⟨H2, 4, none⟩ (.int .i64 (e2.at_ : Int))) := below_put5 sb2 (by omega) _ _ _ _ _
     refine hK.out _ _ sb3 (fun hHeld => ?_)
     clear hK K
     try simp only [Act.put, List.setIfInBounds_toArray, List.set_cons_zero, List.set_cons_succ]
     have x2 := HXY.out.1.far5 (B := H2) (by omega) (.int .i64 e.k) (.string e.x) (.slice adA2 nA cA2) (.slice adK2 nK cK2) (.int .i64 (e2.at_ : Int))
     have y2 := HXY.out.2.put5 (.int .i64 e.k) (.string e.x) (.slice adA2 nA cA2) (.slice adK2 nK cK2) (.int .i64 (e2.at_ : Int))
     obtain ⟨wc, hwc⟩ : ∃ wc, (((((wb.setCell ⟨H2, 0, none⟩ (.int .i64 e.k)).setCell ⟨H2, 1, none⟩ (.string e.x)).setCell ⟨H2, 2, none⟩ (.slice adA2 nA cA2)).setCell ⟨H2, 3, none⟩ (.slice adK2 nK cK2)).setCell ⟨H2, 4, none⟩ (.int .i64 (e2.at_ : Int))) = wc := ⟨_, rfl⟩
     rw [hwc] at x2 y2 sb3 ⊢
     clear hwc
     refine wpAnyH_done (by kernel_rfl) ?_ _
     exact AFTER wc H H2 ⟨x2, y2, by rw [hH]; exact sb3⟩
    ·refine AllReadyH.cons (o := _) rfl (fun K hK => ?_) AllReadyH.nil
     go_simp
     refine hK.out _ _ (((Below.refl _ wr).drew).alloc (Nat.le_refl _) _) (fun hHeld => ?_)
     clear hK K
     try simp only [Act.put, List.setIfInBounds_toArray, List.set_cons_zero, List.set_cons_succ]
     refine wpAnyH_ready (rs := [10]) (by kernel_rfl) (by simp) ?_
     refine AllReadyH.cons (o := _) rfl (fun K hK => ?_) AllReadyH.nil
     have sb : Below wr.heap.size wr ((wr.alloc (.cells #[.int .i64 0, .string ⟨#[]⟩, .slice none 0 0, .slice none 0 0, .int .i64 0] 38)).alloc (.cells #[.int .i64 0, .string ⟨#[]⟩, .slice none 0 0, .slice none 0 0, .int .i64 0] 38)).drew := ((((Below.refl wr.heap.size wr)).alloc (Nat.le_refl _) (.cells #[.int .i64 0, .string ⟨#[]⟩, .slice none 0 0, .slice none 0 0, .int .i64 0] 38)).alloc (by simp) (.cells #[.int .i64 0, .string ⟨#[]⟩, .slice none 0 0, .slice none 0 0, .int .i64 0] 38)).drew
     have n1 : Blk ((wr.alloc (.cells #[.int .i64 0, .string ⟨#[]⟩, .slice none 0 0, .slice none 0 0, .int .i64 0] 38)).alloc (.cells #[.int .i64 0, .string ⟨#[]⟩, .slice none 0 0, .slice none 0 0, .int .i64 0] 38)).drew wr.heap.size #[.int .i64 0, .string ⟨#[]⟩, .slice none 0 0, .slice none 0 0, .int .i64 0] 38 := show Blk _ _ _ _ from (Blk.new wr #[.int .i64 0, .string ⟨#[]⟩, .slice none 0 0, .slice none 0 0, .int .i64 0] 38).alloc (.cells #[.int .i64 0, .string ⟨#[]⟩, .slice none 0 0, .slice none 0 0, .int .i64 0] 38)
     have n2 : Blk ((wr.alloc (.cells #[.int .i64 0, .string ⟨#[]⟩, .slice none 0 0, .slice none 0 0, .int .i64 0] 38)).alloc (.cells #[.int .i64 0, .string ⟨#[]⟩, .slice none 0 0, .slice none 0 0, .int .i64 0] 38)).drew (wr.heap.size + 1) #[.int .i64 0, .string ⟨#[]⟩, .slice none 0 0, .slice none 0 0, .int .i64 0] 38 := by
      have := Blk.new (wr.alloc (.cells #[.int .i64 0, .string ⟨#[]⟩, .slice none 0 0, .slice none 0 0, .int .i64 0] 38)) #[.int .i64 0, .string ⟨#[]⟩, .slice none 0 0, .slice none 0 0, .int .i64 0] 38
      have hz : (wr.alloc (.cells #[.int .i64 0, .string ⟨#[]⟩, .slice none 0 0, .slice none 0 0, .int .i64 0] 38)).heap.size = wr.heap.size + 1 := by simp
      rw [hz] at this
      exact this
     go_simp
     refine hK.out _ _ sb (fun hHeld => ?_)
     clear hK K
     try simp only [Act.put, List.setIfInBounds_toArray, List.set_cons_zero, List.set_cons_succ]
     obtain ⟨wa, hwa⟩ : ∃ wa, ((wr.alloc (.cells #[.int .i64 0, .string ⟨#[]⟩, .slice none 0 0, .slice none 0 0, .int .i64 0] 38)).alloc (.cells #[.int .i64 0, .string ⟨#[]⟩, .slice none 0 0, .slice none 0 0, .int .i64 0] 38)).drew = wa := ⟨_, rfl⟩
     rw [hwa] at sb n1 n2 ⊢
     rw [hH] at sb n1 n2 ⊢
     obtain ⟨H2, hH2⟩ : ∃ k, H + 1 = k := ⟨_, rfl⟩
     rw [hH2] at n2 ⊢
     clear hwa
     have c0 := n2.cell 0
     have c1 := n2.cell 1
     have c2 := n2.cell 2
     have c3 := n2.cell 3
     have c4 := n2.cell 4
     have f0 := n2.frozen 0
     have f1 := n2.frozen 1
     have f2 := n2.frozen 2
     have f3 := n2.frozen 3
     have f4 := n2.frozen 4
     have N2 := Lib.hid (And.intro n1 n2)
     clear n1 n2
     refine wpAnyH_ready (rs := [12]) (by kernel_rfl) (by simp) ?_
     refine AllReadyH.cons (o := _) rfl (fun K hK => ?_) AllReadyH.nil
     go_simp
     have sb2 : Below H wr (((((wa.setCell ⟨H2, 0, none⟩ (.int .i64 e.k)).setCell ⟨H2, 1, none⟩ (.string e.x)).setCell ⟨H2, 2, none⟩ (.slice adA nA cA)).setCell ⟨H2, 3, none⟩ (.slice adK nK cK)).setCell ⟨H2, 4, none⟩ (.int .i64 (e.at_ : Int))) := below_put5 sb (by omega) _ _ _ _ _
     refine hK.out _ _ sb2 (fun hHeld => ?_)
     clear hK K
     try simp only [Act.put, List.setIfInBounds_toArray, List.set_cons_zero, List.set_cons_succ]
     clear c0 c1 c2 c3 c4 f0 f1 f2 f3 f4
     have x1 := N2.out.2.put5 (.int .i64 e.k) (.string e.x) (.slice adA nA cA) (.slice adK nK cK) (.int .i64 (e.at_ : Int))
     have y1 := N2.out.1.far5 (B := H2) (by omega) (.int .i64 e.k) (.string e.x) (.slice adA nA cA) (.slice adK nK cK) (.int .i64 (e.at_ : Int))
     obtain ⟨wb, hwb⟩ : ∃ wb, (((((wa.setCell ⟨H2, 0, none⟩ (.int .i64 e.k)).setCell ⟨H2, 1, none⟩ (.string e.x)).setCell ⟨H2, 2, none⟩ (.slice adA nA cA)).setCell ⟨H2, 3, none⟩ (.slice adK nK cK)).setCell ⟨H2, 4, none⟩ (.int .i64 (e.at_ : Int))) = wb := ⟨_, rfl⟩
     rw [hwb] at x1 y1 sb2 ⊢
     clear hwb
     have c0 := y1.cell 0
     have c1 := y1.cell 1
     have c2 := y1.cell 2
     have c3 := y1.cell 3
     have c4 := y1.cell 4
     have f0 := y1.frozen 0
     have f1 := y1.frozen 1
     have f2 := y1.frozen 2
     have f3 := y1.frozen 3
     have f4 := y1.frozen 4
     have HXY := Lib.hid (And.intro x1 y1)
     clear x1 y1
     refine wpAnyH_ready (rs := [13]) (by kernel_rfl) (by simp) ?_
     refine AllReadyH.cons (o := _) rfl (fun K hK => ?_) AllReadyH.nil
     go_simp
     have sb3 : Below H wr (((((wb.setCell ⟨H, 0, none⟩ (.int .i64 e.k)).setCell ⟨H, 1, none⟩ (.string e.x)).setCell ⟨H, 2, none⟩ (.slice adA2 nA cA2)).setCell ⟨H, 3, none⟩ (.slice adK2 nK cK2)).setCell ⟨H, 4, none⟩ (.int .i64 (e2.at_ : Int))) := below_put5 sb2 (by omega) _ _ _ _ _
     refine hK.out _ _ sb3 (fun hHeld => ?_)
     clear hK K
     try simp only [Act.put, List.setIfInBounds_toArray, List.set_cons_zero, List.set_cons_succ]
     have x2 := HXY.out.1.far5 (B := H) (by omega) (.int .i64 e.k) (.string e.x) (.slice adA2 nA cA2) (.slice adK2 nK cK2) (.int .i64 (e2.at_ : Int))
     have y2 := HXY.out.2.put5 (.int .i64 e.k) (.string e.x) (.slice adA2 nA cA2) (.slice adK2 nK cK2) (.int .i64 (e2.at_ : Int))
     obtain ⟨wc, hwc⟩ : ∃ wc, (((((wb.setCell ⟨H, 0, none⟩ (.int .i64 e.k)).setCell ⟨H, 1, none⟩ (.string e.x)).setCell ⟨H, 2, none⟩ (.slice adA2 nA cA2)).setCell ⟨H, 3, none⟩ (.slice adK2 nK cK2)).setCell ⟨H, 4, none⟩ (.int .i64 (e2.at_ : Int))) = wc := ⟨_, rfl⟩
     rw [hwc] at x2 y2 sb3 ⊢
     clear hwc
     refine wpAnyH_done (by kernel_rfl) ?_ _
     exact AFTER wc H2 H ⟨x2, y2, by rw [hH]; exact sb3⟩
   case later =>
    rintro w5 p q ⟨hx, hy, hb⟩
    obtain ⟨hra, hra2, hrk, hrk2⟩ := HRW.out
    obtain ⟨hlk, hnA, hnK, hsm⟩ := HEE.out
    have x0 := hx.cell 0
    have x1 := hx.cell 1
    have x2 := hx.cell 2
    have y0 := hy.cell 0
    have y1 := hy.cell 1
    have y2 := hy.cell 2
    have HI5 := Lib.hid (ints_same (hra.below hb) (hra2.below hb) hnA (by rw [← hnA]; exact hsm.1))
    have HK5 : Hid (∀ w', Below w5.heap.size w5 w' → Calls Tryz.prog 22 #[.slice adK nK cK, .slice adK2 nK cK2] w' fun e w'' => e = .returned (.bool true) ∧ Below w'.heap.size w' w'') := Lib.hid (fun w' hw => texts_same ((hrk.below hb).below hw) ((hrk2.below hb).below hw) hnK (by rw [← hnK]; exact hsm.2))
    have HX := Lib.hid (And.intro hx (And.intro hy hb))
    have HAT := Lib.hid hlk
    clear hx hy hb hra hra2 hrk hrk2 hlk hnA hnK hsm r0 r1 r2 r3 r4 s0 s1 s2 s3 s4 k1 k2
    go_wp2_with fail
    go_at_call 21; refine HI5.out.mono ?_; rintro r w6 ⟨rfl, hb6⟩
    have HB6 := Lib.hid hb6
    have x3 := (HX.out.1.below hb6).cell 3
    have y3 := (HX.out.2.1.below hb6).cell 3
    have HK6 := Lib.hid (HK5.out w6 hb6)
    clear hb6 HI5 HK5
    go_wp2_with fail
    go_at_call 22; refine HK6.out.mono ?_; rintro r w7 ⟨rfl, hb7⟩
    have x4 := ((HX.out.1.below HB6.out).below hb7).cell 4
    have y4 := ((HX.out.2.1.below HB6.out).below hb7).cell 4
    skip
    have hsz5 := HX.out.2.2.size
    have hsz6 := HB6.out.size
    have hszi := HBi.out.size
    have HB7 := Lib.hid (HBi.out.trans ((HX.out.2.2.mono hszi).trans ((HB6.out.mono (by omega)).trans (hb7.mono (by omega)))))
    clear hb7 HK6
    go_wp2_with fail
    go_roundg g'
    case measure => omega
    case rel => exact ⟨i + 1, by push_cast; rfl, HB7, by omega⟩
  ·have q1 : ¬ (i : Int) < (nE : Int) := by omega
   have k3 := (HP.out.1.below HBi.out).cell 1
   have HB4 := Lib.hid HBi.out
   clear HBi
   go_wp2_with fail
   clear k3
   go_loopg [96] (nB + 1) (fun gf s96 wx => ∃ i : Nat, s96 = .int .i64 (i : Int) ∧ Hid (Below W2.heap.size W2 wx) ∧ i + gf = nB + 1)
   case atStart => exact ⟨0, rfl, HB4, by omega⟩
   case round =>
    obtain ⟨i, rfl, HBi, hgf⟩ := hrel
    clear HB4
    by_cases hi : i < nB
    ·obtain ⟨g', rfl⟩ : ∃ g', gk = g' + 1 := ⟨gk - 1, by omega⟩
     rcases HF.out.2.2.1 with h0 | ⟨gE, cE2, e0, hcE, hxs⟩
     ·omega
     rcases HF.out.2.2.2 with h0 | ⟨gE2, cE3, e3, hcE2, hxs2⟩
     ·omega
     cases e0
     cases e3
     obtain ⟨b, he⟩ : ∃ e, f.blocks[i]? = some e := ⟨_, List.getElem?_eq_getElem (by rw [HN.out.2.1]; exact hi)⟩
     obtain ⟨b2, he2⟩ : ∃ e, f'.blocks[i]? = some e := ⟨_, List.getElem?_eq_getElem (by rw [HN'.out.2]; exact hi)⟩
     have hlk := HN.out.2.2.blocks i b b2 he he2
     have hsm := HSM.out.blocks b (List.mem_of_getElem? he)
     obtain ⟨lv, av, kv, hx⟩ := hxs i b he
     obtain ⟨lv2, av2, kv2, hx2⟩ := hxs2 i b2 he2
     have hxr := (hx.below HBW.out).below HBi.out
     have hxr2 := (hx2.below HBW.out).below HBi.out
     obtain ⟨⟨adL, cL, rfl⟩, -⟩ := hx.labels
     obtain ⟨⟨adA, cA, rfl⟩, -⟩ := hx.attrs
     obtain ⟨⟨adK, cK, rfl⟩, -⟩ := hx.blocks
     obtain ⟨⟨adL2, cL2, rfl⟩, -⟩ := hx2.labels
     obtain ⟨⟨adA2, cA2, rfl⟩, -⟩ := hx2.attrs
     obtain ⟨⟨adK2, cK2, rfl⟩, -⟩ := hx2.blocks
     have hra := hxr.attrs
     have hrk := hxr.blocks
     have hrl := hxr.labels
     have hra2 := hxr2.attrs
     have hrk2 := hxr2.blocks
     have hrl2 := hxr2.labels
     have r0 := hxr.c_t
     have r1 := hxr.c_lv
     have r2 := hxr.c_av
     have r3 := hxr.c_bv
     have r4 := hxr.c_at_
     have s0 := hxr2.c_t
     have s1 := hxr2.c_lv
     have s2 := hxr2.c_av
     have s3 := hxr2.c_bv
     have s4 := hxr2.c_at_
     rw [← hlk.t] at s0
     rw [← hlk.labels] at hrl2 s1
     rw [← hlk.blocks] at hrk2 s3
     rw [← hlk.len] at hra2 s2
     obtain ⟨nL, hnL⟩ : ∃ n, b.labels.length = n := ⟨_, rfl⟩
     obtain ⟨nA, hnA⟩ : ∃ n, b.attrs.length = n := ⟨_, rfl⟩
     obtain ⟨nK, hnK⟩ : ∃ n, b.blocks.length = n := ⟨_, rfl⟩
     rw [hnL] at hrl hrl2 r1 s1
     rw [hnA] at hra hra2 r2 s2
     rw [hnK] at hrk hrk2 r3 s3
     have k1 := (HP.out.1.below HBi.out).cell 1
     have k2 := (HP.out.2.below HBi.out).cell 1
     have q1 : (i : Int) < (nB : Int) := by omega
     have q0 : (0 : Int) ≤ (i : Int) := by omega
     have hnA2 : nA ≤ 9223372036854775807 := by rw [← hnA]; exact hsm.2.1
     have hnA3 : b2.attrs.length = nA := by rw [← hlk.len]; exact hnA
     have HRW := Lib.hid (And.intro hrl (And.intro hrl2 (And.intro hrk hrk2)))
     have HRA := Lib.hid (And.intro hra (And.intro hra2 (And.intro hnA hnA3)))
     have HEE := Lib.hid (And.intro hlk (And.intro hnL (And.intro hnK hsm)))
     clear hra hra2 hrk hrk2 hrl hrl2 hlk hsm hx hx2 hxr hxr2 hxs hxs2 he he2 hnA hnK hnL hnA3
     go_wp2_with fail
     refine have AFTER : (∀ (w' : World) (p q : Nat), (Blk w' p #[.string b.t, .slice adL nL cL, .slice adA nA cA, .slice adK nK cK, .int .i64 (b.at_ : Int)] 41 ∧ Blk w' q #[.string b.t, .slice adL2 nL cL2, .slice adA2 nA cA2, .slice adK2 nK cK2, .int .i64 (b2.at_ : Int)] 41 ∧ Below wr.heap.size wr w') → (?G2 : World → Nat → Nat → Prop) w' p q) := ?later2; ?main2
     case main2 =>
      obtain ⟨H, hH⟩ : ∃ H, wr.heap.size = H := ⟨_, rfl⟩
      refine wp_region_held_drew (S := fun w' => Below wr.heap.size wr w') (by kernel_rfl) ((Below.refl _ wr).drew) (fun hHeld => ?_)
      refine wpAnyH_take (i := 0) (v := ?p_v0) rfl (by kernel_rfl) (by kernel_rfl) (by kernel_rfl) (fun _ _ _ h => h) (Or.inl ⟨by rfl, ?p_y0⟩) (by assumption) ?p_r0
      case p_y0 => (intro w s; have k := @cells_keep _ _ s; have z1 := k k1; have z2 := k k2; have z3 := k r0; have z4 := k r1; have z5 := k r2; have z6 := k r3; have z7 := k r4; have z8 := k s0; have z9 := k s1; have y0 := k s2; have y1 := k s3; have y2 := k s4; clear s k; go_simp; (try with_reducible rfl))
      try simp only [List.getElem_toArray, List.getElem_cons_succ, List.getElem_cons_zero]
      try simp only [Act.put, List.setIfInBounds_toArray, List.set_cons_zero, List.set_cons_succ]
      refine wpAnyH_take (i := 1) (v := ?p_v1) rfl (by kernel_rfl) (by kernel_rfl) (by kernel_rfl) (fun _ _ _ h => h) (Or.inl ⟨by rfl, ?p_y1⟩) (by assumption) ?p_r1
      case p_y1 => (intro w s; have k := @cells_keep _ _ s; have z1 := k k1; have z2 := k k2; have z3 := k r0; have z4 := k r1; have z5 := k r2; have z6 := k r3; have z7 := k r4; have z8 := k s0; have z9 := k s1; have y0 := k s2; have y1 := k s3; have y2 := k s4; clear s k; go_simp; (try with_reducible rfl))
      try simp only [List.getElem_toArray, List.getElem_cons_succ, List.getElem_cons_zero]
      try simp only [Act.put, List.setIfInBounds_toArray, List.set_cons_zero, List.set_cons_succ]
      refine wpAnyH_take (i := 2) (v := ?p_v2) rfl (by kernel_rfl) (by kernel_rfl) (by kernel_rfl) (fun _ _ _ h => h) (Or.inl ⟨by rfl, ?p_y2⟩) (by assumption) ?p_r2
      case p_y2 => (intro w s; have k := @cells_keep _ _ s; have z1 := k k1; have z2 := k k2; have z3 := k r0; have z4 := k r1; have z5 := k r2; have z6 := k r3; have z7 := k r4; have z8 := k s0; have z9 := k s1; have y0 := k s2; have y1 := k s3; have y2 := k s4; clear s k; go_simp; (try with_reducible rfl))
      try simp only [List.getElem_toArray, List.getElem_cons_succ, List.getElem_cons_zero]
      try simp only [Act.put, List.setIfInBounds_toArray, List.set_cons_zero, List.set_cons_succ]
      refine wpAnyH_take (i := 3) (v := ?p_v3) rfl (by kernel_rfl) (by kernel_rfl) (by kernel_rfl) (fun _ _ _ h => h) (Or.inl ⟨by rfl, ?p_y3⟩) (by assumption) ?p_r3
      case p_y3 => (intro w s; have k := @cells_keep _ _ s; have z1 := k k1; have z2 := k k2; have z3 := k r0; have z4 := k r1; have z5 := k r2; have z6 := k r3; have z7 := k r4; have z8 := k s0; have z9 := k s1; have y0 := k s2; have y1 := k s3; have y2 := k s4; clear s k; go_simp; (try with_reducible rfl))
      try simp only [List.getElem_toArray, List.getElem_cons_succ, List.getElem_cons_zero]
      try simp only [Act.put, List.setIfInBounds_toArray, List.set_cons_zero, List.set_cons_succ]
      refine wpAnyH_take (i := 4) (v := ?p_v4) rfl (by kernel_rfl) (by kernel_rfl) (by kernel_rfl) (fun _ _ _ h => h) (Or.inl ⟨by rfl, ?p_y4⟩) (by assumption) ?p_r4
      case p_y4 => (intro w s; have k := @cells_keep _ _ s; have z1 := k k1; have z2 := k k2; have z3 := k r0; have z4 := k r1; have z5 := k r2; have z6 := k r3; have z7 := k r4; have z8 := k s0; have z9 := k s1; have y0 := k s2; have y1 := k s3; have y2 := k s4; clear s k; go_simp; (try with_reducible rfl))
      try simp only [List.getElem_toArray, List.getElem_cons_succ, List.getElem_cons_zero]
      try simp only [Act.put, List.setIfInBounds_toArray, List.set_cons_zero, List.set_cons_succ]
      refine wpAnyH_take (i := 5) (v := ?p_v5) rfl (by kernel_rfl) (by kernel_rfl) (by kernel_rfl) (fun _ _ _ h => h) (Or.inl ⟨by rfl, ?p_y5⟩) (by assumption) ?p_r5
      case p_y5 => (intro w s; have k := @cells_keep _ _ s; have z1 := k k1; have z2 := k k2; have z3 := k r0; have z4 := k r1; have z5 := k r2; have z6 := k r3; have z7 := k r4; have z8 := k s0; have z9 := k s1; have y0 := k s2; have y1 := k s3; have y2 := k s4; clear s k; go_simp; (try with_reducible rfl))
      try simp only [List.getElem_toArray, List.getElem_cons_succ, List.getElem_cons_zero]
      try simp only [Act.put, List.setIfInBounds_toArray, List.set_cons_zero, List.set_cons_succ]
      refine wpAnyH_take (i := 6) (v := ?p_v6) rfl (by kernel_rfl) (by kernel_rfl) (by kernel_rfl) (fun _ _ _ h => h) (Or.inl ⟨by rfl, ?p_y6⟩) (by assumption) ?p_r6
      case p_y6 => (intro w s; have k := @cells_keep _ _ s; have z1 := k k1; have z2 := k k2; have z3 := k r0; have z4 := k r1; have z5 := k r2; have z6 := k r3; have z7 := k r4; have z8 := k s0; have z9 := k s1; have y0 := k s2; have y1 := k s3; have y2 := k s4; clear s k; go_simp; (try with_reducible rfl))
      try simp only [List.getElem_toArray, List.getElem_cons_succ, List.getElem_cons_zero]
      try simp only [Act.put, List.setIfInBounds_toArray, List.set_cons_zero, List.set_cons_succ]
      refine wpAnyH_take (i := 7) (v := ?p_v7) rfl (by kernel_rfl) (by kernel_rfl) (by kernel_rfl) (fun _ _ _ h => h) (Or.inl ⟨by rfl, ?p_y7⟩) (by assumption) ?p_r7
      case p_y7 => (intro w s; have k := @cells_keep _ _ s; have z1 := k k1; have z2 := k k2; have z3 := k r0; have z4 := k r1; have z5 := k r2; have z6 := k r3; have z7 := k r4; have z8 := k s0; have z9 := k s1; have y0 := k s2; have y1 := k s3; have y2 := k s4; clear s k; go_simp; (try with_reducible rfl))
      try simp only [List.getElem_toArray, List.getElem_cons_succ, List.getElem_cons_zero]
      try simp only [Act.put, List.setIfInBounds_toArray, List.set_cons_zero, List.set_cons_succ]
      refine wpAnyH_take (i := 8) (v := ?p_v8) rfl (by kernel_rfl) (by kernel_rfl) (by kernel_rfl) (fun _ _ _ h => h) (Or.inl ⟨by rfl, ?p_y8⟩) (by assumption) ?p_r8
      case p_y8 => (intro w s; have k := @cells_keep _ _ s; have z1 := k k1; have z2 := k k2; have z3 := k r0; have z4 := k r1; have z5 := k r2; have z6 := k r3; have z7 := k r4; have z8 := k s0; have z9 := k s1; have y0 := k s2; have y1 := k s3; have y2 := k s4; clear s k; go_simp; (try with_reducible rfl))
      try simp only [List.getElem_toArray, List.getElem_cons_succ, List.getElem_cons_zero]
      try simp only [Act.put, List.setIfInBounds_toArray, List.set_cons_zero, List.set_cons_succ]
      refine wpAnyH_take (i := 9) (v := ?p_v9) rfl (by kernel_rfl) (by kernel_rfl) (by kernel_rfl) (fun _ _ _ h => h) (Or.inl ⟨by rfl, ?p_y9⟩) (by assumption) ?p_r9
      case p_y9 => (intro w s; have k := @cells_keep _ _ s; have z1 := k k1; have z2 := k k2; have z3 := k r0; have z4 := k r1; have z5 := k r2; have z6 := k r3; have z7 := k r4; have z8 := k s0; have z9 := k s1; have y0 := k s2; have y1 := k s3; have y2 := k s4; clear s k; go_simp; (try with_reducible rfl))
      try simp only [List.getElem_toArray, List.getElem_cons_succ, List.getElem_cons_zero]
      try simp only [Act.put, List.setIfInBounds_toArray, List.set_cons_zero, List.set_cons_succ]
      refine wpAnyH_ready (rs := [10, 11]) (by kernel_rfl) (by simp) ?_
      refine AllReadyH.cons (o := _) rfl (fun K hK => ?_) ?_
      ·skip
       go_simp
       refine hK.out _ _ (((Below.refl _ wr).drew).alloc (Nat.le_refl _) _) (fun hHeld => ?_)
       clear hK K
       try simp only [Act.put, List.setIfInBounds_toArray, List.set_cons_zero, List.set_cons_succ]
       refine wpAnyH_ready (rs := [11]) (by kernel_rfl) (by simp) ?_
       refine AllReadyH.cons (o := _) rfl (fun K hK => ?_) AllReadyH.nil
       have sb : Below wr.heap.size wr ((wr.alloc (.cells #[.string ⟨#[]⟩, .slice none 0 0, .slice none 0 0, .slice none 0 0, .int .i64 0] 41)).alloc (.cells #[.string ⟨#[]⟩, .slice none 0 0, .slice none 0 0, .slice none 0 0, .int .i64 0] 41)).drew := ((((Below.refl wr.heap.size wr)).alloc (Nat.le_refl _) (.cells #[.string ⟨#[]⟩, .slice none 0 0, .slice none 0 0, .slice none 0 0, .int .i64 0] 41)).alloc (by simp) (.cells #[.string ⟨#[]⟩, .slice none 0 0, .slice none 0 0, .slice none 0 0, .int .i64 0] 41)).drew
       have n1 : Blk ((wr.alloc (.cells #[.string ⟨#[]⟩, .slice none 0 0, .slice none 0 0, .slice none 0 0, .int .i64 0] 41)).alloc (.cells #[.string ⟨#[]⟩, .slice none 0 0, .slice none 0 0, .slice none 0 0, .int .i64 0] 41)).drew wr.heap.size #[.string ⟨#[]⟩, .slice none 0 0, .slice none 0 0, .slice none 0 0, .int .i64 0] 41 := show Blk _ _ _ _ from (Blk.new wr #[.string ⟨#[]⟩, .slice none 0 0, .slice none 0 0, .slice none 0 0, .int .i64 0] 41).alloc (.cells #[.string ⟨#[]⟩, .slice none 0 0, .slice none 0 0, .slice none 0 0, .int .i64 0] 41)
       have n2 : Blk ((wr.alloc (.cells #[.string ⟨#[]⟩, .slice none 0 0, .slice none 0 0, .slice none 0 0, .int .i64 0] 41)).alloc (.cells #[.string ⟨#[]⟩, .slice none 0 0, .slice none 0 0, .slice none 0 0, .int .i64 0] 41)).drew (wr.heap.size + 1) #[.string ⟨#[]⟩, .slice none 0 0, .slice none 0 0, .slice none 0 0, .int .i64 0] 41 := by
        have := Blk.new (wr.alloc (.cells #[.string ⟨#[]⟩, .slice none 0 0, .slice none 0 0, .slice none 0 0, .int .i64 0] 41)) #[.string ⟨#[]⟩, .slice none 0 0, .slice none 0 0, .slice none 0 0, .int .i64 0] 41
        have hz : (wr.alloc (.cells #[.string ⟨#[]⟩, .slice none 0 0, .slice none 0 0, .slice none 0 0, .int .i64 0] 41)).heap.size = wr.heap.size + 1 := by simp
        rw [hz] at this
        exact this
       go_simp
       refine hK.out _ _ sb (fun hHeld => ?_)
       clear hK K
       try simp only [Act.put, List.setIfInBounds_toArray, List.set_cons_zero, List.set_cons_succ]
       obtain ⟨wa, hwa⟩ : ∃ wa, ((wr.alloc (.cells #[.string ⟨#[]⟩, .slice none 0 0, .slice none 0 0, .slice none 0 0, .int .i64 0] 41)).alloc (.cells #[.string ⟨#[]⟩, .slice none 0 0, .slice none 0 0, .slice none 0 0, .int .i64 0] 41)).drew = wa := ⟨_, rfl⟩
       rw [hwa] at sb n1 n2 ⊢
       rw [hH] at sb n1 n2 ⊢
       obtain ⟨H2, hH2⟩ : ∃ k, H + 1 = k := ⟨_, rfl⟩
       rw [hH2] at n2 ⊢
       clear hwa
       have c0 := n1.cell 0
       have c1 := n1.cell 1
       have c2 := n1.cell 2
       have c3 := n1.cell 3
       have c4 := n1.cell 4
       have f0 := n1.frozen 0
       have f1 := n1.frozen 1
       have f2 := n1.frozen 2
       have f3 := n1.frozen 3
       have f4 := n1.frozen 4
       have N2 := Lib.hid (And.intro n1 n2)
       clear n1 n2
       refine wpAnyH_ready (rs := [12]) (by kernel_rfl) (by simp) ?_
       refine AllReadyH.cons (o := _) rfl (fun K hK => ?_) AllReadyH.nil
       go_simp
       have sb2 : Below H wr (((((wa.setCell ⟨H, 0, none⟩ (.string b.t)).setCell ⟨H, 1, none⟩ (.slice adL nL cL)).setCell ⟨H, 2, none⟩ (.slice adA nA cA)).setCell ⟨H, 3, none⟩ (.slice adK nK cK)).setCell ⟨H, 4, none⟩ (.int .i64 (b.at_ : Int))) := below_put5 sb (by omega) _ _ _ _ _
       refine hK.out _ _ sb2 (fun hHeld => ?_)
       clear hK K
       try simp only [Act.put, List.setIfInBounds_toArray, List.set_cons_zero, List.set_cons_succ]
       clear c0 c1 c2 c3 c4 f0 f1 f2 f3 f4
       have x1 := N2.out.1.put5 (.string b.t) (.slice adL nL cL) (.slice adA nA cA) (.slice adK nK cK) (.int .i64 (b.at_ : Int))
       have y1 := N2.out.2.far5 (B := H) (by omega) (.string b.t) (.slice adL nL cL) (.slice adA nA cA) (.slice adK nK cK) (.int .i64 (b.at_ : Int))
       obtain ⟨wb, hwb⟩ : ∃ wb, (((((wa.setCell ⟨H, 0, none⟩ (.string b.t)).setCell ⟨H, 1, none⟩ (.slice adL nL cL)).setCell ⟨H, 2, none⟩ (.slice adA nA cA)).setCell ⟨H, 3, none⟩ (.slice adK nK cK)).setCell ⟨H, 4, none⟩ (.int .i64 (b.at_ : Int))) = wb := ⟨_, rfl⟩
       rw [hwb] at x1 y1 sb2 ⊢
       clear hwb
       have c0 := y1.cell 0
       have c1 := y1.cell 1
       have c2 := y1.cell 2
       have c3 := y1.cell 3
       have c4 := y1.cell 4
       have f0 := y1.frozen 0
       have f1 := y1.frozen 1
       have f2 := y1.frozen 2
       have f3 := y1.frozen 3
       have f4 := y1.frozen 4
       have HXY := Lib.hid (And.intro x1 y1)
       clear x1 y1
       refine wpAnyH_ready (rs := [13]) (by kernel_rfl) (by simp) ?_
       refine AllReadyH.cons (o := _) rfl (fun K hK => ?_) AllReadyH.nil
       go_simp
       have sb3 : Below H wr (((((wb.setCell ⟨H2, 0, none⟩ (.string b.t)).setCell ⟨H2, 1, none⟩ (.slice adL2 nL cL2)).setCell ⟨H2, 2, none⟩ (.slice adA2 nA cA2)).setCell ⟨H2, 3, none⟩ (.slice adK2 nK cK2)).setCell ⟨H2, 4, none⟩ (.int .i64 (b2.at_ : Int))) := below_put5 sb2 (by omega) _ _ _ _ _
       refine hK.out _ _ sb3 (fun hHeld => ?_)
       clear hK K
       try simp only [Act.put, List.setIfInBounds_toArray, List.set_cons_zero, List.set_cons_succ]
       have x2 := HXY.out.1.far5 (B := H2) (by omega) (.string b.t) (.slice adL2 nL cL2) (.slice adA2 nA cA2) (.slice adK2 nK cK2) (.int .i64 (b2.at_ : Int))
       have y2 := HXY.out.2.put5 (.string b.t) (.slice adL2 nL cL2) (.slice adA2 nA cA2) (.slice adK2 nK cK2) (.int .i64 (b2.at_ : Int))
       obtain ⟨wc, hwc⟩ : ∃ wc, (((((wb.setCell ⟨H2, 0, none⟩ (.string b.t)).setCell ⟨H2, 1, none⟩ (.slice adL2 nL cL2)).setCell ⟨H2, 2, none⟩ (.slice adA2 nA cA2)).setCell ⟨H2, 3, none⟩ (.slice adK2 nK cK2)).setCell ⟨H2, 4, none⟩ (.int .i64 (b2.at_ : Int))) = wc := ⟨_, rfl⟩
       rw [hwc] at x2 y2 sb3 ⊢
       clear hwc
       refine wpAnyH_done (by kernel_rfl) ?_ _
       exact AFTER wc H H2 ⟨x2, y2, by rw [hH]; exact sb3⟩
      ·refine AllReadyH.cons (o := _) rfl (fun K hK => ?_) AllReadyH.nil
       go_simp
       refine hK.out _ _ (((Below.refl _ wr).drew).alloc (Nat.le_refl _) _) (fun hHeld => ?_)
       clear hK K
       try simp only [Act.put, List.setIfInBounds_toArray, List.set_cons_zero, List.set_cons_succ]
       refine wpAnyH_ready (rs := [10]) (by kernel_rfl) (by simp) ?_
       refine AllReadyH.cons (o := _) rfl (fun K hK => ?_) AllReadyH.nil
       have sb : Below wr.heap.size wr ((wr.alloc (.cells #[.string ⟨#[]⟩, .slice none 0 0, .slice none 0 0, .slice none 0 0, .int .i64 0] 41)).alloc (.cells #[.string ⟨#[]⟩, .slice none 0 0, .slice none 0 0, .slice none 0 0, .int .i64 0] 41)).drew := ((((Below.refl wr.heap.size wr)).alloc (Nat.le_refl _) (.cells #[.string ⟨#[]⟩, .slice none 0 0, .slice none 0 0, .slice none 0 0, .int .i64 0] 41)).alloc (by simp) (.cells #[.string ⟨#[]⟩, .slice none 0 0, .slice none 0 0, .slice none 0 0, .int .i64 0] 41)).drew
       have n1 : Blk ((wr.alloc (.cells #[.string ⟨#[]⟩, .slice none 0 0, .slice none 0 0, .slice none 0 0, .int .i64 0] 41)).alloc (.cells #[.string ⟨#[]⟩, .slice none 0 0, .slice none 0 0, .slice none 0 0, .int .i64 0] 41)).drew wr.heap.size #[.string ⟨#[]⟩, .slice none 0 0, .slice none 0 0, .slice none 0 0, .int .i64 0] 41 := show Blk _ _ _ _ from (Blk.new wr #[.string ⟨#[]⟩, .slice none 0 0, .slice none 0 0, .slice none 0 0, .int .i64 0] 41).alloc (.cells #[.string ⟨#[]⟩, .slice none 0 0, .slice none 0 0, .slice none 0 0, .int .i64 0] 41)
       have n2 : Blk ((wr.alloc (.cells #[.string ⟨#[]⟩, .slice none 0 0, .slice none 0 0, .slice none 0 0, .int .i64 0] 41)).alloc (.cells #[.string ⟨#[]⟩, .slice none 0 0, .slice none 0 0, .slice none 0 0, .int .i64 0] 41)).drew (wr.heap.size + 1) #[.string ⟨#[]⟩, .slice none 0 0, .slice none 0 0, .slice none 0 0, .int .i64 0] 41 := by
        have := Blk.new (wr.alloc (.cells #[.string ⟨#[]⟩, .slice none 0 0, .slice none 0 0, .slice none 0 0, .int .i64 0] 41)) #[.string ⟨#[]⟩, .slice none 0 0, .slice none 0 0, .slice none 0 0, .int .i64 0] 41
        have hz : (wr.alloc (.cells #[.string ⟨#[]⟩, .slice none 0 0, .slice none 0 0, .slice none 0 0, .int .i64 0] 41)).heap.size = wr.heap.size + 1 := by simp
        rw [hz] at this
        exact this
       go_simp
       refine hK.out _ _ sb (fun hHeld => ?_)
       clear hK K
       try simp only [Act.put, List.setIfInBounds_toArray, List.set_cons_zero, List.set_cons_succ]
       obtain ⟨wa, hwa⟩ : ∃ wa, ((wr.alloc (.cells #[.string ⟨#[]⟩, .slice none 0 0, .slice none 0 0, .slice none 0 0, .int .i64 0] 41)).alloc (.cells #[.string ⟨#[]⟩, .slice none 0 0, .slice none 0 0, .slice none 0 0, .int .i64 0] 41)).drew = wa := ⟨_, rfl⟩
       rw [hwa] at sb n1 n2 ⊢
       rw [hH] at sb n1 n2 ⊢
       obtain ⟨H2, hH2⟩ : ∃ k, H + 1 = k := ⟨_, rfl⟩
       rw [hH2] at n2 ⊢
       clear hwa
       have c0 := n2.cell 0
       have c1 := n2.cell 1
       have c2 := n2.cell 2
       have c3 := n2.cell 3
       have c4 := n2.cell 4
       have f0 := n2.frozen 0
       have f1 := n2.frozen 1
       have f2 := n2.frozen 2
       have f3 := n2.frozen 3
       have f4 := n2.frozen 4
       have N2 := Lib.hid (And.intro n1 n2)
       clear n1 n2
       refine wpAnyH_ready (rs := [12]) (by kernel_rfl) (by simp) ?_
       refine AllReadyH.cons (o := _) rfl (fun K hK => ?_) AllReadyH.nil
       go_simp
       have sb2 : Below H wr (((((wa.setCell ⟨H2, 0, none⟩ (.string b.t)).setCell ⟨H2, 1, none⟩ (.slice adL nL cL)).setCell ⟨H2, 2, none⟩ (.slice adA nA cA)).setCell ⟨H2, 3, none⟩ (.slice adK nK cK)).setCell ⟨H2, 4, none⟩ (.int .i64 (b.at_ : Int))) := below_put5 sb (by omega) _ _ _ _ _
       refine hK.out _ _ sb2 (fun hHeld => ?_)
       clear hK K
       try simp only [Act.put, List.setIfInBounds_toArray, List.set_cons_zero, List.set_cons_succ]
       clear c0 c1 c2 c3 c4 f0 f1 f2 f3 f4
       have x1 := N2.out.2.put5 (.string b.t) (.slice adL nL cL) (.slice adA nA cA) (.slice adK nK cK) (.int .i64 (b.at_ : Int))
       have y1 := N2.out.1.far5 (B := H2) (by omega) (.string b.t) (.slice adL nL cL) (.slice adA nA cA) (.slice adK nK cK) (.int .i64 (b.at_ : Int))
       obtain ⟨wb, hwb⟩ : ∃ wb, (((((wa.setCell ⟨H2, 0, none⟩ (.string b.t)).setCell ⟨H2, 1, none⟩ (.slice adL nL cL)).setCell ⟨H2, 2, none⟩ (.slice adA nA cA)).setCell ⟨H2, 3, none⟩ (.slice adK nK cK)).setCell ⟨H2, 4, none⟩ (.int .i64 (b.at_ : Int))) = wb := ⟨_, rfl⟩
       rw [hwb] at x1 y1 sb2 ⊢
       clear hwb
       have c0 := y1.cell 0
       have c1 := y1.cell 1
       have c2 := y1.cell 2
       have c3 := y1.cell 3
       have c4 := y1.cell 4
       have f0 := y1.frozen 0
       have f1 := y1.frozen 1
       have f2 := y1.frozen 2
       have f3 := y1.frozen 3
       have f4 := y1.frozen 4
       have HXY := Lib.hid (And.intro x1 y1)
       clear x1 y1
       refine wpAnyH_ready (rs := [13]) (by kernel_rfl) (by simp) ?_
       refine AllReadyH.cons (o := _) rfl (fun K hK => ?_) AllReadyH.nil
       go_simp
       have sb3 : Below H wr (((((wb.setCell ⟨H, 0, none⟩ (.string b.t)).setCell ⟨H, 1, none⟩ (.slice adL2 nL cL2)).setCell ⟨H, 2, none⟩ (.slice adA2 nA cA2)).setCell ⟨H, 3, none⟩ (.slice adK2 nK cK2)).setCell ⟨H, 4, none⟩ (.int .i64 (b2.at_ : Int))) := below_put5 sb2 (by omega) _ _ _ _ _
       refine hK.out _ _ sb3 (fun hHeld => ?_)
       clear hK K
       try simp only [Act.put, List.setIfInBounds_toArray, List.set_cons_zero, List.set_cons_succ]
       have x2 := HXY.out.1.far5 (B := H) (by omega) (.string b.t) (.slice adL2 nL cL2) (.slice adA2 nA cA2) (.slice adK2 nK cK2) (.int .i64 (b2.at_ : Int))
       have y2 := HXY.out.2.put5 (.string b.t) (.slice adL2 nL cL2) (.slice adA2 nA cA2) (.slice adK2 nK cK2) (.int .i64 (b2.at_ : Int))
       obtain ⟨wc, hwc⟩ : ∃ wc, (((((wb.setCell ⟨H, 0, none⟩ (.string b.t)).setCell ⟨H, 1, none⟩ (.slice adL2 nL cL2)).setCell ⟨H, 2, none⟩ (.slice adA2 nA cA2)).setCell ⟨H, 3, none⟩ (.slice adK2 nK cK2)).setCell ⟨H, 4, none⟩ (.int .i64 (b2.at_ : Int))) = wc := ⟨_, rfl⟩
       rw [hwc] at x2 y2 sb3 ⊢
       clear hwc
       refine wpAnyH_done (by kernel_rfl) ?_ _
       exact AFTER wc H2 H ⟨x2, y2, by rw [hH]; exact sb3⟩
     case later2 =>
      rintro w5 p q ⟨hx, hy, hb⟩
      obtain ⟨hrl, hrl2, hrk, hrk2⟩ := HRW.out
      obtain ⟨hlk, hnL, hnK, hsm⟩ := HEE.out
      have x0 := hx.cell 0
      have x1 := hx.cell 1
      have y0 := hy.cell 0
      have y1 := hy.cell 1
      have HI5 := Lib.hid (texts_same (hrl.below hb) (hrl2.below hb) hnL (by rw [← hnL]; exact hsm.1))
      have HK5 : Hid (∀ w', Below w5.heap.size w5 w' → Calls Tryz.prog 21 #[.slice adK nK cK, .slice adK2 nK cK2] w' fun e w'' => e = .returned (.bool true) ∧ Below w'.heap.size w' w'') := Lib.hid (fun w' hw => ints_same ((hrk.below hb).below hw) ((hrk2.below hb).below hw) hnK (by rw [← hnK]; exact hsm.2.2))
      have HX := Lib.hid (And.intro hx (And.intro hy hb))
      have HAT := Lib.hid hlk
      clear hx hy hb hrl hrl2 hrk hrk2 hlk hnL hnK hsm r0 r1 r2 r3 r4 s0 s1 s2 s3 s4 k1 k2
      go_wp2_with fail
      go_at_call 22; refine HI5.out.mono ?_; rintro r w6 ⟨rfl, hb6⟩
      have HB6 := Lib.hid hb6
      have x3 := (HX.out.1.below hb6).cell 3
      have y3 := (HX.out.2.1.below hb6).cell 3
      have HK6 := Lib.hid (HK5.out w6 hb6)
      clear hb6 HI5 HK5
      go_wp2_with fail
      go_at_call 21; refine HK6.out.mono ?_; rintro r w7 ⟨rfl, hb7⟩
      have bp := (HX.out.1.below HB6.out).below hb7
      have bq := (HX.out.2.1.below HB6.out).below hb7
      have x2 := bp.cell 2
      have y2 := bq.cell 2
      have x4 := bp.cell 4
      have y4 := bq.cell 4
      skip
      have hsz5 := HX.out.2.2.size
      have hsz6 := HB6.out.size
      have hszi := HBi.out.size
      have hbr : Below wr.heap.size wr w7 := HX.out.2.2.trans ((HB6.out.mono (by omega)).trans (hb7.mono (by omega)))
      have HB7 := Lib.hid (HBi.out.trans (hbr.mono hszi))
      have HPQ := Lib.hid (And.intro bp bq)
      have HRA7 := Lib.hid (And.intro (HRA.out.1.below hbr) (And.intro (HRA.out.2.1.below hbr) HRA.out.2.2))
      clear hb7 HK6 bp bq hbr HX HB6 HRA HRW HEE HBi
      go_wp2_with fail
      clear x0 x1 x2 x3 x4 y0 y1 y2 y3 y4
      go_loopg [152] (nA + 1) (fun gf s152 wx => ∃ j : Nat, s152 = .int .i64 (j : Int) ∧ Hid (Below w7.heap.size w7 wx) ∧ j + gf = nA + 1)
      case atStart => exact ⟨0, rfl, Lib.hid (Below.refl _ _), by omega⟩
      case round =>
       obtain ⟨j, rfl, HBj, hgj⟩ := hrel
       by_cases hj : j < nA
       ·obtain ⟨gj', rfl⟩ : ∃ g', gk = g' + 1 := ⟨gk - 1, by omega⟩
        obtain ⟨hra, hra2, hnA, hnA3⟩ := HRA7.out
        obtain ⟨a, ha⟩ : ∃ a, b.attrs[j]? = some a := ⟨_, List.getElem?_eq_getElem (by omega)⟩
        obtain ⟨a2, ha2⟩ : ∃ a, b2.attrs[j]? = some a := ⟨_, List.getElem?_eq_getElem (by omega)⟩
        have hat := HAT.out.attrs j a a2 ha ha2
        rcases hra.2 with h0 | ⟨gA, cA', e1, hcA, -, hr⟩
        ·omega
        rcases hra2.2 with h0 | ⟨gA2, cA2', e2, hcA2, -, hr2⟩
        ·omega
        cases e1
        cases e2
        have n0 := cells_keep HBj.out (hr (j * 3 + 0) (.string a.n) ((flat_at AtS.cells 3 (fun _ => rfl) _ j 0 a ha (by omega)).trans rfl))
        have n1 := cells_keep HBj.out (hr (j * 3 + 1) (.int .i64 (a.e : Int)) ((flat_at AtS.cells 3 (fun _ => rfl) _ j 1 a ha (by omega)).trans rfl))
        have n2 := cells_keep HBj.out (hr (j * 3 + 2) (.int .i64 (a.at_ : Int)) ((flat_at AtS.cells 3 (fun _ => rfl) _ j 2 a ha (by omega)).trans rfl))
        have m0 := cells_keep HBj.out (hr2 (j * 3 + 0) (.string a2.n) ((flat_at AtS.cells 3 (fun _ => rfl) _ j 0 a2 ha2 (by omega)).trans rfl))
        have m1 := cells_keep HBj.out (hr2 (j * 3 + 1) (.int .i64 (a2.e : Int)) ((flat_at AtS.cells 3 (fun _ => rfl) _ j 1 a2 ha2 (by omega)).trans rfl))
        have m2 := cells_keep HBj.out (hr2 (j * 3 + 2) (.int .i64 (a2.at_ : Int)) ((flat_at AtS.cells 3 (fun _ => rfl) _ j 2 a2 ha2 (by omega)).trans rfl))
        rw [Nat.add_zero] at n0 m0
        rw [← hat.n] at m0
        rw [← hat.e] at m1
        skip
        have x2 := (HPQ.out.1.below HBj.out).cell 2
        have y2 := (HPQ.out.2.below HBj.out).cell 2
        have u6 : (j : Int) < (nA : Int) := by omega
        have u7 : (0 : Int) ≤ (j : Int) := by omega
        clear hra hra2 hnA hnA3 ha ha2 hat hr hr2
        go_wp2_with fail
        go_quiet (fail)
        go_wp2_with fail
        go_roundg gj'
        case measure => omega
        case rel => exact ⟨j + 1, by push_cast; rfl, Lib.hid (below_drw2 HBj.out), by omega⟩
       ·have u6 : ¬ (j : Int) < (nA : Int) := by omega
        have HB9 := Lib.hid (HB7.out.trans (HBj.out.mono HB7.out.size))
        go_wp2_with fail
        go_roundg g'
        case measure => omega
        case rel => exact ⟨i + 1, by push_cast; rfl, HB9, by omega⟩
    ·have q1 : ¬ (i : Int) < (nB : Int) := by omega
     go_wp2_with fail
     go_ret
     exact ⟨rfl, HBW.out.trans (HBi.out.mono HBW.out.size)⟩
end Go.Proofs.YtljgggohjigaoaaGreatDoor
