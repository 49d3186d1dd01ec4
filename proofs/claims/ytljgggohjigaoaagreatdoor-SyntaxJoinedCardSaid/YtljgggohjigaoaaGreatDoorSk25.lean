/- An attribute, a block: what stands in a block · What begins with a name, one a line · A block's function values -/
import Derived.Deep.RegionWith
import Derived.Deep.RegionHeld
import Derived.Test.YtljgggohjigaoaaGreatDoorSk17
import Derived.Test.YtljgggohjigaoaaGreatDoorSk23
import Derived.Test.YtljgggohjigaoaaGreatDoorSk24
namespace Go.Proofs.YtljgggohjigaoaaGreatDoor
open Go.RowKit Go.Shelf
set_option linter.unusedVariables false
set_option linter.unusedSimpArgs false

/-- What a function value says of the block under way that it holds. -/
def StB (W : World) (X : List Nat) (P F T lo N B : Nat) : Bl → FileM → World → Prop := fun b m w => ∃ x : BlM, x.b = b ∧ UnB w P F T lo N m B x ∧ ∀ k, k = B ∨ k ∈ x.foot → 4 ≤ k ∧ (k ∈ X ∨ W.heap.size ≤ k)
theorem StB.aside {W : World} {X : List Nat} {P F T lo N B : Nat} : ∀ (a : Bl) (m : FileM) (w w' : World), StB W X P F T lo N B a m w → Aside P w w' → StB W X P F T lo N B a m w' := fun a m w w' ⟨x, h1, h2, h3⟩ ha => ⟨x, h1, h2.aside ha, h3⟩
/-- What is read of an item. -/
def itemE (ex : PM Nat) (bk : Tk → PM Nat) (n : Tk) (b : Bl) : PM Bl := bindP (skipM (wb [61])) fun eq => if eq then bindP ex fun i s => .ok ({ b with attrs := b.attrs ++ [⟨n.x, i, n.at_⟩] }, s) else bindP (bk n) fun i s => .ok ({ b with blocks := b.blocks ++ [i] }, s)
theorem infoA0 : (Tryz.prog.info? 43).map (fun i => (i.zero.map (·.cells.size), i.size, i.bytes)) = some (some 3, 3, 32) := by kernel_rfl
theorem infoA : ∃ (i : TypeInfo) (z : Value), Tryz.prog.info? 43 = some i ∧ i.zero = some z ∧ z.cells.size = 3 ∧ i.size = 3 ∧ i.bytes = 32 := by
 have h := infoA0
 cases hi : Tryz.prog.info? 43 with
 | none => rw [hi] at h; cases h
 | some i =>
  rw [hi] at h
  simp only [Option.map_some, Option.some.injEq, Prod.mk.injEq] at h
  obtain ⟨h1, h2, h3⟩ := h
  cases hz : i.zero with
  | none => rw [hz] at h1; cases h1
  | some z => rw [hz] at h1; exact ⟨i, z, rfl, hz, by simpa using h1, h2, h3⟩
set_option maxRecDepth 100000 in
set_option maxHeartbeats 8000000 in
theorem item_any {W : World} {P F T lo dp d N B : Nat} {s : Ps} {m : FileM} {X : List Nat} {ex : PM Nat} {bk : Tk → PM Nat} {tk : Tk} {bt : ByteArray} {labels : List ByteArray} {attrs : List AtS} {blocks : List Nat} {ba : Nat} {lv : Value} {adA : Option Addr} {nA cpA : Nat} {adB : Option Addr} {nB cpB : Nat}
  (hE : Rds P F T lo dp d 75 #[.pointer (some ⟨P, 0, none⟩)] ex) (hD : Dec d 0 ex)
  (hBK : ∀ (W w : World) (s : Ps) (m1 : FileM), Un W w P F T lo dp d m X s m1 → Calls Tryz.prog 34 #[.pointer (some ⟨P, 0, none⟩), tkV tk] w (Stp W w P F T lo dp d m X m1 natV (bk tk s)))
  (h : UnT W W P F T lo dp d m X s m N B ⟨⟨bt, labels, attrs, blocks, ba⟩, lv, .slice adA nA cpA, .slice adB nB cpB⟩) (hnA : attrs.length = nA) (hnB : blocks.length = nB) (hbA : nA ≤ 1000000000) (hbB : nB ≤ 1000000000) :
  Calls Tryz.prog 58 #[.pointer (some ⟨P, 0, none⟩), .pointer (some ⟨B, 0, none⟩), tkV tk] W (KEnd W P F T lo dp m X (StB W X P F T lo N B) (itemE ex bk tk ⟨bt, labels, attrs, blocks, ba⟩ s) (fun _ => .tuple #[])) := by
 obtain ⟨iI, hiI, hzI, hsI, hbI⟩ := info_of infoInt0
 obtain ⟨iA, zA, hiA, hzA, hzsA, hsA, hbA2⟩ := infoA
 have hM1 := Loc.new h.un.ps #[.int .i64 tk.k, .string tk.x, .int .i64 (tk.at_ : Int)] 75
 have h1 := h.alloc (.cells #[.int .i64 tk.k, .string tk.x, .int .i64 (tk.at_ : Int)] 75)
 obtain ⟨W1, hW1⟩ : ∃ W1, W.alloc (.cells #[.int .i64 tk.k, .string tk.x, .int .i64 (tk.at_ : Int)] 75) = W1 := ⟨_, rfl⟩
 rw [hW1] at hM1 h1
 have HEX := Lib.hid (And.intro hE hD)
 have HBK := Lib.hid hBK
 have HNA := Lib.hid hnA
 have HNB := Lib.hid hnB
 have H1 := Lib.hid h1
 have HM1 := Lib.hid hM1
 have HW1 := Lib.hid hW1
 obtain ⟨R, hR⟩ : ∃ R, itemE ex bk tk ⟨bt, labels, attrs, blocks, ba⟩ s = R := ⟨_, rfl⟩
 have HR : Hid (bindP (skipM ⟨#[61]⟩) (fun eq => if eq then bindP ex fun i s => .ok (({ (⟨bt, labels, attrs, blocks, ba⟩ : Bl) with attrs := attrs ++ [⟨tk.x, i, tk.at_⟩] } : Bl), s) else bindP (bk tk) fun i s => .ok (({ (⟨bt, labels, attrs, blocks, ba⟩ : Bl) with blocks := blocks ++ [i] } : Bl), s)) s = R) := Lib.hid hR
 rw [hR]
 have hSK := h1.un.skip (b := ⟨#[61]⟩) (by decide)
 obtain ⟨c, s2, hm0⟩ : ∃ c s2, skipM (⟨#[61]⟩ : ByteArray) s = .ok (c, s2) := by
  unfold skipM
  split
  ·exact ⟨_, _, rfl⟩
  ·exact ⟨_, _, rfl⟩
 rw [hm0] at hSK
 have HSK := Lib.hid hSK
 have HR2 := Lib.hid (bind_ok hm0 HR.out)
 clear h hM1 h1 hW1 hE hD hBK hnA hnB hR hSK hm0
 go_enter Tryz.func58, Tryz.ntmps58
 go_wp2_with fail
 go_at_call 74; rw [HW1.out]; refine HSK.out.mono ?_
 rintro e w2 ⟨rfl, m2, hs2⟩
 have H2 := Lib.hid (H1.out.step hs2)
 have HM2 := Lib.hid (HM1.out.step hs2.outs hs2.later)
 clear hs2
 cases c with
 | true =>
  have HRX : Hid (bindP ex (fun i s => .ok (({ (⟨bt, labels, attrs, blocks, ba⟩ : Bl) with attrs := attrs ++ [⟨tk.x, i, tk.at_⟩] } : Bl), s)) s2 = R) := HR2
  have bc2 := H2.out.ub.loc.blk.cell 2
  have nc0 := HM2.out.blk.cell 0
  have nc1 := HM2.out.blk.cell 1
  have nc2 := HM2.out.blk.cell 2
  have HD2 := Lib.hid (H2.out.below (Below.refl _ w2).drew)
  have HMD2 := Lib.hid (HM2.out.lc (Lc.of (Below.refl _ w2).drew []) (by simp))
  have hrd := HD2.out.un.reads HEX.out.1 HEX.out.2
  cases hm : ex s2 with
  | error bd =>
   rw [hm] at hrd
   have HRD := Lib.hid hrd
   have HRE := Lib.hid (bind_err hm HRX.out)
   clear hrd hm
   go_wp2_with fail
   refine wp_region_held_drew (S := fun w' => w'.cell? ⟨B, 2, none⟩ = some (.slice adA nA cpA) ∧ w'.cell? ⟨W.heap.size, 1, none⟩ = some (.string tk.x) ∧ w'.cell? ⟨W.heap.size, 2, none⟩ = some (.int .i64 (tk.at_ : Int))) (by kernel_rfl) ⟨bc2, nc1, nc2⟩ (fun hHeld => ?_)
   refine wpAnyH_take (i := 0) (oi := _) (v := ?qA_v0) rfl (by kernel_rfl) (by kernel_rfl) (by kernel_rfl) (fun _ _ _ h => h) (Or.inl ⟨by rfl, ?qA_y0⟩) (by assumption) ?qA_r0
   case qA_y0 => (intro w hSw; (try dsimp only at hSw); go_simp; (try with_reducible rfl))
   try simp only [Act.put, List.setIfInBounds_toArray, List.set_cons_zero, List.set_cons_succ]
   refine wpAnyH_take (i := 1) (oi := _) (v := ?qA_v1) rfl (by kernel_rfl) (by kernel_rfl) (by kernel_rfl) (fun _ _ _ h => h) (Or.inl ⟨by rfl, ?qA_y1⟩) (by assumption) ?qA_r1
   case qA_y1 => (intro w hSw; (try dsimp only at hSw); go_simp; (try with_reducible rfl))
   try simp only [Act.put, List.setIfInBounds_toArray, List.set_cons_zero, List.set_cons_succ]
   refine wpAnyH_take (i := 2) (oi := _) (v := ?qA_v2) rfl (by kernel_rfl) (by kernel_rfl) (by kernel_rfl) (fun _ _ _ h => h) (Or.inl ⟨by rfl, ?qA_y2⟩) (by assumption) ?qA_r2
   case qA_y2 => (intro w hSw; (try dsimp only at hSw); go_simp; (try with_reducible rfl))
   try simp only [Act.put, List.setIfInBounds_toArray, List.set_cons_zero, List.set_cons_succ]
   refine wpAnyH_take (i := 3) (oi := _) (v := ?qA_v3) rfl (by kernel_rfl) (by kernel_rfl) (by kernel_rfl) (fun _ _ _ h => h) (Or.inl ⟨by rfl, ?qA_y3⟩) (by assumption) ?qA_r3
   case qA_y3 => (intro w hSw; (try dsimp only at hSw); go_simp; (try with_reducible rfl))
   try simp only [Act.put, List.setIfInBounds_toArray, List.set_cons_zero, List.set_cons_succ]
   refine wpAnyH_take (i := 4) (oi := _) (v := ?qA_v4) rfl (by kernel_rfl) (by kernel_rfl) (by kernel_rfl) (fun _ _ _ h => h) (Or.inl ⟨by rfl, ?qA_y4⟩) (by assumption) ?qA_r4
   case qA_y4 => (intro w hSw; (try dsimp only at hSw); go_simp; (try with_reducible rfl))
   try simp only [Act.put, List.setIfInBounds_toArray, List.set_cons_zero, List.set_cons_succ]
   refine wpAnyH_take (i := 5) (oi := _) (v := ?qA_v5) rfl (by kernel_rfl) (by kernel_rfl) (by kernel_rfl) (fun _ _ _ h => h) (Or.inl ⟨by rfl, ?qA_y5⟩) (by assumption) ?qA_r5
   case qA_y5 => (intro w hSw; (try dsimp only at hSw); go_simp; (try with_reducible rfl))
   try simp only [Act.put, List.setIfInBounds_toArray, List.set_cons_zero, List.set_cons_succ]
   refine wpAnyH_take (i := 6) (oi := _) (v := ?qA_v6) rfl (by kernel_rfl) (by kernel_rfl) (by kernel_rfl) (fun _ _ _ h => h) (Or.inl ⟨by rfl, ?qA_y6⟩) (by assumption) ?qA_r6
   case qA_y6 => (intro w hSw; (try dsimp only at hSw); go_simp; (try with_reducible rfl))
   try simp only [Act.put, List.setIfInBounds_toArray, List.set_cons_zero, List.set_cons_succ]
   refine wpAnyH_take (i := 7) (oi := _) (v := ?qA_v7) rfl (by kernel_rfl) (by kernel_rfl) (by kernel_rfl) (fun _ _ _ h => h) (Or.inl ⟨by rfl, ?qA_y7⟩) (by assumption) ?qA_r7
   case qA_y7 => (intro w hSw; (try dsimp only at hSw); go_simp; (try with_reducible rfl))
   try simp only [Act.put, List.setIfInBounds_toArray, List.set_cons_zero, List.set_cons_succ]
   refine wpAnyH_take (i := 9) (oi := _) (v := ?qA_v9) rfl (by kernel_rfl) (by kernel_rfl) (by kernel_rfl) (fun _ _ _ h => h) (Or.inl ⟨by rfl, ?qA_y9⟩) (by assumption) ?qA_r9
   case qA_y9 => (intro w hSw; (try dsimp only at hSw); go_simp; (try with_reducible rfl))
   try simp only [Act.put, List.setIfInBounds_toArray, List.set_cons_zero, List.set_cons_succ]
   refine wpAnyH_take (i := 10) (oi := _) (v := ?qA_v10) rfl (by kernel_rfl) (by kernel_rfl) (by kernel_rfl) (fun _ _ _ h => h) (Or.inl ⟨by rfl, ?qA_y10⟩) (by assumption) ?qA_r10
   case qA_y10 => (intro w hSw; (try dsimp only at hSw); go_simp; (try with_reducible rfl))
   try simp only [Act.put, List.setIfInBounds_toArray, List.set_cons_zero, List.set_cons_succ]
   refine wpAnyH_ready (rs := [8]) (by kernel_rfl) (by simp) ?_
   refine AllReadyH.cons (o := _) rfl (fun K hK => ?_) AllReadyH.nil
   go_simp
   go_at_call 75; refine HRD.out.mono ?_; rintro e w4 ⟨D, rfl, hk⟩
   refine ⟨rfl, ?_⟩
   rw [HRE.out]
   exact ⟨D, rfl, hk⟩
  | ok y =>
   obtain ⟨i, s3⟩ := y
   rw [hm] at hrd
   have HRD := Lib.hid hrd
   have HRo := Lib.hid (bind_ok hm HRX.out)
   have HEB : Hid (B ∉ ownB (.slice adA nA cpA)) := Lib.hid (fun e => (H2.out.ub.foot B (List.mem_append.2 (.inr (List.mem_append.2 (.inl e))))).2.2.2.1 rfl)
   clear hrd hm
   go_wp2_with fail
   refine have AFTER : (∀ (w9 w5 : World) (g2 cap2 : Nat), (∃ m9, UnT W w9 P F T lo dp d m X s3 m9 N B ⟨⟨bt, labels, attrs, blocks, ba⟩, lv, .slice adA nA cpA, .slice adB nB cpB⟩ ∧ w5.ownsRow lo 43 3 (.slice (some ⟨g2, 0, none⟩) (nA + 1) cap2) (nA + 1) ((attrs.flatMap AtS.cells) ++ [.string tk.x, .int .i64 (i : Int), .int .i64 (tk.at_ : Int)]) ∧ (w9.alloc (.cells #[.string tk.x, .int .i64 (i : Int), .int .i64 (tk.at_ : Int)] 43)).grownBy w5 (Value.slice adA nA cpA).ownBlock ∧ ((Value.slice adA nA cpA).ownBlock = some g2 ∨ g2 = (w9.alloc (.cells #[.string tk.x, .int .i64 (i : Int), .int .i64 (tk.at_ : Int)] 43)).heap.size)) → (?GA : World → World → Nat → Nat → Prop) w9 w5 g2 cap2) := ?laterA; ?mainA
   case mainA =>
    go_region_law (first
     | (go_simp; go_at_call 75; refine HRD.out.mono ?_; rintro e w9 ⟨rfl, m9, hs9⟩; have hnv : natV i = .int .i64 (i : Int) := rfl; have H9 := Lib.hid (HD2.out.step hs9); have hM9 := HMD2.out.step hs9.outs hs9.later; have nc09 := hM9.blk.cell 0; have nc19 := hM9.blk.cell 1; have nc29 := hM9.blk.cell 2; have nc09a := (hM9.blk.alloc (.cells #[.string tk.x, .int .i64 (i : Int), .int .i64 (tk.at_ : Int)] 43)).cell 0; have bc9 := H9.out.ub.loc.blk.cell 2; have bc9a := (H9.out.ub.loc.blk.alloc (.cells #[.string tk.x, .int .i64 (i : Int), .int .i64 (tk.at_ : Int)] 43)).cell 2; have hrow := (HNA.out ▸ H9.out.ub.ok.attrs : w9.ownsRow lo 43 3 (.slice adA nA cpA) nA (attrs.flatMap AtS.cells)).alloc (.cells #[.string tk.x, .int .i64 (i : Int), .int .i64 (tk.at_ : Int)] 43); have hblk := World.alloc_heap_new w9 (.cells #[.string tk.x, .int .i64 (i : Int), .int .i64 (tk.at_ : Int)] 43); have hlo9 : lo ≤ w9.heap.size := H9.out.un.ps.base.2)
     | (refine step_append_lies _ rfl (.tmp 12) (.tmp 20) 39 rfl lo 43 iA zA 3 32 Tryz.underlying39 hiA hzA hsA hbA2 hzsA (by decide) _ _ _ rfl hrow ⟨w9.heap.size, 0, none⟩ 1 1 [.string tk.x, .int .i64 (i : Int), .int .i64 (tk.at_ : Int)] rfl rfl (World.news_of_block hblk) (by intro u hu; simp at hu; rcases hu with rfl | rfl | rfl <;> rfl) (by decide) (by unfold maxLen; omega) (by omega) (by simp; omega) _ rfl ?_; intro g2 cap2 w5 hown hgrow hat hlt; have hB5 := H9.out.ub.loc.lc (grown_lc (Y := ownB (.slice adA nA cpA)) hgrow (fun g e => mem_ownB.2 e)) HEB.out; have c52 := hB5.blk.cell 2; have f52 := hB5.blk.frozen 2))
    all_goals exact AFTER w9 w5 g2 cap2 ⟨m9, H9.out, hown, hgrow, hat⟩
   case laterA =>
    rintro w9 w5 ga ca ⟨m9, h9, hown, hgrow, hat⟩
    have HS := Lib.hid (h9.pushA (t := ⟨tk.x, i, tk.at_⟩) HNA.out hown hgrow hat).1
    clear h9 hown hgrow hat
    go_wp2_with fail
    first | go_ret | go_end0
    rw [← HRo.out]
    exact HS.out.un.k ⟨_, rfl, HS.out.ub, HS.out.mine⟩
 | false =>
  have HRX : Hid (bindP (bk tk) (fun i s => .ok (({ (⟨bt, labels, attrs, blocks, ba⟩ : Bl) with blocks := blocks ++ [i] } : Bl), s)) s2 = R) := HR2
  have bc3 := H2.out.ub.loc.blk.cell 3
  have nc0 := HM2.out.blk.cell 0
  have nc1 := HM2.out.blk.cell 1
  have nc2 := HM2.out.blk.cell 2
  have HD2 := Lib.hid (H2.out.below (Below.refl _ w2).drew)
  have HMD2 := Lib.hid (HM2.out.lc (Lc.of (Below.refl _ w2).drew []) (by simp))
  have hrd := HBK.out _ _ _ _ HD2.out.un
  cases hm : (bk tk) s2 with
  | error bd =>
   rw [hm] at hrd
   have HRD := Lib.hid hrd
   have HRE := Lib.hid (bind_err hm HRX.out)
   clear hrd hm
   go_wp2_with fail
   refine wp_region_held_drew (S := fun w' => w'.cell? ⟨B, 3, none⟩ = some (.slice adB nB cpB) ∧ w'.cell? ⟨W.heap.size, 0, none⟩ = some (.int .i64 tk.k) ∧ w'.cell? ⟨W.heap.size, 1, none⟩ = some (.string tk.x) ∧ w'.cell? ⟨W.heap.size, 2, none⟩ = some (.int .i64 (tk.at_ : Int))) (by kernel_rfl) ⟨bc3, nc0, nc1, nc2⟩ (fun hHeld => ?_)
   refine wpAnyH_take (i := 0) (oi := _) (v := ?qB_v0) rfl (by kernel_rfl) (by kernel_rfl) (by kernel_rfl) (fun _ _ _ h => h) (Or.inl ⟨by rfl, ?qB_y0⟩) (by assumption) ?qB_r0
   case qB_y0 => (intro w hSw; (try dsimp only at hSw); go_simp; (try with_reducible rfl))
   try simp only [Act.put, List.setIfInBounds_toArray, List.set_cons_zero, List.set_cons_succ]
   refine wpAnyH_take (i := 1) (oi := _) (v := ?qB_v1) rfl (by kernel_rfl) (by kernel_rfl) (by kernel_rfl) (fun _ _ _ h => h) (Or.inl ⟨by rfl, ?qB_y1⟩) (by assumption) ?qB_r1
   case qB_y1 => (intro w hSw; (try dsimp only at hSw); go_simp; (try with_reducible rfl))
   try simp only [Act.put, List.setIfInBounds_toArray, List.set_cons_zero, List.set_cons_succ]
   refine wpAnyH_take (i := 2) (oi := _) (v := ?qB_v2) rfl (by kernel_rfl) (by kernel_rfl) (by kernel_rfl) (fun _ _ _ h => h) (Or.inl ⟨by rfl, ?qB_y2⟩) (by assumption) ?qB_r2
   case qB_y2 => (intro w hSw; (try dsimp only at hSw); go_simp; (try with_reducible rfl))
   try simp only [Act.put, List.setIfInBounds_toArray, List.set_cons_zero, List.set_cons_succ]
   refine wpAnyH_take (i := 3) (oi := _) (v := ?qB_v3) rfl (by kernel_rfl) (by kernel_rfl) (by kernel_rfl) (fun _ _ _ h => h) (Or.inl ⟨by rfl, ?qB_y3⟩) (by assumption) ?qB_r3
   case qB_y3 => (intro w hSw; (try dsimp only at hSw); go_simp; (try with_reducible rfl))
   try simp only [Act.put, List.setIfInBounds_toArray, List.set_cons_zero, List.set_cons_succ]
   refine wpAnyH_take (i := 4) (oi := _) (v := ?qB_v4) rfl (by kernel_rfl) (by kernel_rfl) (by kernel_rfl) (fun _ _ _ h => h) (Or.inl ⟨by rfl, ?qB_y4⟩) (by assumption) ?qB_r4
   case qB_y4 => (intro w hSw; (try dsimp only at hSw); go_simp; (try with_reducible rfl))
   try simp only [Act.put, List.setIfInBounds_toArray, List.set_cons_zero, List.set_cons_succ]
   refine wpAnyH_take (i := 5) (oi := _) (v := ?qB_v5) rfl (by kernel_rfl) (by kernel_rfl) (by kernel_rfl) (fun _ _ _ h => h) (Or.inl ⟨by rfl, ?qB_y5⟩) (by assumption) ?qB_r5
   case qB_y5 => (intro w hSw; (try dsimp only at hSw); go_simp; (try with_reducible rfl))
   try simp only [Act.put, List.setIfInBounds_toArray, List.set_cons_zero, List.set_cons_succ]
   refine wpAnyH_take (i := 6) (oi := _) (v := ?qB_v6) rfl (by kernel_rfl) (by kernel_rfl) (by kernel_rfl) (fun _ _ _ h => h) (Or.inl ⟨by rfl, ?qB_y6⟩) (by assumption) ?qB_r6
   case qB_y6 => (intro w hSw; (try dsimp only at hSw); go_simp; (try with_reducible rfl))
   try simp only [Act.put, List.setIfInBounds_toArray, List.set_cons_zero, List.set_cons_succ]
   refine wpAnyH_ready (rs := [7]) (by kernel_rfl) (by simp) ?_
   refine AllReadyH.cons (o := _) rfl (fun K hK => ?_) AllReadyH.nil
   go_simp
   go_at_call 34; refine HRD.out.mono ?_; rintro e w4 ⟨D, rfl, hk⟩
   refine ⟨rfl, ?_⟩
   rw [HRE.out]
   exact ⟨D, rfl, hk⟩
  | ok y =>
   obtain ⟨i, s3⟩ := y
   rw [hm] at hrd
   have HRD := Lib.hid hrd
   have HRo := Lib.hid (bind_ok hm HRX.out)
   have HEB : Hid (B ∉ ownB (.slice adB nB cpB)) := Lib.hid (fun e => (H2.out.ub.foot B (List.mem_append.2 (.inr (List.mem_append.2 (.inr e))))).2.2.2.1 rfl)
   clear hrd hm
   go_wp2_with fail
   refine have AFTER : (∀ (w9 w5 : World) (g2 cap2 : Nat), (∃ m9, UnT W w9 P F T lo dp d m X s3 m9 N B ⟨⟨bt, labels, attrs, blocks, ba⟩, lv, .slice adA nA cpA, .slice adB nB cpB⟩ ∧ w5.ownsRow lo 3 1 (.slice (some ⟨g2, 0, none⟩) (nB + 1) cap2) (nB + 1) ((intsV blocks) ++ [.int .i64 (i : Int)]) ∧ (w9.alloc (.cells #[.int .i64 (i : Int)] 3)).grownBy w5 (Value.slice adB nB cpB).ownBlock ∧ ((Value.slice adB nB cpB).ownBlock = some g2 ∨ g2 = (w9.alloc (.cells #[.int .i64 (i : Int)] 3)).heap.size)) → (?GB : World → World → Nat → Nat → Prop) w9 w5 g2 cap2) := ?laterB; ?mainB
   case mainB =>
    go_region_law (first
     | (go_simp; go_at_call 34; refine HRD.out.mono ?_; rintro e w9 ⟨rfl, m9, hs9⟩; have hnv : natV i = .int .i64 (i : Int) := rfl; have H9 := Lib.hid (HD2.out.step hs9); have hM9 := HMD2.out.step hs9.outs hs9.later; have nc09 := hM9.blk.cell 0; have nc19 := hM9.blk.cell 1; have nc29 := hM9.blk.cell 2; have nc09a := (hM9.blk.alloc (.cells #[.int .i64 (i : Int)] 3)).cell 0; have bc9 := H9.out.ub.loc.blk.cell 3; have bc9a := (H9.out.ub.loc.blk.alloc (.cells #[.int .i64 (i : Int)] 3)).cell 3; have hrow := (HNB.out ▸ H9.out.ub.ok.blocks : w9.ownsRow lo 3 1 (.slice adB nB cpB) nB (intsV blocks)).alloc (.cells #[.int .i64 (i : Int)] 3); have hblk := World.alloc_heap_new w9 (.cells #[.int .i64 (i : Int)] 3); have hlo9 : lo ≤ w9.heap.size := H9.out.un.ps.base.2)
     | (refine step_append_lies _ rfl (.tmp 28) (.tmp 32) 26 rfl lo 3 iI (.int .i64 0) 1 8 Tryz.underlying26 hiI hzI hsI hbI rfl (by decide) _ _ _ rfl hrow ⟨w9.heap.size, 0, none⟩ 1 1 [.int .i64 (i : Int)] rfl rfl (World.news_of_block hblk) (by intro u hu; simp at hu; subst hu; rfl) (by decide) (by unfold maxLen; omega) (by omega) (by simp; omega) _ rfl ?_; intro g2 cap2 w5 hown hgrow hat hlt; have hB5 := H9.out.ub.loc.lc (grown_lc (Y := ownB (.slice adB nB cpB)) hgrow (fun g e => mem_ownB.2 e)) HEB.out; have c52 := hB5.blk.cell 3; have f52 := hB5.blk.frozen 3))
    all_goals exact AFTER w9 w5 g2 cap2 ⟨m9, H9.out, hown, hgrow, hat⟩
   case laterB =>
    rintro w9 w5 ga ca ⟨m9, h9, hown, hgrow, hat⟩
    have HS := Lib.hid (h9.pushB (t := i) HNB.out hown hgrow hat).1
    clear h9 hown hgrow hat
    go_wp2_with fail
    first | go_ret | go_end0
    rw [← HRo.out]
    exact HS.out.un.k ⟨_, rfl, HS.out.ub, HS.out.mine⟩
end Go.Proofs.YtljgggohjigaoaaGreatDoor
namespace Go.Proofs.YtljgggohjigaoaaGreatDoor
open Go.RowKit Go.Shelf
set_option linter.unusedVariables false

section
variable {W : World} {P F T lo dp d : Nat} {s : Ps} {m : FileM} {X : List Nat}
/-- Behind a name and what is read from there on: one more may have been made. -/
theorem Fit.item2 {σ : Type} {s' : Ps} {M : PM σ} {x' : σ} (h : Fit d s) (hk : (next s).k ≠ 0) (hD : Dec d (-1) M) (hm : M (takeS s) = .ok (x', s')) : Fit d s' := by
 have h1 := hD (takeS s) h.take.snd x' s' hm
 have h2 := pot_take s
 have h3 := wt_pos hk
 have h4 := h1.1.trans (take_sfx s)
 refine ⟨h.snd.sfx h4, fun t ht => h.txt t (h4.subset ht), fun t ht => h.pos t (h4.subset ht), ?_⟩
 have h5 := h.pot
 have h6 := h1.2
 omega
set_option maxRecDepth 100000 in
set_option maxHeartbeats 4000000 in
theorem items_mu {σ : Type} {rd : Tk → σ → PM σ} {x0 : σ} (h : PsAt W P F T lo dp s m) (he : Env W P F) (hf : Fit d s) {gr : Nat} {lbr : Array Value} (egr : ∀ args w, (callFunc gr args).run Tryz.prog w = .ok (.enter gr args) w) {St : σ → FileM → World → Prop} (hst : ∀ a m w w', St a m w → Aside P w w' → St a m w') (hrd : ∀ t x, Dec d (-1) (rd t x)) (mu : σ → Nat) (hmu : ∀ t x s x' s', rd t x s = .ok (x', s') → mu x' ≤ mu x + 1)
  (hr : ∀ (W' : World) (t : Tk) (x : σ) (s0 : Ps) (m' : FileM), St x m' W' → Un W W' P F T lo dp d m X (takeS s0) m' → Fit d s0 → next s0 = t → t.k = 1 → mu x + s0.toks.length ≤ mu x0 + s.toks.length → ∃ X', (∀ k ∈ X', 4 ≤ k ∧ (k ∈ X ∨ W.heap.size ≤ k)) ∧ Calls Tryz.prog gr (#[tkV t] ++ lbr) W' (KEnd W' P F T lo dp m' X' St (rd t x (takeS s0)) (fun _ => .tuple #[])))
  (hs0 : St x0 m W) : Calls Tryz.prog 32 #[.pointer (some ⟨P, 0, none⟩), .func (.func gr) #[] lbr] W (KEnd W P F T lo dp m X St (itemsM rd x0 s) (fun _ => .tuple #[])) := by
 have HMU := Lib.hid hmu
 have HR0 := Lib.hid hr
 have HST := Lib.hid hst
 have HRD := Lib.hid hrd
 have HU0 := Lib.hid (Un.start (X := X) h he hf)
 obtain ⟨R, hR⟩ : ∃ R, itemsM rd x0 s = R := ⟨_, rfl⟩
 have HR : Hid (bindP linesM (fun _ s => itemsLoop rd (s.toks.length + 1) x0 s) s = R) := Lib.hid hR
 rw [hR]
 have hc1 := HU0.out.lines
 obtain ⟨b1, s1, hm1⟩ : ∃ b1 s1, linesM s = .ok (b1, s1) := ⟨_, _, rfl⟩
 rw [hm1] at hc1
 have HC1 := Lib.hid hc1
 have hx1 := bind_ok hm1 HR.out
 have HR1 : Hid (itemsLoop rd (s1.toks.length + 1) x0 s1 = R) := Lib.hid hx1
 have hla : ∀ w', Aside P W w' → St x0 m w' := fun w' ha => hst x0 m W w' hs0 ha
 have hl01 : s1.toks.length ≤ s.toks.length := ((Dec.lines (d := d)) s hf.snd b1 s1 hm1).1.length_le
 obtain ⟨K, hK⟩ : ∃ K, mu x0 + s.toks.length = K := ⟨_, rfl⟩
 have HKK := Lib.hid hK
 have hLA := lines_any h.tok h.good
 have HC1a : Hid (Calls Tryz.prog 51 #[.pointer (some ⟨P, 0, none⟩)] W fun e w' => e = .returned (.bool b1) ∧ Un W w' P F T lo dp d m X s1 m ∧ St x0 m w') := Lib.hid ((lines_ps h).mono fun e w' hk => by
  rw [hm1] at hk
  obtain ⟨h1, h2, h3⟩ := hk
  exact ⟨h1, (HU0.out.aside h3 h2 (hf.dec Dec.lines (by decide) hm1)).un, hla w' h3⟩)
 have hKs : mu x0 + s1.toks.length ≤ K := by omega
 clear h he hf hst hrd hr hs0 hR hc1 hx1 hla hLA HC1 hmu hK hl01
 go_enter Tryz.func32, Tryz.ntmps32
 go_wp2_with fail
 go_at_call 51; refine HC1a.out.mono ?_
 rintro e w1 ⟨rfl, hu1, hs1⟩
 have H1 := Lib.hid (And.intro hu1 hs1)
 clear hu1 hs1 HC1a
 go_wp2_with fail
 go_loopg [] (s1.toks.length + 1) (fun gf wx => ∃ (x' : σ) (s' : Ps) (m' : FileM), Hid (Un W wx P F T lo dp d m X s' m' ∧ St x' m' wx) ∧ Hid (itemsLoop rd gf x' s' = R) ∧ s'.toks.length < gf ∧ mu x' + s'.toks.length ≤ K)
 case atStart => exact ⟨x0, s1, m, H1, HR1, by omega, hKs⟩
 case round =>
  obtain ⟨x', s', m', HU, HRL, hlen, hmk⟩ := hrel
  clear H1 HR1 HR HU0
  obtain ⟨g', rfl⟩ : ∃ g', gk = g' + 1 := ⟨gk - 1, by omega⟩
  obtain ⟨t, ht⟩ : ∃ t, next s' = t := ⟨_, rfl⟩
  have HT := Lib.hid ht
  have hPK : Calls Tryz.prog 52 #[.pointer (some ⟨P, 0, none⟩)] wr fun e w' => e = .returned (tkV t) ∧ Un W w' P F T lo dp d m X (peekS s') m' ∧ St x' m' w' := (peek_ps HU.out.1.ps).mono fun e w' hk => by
   rw [ht] at hk
   exact ⟨hk.1, (HU.out.1.aside hk.2.2 hk.2.1 HU.out.1.fit.peek).un, HST.out _ _ _ _ HU.out.2 hk.2.2⟩
  have HPK := Lib.hid hPK
  have hfl : ∀ w : World, (Instr.field 75 (tkV t) 0).run Tryz.prog w = .ok (.int .i64 t.k) w := fun _ => rfl
  clear ht hPK
  go_wp2_with fail
  go_at_call 52; refine HPK.out.mono ?_
  rintro e w2 ⟨rfl, hu2, hs2⟩
  have H2 := Lib.hid (And.intro hu2 hs2)
  clear hu2 hs2
  by_cases hk1 : t.k = 1
  ·have e1 : (t.k == 1) = true := by rw [hk1]; rfl
   have HK := Lib.hid hk1
   have hTK : Calls Tryz.prog 53 #[.pointer (some ⟨P, 0, none⟩)] w2 fun e w' => e = .returned (tkV t) ∧ Un W w' P F T lo dp d m X (takeS s') m' ∧ St x' m' w' := (take_ps H2.out.1.ps (by rw [next_peek, HT.out, hk1]; decide)).mono fun e w' hk => by
    rw [next_peek, take_peek, HT.out] at hk
    exact ⟨hk.1, (H2.out.1.aside hk.2.2 hk.2.1 HU.out.1.fit.take).un, HST.out _ _ _ _ H2.out.2 hk.2.2⟩
   have HTK := Lib.hid hTK
   have HRL2 : Hid (bindP (rd t x') (fun x'' => bindP linesM fun l s2 => if l then itemsLoop rd g' x'' s2 else .ok (x'', s2)) (takeS s') = R) := Lib.hid (by
    rw [← HRL.out]
    conv => rhs; unfold itemsLoop
    rw [if_pos (by rw [HT.out]; exact hk1), HT.out])
   clear hTK hk1
   go_wp2_with fail
   go_at_call 53; refine HTK.out.mono ?_
   rintro e w3 ⟨rfl, hu3, hs3⟩
   have H3 := Lib.hid (And.intro hu3 hs3)
   obtain ⟨X', hX', hcl⟩ := HR0.out w3 t x' s' m' hs3 hu3 HU.out.1.fit HT.out HK.out (by rw [HKK.out]; exact hmk)
   have HX' := Lib.hid hX'
   obtain ⟨RB, hRB⟩ : ∃ RB, rd t x' (takeS s') = RB := ⟨_, rfl⟩
   rw [hRB] at hcl
   have HCL := Lib.hid hcl
   have HRB := Lib.hid hRB
   clear hu3 hs3 hcl hRB hX'
   go_wp2_with fail
   go_at_fn gr; refine HCL.out.mono ?_
   intro e w4 hk
   cases RB with
   | error bd =>
    obtain ⟨D, rfl, hk2⟩ := H3.out.1.kbad (fun k hk => (HX'.out k hk).2) hk
    refine ⟨rfl, ?_⟩
    rw [bind_err HRB.out HRL2.out]
    exact ⟨D, rfl, hk2⟩
   | ok y =>
    obtain ⟨x2, s4⟩ := y
    have hft4 : Fit d s4 := HU.out.1.fit.item2 (by rw [HT.out, HK.out]; decide) (HRD.out t x') HRB.out
    obtain ⟨rfl, m4, hu4, -, -, hs4⟩ := H3.out.1.kend HX'.out hft4 hk
    have hl4 : s4.toks.length < s'.toks.length := by
     have h1 := (HRD.out t x' (takeS s') HU.out.1.fit.take.snd x2 s4 HRB.out).1.length_le
     have h2 := take_lt (s := s') (by rw [HT.out, HK.out]; decide)
     omega
    have hmu4 := HMU.out t x' (takeS s') x2 s4 HRB.out
    have HR4 := Lib.hid (bind_ok HRB.out HRL2.out)
    obtain ⟨l5, s5, hm5⟩ : ∃ l5 s5, linesM s4 = .ok (l5, s5) := ⟨_, _, rfl⟩
    have hl5 : s5.toks.length ≤ s4.toks.length := ((Dec.lines (d := d)) s4 hft4.snd l5 s5 hm5).1.length_le
    have HR5 := Lib.hid (bind_ok hm5 HR4.out)
    have hLN : Calls Tryz.prog 51 #[.pointer (some ⟨P, 0, none⟩)] w4 fun e w' => e = .returned (.bool l5) ∧ Un W w' P F T lo dp d m X s5 m4 ∧ St x2 m4 w' := (lines_ps hu4.ps).mono fun e w' hk => by
     rw [hm5] at hk
     exact ⟨hk.1, (hu4.aside hk.2.2 hk.2.1 (hft4.dec Dec.lines (by decide) hm5)).un, HST.out _ _ _ _ hs4 hk.2.2⟩
    have HLN := Lib.hid hLN
    clear hk hu4 hs4 hft4 hm5 hLN
    go_wp2_with fail
    go_at_call 51; refine HLN.out.mono ?_
    rintro e w5 ⟨rfl, hu5, hs5⟩
    have H5 := Lib.hid (And.intro hu5 hs5)
    clear hu5 hs5
    cases l5 with
    | true =>
     go_wp2_with fail
     go_roundg g'
     case measure => omega
     case rel => exact ⟨x2, s5, m4, H5, HR5, by omega, by omega⟩
    | false =>
     have hend : R = .ok (x2, s5) := HR5.out.symm
     have HEND := Lib.hid hend
     clear hend
     go_wp2_with fail
     first | go_ret | go_end0
     rw [HEND.out]
     exact H5.out.1.k H5.out.2
  ·have e1 : (t.k == 1) = false := beq_eq_false_iff_ne.2 hk1
   have hend : R = .ok (x', peekS s') := by
    rw [← HRL.out]
    unfold itemsLoop
    rw [if_neg (by rw [HT.out]; exact hk1)]
   have HEND := Lib.hid hend
   clear hend hk1
   go_wp2_with fail
   first | go_end0 | go_ret
   rw [HEND.out]
   exact H2.out.1.k H2.out.2
end
end Go.Proofs.YtljgggohjigaoaaGreatDoor
namespace Go.Proofs.YtljgggohjigaoaaGreatDoor
open Go.RowKit Go.Shelf
set_option linter.unusedVariables false
set_option linter.unusedSimpArgs false

theorem itemE_dec {d : Nat} {ex : PM Nat} {bk : Tk → PM Nat} (hD : Dec d 0 ex) (hb : ∀ t, Dec d 0 (bk t)) (t : Tk) (b : Bl) : Dec d (-1) (itemE ex bk t b) := by
 unfold itemE
 refine (Dec.bind (e := 0) Dec.skip fun eq => ?_).mono (by omega)
 cases eq with
 | true => exact (Dec.bind (e := 0) hD fun i => Dec.pure).mono (by omega)
 | false => exact (Dec.bind (e := 0) (hb t) fun i => Dec.pure).mono (by omega)
/-- How much of a block there is. -/
def muB (b : Bl) : Nat := b.attrs.length + b.blocks.length
theorem itemE_mu {ex : PM Nat} {bk : Tk → PM Nat} (t : Tk) (b : Bl) (s : Ps) (b' : Bl) (s' : Ps) (h : itemE ex bk t b s = .ok (b', s')) : muB b' ≤ muB b + 1 := by
 obtain ⟨c, s2, hm0⟩ : ∃ c s2, skipM (wb [61]) s = .ok (c, s2) := by
  unfold skipM
  split
  ·exact ⟨_, _, rfl⟩
  ·exact ⟨_, _, rfl⟩
 have h2 := bind_ok hm0 h
 cases c with
 | true =>
  cases hx : ex s2 with
  | error bd =>
   have h3 := bind_err hx h2
   cases h3
  | ok y =>
   have h3 := bind_ok hx h2
   cases h3
   simp [muB]
   omega
 | false =>
  cases hx : bk t s2 with
  | error bd =>
   have h3 := bind_err hx h2
   cases h3
  | ok y =>
   have h3 := bind_ok hx h2
   cases h3
   simp [muB]
   omega
/-- What a block's function values say: the block under way, and the parser's place. -/
def StK (W : World) (X : List Nat) (P F T lo N B Bp : Nat) : Bl → FileM → World → Prop := fun b m w => StB W X P F T lo N B b m w ∧ Loc w P F T m Bp #[.pointer (some ⟨P, 0, none⟩)] 88
theorem StK.aside {W : World} {X : List Nat} {P F T lo N B Bp : Nat} : ∀ (a : Bl) (m : FileM) (w w' : World), StK W X P F T lo N B Bp a m w → Aside P w w' → StK W X P F T lo N B Bp a m w' := fun a m w w' h ha => ⟨StB.aside a m w w' h.1 ha, h.2.aside ha⟩
section
variable {P F T lo dp d : Nat}
set_option maxRecDepth 100000 in
set_option maxHeartbeats 4000000 in
theorem blk2_any {W w : World} {N B Bp : Nat} {s0 : Ps} {m m1 : FileM} {X : List Nat} {ex : PM Nat} {bk : Tk → PM Nat} {tk : Tk} {b : Bl} (hE : Rds P F T lo dp d 75 #[.pointer (some ⟨P, 0, none⟩)] ex) (hD : Dec d 0 ex) (hbk : ∀ t, Dec d 0 (bk t))
  (hBK : ∀ (W w : World) (s : Ps) (m m1 : FileM) (X : List Nat) (t : Tk), Un W w P F T lo dp d m X s m1 → Calls Tryz.prog 34 #[.pointer (some ⟨P, 0, none⟩), tkV t] w (Stp W w P F T lo dp d m X m1 natV (bk t s)))
  (h : Un W w P F T lo dp d m X (takeS s0) m1) (hf0 : Fit d s0) (hk0 : (next s0).k ≠ 0) (hs : StK W X P F T lo N B Bp b m1 w) (hmu : muB b ≤ 1000000000) (hN : N ≤ w.heap.size) (hBN : Bp < N) (hBB : Bp ≠ B) :
  ∃ X', (∀ k ∈ X', 4 ≤ k ∧ (k ∈ X ∨ W.heap.size ≤ k)) ∧ Calls Tryz.prog 57 (#[tkV tk] ++ #[.pointer (some ⟨Bp, 0, none⟩), .pointer (some ⟨B, 0, none⟩)]) w (KEnd w P F T lo dp m1 X' (StK W X P F T lo N B Bp) (itemE ex bk tk b (takeS s0)) (fun _ => .tuple #[])) := by
 obtain ⟨⟨x, rfl, hub, hmine⟩, hBp⟩ := hs
 refine ⟨B :: x.foot, fun k hk => hmine k (List.mem_cons.1 hk), ?_⟩
 obtain ⟨⟨bt, labels, attrs, blocks, ba⟩, lv, av, bv⟩ := x
 obtain ⟨adA, cpA, eA⟩ : ∃ ad cp, av = .slice ad attrs.length cp := slice_of hub.ok.attrs
 subst eA
 obtain ⟨adB, cpB, eB⟩ : ∃ ad cp, bv = .slice ad blocks.length cp := slice_of hub.ok.blocks
 subst eB
 have hU1 := (Un.start (X := B :: (⟨⟨bt, labels, attrs, blocks, ba⟩, lv, .slice adA attrs.length cpA, .slice adB blocks.length cpB⟩ : BlM).foot) h.ps h.env h.fit).alloc (.cells #[.int .i64 tk.k, .string tk.x, .int .i64 (tk.at_ : Int)] 75)
 have hT1 := Loc.new h.ps #[.int .i64 tk.k, .string tk.x, .int .i64 (tk.at_ : Int)] 75
 have hB1 := hBp.alloc (.cells #[.int .i64 tk.k, .string tk.x, .int .i64 (tk.at_ : Int)] 75)
 have hub1 := hub.lc (Lc.alloc w (.cells #[.int .i64 tk.k, .string tk.x, .int .i64 (tk.at_ : Int)] 75) []) (by simp) (by simp)
 have t0 := hT1.blk.cell 0
 have t1 := hT1.blk.cell 1
 have t2 := hT1.blk.cell 2
 have b0 := hB1.blk.cell 0
 obtain ⟨W1, hW1⟩ : ∃ W1, w.alloc (.cells #[.int .i64 tk.k, .string tk.x, .int .i64 (tk.at_ : Int)] 75) = W1 := ⟨_, rfl⟩
 have hsz : W1.heap.size = w.heap.size + 1 := by rw [← hW1]; simp
 rw [hW1] at hU1 hT1 hB1 hub1
 have hUT : UnT W1 W1 P F T lo dp d m1 (B :: (⟨⟨bt, labels, attrs, blocks, ba⟩, lv, .slice adA attrs.length cpA, .slice adB blocks.length cpB⟩ : BlM).foot) (takeS s0) m1 N B ⟨⟨bt, labels, attrs, blocks, ba⟩, lv, .slice adA attrs.length cpA, .slice adB blocks.length cpB⟩ :=
  ⟨Un.start hU1.ps hU1.env hU1.fit, hub1, fun k hk => ⟨(hmine k hk).1, .inl (List.mem_cons.2 hk)⟩, by omega⟩
 have hmu' : attrs.length + blocks.length ≤ 1000000000 := hmu
 have hIT := item_any hE hD (fun W w s m1' hu => hBK W w s m1 m1' _ tk hu) hUT rfl rfl (by omega) (by omega)
 obtain ⟨R, hR⟩ : ∃ R, itemE ex bk tk ⟨bt, labels, attrs, blocks, ba⟩ (takeS s0) = R := ⟨_, rfl⟩
 rw [hR] at hIT
 have hR' : itemE ex bk tk (⟨⟨bt, labels, attrs, blocks, ba⟩, lv, .slice adA attrs.length cpA, .slice adB blocks.length cpB⟩ : BlM).b (takeS s0) = R := hR
 rw [hR']
 have hft : ∀ (b' : Bl) (s' : Ps), R = .ok (b', s') → Fit d s' := fun b' s' e => hf0.item2 hk0 (itemE_dec hD hbk tk _) (hR.trans e)
 have hnin : Bp ∉ B :: (⟨⟨bt, labels, attrs, blocks, ba⟩, lv, .slice adA attrs.length cpA, .slice adB blocks.length cpB⟩ : BlM).foot := fun hm => by
  rcases List.mem_cons.1 hm with h1 | h1
  ·exact hBB h1
  ·have := (hub.foot Bp h1).2.2.2.2; omega
 have hsz0 := h.outs.size
 have HIT := Lib.hid hIT
 have HFT := Lib.hid hft
 have HU1 := Lib.hid hU1
 have HB1 := Lib.hid hB1
 have HMI := Lib.hid hmine
 have HNI := Lib.hid hnin
 have HW1 := Lib.hid hW1
 have HSZ := Lib.hid (And.intro hsz hsz0)
 clear hU1 hT1 hB1 hub1 hUT hIT hR hR' hft hnin hW1 hsz hsz0 hub hmine hBp h hf0 hk0 hE hD hbk hBK hmu hmu' hN hBN hBB
 go_enter Tryz.func57, Tryz.ntmps57
 go_wp2_with fail
 go_at_call 58; rw [HW1.out]; refine HIT.out.mono ?_
 intro e w4 hk
 cases R with
 | error bd =>
  obtain ⟨D, rfl, hk2⟩ := HU1.out.kbad (fun k hk => .inl hk) hk
  exact ⟨rfl, D, rfl, hk2⟩
 | ok y =>
  obtain ⟨b', s'⟩ := y
  obtain ⟨rfl, m4, hU4, hx4, hl4, x4, he4, hub4, hm4⟩ := HU1.out.kend (fun k hk => ⟨(HMI.out k (List.mem_cons.1 hk)).1, .inl hk⟩) (HFT.out b' s' rfl) hk
  have hB4 := HB1.out.kstep hx4 hl4 HNI.out
  have hz := HSZ.out
  have H4 := Lib.hid (hU4.k (val := fun _ => .tuple #[]) (St := StK W X P F T lo N B Bp) (a := b') ⟨⟨x4, he4, hub4, fun k hk => by
   have h1 := hm4 k hk
   refine ⟨h1.1, ?_⟩
   rcases h1.2 with h2 | h2
   ·exact (HMI.out k (List.mem_cons.1 h2)).2
   ·exact .inr (by omega)⟩, hB4⟩)
  clear hU4 hx4 hl4 hub4 hm4 hB4 hk hz
  go_wp2_with fail
  first | go_end0 | go_ret
  exact H4.out
set_option maxRecDepth 100000 in
set_option maxHeartbeats 4000000 in
theorem blk1_any {W : World} {N B Bp : Nat} {s : Ps} {m : FileM} {ex : PM Nat} {bk : Tk → PM Nat} {b : Bl} {x : BlM} (hE : Rds P F T lo dp d 75 #[.pointer (some ⟨P, 0, none⟩)] ex) (hD : Dec d 0 ex) (hbk : ∀ t, Dec d 0 (bk t))
  (hBK : ∀ (W w : World) (s : Ps) (m m1 : FileM) (X : List Nat) (t : Tk), Un W w P F T lo dp d m X s m1 → Calls Tryz.prog 34 #[.pointer (some ⟨P, 0, none⟩), tkV t] w (Stp W w P F T lo dp d m X m1 natV (bk t s)))
  (h : PsAt W P F T lo dp s m) (he : Env W P F) (hf : Fit d s) (hb : x.b = b) (hub : UnB W P F T lo N m B x) (hmine : ∀ k, k = B ∨ k ∈ x.foot → 4 ≤ k) (hmu : muB b = 0) (hBp : Loc W P F T m Bp #[.pointer (some ⟨P, 0, none⟩)] 88) (hN : N ≤ W.heap.size) (hBN : Bp < N) (hBB : Bp ≠ B) :
  Calls Tryz.prog 56 #[.pointer (some ⟨Bp, 0, none⟩), .pointer (some ⟨B, 0, none⟩)] W (KEnd W P F T lo dp m (B :: x.foot) (StK W (B :: x.foot) P F T lo N B Bp) (itemsM (itemE ex bk) b s) (fun _ => .tuple #[])) := by
 have hroom := (Un.start (X := B :: x.foot) h he hf).room
 have hIT := items_mu (X := B :: x.foot) (rd := itemE ex bk) (x0 := b) h he hf (gr := 57) (lbr := #[.pointer (some ⟨Bp, 0, none⟩), .pointer (some ⟨B, 0, none⟩)]) (enters_of Tryz.func57 (by kernel_rfl) rfl) (St := StK W (B :: x.foot) P F T lo N B Bp) StK.aside (fun t y => itemE_dec hD hbk t y) muB (fun t y s y' s' e => itemE_mu t y s y' s' e)
  (fun W' t y s0 m' hst hu hf0 ht hk hm => by
   have hlt := take_lt (s := s0) (by rw [ht, hk]; decide)
   exact blk2_any hE hD hbk hBK hu hf0 (by rw [ht, hk]; decide) hst (by omega) (Nat.le_trans hN hu.outs.size) hBN hBB)
  ⟨⟨x, hb, hub, fun k hk => ⟨hmine k hk, .inl (List.mem_cons.2 hk)⟩⟩, hBp⟩
 have b0 := hBp.blk.cell 0
 obtain ⟨R, hR⟩ : ∃ R, itemsM (itemE ex bk) b s = R := ⟨_, rfl⟩
 rw [hR] at hIT ⊢
 have HIT := Lib.hid hIT
 have hmf : ∀ (fn : Fn) (first cap : Array Value) (w : World), (Instr.makeFunc fn first cap).run Tryz.prog w = .ok (.func fn first cap) w := fun _ _ _ _ => rfl
 clear hIT hR hroom hBp hub hmine hE hD hbk hBK h he hf
 go_enter Tryz.func56, Tryz.ntmps56
 go_wp2_with fail
 go_at_call 32; refine HIT.out.mono ?_
 intro e w4 hk
 cases R with
 | error bd =>
  obtain ⟨D, rfl, hk2⟩ := hk
  exact ⟨rfl, D, rfl, hk2⟩
 | ok y =>
  obtain ⟨b', s'⟩ := y
  obtain ⟨rfl, hk2⟩ := hk
  have HK := Lib.hid hk2
  clear hk2
  go_wp2_with fail
  first | go_end0 | go_ret
  exact ⟨rfl, HK.out⟩
end
end Go.Proofs.YtljgggohjigaoaaGreatDoor
