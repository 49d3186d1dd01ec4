/- What stands in an insertion -/
import Derived.Deep.RegionWith
import Derived.Deep.RegionHeld
import Derived.Test.YtljgggohjigaoaaGreatDoorSk26
namespace Go.Proofs.YtljgggohjigaoaaGreatDoor
open Go.RowKit Go.Shelf
set_option linter.unusedVariables false
set_option linter.unusedSimpArgs false

theorem scan_epos {t : ByteArray} {c : Int} {p : Nat} (h : scanL t = .error (c, p)) : p ≤ t.size := by
 unfold scanL at h
 split at h
 ·cases h; exact Nat.zero_le _
 ·split at h
  ·rename_i hb
   cases h
   omega
  ·exact tokL_epos h
theorem good_shift {l : List Tk} (h : ∀ t ∈ l, t.k ≠ 0) (n a : Nat) : GoodT ((l ++ [endT n]).map (shiftT a)) := by
 refine ⟨l.map (shiftT a), shiftT a (endT n), by simp, rfl, rfl, fun t ht => ?_⟩
 obtain ⟨u, hu, rfl⟩ := List.mem_map.1 ht
 exact h u hu
/-- A parser of a piece of its own. -/
theorem PsAt.inner {W w : World} {P F T lo dp dq : Nat} {s : Ps} {m : FileM} (h : PsAt W P F T lo dp s m) (hb : Below W.heap.size W w) {P' g n cap : Nat} {toks : List Tk} (hP : W.heap.size ≤ P') (hg : W.heap.size ≤ g) (hgP : g ≠ P') (hB : Blk w P' #[.slice (some ⟨g, 0, none⟩) n cap, .bool false, .int .i64 (dq : Int), .pointer (some ⟨F, 0, none⟩)] 64) (hr : w.ownsRow W.heap.size 75 3 (.slice (some ⟨g, 0, none⟩) n cap) n (tkCells toks)) (hn : toks.length = n) (hgd : GoodT toks) : PsAt w P' F g lo dq ⟨toks, false, s.f⟩ m := by
 have hlt : ∀ k, k ∈ m.foot F → k < W.heap.size := fun k hk => (h.file.lt k hk).1
 have hgl := (row_lt hr (g := g) rfl).2
 have hcap : n ≤ cap := by
  rcases hr.2 with ⟨h1, -⟩ | ⟨g', cap', cur, h1, h2, h3, h4, -⟩
  ·cases h1
  ·injection h1 with _ _ h5
   omega
 refine ⟨⟨hgP, _, hB, 0, cap, by rw [← hn], by rw [← hn] at hcap; exact hcap, hgl, fun j u hu => ?_⟩, fun hm => by have := hlt _ hm; omega, hgd, h.file.keep (fun k hk => hb.block k (hlt k hk)), fun hm => by have := hlt _ hm; omega, h.base.1, Nat.le_trans h.base.2 hb.size⟩
 have h1 := World.ownsRow.cells hr (g := g) rfl j u hu
 have hadd : (⟨g, 0, none⟩ : Addr).add j = ⟨g, 0 + j, none⟩ := by
  cases j with
  | zero => rfl
  | succ j => simp [Addr.add]
 rw [hadd] at h1
 exact h1
/-- What is read of a piece. -/
def insE (R : List UInt8) (at_ : Nat) (ex : PM Nat) : PM Nat := fun s => match scanL (bA ((R.drop 2).take (R.length - 3))) with
 | .error (c, q) => .error (c, at_ + 2 + q)
 | .ok l => match bindP ex (fun i => bindP (kindM 0) fun _ s' => .ok (i, s')) (⟨((l : List Tk) ++ [endT (bA ((R.drop 2).take (R.length - 3))).size]).map (shiftT (at_ + 2)), false, s.f⟩ : Ps) with
  | .error e => .error e
  | .ok (i, s') => .ok (i, { s with f := s'.f })
theorem insertedM_eq (nx : Sub) (R : List UInt8) (at_ : Nat) : insertedM nx R at_ = deeperM nx at_ fun p => insE R at_ p.1 := rfl
theorem inside_eq {x : ByteArray} (h : 3 ≤ x.size) : x.extract 2 (x.size - 1) = bA ((x.data.toList.drop 2).take (x.data.toList.length - 3)) := by
 unfold bA
 apply ByteArray.ext
 rw [ByteArray.data_extract]
 apply Array.toList_inj.1
 rw [Array.toList_extract]
 simp only [List.extract_eq_take_drop]
 have e : x.data.toList.length - 3 = x.size - 1 - 2 := by simp; omega
 rw [e]
theorem kind0_ps {W : World} {P F T lo dp : Nat} {s : Ps} {m : FileM} (h : PsAt W P F T lo dp s m) : Calls Tryz.prog 35 #[.pointer (some ⟨P, 0, none⟩), .int .i64 0] W fun e w' => match kindM 0 s with
  | .ok (t, s') => e = .returned (tkV t) ∧ s' = takeS s ∧ Aside P W w'
  | .error bd => ThrewP W P bd e w' := by
 unfold kindM
 by_cases hi : (next s).k = 0
 ·rw [if_pos hi]
  refine (wkind_end h.tok h.good hi).mono ?_
  rintro e w' ⟨rfl, ha⟩
  exact ⟨rfl, rfl, ha⟩
 ·rw [if_neg hi]
  exact wkind_no h.tok h.good hi
theorem OutsX.of_inner {W wz w' : World} {P P1 F : Nat} {m : FileM} {X : List Nat} (hb : Below W.heap.size W wz) (ho : Outs wz w' P1 F m) (hP1 : W.heap.size ≤ P1) : OutsX W w' P F m X :=
 ⟨ho.os.trans hb.os, ho.tape.trans hb.tape, ho.output.trans hb.output, Nat.le_trans hb.size ho.size, fun k hk _ h2 _ => (ho.block k (Nat.lt_of_lt_of_le hk hb.size) (by omega) h2).trans (hb.block k hk)⟩
section
variable {W : World} {P F T lo dp d : Nat} {s : Ps} {m : FileM} {ex : PM Nat}
set_option maxRecDepth 100000 in
set_option maxHeartbeats 1000000 in
theorem inserted1_any {O Bt Ba Bp a : Nat} {x : ByteArray} (hE : ∀ P T, Rds P F T lo dp d 75 #[.pointer (some ⟨P, 0, none⟩)] ex) (hD : Dec d 0 ex) (h : PsAt W P F T lo dp s m) (he : Env W P F) (hroom : pot s + x.size ≤ 1000000000) (hx3 : 3 ≤ x.size) (hxs : x.size ≤ 65536) (ha : a + 100000 + 100000 * d ≤ 3070000)
  (hO : Loc W P F T m O #[.int .i64 0] 3) (hO4 : 4 ≤ O) (hT : Loc W P F T m Bt #[.string x] 9) (hA : Loc W P F T m Ba #[.int .i64 (a : Int)] 3) (hB : Loc W P F T m Bp #[.pointer (some ⟨P, 0, none⟩)] 88) :
  Calls Tryz.prog 175 #[.pointer (some ⟨Bt, 0, none⟩), .pointer (some ⟨Ba, 0, none⟩), .pointer (some ⟨Bp, 0, none⟩), .pointer (some ⟨O, 0, none⟩)] W (KEnd W P F T lo dp m [O] (StN P F T O) (insE x.data.toList a ex s) (fun _ => .tuple #[])) := by
 have HPS := Lib.hid (And.intro h (And.intro he (And.intro hO (And.intro hB hA))))
 have HEX := Lib.hid (And.intro hE hD)
 have HIE := Lib.hid (inside_eq hx3)
 have HXS := Lib.hid (And.intro hroom (And.intro hxs (And.intro ha hO4)))
 obtain ⟨tv, hP⟩ := h.blk
 have t0 := hT.blk.cell 0
 have a0 := hA.blk.cell 0
 have b0 := hB.blk.cell 0
 have p2 := hP.cell 2
 have p3 := hP.cell 3
 have i1 : (2 : Int) ≤ (x.size : Int) - 1 := by omega
 have i2 : (x.size : Int) - 1 ≤ (x.size : Int) := by omega
 have e2 : (((x.size : Int) - 1).toNat) = x.size - 1 := by omega
 have hAl : Ba < W.heap.size := hA.blk.lt
 have hBl : Bp < W.heap.size := hB.blk.lt
 have hPl : P < W.heap.size := hP.lt
 have HRD : Hid (Ready W.drew) := Lib.hid (he.aside ((Aside.refl P W).draw 1)).ready
 have HRD2 : Hid (∀ w', Below W.heap.size W w' → Ready w') := Lib.hid (fun w' hb => (he.below hb).ready)
 obtain ⟨R, hR⟩ : ∃ R, insE x.data.toList a ex s = R := ⟨_, rfl⟩
 rw [hR]
 obtain ⟨y, hy⟩ : ∃ y, bA ((x.data.toList.drop 2).take (x.data.toList.length - 3)) = y := ⟨_, rfl⟩
 rw [hy] at HIE
 cases hsc : scanL y with
 | error ce =>
  obtain ⟨c, q⟩ := ce
  have hre : R = .error (c, a + 2 + q) := by
   rw [← hR]
   unfold insE
   rw [hy, hsc]
  have hq : q ≤ 1000000000 := by
   have h1 := scan_epos hsc
   have h2 : y.size = x.size - 3 := by rw [← HIE.out]; simp; omega
   omega
  have hsc' : scanL (x.extract 2 (x.size - 1)) = .error (c, q) := by rw [HIE.out]; exact hsc
  have HSCN := Lib.hid (fun (w : World) (hw : Ready w) => scanned_err (a := a + 2) hw hsc' (by omega) hq)
  have HRE := Lib.hid hre
  have aa : ((a + 2 : Nat) : Int) = (a : Int) + 2 := by omega
  rw [aa] at HSCN
  have hwr : IntKind.i64.wrap ((a : Int) + 2) = (a : Int) + 2 := IntWalk.i64_in _ (by omega)
  clear h he hO hT hA hB hE hD hP hR hy hsc hsc' hre hroom hx3 ha hO4
  go_enter Tryz.func175, Tryz.ntmps175
  go_wp2_with fail
  refine wp_region_held_drew (S := fun w' => Below W.heap.size W w') (by kernel_rfl) ((Below.refl W.heap.size W).drew) (fun hHeld => ?_)
  refine wpAnyH_take (i := 0) (oi := _) (v := ?qe_v0) rfl (by kernel_rfl) (by kernel_rfl) (by kernel_rfl) (fun _ _ _ h => h) (Or.inl ⟨by rfl, ?qe_y0⟩) (by assumption) ?qe_r0
  case qe_y0 => (intro w hSw; have z0 := (hSw.cell (p := ⟨Ba, 0, none⟩) hAl).trans a0; have z1 := (hSw.cell (p := ⟨Bp, 0, none⟩) hBl).trans b0; have z2 := (hSw.cell (p := ⟨P, 2, none⟩) hPl).trans p2; have z3 := (hSw.cell (p := ⟨P, 3, none⟩) hPl).trans p3; go_simp; (try with_reducible rfl))
  try simp only [Act.put, List.setIfInBounds_toArray, List.set_cons_zero, List.set_cons_succ]
  refine wpAnyH_take (i := 1) (oi := _) (v := ?qe_v1) rfl (by kernel_rfl) (by kernel_rfl) (by kernel_rfl) (fun _ _ _ h => h) (Or.inl ⟨by rfl, ?qe_y1⟩) (by assumption) ?qe_r1
  case qe_y1 => (intro w hSw; have z0 := (hSw.cell (p := ⟨Ba, 0, none⟩) hAl).trans a0; have z1 := (hSw.cell (p := ⟨Bp, 0, none⟩) hBl).trans b0; have z2 := (hSw.cell (p := ⟨P, 2, none⟩) hPl).trans p2; have z3 := (hSw.cell (p := ⟨P, 3, none⟩) hPl).trans p3; go_simp; (try with_reducible rfl))
  try simp only [Act.put, List.setIfInBounds_toArray, List.set_cons_zero, List.set_cons_succ]
  refine wpAnyH_take (i := 2) (oi := _) (v := ?qe_v2) rfl (by kernel_rfl) (by kernel_rfl) (by kernel_rfl) (fun _ _ _ h => h) (Or.inl ⟨by rfl, ?qe_y2⟩) (by assumption) ?qe_r2
  case qe_y2 => (intro w hSw; have z0 := (hSw.cell (p := ⟨Ba, 0, none⟩) hAl).trans a0; have z1 := (hSw.cell (p := ⟨Bp, 0, none⟩) hBl).trans b0; have z2 := (hSw.cell (p := ⟨P, 2, none⟩) hPl).trans p2; have z3 := (hSw.cell (p := ⟨P, 3, none⟩) hPl).trans p3; go_simp; (try with_reducible rfl))
  try simp only [Act.put, List.setIfInBounds_toArray, List.set_cons_zero, List.set_cons_succ]
  refine wpAnyH_take (i := 4) (oi := _) (v := ?qe_v4) rfl (by kernel_rfl) (by kernel_rfl) (by kernel_rfl) (fun _ _ _ h => h) (Or.inl ⟨by rfl, ?qe_y4⟩) (by assumption) ?qe_r4
  case qe_y4 => (intro w hSw; have z0 := (hSw.cell (p := ⟨Ba, 0, none⟩) hAl).trans a0; have z1 := (hSw.cell (p := ⟨Bp, 0, none⟩) hBl).trans b0; have z2 := (hSw.cell (p := ⟨P, 2, none⟩) hPl).trans p2; have z3 := (hSw.cell (p := ⟨P, 3, none⟩) hPl).trans p3; go_simp; (try with_reducible rfl))
  try simp only [Act.put, List.setIfInBounds_toArray, List.set_cons_zero, List.set_cons_succ]
  refine wpAnyH_take (i := 5) (oi := _) (v := ?qe_v5) rfl (by kernel_rfl) (by kernel_rfl) (by kernel_rfl) (fun _ _ _ h => h) (Or.inl ⟨by rfl, ?qe_y5⟩) (by assumption) ?qe_r5
  case qe_y5 => (intro w hSw; have z0 := (hSw.cell (p := ⟨Ba, 0, none⟩) hAl).trans a0; have z1 := (hSw.cell (p := ⟨Bp, 0, none⟩) hBl).trans b0; have z2 := (hSw.cell (p := ⟨P, 2, none⟩) hPl).trans p2; have z3 := (hSw.cell (p := ⟨P, 3, none⟩) hPl).trans p3; go_simp; (try with_reducible rfl))
  try simp only [Act.put, List.setIfInBounds_toArray, List.set_cons_zero, List.set_cons_succ]
  refine wpAnyH_take (i := 6) (oi := _) (v := ?qe_v6) rfl (by kernel_rfl) (by kernel_rfl) (by kernel_rfl) (fun _ _ _ h => h) (Or.inl ⟨by rfl, ?qe_y6⟩) (by assumption) ?qe_r6
  case qe_y6 => (intro w hSw; have z0 := (hSw.cell (p := ⟨Ba, 0, none⟩) hAl).trans a0; have z1 := (hSw.cell (p := ⟨Bp, 0, none⟩) hBl).trans b0; have z2 := (hSw.cell (p := ⟨P, 2, none⟩) hPl).trans p2; have z3 := (hSw.cell (p := ⟨P, 3, none⟩) hPl).trans p3; go_simp; (try with_reducible rfl))
  try simp only [Act.put, List.setIfInBounds_toArray, List.set_cons_zero, List.set_cons_succ]
  refine wpAnyH_take (i := 7) (oi := _) (v := ?qe_v7) rfl (by kernel_rfl) (by kernel_rfl) (by kernel_rfl) (fun _ _ _ h => h) (Or.inl ⟨by rfl, ?qe_y7⟩) (by assumption) ?qe_r7
  case qe_y7 => (intro w hSw; have z0 := (hSw.cell (p := ⟨Ba, 0, none⟩) hAl).trans a0; have z1 := (hSw.cell (p := ⟨Bp, 0, none⟩) hBl).trans b0; have z2 := (hSw.cell (p := ⟨P, 2, none⟩) hPl).trans p2; have z3 := (hSw.cell (p := ⟨P, 3, none⟩) hPl).trans p3; go_simp; (try with_reducible rfl))
  try simp only [Act.put, List.setIfInBounds_toArray, List.set_cons_zero, List.set_cons_succ]
  refine wpAnyH_take (i := 8) (oi := _) (v := ?qe_v8) rfl (by kernel_rfl) (by kernel_rfl) (by kernel_rfl) (fun _ _ _ h => h) (Or.inl ⟨by rfl, ?qe_y8⟩) (by assumption) ?qe_r8
  case qe_y8 => (intro w hSw; have z0 := (hSw.cell (p := ⟨Ba, 0, none⟩) hAl).trans a0; have z1 := (hSw.cell (p := ⟨Bp, 0, none⟩) hBl).trans b0; have z2 := (hSw.cell (p := ⟨P, 2, none⟩) hPl).trans p2; have z3 := (hSw.cell (p := ⟨P, 3, none⟩) hPl).trans p3; go_simp; (try with_reducible rfl))
  try simp only [Act.put, List.setIfInBounds_toArray, List.set_cons_zero, List.set_cons_succ]
  refine wpAnyH_take (i := 9) (oi := _) (v := ?qe_v9) rfl (by kernel_rfl) (by kernel_rfl) (by kernel_rfl) (fun _ _ _ h => h) (Or.inl ⟨by rfl, ?qe_y9⟩) (by assumption) ?qe_r9
  case qe_y9 => (intro w hSw; have z0 := (hSw.cell (p := ⟨Ba, 0, none⟩) hAl).trans a0; have z1 := (hSw.cell (p := ⟨Bp, 0, none⟩) hBl).trans b0; have z2 := (hSw.cell (p := ⟨P, 2, none⟩) hPl).trans p2; have z3 := (hSw.cell (p := ⟨P, 3, none⟩) hPl).trans p3; go_simp; (try with_reducible rfl))
  try simp only [Act.put, List.setIfInBounds_toArray, List.set_cons_zero, List.set_cons_succ]
  refine wpAnyH_take (i := 10) (oi := _) (v := ?qe_v10) rfl (by kernel_rfl) (by kernel_rfl) (by kernel_rfl) (fun _ _ _ h => h) (Or.inl ⟨by rfl, ?qe_y10⟩) (by assumption) ?qe_r10
  case qe_y10 => (intro w hSw; have z0 := (hSw.cell (p := ⟨Ba, 0, none⟩) hAl).trans a0; have z1 := (hSw.cell (p := ⟨Bp, 0, none⟩) hBl).trans b0; have z2 := (hSw.cell (p := ⟨P, 2, none⟩) hPl).trans p2; have z3 := (hSw.cell (p := ⟨P, 3, none⟩) hPl).trans p3; go_simp; (try with_reducible rfl))
  try simp only [Act.put, List.setIfInBounds_toArray, List.set_cons_zero, List.set_cons_succ]
  refine wpAnyH_take (i := 11) (oi := _) (v := ?qe_v11) rfl (by kernel_rfl) (by kernel_rfl) (by kernel_rfl) (fun _ _ _ h => h) (Or.inl ⟨by rfl, ?qe_y11⟩) (by assumption) ?qe_r11
  case qe_y11 => (intro w hSw; have z0 := (hSw.cell (p := ⟨Ba, 0, none⟩) hAl).trans a0; have z1 := (hSw.cell (p := ⟨Bp, 0, none⟩) hBl).trans b0; have z2 := (hSw.cell (p := ⟨P, 2, none⟩) hPl).trans p2; have z3 := (hSw.cell (p := ⟨P, 3, none⟩) hPl).trans p3; go_simp; (try with_reducible rfl))
  try simp only [Act.put, List.setIfInBounds_toArray, List.set_cons_zero, List.set_cons_succ]
  refine wpAnyH_ready (rs := [3, 13]) (by kernel_rfl) (by simp) ?_
  refine AllReadyH.cons (o := _) rfl (fun K hK => ?_) ?_
  ·go_simp
   go_at_call 19; refine (HSCN.out _ HRD.out).mono ?_; rintro e w4 ⟨D, rfl, hD, hdb, hb4⟩
   refine ⟨rfl, ?_⟩
   rw [HRE.out]
   exact ⟨D, rfl, hD, hdb, OutsX.of (Aside.of (((Below.refl W.heap.size W).drew).trans hb4)) _⟩
  ·refine AllReadyH.cons (o := _) rfl (fun K hK => ?_) AllReadyH.nil
   go_simp
   refine hK.out _ _ (((Below.refl W.heap.size W).drew).alloc (Nat.le_refl _) _) (fun hHeld => ?_)
   clear hK K
   try simp only [Act.put, List.setIfInBounds_toArray, List.set_cons_zero, List.set_cons_succ]
   refine wpAnyH_ready (rs := [3]) (by kernel_rfl) (by simp) ?_
   refine AllReadyH.cons (o := _) rfl (fun K hK => ?_) AllReadyH.nil
   go_simp
   go_at_call 19; refine (HSCN.out _ (HRD2.out _ hHeld)).mono ?_; rintro e w4 ⟨D, rfl, hD, hdb, hb4⟩
   refine ⟨rfl, ?_⟩
   rw [HRE.out]
   have hsz := hHeld.size
   exact ⟨D, rfl, Nat.le_trans hsz hD, hdb, OutsX.of (Aside.of (hHeld.trans (hb4.mono hsz))) _⟩
 | ok l =>
  have hps := scan_pos hsc
  have hwt := scan_wt hsc
  have hsz : y.size = x.size - 3 := by rw [← HIE.out]; simp; omega
  have hsc' : scanL (x.extract 2 (x.size - 1)) = .ok l := by rw [HIE.out]; exact hsc
  have HSCN := Lib.hid (fun (w : World) (hw : Ready w) => scanned_ok (a := a + 2) hw hsc' (by omega))
  have hys : (x.extract 2 (x.size - 1)).size = y.size := by rw [HIE.out]
  rw [hys] at HSCN
  have aa : ((a + 2 : Nat) : Int) = (a : Int) + 2 := by omega
  rw [aa] at HSCN
  have hwr : IntKind.i64.wrap ((a : Int) + 2) = (a : Int) + 2 := IntWalk.i64_in _ (by omega)
  have hwr : IntKind.i64.wrap ((a : Int) + 2) = (a : Int) + 2 := IntWalk.i64_in _ (by omega)
  obtain ⟨n, hn⟩ : ∃ n, l.length + 1 = n := ⟨_, rfl⟩
  have HNN := Lib.hid hn
  have HNN0 : Hid (0 < n) := Lib.hid (by omega)
  have HLN : Hid (((l ++ [endT y.size]).map (shiftT (a + 2))).length = n) := Lib.hid (by simp [← hn])
  have HGD : Hid (GoodT ((l ++ [endT y.size]).map (shiftT (a + 2)))) := Lib.hid (good_shift hwt.2 _ _)
  have HFT : Hid (Fit d (⟨(l ++ [endT y.size]).map (shiftT (a + 2)), false, s.f⟩ : Ps)) := Lib.hid ⟨scan_snd d y.size (a + 2) hsc, scan_text hsc y.size (a + 2), fun t ht => by
   obtain ⟨u, hu, rfl⟩ := List.mem_map.1 ht
   have h1 := hps.2 u hu
   have h2 : (shiftT (a + 2) u).at_ = u.at_ + (a + 2) := rfl
   omega, by
   have h1 := hwt.1
   have h2 : wts ((l ++ [endT y.size]).map (shiftT (a + 2))) = wts l := by
    rw [wts_shift, wts_append]
    have : wts [endT y.size] = 0 := rfl
    omega
   unfold Go.Proofs.YtljgggohjigaoaaGreatDoor.pot at hroom ⊢
   simp only
   rw [h2]
   omega⟩
  have HRI : Hid ((match bindP ex (fun i => bindP (kindM 0) fun _ s' => .ok (i, s')) (⟨(l ++ [endT y.size]).map (shiftT (a + 2)), false, s.f⟩ : Ps) with | .error e => .error e | .ok (i, s') => .ok (i, { s with f := s'.f }) : PR Nat) = R) := Lib.hid (by
   rw [← hR]
   unfold insE
   rw [hy, hsc])
  clear h he hO hT hA hB hE hD hP hR hy hsc hsc' hroom hx3 ha hO4 hps hwt hn hsz hys
  go_enter Tryz.func175, Tryz.ntmps175
  go_wp2_with fail
  refine have AFTER : (∀ (wz : World) (P1 g1 cap1 : Nat), Below W.heap.size W wz ∧ W.heap.size ≤ P1 ∧ Blk wz P1 #[.slice (some ⟨g1, 0, none⟩) n cap1, .bool false, .int .i64 (dp : Int), .pointer (some ⟨F, 0, none⟩)] 64 ∧ W.heap.size ≤ g1 ∧ PsAt wz P1 F g1 lo dp ⟨(l ++ [endT y.size]).map (shiftT (a + 2)), false, s.f⟩ m → (?G : World → Nat → Nat → Nat → Prop) wz P1 g1 cap1) := ?later; ?main
  case main =>
   refine wp_region_held_drew (S := fun w' => Below W.heap.size W w') (by kernel_rfl) ((Below.refl W.heap.size W).drew) (fun hHeld => ?_)
   refine wpAnyH_take (i := 0) (oi := _) (v := ?qo_v0) rfl (by kernel_rfl) (by kernel_rfl) (by kernel_rfl) (fun _ _ _ h => h) (Or.inl ⟨by rfl, ?qo_y0⟩) (by assumption) ?qo_r0
   case qo_y0 => (intro w hSw; have z0 := (hSw.cell (p := ⟨Ba, 0, none⟩) hAl).trans a0; have z1 := (hSw.cell (p := ⟨Bp, 0, none⟩) hBl).trans b0; have z2 := (hSw.cell (p := ⟨P, 2, none⟩) hPl).trans p2; have z3 := (hSw.cell (p := ⟨P, 3, none⟩) hPl).trans p3; go_simp; (try with_reducible rfl))
   try simp only [Act.put, List.setIfInBounds_toArray, List.set_cons_zero, List.set_cons_succ]
   refine wpAnyH_take (i := 1) (oi := _) (v := ?qo_v1) rfl (by kernel_rfl) (by kernel_rfl) (by kernel_rfl) (fun _ _ _ h => h) (Or.inl ⟨by rfl, ?qo_y1⟩) (by assumption) ?qo_r1
   case qo_y1 => (intro w hSw; have z0 := (hSw.cell (p := ⟨Ba, 0, none⟩) hAl).trans a0; have z1 := (hSw.cell (p := ⟨Bp, 0, none⟩) hBl).trans b0; have z2 := (hSw.cell (p := ⟨P, 2, none⟩) hPl).trans p2; have z3 := (hSw.cell (p := ⟨P, 3, none⟩) hPl).trans p3; go_simp; (try with_reducible rfl))
   try simp only [Act.put, List.setIfInBounds_toArray, List.set_cons_zero, List.set_cons_succ]
   refine wpAnyH_take (i := 2) (oi := _) (v := ?qo_v2) rfl (by kernel_rfl) (by kernel_rfl) (by kernel_rfl) (fun _ _ _ h => h) (Or.inl ⟨by rfl, ?qo_y2⟩) (by assumption) ?qo_r2
   case qo_y2 => (intro w hSw; have z0 := (hSw.cell (p := ⟨Ba, 0, none⟩) hAl).trans a0; have z1 := (hSw.cell (p := ⟨Bp, 0, none⟩) hBl).trans b0; have z2 := (hSw.cell (p := ⟨P, 2, none⟩) hPl).trans p2; have z3 := (hSw.cell (p := ⟨P, 3, none⟩) hPl).trans p3; go_simp; (try with_reducible rfl))
   try simp only [Act.put, List.setIfInBounds_toArray, List.set_cons_zero, List.set_cons_succ]
   refine wpAnyH_take (i := 4) (oi := _) (v := ?qo_v4) rfl (by kernel_rfl) (by kernel_rfl) (by kernel_rfl) (fun _ _ _ h => h) (Or.inl ⟨by rfl, ?qo_y4⟩) (by assumption) ?qo_r4
   case qo_y4 => (intro w hSw; have z0 := (hSw.cell (p := ⟨Ba, 0, none⟩) hAl).trans a0; have z1 := (hSw.cell (p := ⟨Bp, 0, none⟩) hBl).trans b0; have z2 := (hSw.cell (p := ⟨P, 2, none⟩) hPl).trans p2; have z3 := (hSw.cell (p := ⟨P, 3, none⟩) hPl).trans p3; go_simp; (try with_reducible rfl))
   try simp only [Act.put, List.setIfInBounds_toArray, List.set_cons_zero, List.set_cons_succ]
   refine wpAnyH_take (i := 5) (oi := _) (v := ?qo_v5) rfl (by kernel_rfl) (by kernel_rfl) (by kernel_rfl) (fun _ _ _ h => h) (Or.inl ⟨by rfl, ?qo_y5⟩) (by assumption) ?qo_r5
   case qo_y5 => (intro w hSw; have z0 := (hSw.cell (p := ⟨Ba, 0, none⟩) hAl).trans a0; have z1 := (hSw.cell (p := ⟨Bp, 0, none⟩) hBl).trans b0; have z2 := (hSw.cell (p := ⟨P, 2, none⟩) hPl).trans p2; have z3 := (hSw.cell (p := ⟨P, 3, none⟩) hPl).trans p3; go_simp; (try with_reducible rfl))
   try simp only [Act.put, List.setIfInBounds_toArray, List.set_cons_zero, List.set_cons_succ]
   refine wpAnyH_take (i := 6) (oi := _) (v := ?qo_v6) rfl (by kernel_rfl) (by kernel_rfl) (by kernel_rfl) (fun _ _ _ h => h) (Or.inl ⟨by rfl, ?qo_y6⟩) (by assumption) ?qo_r6
   case qo_y6 => (intro w hSw; have z0 := (hSw.cell (p := ⟨Ba, 0, none⟩) hAl).trans a0; have z1 := (hSw.cell (p := ⟨Bp, 0, none⟩) hBl).trans b0; have z2 := (hSw.cell (p := ⟨P, 2, none⟩) hPl).trans p2; have z3 := (hSw.cell (p := ⟨P, 3, none⟩) hPl).trans p3; go_simp; (try with_reducible rfl))
   try simp only [Act.put, List.setIfInBounds_toArray, List.set_cons_zero, List.set_cons_succ]
   refine wpAnyH_take (i := 7) (oi := _) (v := ?qo_v7) rfl (by kernel_rfl) (by kernel_rfl) (by kernel_rfl) (fun _ _ _ h => h) (Or.inl ⟨by rfl, ?qo_y7⟩) (by assumption) ?qo_r7
   case qo_y7 => (intro w hSw; have z0 := (hSw.cell (p := ⟨Ba, 0, none⟩) hAl).trans a0; have z1 := (hSw.cell (p := ⟨Bp, 0, none⟩) hBl).trans b0; have z2 := (hSw.cell (p := ⟨P, 2, none⟩) hPl).trans p2; have z3 := (hSw.cell (p := ⟨P, 3, none⟩) hPl).trans p3; go_simp; (try with_reducible rfl))
   try simp only [Act.put, List.setIfInBounds_toArray, List.set_cons_zero, List.set_cons_succ]
   refine wpAnyH_take (i := 8) (oi := _) (v := ?qo_v8) rfl (by kernel_rfl) (by kernel_rfl) (by kernel_rfl) (fun _ _ _ h => h) (Or.inl ⟨by rfl, ?qo_y8⟩) (by assumption) ?qo_r8
   case qo_y8 => (intro w hSw; have z0 := (hSw.cell (p := ⟨Ba, 0, none⟩) hAl).trans a0; have z1 := (hSw.cell (p := ⟨Bp, 0, none⟩) hBl).trans b0; have z2 := (hSw.cell (p := ⟨P, 2, none⟩) hPl).trans p2; have z3 := (hSw.cell (p := ⟨P, 3, none⟩) hPl).trans p3; go_simp; (try with_reducible rfl))
   try simp only [Act.put, List.setIfInBounds_toArray, List.set_cons_zero, List.set_cons_succ]
   refine wpAnyH_take (i := 9) (oi := _) (v := ?qo_v9) rfl (by kernel_rfl) (by kernel_rfl) (by kernel_rfl) (fun _ _ _ h => h) (Or.inl ⟨by rfl, ?qo_y9⟩) (by assumption) ?qo_r9
   case qo_y9 => (intro w hSw; have z0 := (hSw.cell (p := ⟨Ba, 0, none⟩) hAl).trans a0; have z1 := (hSw.cell (p := ⟨Bp, 0, none⟩) hBl).trans b0; have z2 := (hSw.cell (p := ⟨P, 2, none⟩) hPl).trans p2; have z3 := (hSw.cell (p := ⟨P, 3, none⟩) hPl).trans p3; go_simp; (try with_reducible rfl))
   try simp only [Act.put, List.setIfInBounds_toArray, List.set_cons_zero, List.set_cons_succ]
   refine wpAnyH_take (i := 10) (oi := _) (v := ?qo_v10) rfl (by kernel_rfl) (by kernel_rfl) (by kernel_rfl) (fun _ _ _ h => h) (Or.inl ⟨by rfl, ?qo_y10⟩) (by assumption) ?qo_r10
   case qo_y10 => (intro w hSw; have z0 := (hSw.cell (p := ⟨Ba, 0, none⟩) hAl).trans a0; have z1 := (hSw.cell (p := ⟨Bp, 0, none⟩) hBl).trans b0; have z2 := (hSw.cell (p := ⟨P, 2, none⟩) hPl).trans p2; have z3 := (hSw.cell (p := ⟨P, 3, none⟩) hPl).trans p3; go_simp; (try with_reducible rfl))
   try simp only [Act.put, List.setIfInBounds_toArray, List.set_cons_zero, List.set_cons_succ]
   refine wpAnyH_take (i := 11) (oi := _) (v := ?qo_v11) rfl (by kernel_rfl) (by kernel_rfl) (by kernel_rfl) (fun _ _ _ h => h) (Or.inl ⟨by rfl, ?qo_y11⟩) (by assumption) ?qo_r11
   case qo_y11 => (intro w hSw; have z0 := (hSw.cell (p := ⟨Ba, 0, none⟩) hAl).trans a0; have z1 := (hSw.cell (p := ⟨Bp, 0, none⟩) hBl).trans b0; have z2 := (hSw.cell (p := ⟨P, 2, none⟩) hPl).trans p2; have z3 := (hSw.cell (p := ⟨P, 3, none⟩) hPl).trans p3; go_simp; (try with_reducible rfl))
   try simp only [Act.put, List.setIfInBounds_toArray, List.set_cons_zero, List.set_cons_succ]
   refine wpAnyH_ready (rs := [3, 13]) (by kernel_rfl) (by simp) ?_
   refine AllReadyH.cons (o := _) rfl (fun K hK => ?_) ?_
   ·go_simp
    go_at_call 19; refine (HSCN.out _ HRD.out).mono ?_; rintro e w4 ⟨v, rfl, hb4, ho4⟩
    obtain ⟨ad, cap1, rfl⟩ := slice_of ho4
    rw [HNN.out] at ho4 ⊢
    have hb4' : Below W.heap.size W w4 := ((Below.refl W.heap.size W).drew).trans hb4
    refine hK.out _ _ hb4' (fun hHeld => ?_)
    clear hK K
    try simp only [Act.put, List.setIfInBounds_toArray, List.set_cons_zero, List.set_cons_succ]
    refine wpAnyH_take (i := 12) (oi := _) (v := ?qp_v12) rfl (by kernel_rfl) (by kernel_rfl) (by kernel_rfl) (fun _ _ _ h => h) (Or.inl ⟨by rfl, ?qp_y12⟩) (by assumption) ?qp_r12
    case qp_y12 => (intro w hSw; have z0 := (hSw.cell (p := ⟨Ba, 0, none⟩) hAl).trans a0; have z1 := (hSw.cell (p := ⟨Bp, 0, none⟩) hBl).trans b0; have z2 := (hSw.cell (p := ⟨P, 2, none⟩) hPl).trans p2; have z3 := (hSw.cell (p := ⟨P, 3, none⟩) hPl).trans p3; go_simp; (try with_reducible rfl))
    try simp only [Act.put, List.setIfInBounds_toArray, List.set_cons_zero, List.set_cons_succ]
    refine wpAnyH_ready (rs := [13]) (by kernel_rfl) (by simp) ?_
    refine AllReadyH.cons (o := _) rfl (fun K hK => ?_) AllReadyH.nil
    go_simp
    refine hK.out _ _ (hb4'.alloc hb4'.size _) (fun hHeld => ?_)
    clear hK K
    try simp only [Act.put, List.setIfInBounds_toArray, List.set_cons_zero, List.set_cons_succ]
    refine wpAnyH_ready (rs := [14]) (by kernel_rfl) (by simp) ?_
    refine AllReadyH.cons (o := _) rfl (fun K hK => ?_) AllReadyH.nil
    go_simp
    refine hK.out _ _ (by first | exact hb4'.alloc hb4'.size _ | exact ((((hb4'.alloc hb4'.size _).setCell hb4'.size _).setCell hb4'.size _).setCell hb4'.size _).setCell hb4'.size _) (fun hHeld => ?_)
    clear hK K
    try simp only [Act.put, List.setIfInBounds_toArray, List.set_cons_zero, List.set_cons_succ]
    refine wpAnyH_done (by kernel_rfl) ?_ _
    obtain ⟨g1, rfl⟩ : ∃ g1, ad = some ⟨g1, 0, none⟩ := by
     rcases ho4.2 with ⟨-, h0⟩ | ⟨g, cap', cur, h1, -⟩
     ·exact absurd h0 (by have := HNN0.out; omega)
     ·injection h1 with h1 _ _; exact ⟨g, h1⟩
    have hg1 := row_lt ho4 (g := g1) rfl
    have hrz := ho4.alloc (.cells #[.slice (some ⟨g1, 0, none⟩) n cap1, .bool false, .int .i64 (dp : Int), .pointer (some ⟨F, 0, none⟩)] 64)
    have hBz := Blk.new w4 #[.slice (some ⟨g1, 0, none⟩) n cap1, .bool false, .int .i64 (dp : Int), .pointer (some ⟨F, 0, none⟩)] 64
    have hbz := hb4'.alloc hb4'.size (.cells #[.slice (some ⟨g1, 0, none⟩) n cap1, .bool false, .int .i64 (dp : Int), .pointer (some ⟨F, 0, none⟩)] 64)
    have hP1 := hb4'.size
    have hgP : g1 ≠ w4.heap.size := by have := hg1.2; omega
    have hg1 : W.heap.size ≤ g1 := hg1.1
    obtain ⟨wz, hwz⟩ : ∃ wz, w4.alloc (.cells #[.slice (some ⟨g1, 0, none⟩) n cap1, .bool false, .int .i64 (dp : Int), .pointer (some ⟨F, 0, none⟩)] 64) = wz := ⟨_, rfl⟩
    rw [hwz] at hrz hBz hbz ⊢
    obtain ⟨P1, hP1e⟩ : ∃ P1, w4.heap.size = P1 := ⟨_, rfl⟩
    rw [hP1e] at hBz hP1 hgP ⊢
    have hin := HPS.out.1.inner (dq := dp) (P' := P1) (g := g1) (toks := (l ++ [endT y.size]).map (shiftT (a + 2))) hbz hP1 hg1 hgP hBz hrz HLN.out HGD.out
    exact AFTER wz P1 g1 cap1 ⟨hbz, hP1, hBz, hg1, hin⟩
   ·refine AllReadyH.cons (o := _) rfl (fun K hK => ?_) AllReadyH.nil
    go_simp
    refine hK.out _ _ (((Below.refl W.heap.size W).drew).alloc (Nat.le_refl _) _) (fun hHeld => ?_)
    clear hK K
    try simp only [Act.put, List.setIfInBounds_toArray, List.set_cons_zero, List.set_cons_succ]
    refine wpAnyH_ready (rs := [3]) (by kernel_rfl) (by simp) ?_
    refine AllReadyH.cons (o := _) rfl (fun K hK => ?_) AllReadyH.nil
    go_simp
    go_at_call 19; refine (HSCN.out _ (HRD2.out _ hHeld)).mono ?_; rintro e w4 ⟨v, rfl, hb4, ho4⟩
    obtain ⟨ad, cap1, rfl⟩ := slice_of ho4
    rw [HNN.out] at ho4 ⊢
    have hsA : (W.drew.alloc (.cells #[.slice none 0 0, .bool false, .int .i64 0, .pointer none] 64)).heap.size = W.heap.size + 1 := by simp
    have hz0 := Blk.new W.drew #[.slice none 0 0, .bool false, .int .i64 0, .pointer none] 64
    have hz4 : Blk w4 W.heap.size #[.slice none 0 0, .bool false, .int .i64 0, .pointer none] 64 := hz0.below hb4
    have y0 := hz4.cell 0
    have y1 := hz4.cell 1
    have y2 := hz4.cell 2
    have y3 := hz4.cell 3
    have x0 := hz4.frozen 0
    have x1 := hz4.frozen 1
    have x2 := hz4.frozen 2
    have x3 := hz4.frozen 3
    have hb4' : Below W.heap.size W w4 := hHeld.trans (hb4.mono hHeld.size)
    refine hK.out _ _ hb4' (fun hHeld2 => ?_)
    clear hK K
    try simp only [Act.put, List.setIfInBounds_toArray, List.set_cons_zero, List.set_cons_succ]
    refine wpAnyH_take (i := 12) (oi := _) (v := ?qr_v12) rfl (by kernel_rfl) (by kernel_rfl) (by kernel_rfl) (fun _ _ _ h => h) (Or.inl ⟨by rfl, ?qr_y12⟩) (by assumption) ?qr_r12
    case qr_y12 => (intro w hSw; have z0 := (hSw.cell (p := ⟨Ba, 0, none⟩) hAl).trans a0; have z1 := (hSw.cell (p := ⟨Bp, 0, none⟩) hBl).trans b0; have z2 := (hSw.cell (p := ⟨P, 2, none⟩) hPl).trans p2; have z3 := (hSw.cell (p := ⟨P, 3, none⟩) hPl).trans p3; go_simp; (try with_reducible rfl))
    try simp only [Act.put, List.setIfInBounds_toArray, List.set_cons_zero, List.set_cons_succ]
    refine wpAnyH_ready (rs := [14]) (by kernel_rfl) (by simp) ?_
    refine AllReadyH.cons (o := _) rfl (fun K hK => ?_) AllReadyH.nil
    go_simp
    refine hK.out _ _ ((((hb4'.setCell (p := ⟨W.heap.size, 0, none⟩) (Nat.le_refl _) _).setCell (p := ⟨W.heap.size, 1, none⟩) (Nat.le_refl _) _).setCell (p := ⟨W.heap.size, 2, none⟩) (Nat.le_refl _) _).setCell (p := ⟨W.heap.size, 3, none⟩) (Nat.le_refl _) _) (fun hHeld3 => ?_)
    clear hK K
    try simp only [Act.put, List.setIfInBounds_toArray, List.set_cons_zero, List.set_cons_succ]
    refine wpAnyH_done (by kernel_rfl) ?_ _
    obtain ⟨g1, rfl⟩ : ∃ g1, ad = some ⟨g1, 0, none⟩ := by
     rcases ho4.2 with ⟨-, h0⟩ | ⟨g, cap', cur, h1, -⟩
     ·exact absurd h0 (by have := HNN0.out; omega)
     ·injection h1 with h1 _ _; exact ⟨g, h1⟩
    have hg1 := row_lt ho4 (g := g1) rfl
    have hgP : g1 ≠ W.heap.size := by have := hg1.1; simp at this; omega
    have hg2 : W.heap.size ≤ g1 := by have := hg1.1; simp at this; omega
    have hBz : Blk ((((w4.setCell ⟨W.heap.size, 0, none⟩ (.slice (some ⟨g1, 0, none⟩) n cap1)).setCell ⟨W.heap.size, 1, none⟩ (.bool false)).setCell ⟨W.heap.size, 2, none⟩ (.int .i64 (dp : Int))).setCell ⟨W.heap.size, 3, none⟩ (.pointer (some ⟨F, 0, none⟩))) W.heap.size #[.slice (some ⟨g1, 0, none⟩) n cap1, .bool false, .int .i64 (dp : Int), .pointer (some ⟨F, 0, none⟩)] 64 := (((hz4.set 0 _).set 1 _).set 2 _).set 3 _
    have hrz := row_base (B' := W.heap.size) (row_same (w' := (((w4.setCell ⟨W.heap.size, 0, none⟩ (.slice (some ⟨g1, 0, none⟩) n cap1)).setCell ⟨W.heap.size, 1, none⟩ (.bool false)).setCell ⟨W.heap.size, 2, none⟩ (.int .i64 (dp : Int))).setCell ⟨W.heap.size, 3, none⟩ (.pointer (some ⟨F, 0, none⟩))) ho4 (fun g e => by
     obtain rfl : g1 = g := Option.some.inj e
     rw [Below.heap_setCell _ _ _ _ (by exact hgP), Below.heap_setCell _ _ _ _ (by exact hgP), Below.heap_setCell _ _ _ _ (by exact hgP), Below.heap_setCell _ _ _ _ (by exact hgP)])) (by simp)
    have hbz := (((hb4'.setCell (p := ⟨W.heap.size, 0, none⟩) (Nat.le_refl _) (.slice (some ⟨g1, 0, none⟩) n cap1)).setCell (p := ⟨W.heap.size, 1, none⟩) (Nat.le_refl _) (.bool false)).setCell (p := ⟨W.heap.size, 2, none⟩) (Nat.le_refl _) (.int .i64 (dp : Int))).setCell (p := ⟨W.heap.size, 3, none⟩) (Nat.le_refl _) (.pointer (some ⟨F, 0, none⟩))
    have hP1 : W.heap.size ≤ W.heap.size := Nat.le_refl _
    have hg1 := hg2
    obtain ⟨wz, hwz⟩ : ∃ wz, ((((w4.setCell ⟨W.heap.size, 0, none⟩ (.slice (some ⟨g1, 0, none⟩) n cap1)).setCell ⟨W.heap.size, 1, none⟩ (.bool false)).setCell ⟨W.heap.size, 2, none⟩ (.int .i64 (dp : Int))).setCell ⟨W.heap.size, 3, none⟩ (.pointer (some ⟨F, 0, none⟩))) = wz := ⟨_, rfl⟩
    rw [hwz] at hrz hBz hbz ⊢
    clear hHeld hHeld2 hHeld3 hb4 hb4' ho4 hz0 hz4 hwz hsA
    obtain ⟨P1, hP1e⟩ : ∃ P1, W.heap.size = P1 := ⟨_, rfl⟩
    rw [hP1e] at hBz hgP ⊢
    rw [← hP1e] at hBz hgP
    have hBz : Blk wz P1 #[.slice (some ⟨g1, 0, none⟩) n cap1, .bool false, .int .i64 (dp : Int), .pointer (some ⟨F, 0, none⟩)] 64 := by rw [← hP1e]; exact hBz
    have hgP : g1 ≠ P1 := by omega
    have hP1 : W.heap.size ≤ P1 := by omega
    have hin := HPS.out.1.inner (dq := dp) (P' := P1) (g := g1) (toks := (l ++ [endT y.size]).map (shiftT (a + 2))) hbz hP1 hg1 hgP hBz hrz HLN.out HGD.out
    exact AFTER wz P1 g1 cap1 ⟨hbz, hP1, hBz, hg1, hin⟩
  case later =>
   rintro wz P1 g1 cap1 ⟨hbz, hP1, hBz, hge, hin⟩
   have HGE := Lib.hid hge
   clear hge
   have henv := HPS.out.2.1.below hbz
   have henv1 : Env wz P1 F := ⟨henv.ready, henv.lev, by have := HPS.out.2.1.ready.1; omega, henv.far.2⟩
   obtain ⟨sq, hsq⟩ : ∃ sq : Ps, (⟨(l ++ [endT y.size]).map (shiftT (a + 2)), false, s.f⟩ : Ps) = sq := ⟨_, rfl⟩
   have hrd := HEX.out.1 P1 g1 wz sq m (by rw [← hsq]; exact hin) henv1 (by rw [← hsq]; exact HFT.out)
   have HRI2 : Hid ((match bindP ex (fun i => bindP (kindM 0) fun _ s' => .ok (i, s')) sq with | .error e => .error e | .ok (i, s') => .ok (i, { s with f := s'.f }) : PR Nat) = R) := by rw [← hsq]; exact HRI
   have HBZ := Lib.hid (And.intro hbz hP1)
   have hOz : Blk wz O #[.int .i64 0] 3 := HPS.out.2.2.1.blk.below hbz
   have HOZ := Lib.hid hOz
   clear hbz hP1 hBz hin henv henv1 hsq hOz HRI HFT HSCN
   cases hm : ex sq with
   | error bd =>
    rw [hm] at hrd
    have HRD3 := Lib.hid hrd
    have hre : R = .error bd := by
     rw [← HRI2.out]
     unfold bindP
     rw [hm]
    have HRE := Lib.hid hre
    clear hrd hm hre
    go_wp2_with fail
    go_at_call 75; refine HRD3.out.mono ?_
    rintro e w5 ⟨D, rfl, hD, hdb, ho⟩
    refine ⟨rfl, ?_⟩
    rw [HRE.out]
    exact ⟨D, rfl, Nat.le_trans HBZ.out.1.size hD, hdb, OutsX.of_inner HBZ.out.1 ho HBZ.out.2⟩
   | ok z =>
    obtain ⟨i, s2⟩ := z
    rw [hm] at hrd
    have HRD3 := Lib.hid hrd
    have hri : (match (bindP (kindM 0) (fun _ s' => .ok (i, s')) s2 : PR Nat) with | .error e => .error e | .ok (i, s') => .ok (i, { s with f := s'.f }) : PR Nat) = R := by
     rw [← HRI2.out]
     conv => rhs; unfold bindP
     rw [hm]
     rfl
    have HRI3 := Lib.hid hri
    clear hrd hm hri
    go_wp2_with fail
    go_at_call 75; refine HRD3.out.mono ?_
    rintro e w5 ⟨rfl, m2, hp5, ho5, hl5⟩
    have hnv : natV i = .int .i64 (i : Int) := rfl
    rw [hnv]
    have hOn : O ∉ m.foot F := HPS.out.2.2.1.out
    have hOl : O < W.heap.size := HPS.out.2.2.1.blk.lt
    have hO5 : Blk w5 O #[.int .i64 0] 3 := (ho5.block O HOZ.out.lt (by have := HBZ.out.2; omega) hOn).trans HOZ.out
    have o0 := hO5.cell 0
    have of0 := hO5.frozen 0
    have hOm2 : O ∉ m2.foot F := fun hm2 => (hl5 O hm2).elim hOn (fun hge => by have := HBZ.out.1.size; omega)
    have hT1 := hp5.tok.ranks
    have hsame : PsAt (w5.setCell ⟨O, 0, none⟩ (.int .i64 (i : Int))) P1 F g1 lo dp s2 m2 := hp5.same (by simp) (fun k hk hmk => Below.heap_setCell _ _ _ _ (by
     show k ≠ O
     rcases hmk with rfl | rfl | hmk
     ·have := HBZ.out.2; omega
     ·have := HGE.out; omega
     ·rintro rfl; exact hOm2 hmk))
    have hkd := kind0_ps hsame
    have HO6 : Hid (Blk (w5.setCell ⟨O, 0, none⟩ (.int .i64 (i : Int))) O #[.int .i64 (i : Int)] 3) := Lib.hid (hO5.set 0 (.int .i64 (i : Int)))
    have H5 := Lib.hid (And.intro hsame (And.intro ho5 (And.intro hl5 (And.intro hOn hOl))))
    clear hp5 ho5 hl5 hOn hO5 hOm2 hT1 hsame hnv hOl
    cases hk : kindM 0 s2 with
    | error bd =>
     rw [hk] at hkd
     have HKD := Lib.hid hkd
     have hre : R = .error bd := by
      rw [← HRI3.out]
      unfold bindP
      rw [hk]
     have HRE := Lib.hid hre
     clear hkd hk hre
     go_wp2_with fail
     go_at_call 35; refine HKD.out.mono ?_
     rintro e w7 ⟨D, rfl, hD, hdb, ha⟩
     refine ⟨rfl, ?_⟩
     rw [HRE.out]
     simp only [World.size_setCell] at hD
     have hs5 := H5.out.2.1.size
     have hsz := HBZ.out.1.size
     refine ⟨D, rfl, by omega, hdb, ⟨ha.os.trans (H5.out.2.1.os.trans HBZ.out.1.os), ha.tape.trans (H5.out.2.1.tape.trans HBZ.out.1.tape), ha.output.trans (H5.out.2.1.output.trans HBZ.out.1.output), by have := ha.size; simp only [World.size_setCell] at this; omega, fun k hk h1 h2 h3 => ?_⟩⟩
     have hP1 := HBZ.out.2
     rw [ha.block k (by simp only [World.size_setCell]; omega) (by omega), Below.heap_setCell _ _ _ _ (by show k ≠ O; rintro rfl; exact h3 (by simp)), H5.out.2.1.block k (by omega) (by omega) h2, HBZ.out.1.block k hk]
    | ok z2 =>
     obtain ⟨t7, s7⟩ := z2
     rw [hk] at hkd
     have HKD := Lib.hid hkd
     have hend : R = .ok (i, { s with f := s7.f }) := by
      rw [← HRI3.out]
      unfold bindP
      rw [hk]
     have HEND := Lib.hid hend
     clear hkd hk hend
     go_wp2_with fail
     go_at_call 35; refine HKD.out.mono ?_
     rintro e w7 ⟨rfl, hs7, ha⟩
     subst hs7
     have HA7 := Lib.hid ha
     clear ha
     go_wp2_with fail
     first | go_end0 | go_ret
     rw [HEND.out]
     have hs5 := H5.out.2.1.size
     have hsz := HBZ.out.1.size
     have hs7 := HA7.out.size
     simp only [World.size_setCell] at hs7
     have hP1 := HBZ.out.2
     have hOl := H5.out.2.2.2.2
     have hold : ∀ k, k < W.heap.size → k ∉ m.foot F → k ≠ O → w7.heap[k]? = W.heap[k]? := fun k hk h2 h3 => by
      rw [HA7.out.block k (by simp only [World.size_setCell]; omega) (by omega), Below.heap_setCell _ _ _ _ (by exact h3), H5.out.2.1.block k (by omega) (by omega) h2, HBZ.out.1.block k hk]
     have hrk := HPS.out.1.tok.ranks
     have hlat : ∀ q ∈ m2.foot F, q ∈ m.foot F ∨ wz.heap.size ≤ q := H5.out.2.2.1
     have hloc := HPS.out.2.2.1
     refine ⟨rfl, m2, ⟨HPS.out.1.tok.same (by omega) (hold P hrk.1 HPS.out.1.far (fun e => hloc.neP e.symm)) (hold T hrk.2.1 HPS.out.1.ton (fun e => hloc.neT e.symm)), fun hm => (hlat T hm).elim HPS.out.1.ton (fun hge => by omega), HPS.out.1.good, ?_, fun hm => (hlat P hm).elim HPS.out.1.far (fun hge => by omega), HPS.out.1.base.1, by have := HPS.out.1.base.2; omega⟩, ⟨HA7.out.os.trans (H5.out.2.1.os.trans HBZ.out.1.os), HA7.out.tape.trans (H5.out.2.1.tape.trans HBZ.out.1.tape), HA7.out.output.trans (H5.out.2.1.output.trans HBZ.out.1.output), by omega, fun k hk h1 h2 h3 => hold k hk h2 (by rintro rfl; exact h3 (by simp))⟩, ⟨fun q hq => (hlat q hq).imp id (fun hge => by omega), H5.out.2.2.1.tv⟩, ?_⟩
     ·exact H5.out.1.file.aside HA7.out H5.out.1.far
     ·exact ⟨(HA7.out.block O (by simp only [World.size_setCell]; omega) (by omega)).trans HO6.out, hloc.neP, hloc.neT, fun hm => (hlat O hm).elim H5.out.2.2.2.1 (fun hge => by omega)⟩
end
end Go.Proofs.YtljgggohjigaoaaGreatDoor
