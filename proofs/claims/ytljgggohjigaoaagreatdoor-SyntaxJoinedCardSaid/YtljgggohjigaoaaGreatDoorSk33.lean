/- The whole file is read · Parse: the file of a text, or what was thrown · A parsed file's rows, read; the examples · The law's fixed fact: the document's examples -/
import Derived.Defers
import Derived.Recover
import Derived.Test.YtljgggohjigaoaaGreatDoorSk32
namespace Go.Proofs.YtljgggohjigaoaaGreatDoor
open Go.RowKit Go.Shelf
set_option linter.unusedVariables false
set_option linter.unusedSimpArgs false

/-- How whole ends. -/
def WhE (W : World) (P F lo : Nat) (m : FileM) (r : PR Unit) (e : Ending) (w' : World) : Prop := match r with
 | .ok (_, s') => e = .returned (.tuple #[]) ∧ ∃ m', FileOk w' F lo m' s'.f ∧ OutsX W w' P F m [] ∧ (∀ g ∈ m'.foot F, g ∈ m.foot F ∨ W.heap.size ≤ g) ∧ w'.cell? ⟨P, 3, none⟩ = some (.pointer (some ⟨F, 0, none⟩))
 | .error bd => Bad W P F m [] bd e w'
/-- The last token wanted. -/
theorem kind0_ps2 {W : World} {P F T lo dp : Nat} {s : Ps} {m : FileM} (h : PsAt W P F T lo dp s m) : Calls Tryz.prog 35 #[.pointer (some ⟨P, 0, none⟩), .int .i64 0] W fun e w' => match kindM 0 s with
  | .ok (t, s') => e = .returned (tkV t) ∧ s' = takeS s ∧ Aside P W w' ∧ w'.cell? ⟨P, 3, none⟩ = some (.pointer (some ⟨F, 0, none⟩))
  | .error bd => ThrewP W P bd e w' := by
 unfold kindM
 by_cases hi : (next s).k = 0
 ·rw [if_pos hi]
  refine (wkind_end2 h.tok h.good hi).mono ?_
  rintro e w' ⟨rfl, ha, hc⟩
  exact ⟨rfl, rfl, ha, hc⟩
 ·rw [if_neg hi]
  exact wkind_no h.tok h.good hi
set_option maxRecDepth 100000 in
set_option maxHeartbeats 4000000 in
theorem whole_any {W : World} {P F T lo : Nat} {s : Ps} {m : FileM} (h : PsAt W P F T lo 0 s m) (he : Env W P F) (hf : Fit 24 s) (hlk : m.lk = false) (htv : m.tv = .slice none 0 0) :
  Calls Tryz.prog 20 #[.pointer (some ⟨P, 0, none⟩)] W (WhE W P F lo m (wholeM s)) := by
 rw [whole_eq]
 obtain ⟨R, hR⟩ : ∃ R, bindP (itemsM topE 0) (fun _ => bindP (kindM 0) fun _ s => .ok ((), s)) s = R := ⟨_, rfl⟩
 rw [hR]
 have HR := Lib.hid hR
 have hB1 := Loc.new h #[.pointer (some ⟨P, 0, none⟩)] 88
 have hU1 := (Un.start (X := []) h he hf).alloc (.cells #[.pointer (some ⟨P, 0, none⟩)] 88)
 have hroom := hU1.room
 obtain ⟨W1, hW1⟩ : ∃ W1, W.alloc (.cells #[.pointer (some ⟨P, 0, none⟩)] 88) = W1 := ⟨_, rfl⟩
 rw [hW1] at hB1 hU1
 have hIT := items_mu (X := []) (rd := topE) (x0 := 0) hU1.ps hU1.env hU1.fit (gr := 33) (lbr := #[.pointer (some ⟨W.heap.size, 0, none⟩)]) (enters_of Tryz.func33 (by kernel_rfl) rfl) (St := StW P F T W.heap.size) StW.aside topE_dec (fun x => x) topE_mu
  (fun W' t y s0 m' hst hu hf0 ht hk hm => by
   have hlt := take_lt (s := s0) (by rw [ht, hk]; decide)
   have hm' : y + s0.toks.length ≤ 0 + s.toks.length := hm
   exact whl1_any hu hst (by omega))
  ⟨hlk, ⟨none, 0, htv⟩, hB1⟩
 obtain ⟨RB, hRB⟩ : ∃ RB, itemsM topE 0 s = RB := ⟨_, rfl⟩
 rw [hRB] at hIT
 have b0 := hB1.blk.cell 0
 have hmf : ∀ (fn : Fn) (first cap : Array Value) (w : World), (Instr.makeFunc fn first cap).run Tryz.prog w = .ok (.func fn first cap) w := fun _ _ _ _ => rfl
 have HIT := Lib.hid hIT
 have HRB := Lib.hid hRB
 have HU1 := Lib.hid hU1
 have HW1 := Lib.hid hW1
 clear hIT hRB hU1 hW1 hB1 hR h he hlk htv hroom
 have HF := Lib.hid hf
 clear hf
 go_enter Tryz.func20, Tryz.ntmps20
 go_wp2_with fail
 go_at_call 32; rw [HW1.out]; refine HIT.out.mono ?_
 intro e w4 hk
 cases RB with
 | error bd =>
  obtain ⟨D, rfl, hk2⟩ := HU1.out.kbad (fun k hk => by cases hk) hk
  refine ⟨rfl, ?_⟩
  rw [bind_err (k := fun (_ : Nat) => bindP (kindM 0) fun _ s => (.ok ((), s) : PR Unit)) HRB.out HR.out]
  exact ⟨D, rfl, hk2⟩
 | ok y =>
  obtain ⟨x, s4⟩ := y
  obtain ⟨rfl, m4, hu4, -, -, hs4⟩ := HU1.out.kend (fun k hk => by cases hk) (HF.out.dec (items_dec topE_dec 0) (by decide) HRB.out) hk
  have HR4 : Hid (bindP (kindM 0) (fun _ s => .ok ((), s)) s4 = R) := Lib.hid (bind_ok (k := fun (_ : Nat) => bindP (kindM 0) fun _ s => (.ok ((), s) : PR Unit)) HRB.out HR.out)
  have b4 := hs4.2.2.blk.cell 0
  have hkd := kind0_ps2 hu4.ps
  obtain ⟨RK, hRK⟩ : ∃ RK, kindM 0 s4 = RK := ⟨_, rfl⟩
  rw [hRK] at hkd
  have HKD := Lib.hid hkd
  have HRK := Lib.hid hRK
  have HU4 := Lib.hid hu4
  clear hkd hRK hu4 hs4 hk
  go_wp2_with fail
  go_at_call 35; refine HKD.out.mono ?_
  intro e w5 hk
  cases RK with
  | error bd =>
   obtain ⟨D, rfl, hk2⟩ := HU4.out.threw hk
   refine ⟨rfl, ?_⟩
   rw [bind_err (k := fun (_ : Tk) (s : Ps) => (.ok ((), s) : PR Unit)) HRK.out HR4.out]
   exact ⟨D, rfl, hk2⟩
  | ok y =>
   obtain ⟨t, s5⟩ := y
   obtain ⟨rfl, hs5, ha5, hc5⟩ := hk
   have HEND := Lib.hid (And.intro hs5 (And.intro ha5 hc5))
   clear hs5 ha5 hc5
   go_wp2_with fail
   first | go_end0 | go_ret
   rw [← bind_ok (k := fun (_ : Tk) (s : Ps) => (.ok ((), s) : PR Unit)) HRK.out HR4.out]
   obtain ⟨rfl, ha5, hc5⟩ := HEND.out
   have hu4 := HU4.out
   exact ⟨rfl, m4, hu4.ps.file.aside ha5 hu4.ps.far, hu4.outs.trans hu4.later (OutsX.of ha5 []), hu4.later, hc5⟩
end Go.Proofs.YtljgggohjigaoaaGreatDoor
namespace Go.Proofs.YtljgggohjigaoaaGreatDoor
open Go.RowKit Go.Shelf
set_option linter.unusedVariables false
set_option linter.unusedSimpArgs false

theorem pcaught_nil (w : World) : Calls Tryz.prog 18 #[.nilIface] w fun e w' => e = .returned (.pointer none) ∧ w' = w := by
 have hnil : ∀ w : World, (binOp BinOp.eql 20 .nilIface .nilIface).run Tryz.prog w = .ok (.bool true) w := fun _ => by kernel_rfl
 go_enter Tryz.func18, Tryz.ntmps18
 go_wp2
 go_ret
 exact ⟨rfl, rfl⟩
theorem pcaught_diag (D : Nat) (w : World) : Calls Tryz.prog 18 #[.iface 29 (.pointer (some ⟨D, 0, none⟩))] w fun e w' => e = .returned (.pointer (some ⟨D, 0, none⟩)) ∧ w' = w := by
 have hnil : ∀ w : World, (binOp BinOp.eql 20 (.iface 29 (.pointer (some ⟨D, 0, none⟩))) .nilIface).run Tryz.prog w = .ok (.bool false) w := fun _ => by kernel_rfl
 have hta : ∀ w : World, (Instr.typeAssert (.iface 29 (.pointer (some ⟨D, 0, none⟩))) 20 29 true).run Tryz.prog w = .ok (.tuple #[.pointer (some ⟨D, 0, none⟩), .bool true]) w := fun _ => by kernel_rfl
 go_enter Tryz.func18, Tryz.ntmps18
 go_wp2
 go_ret
 exact ⟨rfl, rfl⟩
theorem pcatch_panicking (p : Addr) (D : Nat) (v : Value) (older : List PanicEntry) (w : World) (hc : w.cell? p = some v) (hz : w.frozen? p = false) :
  CallsD Tryz.prog 17 #[.pointer (some p)] (.panicking ({ v := .iface 29 (.pointer (some ⟨D, 0, none⟩)), recovered := false } :: older)) w fun e u' w' =>
   e = .returned (.tuple #[]) ∧ u' = .panicking ({ v := .iface 29 (.pointer (some ⟨D, 0, none⟩)), recovered := true } :: older) ∧ w' = w.setCell p (.pointer (some ⟨D, 0, none⟩)) := by
 refine callsD_of_wpS Tryz.func17 rfl fun c₀ cs hu => ?_
 apply wpS_region
 simp [wpOpsS, go_sem, recoverD, hu, Tryz.ntmps17]
 refine (pcaught_diag D w).mono ?_
 rintro e w2 ⟨rfl, rfl⟩
 simp [go_sem, hc, hz, bodyPostS, results, Tryz.results17]
theorem pcatch_idle (p : Addr) (v : Value) (w : World) (hc : w.cell? p = some v) (hz : w.frozen? p = false) :
  CallsD Tryz.prog 17 #[.pointer (some p)] .returning w fun e u' w' => e = .returned (.tuple #[]) ∧ u' = .returning ∧ w' = w.setCell p (.pointer none) := by
 refine callsD_of_wpS Tryz.func17 rfl fun c₀ cs hu => ?_
 apply wpS_region
 simp [wpOpsS, go_sem, recoverD, hu, Tryz.ntmps17]
 refine (pcaught_nil w).mono ?_
 rintro e w2 ⟨rfl, rfl⟩
 simp [go_sem, hc, hz, bodyPostS, results, Tryz.results17]
 cases c₀
 simp_all
/-- A file without anything. -/
def m0 : FileM := { ev := .slice none 0 0, bv := .slice none 0 0, tv := .slice none 0 0, ms := [], ns := [] }
theorem file0 {w : World} {F lo : Nat} (hF : Blk w F #[.slice none 0 0, .slice none 0 0, .slice none 0 0] 28) : FileOk w F lo m0 ⟨[], [], []⟩ :=
 ⟨hF, World.ownsRow_nil _ _ _ _, World.ownsRow_nil _ _ _ _, World.ownsRow_nil _ _ _ _, rfl, rfl, fun x hx => (by cases hx), fun x hx => (by cases hx), by simp [FileM.foot, FileM.rest, m0, ownB, Value.ownBlock]⟩
theorem foot0 (F : Nat) : m0.foot F = [F] := by simp [FileM.foot, FileM.rest, m0, ownB, Value.ownBlock]
theorem PsAt.first {w : World} {P F g lo lb n cap : Nat} {toks : List Tk} (hgP : g ≠ P) (hgF : g ≠ F) (hPF : P ≠ F) (hB : Blk w P #[.slice (some ⟨g, 0, none⟩) n cap, .bool false, .int .i64 0, .pointer (some ⟨F, 0, none⟩)] 64)
  (hr : w.ownsRow lb 75 3 (.slice (some ⟨g, 0, none⟩) n cap) n (tkCells toks)) (hn : toks.length = n) (hgd : GoodT toks) (hF : Blk w F #[.slice none 0 0, .slice none 0 0, .slice none 0 0] 28) (hlo : F < lo ∧ lo ≤ w.heap.size) :
  PsAt w P F g lo 0 ⟨toks, false, ⟨[], [], []⟩⟩ m0 := by
 have hgl := (row_lt hr (g := g) rfl).2
 have hcap : n ≤ cap := by
  rcases hr.2 with ⟨h1, -⟩ | ⟨g', cap', cur, h1, h2, h3, h4, -⟩
  ·cases h1
  ·injection h1 with _ _ h5
   omega
 refine ⟨⟨hgP, _, hB, 0, cap, by rw [← hn], by rw [← hn] at hcap; exact hcap, hgl, fun j u hu => ?_⟩, by rw [foot0]; simpa using hgF, hgd, file0 hF, by rw [foot0]; simpa using hPF, hlo⟩
 have h1 := World.ownsRow.cells hr (g := g) rfl j u hu
 have hadd : (⟨g, 0, none⟩ : Addr).add j = ⟨g, 0 + j, none⟩ := by
  cases j with
  | zero => rfl
  | succ j => simp [Addr.add]
 rw [hadd] at h1
 exact h1
theorem shift0 (l : List Tk) : l.map (shiftT 0) = l := by
 have : shiftT 0 = id := funext fun t => by cases t; rfl
 rw [this, List.map_id]
theorem fit_first {t : ByteArray} {l : List Tk} (h : scanL t = .ok l) : Fit 24 (⟨l ++ [endT t.size], false, ⟨[], [], []⟩⟩ : Ps) := by
 have hps := scan_pos h
 have hwt := scan_wt h
 have h1 := scan_snd 24 t.size 0 h
 have h2 := scan_text h t.size 0
 rw [shift0] at h1 h2
 refine ⟨h1, h2, fun u hu => ?_, ?_⟩
 ·have h3 := hps.2 u hu
  have h4 := hps.1
  omega
 ·have h5 : wts (l ++ [endT t.size]) = wts l := by
   rw [wts_append]
   have : wts [endT t.size] = 0 := rfl
   omega
  unfold Go.Proofs.YtljgggohjigaoaaGreatDoor.pot
  simp only
  rw [h5]
  simp
  omega
/-- What Parse reads of the program's variables. -/
structure ReadyP (W : World) : Prop where
 ready : Ready W
 lev : LevAt W
/-- How Parse ends. -/
def ParE (W : World) (r : Except Bd Fi) (e : Ending) (w' : World) : Prop :=
 Below W.heap.size W w' ∧ match r with
 | .ok f => ∃ (m : FileM) (F lo : Nat), e = .returned (.tuple #[.agg #[m.ev, m.bv, m.tv], .pointer none]) ∧ FileOk w' F lo m f ∧ W.heap.size ≤ F ∧ F < lo
 | .error bd => ∃ D, e = .returned (.tuple #[.agg #[.slice none 0 0, .slice none 0 0, .slice none 0 0], .pointer (some ⟨D, 0, none⟩)]) ∧ W.heap.size ≤ D ∧ Blk w' D #[.int .i64 bd.1, .string ⟨#[]⟩, .int .i64 (bd.2 : Int)] 34
theorem parse_err {t : ByteArray} {bd : Bd} (h : scanL t = .error bd) : parseF t = .error bd := by unfold parseF; rw [h]
theorem parse_bad {t : ByteArray} {l : List Tk} {bd : Bd} (h : scanL t = .ok l) (hw : wholeM (⟨l ++ [endT t.size], false, ⟨[], [], []⟩⟩ : Ps) = .error bd) : parseF t = .error bd := by unfold parseF; rw [h]; simp only; rw [hw]
theorem parse_ok {t : ByteArray} {l : List Tk} {y : Unit × Ps} (h : scanL t = .ok l) (hw : wholeM (⟨l ++ [endT t.size], false, ⟨[], [], []⟩⟩ : Ps) = .ok y) : parseF t = .ok y.2.f := by unfold parseF; rw [h]; simp only; rw [hw]
theorem scan_eshort {t : ByteArray} {c : Int} {p : Nat} (h : scanL t = .error (c, p)) : p ≤ 16384 := by
 have h1 := scan_epos h
 by_cases hl : 16384 < t.size
 ·unfold scanL at h
  rw [if_pos hl] at h
  cases h
  omega
 ·omega
theorem ReadyP.below {W W' : World} (h : ReadyP W) (hb : Below W.heap.size W W') : ReadyP W' := by
 have he : Env W 4 4 := ⟨h.ready, h.lev, by omega, by omega⟩
 have h2 := he.below hb
 exact ⟨h2.ready, h2.lev⟩
theorem below_set3 {lo : Nat} {w W : World} {B : Nat} (h : Below lo w W) (hB : lo ≤ B) (x y z : Value) : Below lo w (((W.setCell ⟨B, 0, none⟩ x).setCell ⟨B, 1, none⟩ y).setCell ⟨B, 2, none⟩ z) := ((h.setCell (by exact hB) x).setCell (by exact hB) y).setCell (by exact hB) z
set_option maxRecDepth 100000 in
set_option maxHeartbeats 4000000 in
theorem parse_any {W : World} {t : ByteArray} (hR : ReadyP W) : Calls Tryz.prog 11 #[.string t] W (ParE W (parseF t)) := by
 obtain ⟨W1, hW1⟩ : ∃ W1, W.alloc (.cells #[.slice none 0 0, .slice none 0 0, .slice none 0 0] 28) = W1 := ⟨_, rfl⟩
 have hz1 : W1.heap.size = W.heap.size + 1 := by rw [← hW1]; simp
 have b1 : Blk W1 W.heap.size #[.slice none 0 0, .slice none 0 0, .slice none 0 0] 28 := by rw [← hW1]; exact Blk.new _ _ _
 have s1 : Below W.heap.size W W1 := by rw [← hW1]; exact below_new _ _
 obtain ⟨W2, hW2⟩ : ∃ W2, W1.alloc (.cells #[.pointer none] 29) = W2 := ⟨_, rfl⟩
 have hz2 : W2.heap.size = W.heap.size + 2 := by rw [← hW2]; simp [hz1]
 have b2 : Blk W2 (W.heap.size + 1) #[.pointer none] 29 := by rw [← hW2, ← hz1]; exact Blk.new _ _ _
 have s2 : Below W1.heap.size W1 W2 := by rw [← hW2]; exact below_new _ _
 have s02 : Below W.heap.size W W2 := s1.trans (s2.mono (by omega))
 have e1 := b1.below s2
 have hR2 := hR.below s02
 have h4W := hR.ready.1
 have HS := Lib.hid s02
 have HE1 := Lib.hid e1
 have HE2 := Lib.hid b2
 have hmf : ∀ (fn : Fn) (first cap : Array Value) (w : World), (Instr.makeFunc fn first cap).run Tryz.prog w = .ok (.func fn first cap) w := fun _ _ _ _ => rfl
 have HW2 := Lib.hid hW2
 have HW1 := Lib.hid hW1
 cases hsc : scanL t with
 | error bd =>
  obtain ⟨c, p⟩ := bd
  have hp := scan_eshort hsc
  have HSC := Lib.hid (scanned_err (a := 0) hR2.ready hsc (by omega) (by omega))
  have HWE := Lib.hid (parse_err hsc)
  clear s1 s2 b1 b2 hR hR2 s02 e1 hW1 hW2 hsc hp
  go_enter_defers Tryz.func11, Tryz.ntmps11
  go_wp2_with fail
  rw [HW1.out, HW2.out]
  go_at_call 19; refine HSC.out.mono ?_
  rintro e w4 ⟨D, rfl, hD, hdb, hb4⟩
  have hn4 := HE1.out.below hb4
  have hr4 := HE2.out.below hb4
  have HB4 : Hid (Below W.heap.size W w4) := Lib.hid (HS.out.trans (hb4.mono (by omega)))
  have hDne : D ≠ W.heap.size + 1 := by omega
  refine leaves_cons (f := 17) (args := #[.pointer (some ⟨W.heap.size + 1, 0, none⟩)]) (by simp) (by simp [go_sem]) ?_
  refine (pcatch_panicking ⟨W.heap.size + 1, 0, none⟩ D (.pointer none) [] w4 (hr4.cell 0) (hr4.frozen 0)).mono ?_
  rintro e u' w'' ⟨rfl, rfl, rfl⟩
  have hs4 := hr4.set 0 (.pointer (some ⟨D, 0, none⟩))
  have q0 := hs4.cell 0
  have hn5 := hn4.other (p := ⟨W.heap.size + 1, 0, none⟩) (by show W.heap.size ≠ W.heap.size + 1; omega) (.pointer (some ⟨D, 0, none⟩))
  have d0 := hn5.cell 0
  have d1 := hn5.cell 1
  have d2 := hn5.cell 2
  have hd := hdb.other (p := ⟨W.heap.size + 1, 0, none⟩) hDne (.pointer (some ⟨D, 0, none⟩))
  have hb5 := HB4.out.setCell (p := ⟨W.heap.size + 1, 0, none⟩) (by show W.heap.size ≤ W.heap.size + 1; omega) (.pointer (some ⟨D, 0, none⟩))
  simp [Leaves, settle, results, Tryz.results11, go_sem, q0, d0, d1, d2]
  rw [HWE.out]
  rw [show 0 + p = p by omega] at hd
  exact ⟨hb5, D, rfl, by omega, hd⟩
 | ok l =>
  have HSC := Lib.hid (scanned_ok (a := 0) hR2.ready hsc (by omega))
  have hgd0 := good_shift (scan_wt hsc).2 t.size 0
  rw [shift0] at hgd0
  have HGD := Lib.hid hgd0
  have HFT := Lib.hid (fit_first hsc)
  have HSO := Lib.hid hsc
  have HRP := Lib.hid hR2
  clear s1 s2 b1 b2 hR hR2 s02 e1 hW1 hW2 hsc hgd0
  go_enter_defers Tryz.func11, Tryz.ntmps11
  go_wp2_with fail
  rw [HW1.out, HW2.out]
  go_at_call 19; refine HSC.out.mono ?_
  rintro e w3 ⟨v, rfl, hb3, hrow⟩
  rw [shift0] at hrow
  obtain ⟨g, cap, rfl, hg2⟩ : ∃ g cap, v = .slice (some ⟨g, 0, none⟩) (l.length + 1) cap ∧ W2.heap.size ≤ g := by
   obtain ⟨h1, ⟨e0, h0⟩ | ⟨g, cap, cur, e0, h2⟩⟩ := hrow
   ·omega
   ·exact ⟨g, cap, e0, (row_lt ⟨h1, .inr ⟨g, cap, cur, e0, h2⟩⟩ (g := g) (by rw [e0]; rfl)).1⟩
  have hgl := (row_lt hrow (g := g) rfl).2
  have hz3 := hb3.size
  have hlen : (l ++ [endT t.size]).length = l.length + 1 := by simp
  obtain ⟨w4, hw4⟩ : ∃ w4, w3.alloc (.cells #[.slice none 0 0, .slice none 0 0, .slice none 0 0] 28) = w4 := ⟨_, rfl⟩
  have bF : Blk w4 w3.heap.size #[.slice none 0 0, .slice none 0 0, .slice none 0 0] 28 := by rw [← hw4]; exact Blk.new _ _ _
  have hz4 : w4.heap.size = w3.heap.size + 1 := by rw [← hw4]; simp
  have s34 : Below w3.heap.size w3 w4 := by rw [← hw4]; exact below_new _ _
  obtain ⟨w5, hw5⟩ : ∃ w5, w4.alloc (.cells #[.slice (some ⟨g, 0, none⟩) (l.length + 1) cap, .bool false, .int .i64 0, .pointer (some ⟨w3.heap.size, 0, none⟩)] 64) = w5 := ⟨_, rfl⟩
  have bP : Blk w5 (w3.heap.size + 1) #[.slice (some ⟨g, 0, none⟩) (l.length + 1) cap, .bool false, .int .i64 0, .pointer (some ⟨w3.heap.size, 0, none⟩)] 64 := by rw [← hw5, ← hz4]; exact Blk.new _ _ _
  have hz5 : w5.heap.size = w3.heap.size + 2 := by rw [← hw5]; simp [hz4]
  have s45 : Below w4.heap.size w4 w5 := by rw [← hw5]; exact below_new _ _
  have s35 : Below w3.heap.size w3 w5 := s34.trans (s45.mono (by omega))
  have hps : PsAt w5 (w3.heap.size + 1) w3.heap.size g (w3.heap.size + 1) 0 ⟨l ++ [endT t.size], false, ⟨[], [], []⟩⟩ m0 :=
   PsAt.first (by omega) (by omega) (by omega) bP (row_same hrow (fun q hq => s35.block q (row_lt hrow hq).2)) hlen HGD.out (bF.below s45) (by omega)
  have hR5 := (HRP.out.below hb3).below s35
  have hz2' : W2.heap.size = W.heap.size + 2 := hz2
  have HWH := Lib.hid (whole_any hps ⟨hR5.ready, hR5.lev, by omega, by omega⟩ HFT.out rfl rfl)
  have hn5 := (HE1.out.below hb3).below s35
  have hr5 := (HE2.out.below hb3).below s35
  have HB5 : Hid (Below W.heap.size W w5) := Lib.hid ((HS.out.trans (hb3.mono (by omega))).trans (s35.mono (by omega)))
  have HN5 := Lib.hid (And.intro hn5 (And.intro hr5 (And.intro hz3 hz5)))
  have HW4 := Lib.hid hw4
  have HW5 := Lib.hid hw5
  clear hb3 s34 s45 s35 bF bP hrow hw4 hw5 hz4 hz5 hz3 hps hR5 hn5 hr5 hg2 hgl hlen
  go_wp2_with fail
  go_at_call 20; rw [HW4.out, HW5.out]; refine HWH.out.mono ?_
  obtain ⟨RW, hRW⟩ : ∃ RW, wholeM (⟨l ++ [endT t.size], false, ⟨[], [], []⟩⟩ : Ps) = RW := ⟨_, rfl⟩
  rw [hRW]
  obtain ⟨hn5, hr5, hz3, hz5⟩ := HN5.out
  have hfk : ∀ k, k < w3.heap.size → k ∉ m0.foot w3.heap.size := fun k hk hm => by rw [foot0, List.mem_singleton] at hm; omega
  cases RW with
  | error bd =>
   rintro e w6 ⟨D, rfl, hD, hdb, ho⟩
   have hn6 : Blk w6 W.heap.size _ _ := (ho.block _ hn5.lt (by omega) (hfk _ (by omega)) (by simp)).trans hn5
   have hr6 : Blk w6 (W.heap.size + 1) _ _ := (ho.block _ hr5.lt (by omega) (hfk _ (by omega)) (by simp)).trans hr5
   have HB6 : Hid (Below W.heap.size W w6) := Lib.hid (HB5.out.trans ⟨ho.os, ho.tape, ho.output, ho.size, fun k hk => ho.block k (by omega) (by omega) (hfk _ (by omega)) (by simp)⟩)
   have HWE := Lib.hid (parse_bad HSO.out hRW)
   have hDne : D ≠ W.heap.size + 1 := by omega
   refine leaves_cons (f := 17) (args := #[.pointer (some ⟨W.heap.size + 1, 0, none⟩)]) (by simp) (by simp [go_sem]) ?_
   refine (pcatch_panicking ⟨W.heap.size + 1, 0, none⟩ D (.pointer none) [] w6 (hr6.cell 0) (hr6.frozen 0)).mono ?_
   rintro e u' w'' ⟨rfl, rfl, rfl⟩
   have hs4 := hr6.set 0 (.pointer (some ⟨D, 0, none⟩))
   have q0 := hs4.cell 0
   have hn7 := hn6.other (p := ⟨W.heap.size + 1, 0, none⟩) (by show W.heap.size ≠ W.heap.size + 1; omega) (.pointer (some ⟨D, 0, none⟩))
   have d0 := hn7.cell 0
   have d1 := hn7.cell 1
   have d2 := hn7.cell 2
   have hd := hdb.other (p := ⟨W.heap.size + 1, 0, none⟩) hDne (.pointer (some ⟨D, 0, none⟩))
   have hb7 := HB6.out.setCell (p := ⟨W.heap.size + 1, 0, none⟩) (by show W.heap.size ≤ W.heap.size + 1; omega) (.pointer (some ⟨D, 0, none⟩))
   simp [Leaves, settle, results, Tryz.results11, go_sem, q0, d0, d1, d2]
   rw [HWE.out]
   exact ⟨hb7, D, rfl, by omega, hd⟩
  | ok y =>
   obtain ⟨u, s9⟩ := y
   rintro e w6 ⟨rfl, m, hfo, ho, hnew, hc3⟩
   have hn6 : Blk w6 W.heap.size _ _ := (ho.block _ hn5.lt (by omega) (hfk _ (by omega)) (by simp)).trans hn5
   have hr6 : Blk w6 (W.heap.size + 1) _ _ := (ho.block _ hr5.lt (by omega) (hfk _ (by omega)) (by simp)).trans hr5
   have hb6 : Below W.heap.size W w6 := HB5.out.trans ⟨ho.os, ho.tape, ho.output, ho.size, fun k hk => ho.block k (by omega) (by omega) (hfk _ (by omega)) (by simp)⟩
   have HWE : Hid (parseF t = .ok s9.f) := Lib.hid (parse_ok HSO.out hRW)
   obtain ⟨aE, cE, eE⟩ := slice_of hfo.exprs
   obtain ⟨aB, cB, eB⟩ := slice_of hfo.blocks
   obtain ⟨aT, cT, eT⟩ := slice_of hfo.top
   obtain ⟨nE, hnE⟩ : ∃ n, m.ms.length = n := ⟨_, rfl⟩
   obtain ⟨nB, hnB⟩ : ∃ n, m.ns.length = n := ⟨_, rfl⟩
   obtain ⟨nT, hnT⟩ : ∃ n, s9.f.top.length = n := ⟨_, rfl⟩
   rw [hnE] at eE
   rw [hnB] at eB
   rw [hnT] at eT
   have hbx := hfo.box
   rw [eE, eB, eT] at hbx
   have HEQ := Lib.hid (And.intro eE (And.intro eB eT))
   clear eE eB eT hnE hnB hnT
   have k0 := hbx.cell 0
   have k1 := hbx.cell 1
   have k2 := hbx.cell 2
   have z0 := hn6.cell 0
   have z1 := hn6.cell 1
   have z2 := hn6.cell 2
   have f0 := hn6.frozen 0
   have f1 := hn6.frozen 1
   have f2 := hn6.frozen 2
   have c0 := hr6.cell 0
   have g0 := hr6.frozen 0
   have HFO := Lib.hid (And.intro hfo (And.intro hn6 (And.intro hr6 hb6)))
   have HZ3 := Lib.hid (And.intro hz3 hz5)
   clear hfo hn6 hr6 hb6 hbx ho hnew hfk hn5 hr5 hRW hz3 hz5
   go_wp2_with fail
   obtain ⟨hfo, hn6, hr6, hb6⟩ := HFO.out
   obtain ⟨hz3, hz5⟩ := HZ3.out
   have hn7 := (hn6.put3 (.slice aE nE cE) (.slice aB nB cB) (.slice aT nT cT)).other (p := ⟨W.heap.size + 1, 0, none⟩) (by show W.heap.size ≠ W.heap.size + 1; omega) (.pointer none)
   have hr7 := (((hr6.other (p := ⟨W.heap.size, 0, none⟩) (by show W.heap.size + 1 ≠ W.heap.size; omega) (.slice aE nE cE)).other (p := ⟨W.heap.size, 1, none⟩) (by show W.heap.size + 1 ≠ W.heap.size; omega) (.slice aB nB cB)).other (p := ⟨W.heap.size, 2, none⟩) (by show W.heap.size + 1 ≠ W.heap.size; omega) (.slice aT nT cT)).set 0 (.pointer none)
   have hb7 := (below_set3 hb6 (Nat.le_refl _) (.slice aE nE cE) (.slice aB nB cB) (.slice aT nT cT)).setCell (p := ⟨W.heap.size + 1, 0, none⟩) (by show W.heap.size ≤ W.heap.size + 1; omega) (.pointer none)
   have hft : ∀ q ∈ m.foot w3.heap.size, q ≠ W.heap.size ∧ q ≠ W.heap.size + 1 := fun q hq => by
    have h1 := (hfo.lt q hq).2
    omega
   have hf7 := hfo.keep (W' := (((w6.setCell ⟨W.heap.size, 0, none⟩ (.slice aE nE cE)).setCell ⟨W.heap.size, 1, none⟩ (.slice aB nB cB)).setCell ⟨W.heap.size, 2, none⟩ (.slice aT nT cT)).setCell ⟨W.heap.size + 1, 0, none⟩ (.pointer none)) (fun q hq => by
    have h1 := hft q hq
    rw [Below.heap_setCell _ _ _ _ (by exact h1.2), Below.heap_setCell _ _ _ _ (by exact h1.1), Below.heap_setCell _ _ _ _ (by exact h1.1), Below.heap_setCell _ _ _ _ (by exact h1.1)])
   generalize (((w6.setCell ⟨W.heap.size, 0, none⟩ (.slice aE nE cE)).setCell ⟨W.heap.size, 1, none⟩ (.slice aB nB cB)).setCell ⟨W.heap.size, 2, none⟩ (.slice aT nT cT)).setCell ⟨W.heap.size + 1, 0, none⟩ (.pointer none) = w7 at hn7 hr7 hb7 hf7 ⊢
   refine leaves_cons (f := 17) (args := #[.pointer (some ⟨W.heap.size + 1, 0, none⟩)]) (by simp) (by simp [go_sem]) ?_
   refine (pcatch_idle ⟨W.heap.size + 1, 0, none⟩ (.pointer none) w7 (hr7.cell 0) (hr7.frozen 0)).mono ?_
   rintro e u' w'' ⟨rfl, rfl, rfl⟩
   have q0 := (hr7.set 0 (.pointer none)).cell 0
   have hn8 := hn7.other (p := ⟨W.heap.size + 1, 0, none⟩) (by show W.heap.size ≠ W.heap.size + 1; omega) (.pointer none)
   have d0 := hn8.cell 0
   have d1 := hn8.cell 1
   have d2 := hn8.cell 2
   have hb8 := hb7.setCell (p := ⟨W.heap.size + 1, 0, none⟩) (by show W.heap.size ≤ W.heap.size + 1; omega) (.pointer none)
   have hf8 := hf7.keep (W' := w7.setCell ⟨W.heap.size + 1, 0, none⟩ (.pointer none)) (fun q hq => by rw [Below.heap_setCell _ _ _ _ (by exact (hft q hq).2)])
   simp [Leaves, settle, results, Tryz.results11, go_sem, q0, d0, d1, d2]
   rw [HWE.out]
   exact ⟨hb8, m, w3.heap.size, w3.heap.size + 1, by rw [HEQ.out.1, HEQ.out.2.1, HEQ.out.2.2], hf8, by omega, by omega⟩
end Go.Proofs.YtljgggohjigaoaaGreatDoor
namespace Go.Proofs.YtljgggohjigaoaaGreatDoor
open Go.RowKit Go.Shelf
set_option linter.unusedVariables false
set_option linter.unusedSimpArgs false

theorem flat_at {α β : Type} (f : α → List β) (n : Nat) (hn : ∀ a, (f a).length = n) : ∀ (l : List α) (i j : Nat) (a : α), l[i]? = some a → j < n → (l.flatMap f)[i * n + j]? = (f a)[j]?
 | [], i, j, a, h, _ => by simp at h
 | b :: l, 0, j, a, h, hj => by
  have e : b = a := by simpa using h
  subst e
  rw [List.flatMap_cons, Nat.zero_mul, Nat.zero_add, List.getElem?_append_left (by rw [hn]; exact hj)]
 | b :: l, i + 1, j, a, h, hj => by
  have h' : l[i]? = some a := by simpa using h
  rw [List.flatMap_cons, List.getElem?_append_right (by rw [hn, Nat.succ_mul]; omega), hn, show (i + 1) * n + j - n = i * n + j by rw [Nat.succ_mul]; omega]
  exact flat_at f n hn l i j a h' hj
theorem add_off (g j : Nat) : (⟨g, 0, none⟩ : Addr).add j = ⟨g, j, none⟩ := by
 cases j with
 | zero => rfl
 | succ j => simp [Addr.add]
/-- A row that is read: its cells. -/
def RowR (w : World) (v : Value) (n : Nat) (xs : List Value) : Prop := (∃ ad cap, v = .slice ad n cap) ∧ (n = 0 ∨ ∃ g cap, v = .slice (some ⟨g, 0, none⟩) n cap ∧ n ≤ cap ∧ g < w.heap.size ∧ ∀ j u, xs[j]? = some u → w.cell? ⟨g, j, none⟩ = some u)
theorem row_read {w : World} {B e size n : Nat} {v : Value} {xs : List Value} (h : w.ownsRow B e size v n xs) : RowR w v n xs := by
 have h0 := h
 refine ⟨slice_of h0, ?_⟩
 obtain ⟨h1, ⟨e0, hn⟩ | ⟨g, cap, cur, e0, h2, h3⟩⟩ := h
 ·exact .inl hn
 ·refine .inr ⟨g, cap, e0, ?_, (row_lt h0 (g := g) (by rw [e0]; rfl)).2, fun j u hu => ?_⟩
  ·obtain ⟨h4, h5⟩ := h3
   first | omega | exact h2 | exact h2.1 | exact h5.1
  ·have := World.ownsRow.cells h0 (g := g) (by rw [e0]; rfl) j u hu
   rw [add_off] at this
   exact this
/-- An expression that stands in a row. -/
structure ExR (w : World) (g i : Nat) (e : Ex) (av kv : Value) : Prop where
 c_k : w.cell? ⟨g, i * 5, none⟩ = some (.int .i64 e.k)
 c_x : w.cell? ⟨g, i * 5 + 1, none⟩ = some (.string e.x)
 c_av : w.cell? ⟨g, i * 5 + 2, none⟩ = some av
 c_kv : w.cell? ⟨g, i * 5 + 3, none⟩ = some kv
 c_at_ : w.cell? ⟨g, i * 5 + 4, none⟩ = some (.int .i64 (e.at_ : Int))
 args : RowR w av e.args.length (intsV e.args)
 keys : RowR w kv e.keys.length (e.keys.map Value.string)
/-- A block that stands in a row. -/
structure BlR (w : World) (g i : Nat) (b : Bl) (lv av bv : Value) : Prop where
 c_t : w.cell? ⟨g, i * 5, none⟩ = some (.string b.t)
 c_lv : w.cell? ⟨g, i * 5 + 1, none⟩ = some lv
 c_av : w.cell? ⟨g, i * 5 + 2, none⟩ = some av
 c_bv : w.cell? ⟨g, i * 5 + 3, none⟩ = some bv
 c_at_ : w.cell? ⟨g, i * 5 + 4, none⟩ = some (.int .i64 (b.at_ : Int))
 labels : RowR w lv b.labels.length (b.labels.map Value.string)
 attrs : RowR w av b.attrs.length (b.attrs.flatMap AtS.cells)
 blocks : RowR w bv b.blocks.length (intsV b.blocks)
theorem RowR.below {w w' : World} {v : Value} {n : Nat} {xs : List Value} (h : RowR w v n xs) (hb : Below w.heap.size w w') : RowR w' v n xs := by
 refine ⟨h.1, ?_⟩
 rcases h.2 with h | ⟨g, cap, h1, h2, h3, h4⟩
 ·exact .inl h
 ·exact .inr ⟨g, cap, h1, h2, Nat.lt_of_lt_of_le h3 hb.size, fun j u hu => cells_keep hb (h4 j u hu)⟩
theorem ExR.below {w w' : World} {g i : Nat} {e : Ex} {av kv : Value} (h : ExR w g i e av kv) (hb : Below w.heap.size w w') : ExR w' g i e av kv :=
 ⟨cells_keep hb h.c_k, cells_keep hb h.c_x, cells_keep hb h.c_av, cells_keep hb h.c_kv, cells_keep hb h.c_at_, h.args.below hb, h.keys.below hb⟩
theorem BlR.below {w w' : World} {g i : Nat} {b : Bl} {lv av bv : Value} (h : BlR w g i b lv av bv) (hb : Below w.heap.size w w') : BlR w' g i b lv av bv :=
 ⟨cells_keep hb h.c_t, cells_keep hb h.c_lv, cells_keep hb h.c_av, cells_keep hb h.c_bv, cells_keep hb h.c_at_, h.labels.below hb, h.attrs.below hb, h.blocks.below hb⟩
/-- The length alone. -/
theorem RowR.slice {w : World} {v : Value} {n : Nat} {xs : List Value} (h : RowR w v n xs) (hn : n ≠ 0) : ∃ g cap, v = .slice (some ⟨g, 0, none⟩) n cap ∧ n ≤ cap ∧ ∀ j u, xs[j]? = some u → w.cell? ⟨g, j, none⟩ = some u := by
 rcases h.2 with h | ⟨g, cap, h1, h2, h3, h4⟩
 ·exact absurd h hn
 ·exact ⟨g, cap, h1, h2, h4⟩
/-- A row of numbers, one of them read. -/
theorem RowR.int {w : World} {v : Value} {l : List Nat} (h : RowR w v l.length (intsV l)) {g cap n : Nat} (hv : v = .slice (some ⟨g, 0, none⟩) n cap) {j a : Nat} (hj : l[j]? = some a) : w.cell? ⟨g, j, none⟩ = some (.int .i64 (a : Int)) ∧ j < n := by
 have hl := (List.getElem?_eq_some_iff.1 hj).1
 rcases h.2 with h | ⟨g', cap', h1, h2, h3, h4⟩
 ·omega
 ·rw [hv] at h1
  cases h1
  refine ⟨h4 j _ ?_, hl⟩
  unfold intsV
  rw [List.getElem?_map, hj]
  rfl
section
variable {w : World} {F lo : Nat} {m : FileM} {f : Fi}
theorem FileOk.ex (h : FileOk w F lo m f) {i : Nat} {e : Ex} (hi : f.exprs[i]? = some e) : ∃ g cap av kv, m.ev = .slice (some ⟨g, 0, none⟩) f.exprs.length cap ∧ f.exprs.length ≤ cap ∧ ExR w g i e av kv := by
 have hl : m.ms.length = f.exprs.length := by rw [← h.es, List.length_map]
 have hpos : i < f.exprs.length := (List.getElem?_eq_some_iff.1 hi).1
 rw [← h.es, List.getElem?_map] at hi
 obtain ⟨x, hx, rfl⟩ : ∃ x, m.ms[i]? = some x ∧ x.e = e := by
  cases hx : m.ms[i]? with
  | none => rw [hx] at hi; cases hi
  | some x => rw [hx] at hi; exact ⟨x, rfl, by simpa using hi⟩
 rcases (row_read h.exprs).2 with h0 | ⟨g, cap, e0, h2, h3, h4⟩
 ·omega
 ·have hc : ∀ j u, j < 5 → x.cells[j]? = some u → w.cell? ⟨g, i * 5 + j, none⟩ = some u := fun j u hj hu => h4 _ _ ((flat_at ExM.cells 5 (fun a => rfl) _ i j x hx hj).trans hu)
  have ho := h.eok x (List.mem_of_getElem? hx)
  exact ⟨g, cap, x.av, x.kv, by rw [e0, hl], by omega, hc 0 _ (by omega) rfl, hc 1 _ (by omega) rfl, hc 2 _ (by omega) rfl, hc 3 _ (by omega) rfl, hc 4 _ (by omega) rfl, row_read ho.args, row_read ho.keys⟩
theorem FileOk.bl (h : FileOk w F lo m f) {i : Nat} {b : Bl} (hi : f.blocks[i]? = some b) : ∃ g cap lv av bv, m.bv = .slice (some ⟨g, 0, none⟩) f.blocks.length cap ∧ f.blocks.length ≤ cap ∧ BlR w g i b lv av bv := by
 have hl : m.ns.length = f.blocks.length := by rw [← h.bs, List.length_map]
 have hpos : i < f.blocks.length := (List.getElem?_eq_some_iff.1 hi).1
 rw [← h.bs, List.getElem?_map] at hi
 obtain ⟨x, hx, rfl⟩ : ∃ x, m.ns[i]? = some x ∧ x.b = b := by
  cases hx : m.ns[i]? with
  | none => rw [hx] at hi; cases hi
  | some x => rw [hx] at hi; exact ⟨x, rfl, by simpa using hi⟩
 rcases (row_read h.blocks).2 with h0 | ⟨g, cap, e0, h2, h3, h4⟩
 ·omega
 ·have hc : ∀ j u, j < 5 → x.cells[j]? = some u → w.cell? ⟨g, i * 5 + j, none⟩ = some u := fun j u hj hu => h4 _ _ ((flat_at BlM.cells 5 (fun a => rfl) _ i j x hx hj).trans hu)
  have ho := h.bok x (List.mem_of_getElem? hx)
  exact ⟨g, cap, x.lv, x.av, x.bv, by rw [e0, hl], by omega, hc 0 _ (by omega) rfl, hc 1 _ (by omega) rfl, hc 2 _ (by omega) rfl, hc 3 _ (by omega) rfl, hc 4 _ (by omega) rfl, row_read ho.labels, row_read ho.attrs, row_read ho.blocks⟩
theorem FileOk.ex2 (h : FileOk w F lo m f) {i g n cap : Nat} {e : Ex} (hev : m.ev = .slice (some ⟨g, 0, none⟩) n cap) (hi : f.exprs[i]? = some e) : ∃ av kv, ExR w g i e av kv := by
 obtain ⟨g', c', av, kv, e0, -, hx⟩ := h.ex hi
 rw [hev] at e0
 cases e0
 exact ⟨av, kv, hx⟩
theorem FileOk.slices (h : FileOk w F lo m f) : (∃ a c, m.ev = .slice a f.exprs.length c) ∧ (∃ a c, m.bv = .slice a f.blocks.length c) ∧ ∃ a c, m.tv = .slice a f.top.length c := by
 have h1 := slice_of h.exprs
 have h2 := slice_of h.blocks
 rw [← List.length_map (f := ExM.e), h.es] at h1
 rw [← List.length_map (f := BlM.b), h.bs] at h2
 exact ⟨h1, h2, slice_of h.top⟩
theorem FileOk.below {w' : World} (h : FileOk w F lo m f) (hb : Below w.heap.size w w') : FileOk w' F lo m f := h.keep (fun g hg => hb.block g (h.lt g hg).1)
end
end Go.Proofs.YtljgggohjigaoaaGreatDoor
namespace Go.Proofs.YtljgggohjigaoaaGreatDoor
open Go.RowKit Go.Shelf
set_option linter.unusedVariables false
set_option linter.unusedSimpArgs false

def ex1B : ByteArray := ⟨#[114, 32, 34, 116, 34, 32, 34, 110, 34, 32, 123, 32, 120, 32, 61, 32, 49, 32, 43, 32, 121, 46, 122, 32, 125]⟩
def ex2B : ByteArray := ⟨#[97, 32, 123, 32, 120, 32, 61, 32, 49, 32, 121, 32, 61, 32, 50, 32, 125]⟩
def ex1C : Bool := match parseF ex1B with
 | .error _ => false
 | .ok f => f.blocks.length == 1 && (f.exprs.length == 4 && ((match f.exprs[3]? with | some e => e.k == 15 | none => false) && (match f.blocks[0]? with | some b => b.labels.length == 2 | none => false)))
theorem ex1_check : ex1C = true := by kernel_rfl
theorem ex1_ok : ∃ f e b, parseF ex1B = .ok f ∧ f.blocks.length = 1 ∧ f.exprs.length = 4 ∧ f.exprs[3]? = some e ∧ e.k = 15 ∧ f.blocks[0]? = some b ∧ b.labels.length = 2 := by
 have h := ex1_check
 unfold ex1C at h
 cases hp : parseF ex1B with
 | error bd => rw [hp] at h; cases h
 | ok f =>
  rw [hp] at h
  simp only [Bool.and_eq_true] at h
  obtain ⟨h1, h2, h3, h4⟩ := h
  cases he : f.exprs[3]? with
  | none => rw [he] at h3; cases h3
  | some e =>
   rw [he] at h3
   cases hb : f.blocks[0]? with
   | none => rw [hb] at h4; cases h4
   | some b =>
    rw [hb] at h4
    exact ⟨f, e, b, rfl, beq_iff_eq.1 h1, beq_iff_eq.1 h2, he, beq_iff_eq.1 h3, hb, beq_iff_eq.1 h4⟩
theorem ex2_bad : parseF ex2B = .error (50, 10) := by kernel_rfl
/-- Is, where something is wrong: its code and place, and no name. -/
theorem is_bad {W : World} {D : Nat} {c p : Int} (h : Blk W D #[.int .i64 c, .string ⟨#[]⟩, .int .i64 p] 34) (h0 : ¬ c = 0) : Calls Tryz.prog 16 #[.pointer (some ⟨D, 0, none⟩), .int .i64 c, .int .i64 p] W fun e w' => e = .returned (.bool true) ∧ w' = W := by
 have d0 := h.cell 0
 have d1 := h.cell 1
 have d2 := h.cell 2
 have e0 : (c == 0) = false := beq_eq_false_iff_ne.2 h0
 clear h
 go_enter Tryz.func16, Tryz.ntmps16
 go_wp2_with fail
 go_ret
 exact ⟨rfl, rfl⟩
set_option maxRecDepth 100000 in
set_option maxHeartbeats 4000000 in
theorem awake5 {W : World} (hR : ReadyP W) : Calls Tryz.prog 9 #[] W fun e w' => e = .returned (.bool true) ∧ Below W.heap.size W w' := by
 obtain ⟨f, x, b, hf, hnb, hne, hx, hxk, hb, hbl⟩ := ex1_ok
 have HP1 : Hid (Calls Tryz.prog 11 #[.string ⟨#[114, 32, 34, 116, 34, 32, 34, 110, 34, 32, 123, 32, 120, 32, 61, 32, 49, 32, 43, 32, 121, 46, 122, 32, 125]⟩] W (ParE W (.ok f))) := Lib.hid (by
  have := parse_any (t := ex1B) hR
  rw [hf] at this
  exact this)
 have HP2 : Hid (∀ w, ReadyP w → Calls Tryz.prog 11 #[.string ⟨#[97, 32, 123, 32, 120, 32, 61, 32, 49, 32, 121, 32, 61, 32, 50, 32, 125]⟩] w (ParE w (.error (50, 10)))) := Lib.hid (fun w hw => by
  have := parse_any (t := ex2B) hw
  rw [ex2_bad] at this
  exact this)
 have HR := Lib.hid hR
 clear hR hf
 go_enter Tryz.func9, Tryz.ntmps9
 go_wp2_with fail
 go_at_call 11; refine HP1.out.mono ?_
 rintro e w1 ⟨hb1, m, F, lo, rfl, hfo, -, -⟩
 obtain ⟨gE, cE, av, kv, eE, hcE, hxr⟩ := hfo.ex hx
 obtain ⟨gB, cB, lv, av', bv, eB, hcB, hbr⟩ := hfo.bl hb
 obtain ⟨aT, cT, eT⟩ := hfo.slices.2.2
 rw [hne] at eE hcE
 rw [hnb] at eB hcB
 rw [eE, eB, eT]
 obtain ⟨gL, cL, eL, -, -⟩ := hbr.labels.slice (by rw [hbl]; decide)
 rw [hbl] at eL
 obtain ⟨w2, hw2⟩ : ∃ w2, w1.alloc (.cells #[.slice (some ⟨gE, 0, none⟩) 4 cE, .slice (some ⟨gB, 0, none⟩) 1 cB, .slice aT f.top.length cT] 28) = w2 := ⟨_, rfl⟩
 have b2 : Blk w2 w1.heap.size #[.slice (some ⟨gE, 0, none⟩) 4 cE, .slice (some ⟨gB, 0, none⟩) 1 cB, .slice aT f.top.length cT] 28 := by rw [← hw2]; exact Blk.new _ _ _
 have s12 : Below w1.heap.size w1 w2 := by rw [← hw2]; exact below_new _ _
 have hR2 := (HR.out.below hb1).below s12
 have hz1 := hb1.size
 have HB2 := Lib.hid (hb1.trans (s12.mono hz1))
 have HX := Lib.hid (And.intro (hxr.below s12) (And.intro (hbr.below s12) b2))
 have HC := Lib.hid (HP2.out w2 hR2)
 have HW2 := Lib.hid hw2
 have HZ := Lib.hid (And.intro hz1 s12.size)
 have HXK := Lib.hid (And.intro hxk (And.intro hcE hcB))
 clear hb1 hfo hxr hbr eE eB eT HP1 HP2 hR2 hw2 b2 s12 HR hz1 hxk hcE hcB
 go_wp2_with fail
 go_at_call 11; rw [HW2.out]; refine HC.out.mono ?_
 rintro e w3 ⟨hb3, D, rfl, hD, hdb⟩
 have hx3 := HX.out.1.below hb3
 have hbl3 := HX.out.2.1.below hb3
 have b3 := HX.out.2.2.below hb3
 have s34 := below_new w3 (.cells #[.slice none 0 0, .slice none 0 0, .slice none 0 0] 28)
 have r0 : (w3.alloc (.cells #[.slice none 0 0, .slice none 0 0, .slice none 0 0] 28)).cell? ⟨gE, 15, none⟩ = some (.int .i64 15) := by rw [← HXK.out.1]; exact (hx3.below s34).c_k
 have r1 : (w3.alloc (.cells #[.slice none 0 0, .slice none 0 0, .slice none 0 0] 28)).cell? ⟨gB, 1, none⟩ = some (.slice (some ⟨gL, 0, none⟩) 2 cL) := by rw [← eL]; exact (hbl3.below s34).c_lv
 have b4 := b3.below s34
 have k0 := b4.cell 0
 have k1 := b4.cell 1
 have k2 := b4.cell 2
 have HIS := Lib.hid (is_bad (hdb.below s34) (by decide))
 have HB4 : Hid (Below W.heap.size W (w3.alloc (.cells #[.slice none 0 0, .slice none 0 0, .slice none 0 0] 28))) := Lib.hid (HB2.out.trans ((hb3.mono (by have := HZ.out; omega)).trans (s34.mono (by have := hb3.size; have := HZ.out; omega))))
 have i1 : (3 : Int) < 4 := by decide
 clear hb3 hx3 hbl3 b3 s34 b4 hdb HX HC eL hD
 go_wp2_with fail
 go_at_call 16; refine HIS.out.mono ?_
 rintro e w5 ⟨rfl, rfl⟩
 go_wp2_with fail
 go_ret
 exact ⟨rfl, HB4.out⟩
end Go.Proofs.YtljgggohjigaoaaGreatDoor
