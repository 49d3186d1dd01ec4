/- The whole file: how it is read, and what stands while it is read · whole's function value: a block of the file -/
import Derived.Deep.RegionWith
import Derived.Deep.RegionHeld
import Derived.Test.YtljgggohjigaoaaGreatDoorSk31
namespace Go.Proofs.YtljgggohjigaoaaGreatDoor
open Go.RowKit Go.Shelf
set_option linter.unusedVariables false
set_option linter.unusedSimpArgs false

/-- A block of the file itself; x blocks came before. -/
def topE (t : Tk) (x : Nat) : PM Nat := bindP (blockM 24 t) fun i s => .ok (x + 1, { s with f := { s.f with top := s.f.top ++ [i] } })
def topU (t : Tk) (_ : Unit) : PM Unit := bindP (blockM 24 t) fun i s => .ok ((), { s with f := { s.f with top := s.f.top ++ [i] } })
/-- The count left out. -/
def unU {α : Type} (r : PR α) : PR Unit := match r with
 | .ok (_, s) => .ok ((), s)
 | .error e => .error e
theorem loop_sim : ∀ (n x : Nat) (s : Ps), itemsLoop topU n () s = unU (itemsLoop topE n x s) := by
 intro n
 induction n with
 | zero => intro x s; rfl
 | succ n ih =>
  intro x s
  unfold itemsLoop
  by_cases h : (next s).k = 1
  ·rw [if_pos h, if_pos h]
   unfold topU topE bindP
   simp only
   cases blockM 24 (next s) (takeS s) with
   | error e => rfl
   | ok y =>
    obtain ⟨i, s1⟩ := y
    simp only
    cases linesM { s1 with f := { s1.f with top := s1.f.top ++ [i] } } with
    | error e => rfl
    | ok z =>
     obtain ⟨l, s2⟩ := z
     cases l with
     | true => exact ih (x + 1) s2
     | false => rfl
  ·rw [if_neg h, if_neg h]
   rfl
theorem whole_eq (s : Ps) : wholeM s = bindP (itemsM topE 0) (fun _ => bindP (kindM 0) fun _ s => .ok ((), s)) s := by
 have h0 : wholeM s = bindP (itemsM topU ()) (fun _ => bindP (kindM 0) fun _ s => .ok ((), s)) s := rfl
 rw [h0]
 have h1 : itemsM topU () s = unU (itemsM topE 0 s) := by
  unfold itemsM bindP
  cases linesM s with
  | error e => rfl
  | ok y =>
   obtain ⟨b, s1⟩ := y
   exact loop_sim _ 0 s1
 conv => lhs; unfold bindP
 conv => rhs; unfold bindP
 rw [h1]
 cases itemsM topE 0 s with
 | error e => rfl
 | ok y => rfl
theorem topE_dec (t : Tk) (x : Nat) : Dec 24 (-1) (topE t x) := Dec.mono (c := 0 + 0) (e := -1) (Dec.bind (c := 0) (e := 0) (block_dec 24 t) fun i s hS => Res.ok (List.suffix_refl _) (by show (pot s : Int) + 0 ≤ pot s; omega)) (by omega)
theorem topE_mu (t : Tk) (x : Nat) (s : Ps) (x' : Nat) (s' : Ps) (h : topE t x s = .ok (x', s')) : x' ≤ x + 1 := by
 unfold topE bindP at h
 cases hb : blockM 24 t s with
 | error e => rw [hb] at h; cases h
 | ok y =>
  rw [hb] at h
  obtain ⟨i, s1⟩ := y
  cases h
  exact Nat.le_refl _
section
variable {w w' w3 : World} {P F T lo dp : Nat} {m m1 m' : FileM} {s : Ps} {X : List Nat}
/-- The mark hangs on nothing. -/
theorem FileOk.mark {f : Fi} (h : FileOk w F lo m f) (b : Bool) : FileOk w F lo { m with lk := b } f := ⟨h.box, h.exprs, h.blocks, h.top, h.es, h.bs, h.eok, h.bok, h.nodup⟩
theorem PsAt.mark (h : PsAt w P F T lo dp s m) (b : Bool) : PsAt w P F T lo dp s { m with lk := b } := ⟨h.tok, h.ton, h.good, h.file.mark b, h.far, h.base⟩
theorem OutsX.mark {b : Bool} (h : OutsX w w' P F { m with lk := b } X) : OutsX w w' P F m X := ⟨h.os, h.tape, h.output, h.size, h.block⟩
theorem Bad.mark {b : Bool} {bd : Bd} {e : Ending} (h : Bad w P F { m with lk := b } X bd e w') : Bad w P F m X bd e w' := by
 obtain ⟨D, h1, h2, h3, h4⟩ := h
 exact ⟨D, h1, h2, h3, h4.mark⟩
/-- A place more among those of the file. -/
theorem PsAt.addT {o : Obj} {g2 cap2 i n : Nat} (h : PsAt w P F T lo dp s m1) (hn : s.f.top.length = n)
  (hown : w3.ownsRow lo 3 1 (.slice (some ⟨g2, 0, none⟩) (n + 1) cap2) (n + 1) (intsV s.f.top ++ [.int .i64 (i : Int)])) (hg : (w.alloc o).grownBy w3 m1.tv.ownBlock) (hat : m1.tv.ownBlock = some g2 ∨ g2 = (w.alloc o).heap.size) :
  PsAt (w3.setCell ⟨F, 2, none⟩ (.slice (some ⟨g2, 0, none⟩) (n + 1) cap2)) P F T lo dp { s with f := { s.f with top := s.f.top ++ [i] } } { m1 with tv := .slice (some ⟨g2, 0, none⟩) (n + 1) cap2 } ∧
  Outs w (w3.setCell ⟨F, 2, none⟩ (.slice (some ⟨g2, 0, none⟩) (n + 1) cap2)) P F m1 ∧ (∀ g ∈ ({ m1 with tv := .slice (some ⟨g2, 0, none⟩) (n + 1) cap2 } : FileM).foot F, g ∈ m1.foot F ∨ w.heap.size ≤ g) ∧
  (∀ k, k < w.heap.size → k ∉ m1.foot F → (w3.setCell ⟨F, 2, none⟩ (.slice (some ⟨g2, 0, none⟩) (n + 1) cap2)).heap[k]? = w.heap[k]?) := by
 obtain ⟨hf4, hft4, hst4⟩ := FileOk.addT h.file h.base.1 h.base.2 hn hown hg hat
 have hsz : w.heap.size ≤ (w3.setCell ⟨F, 2, none⟩ (.slice (some ⟨g2, 0, none⟩) (n + 1) cap2)).heap.size := by
  have := hg.size
  simp at this ⊢
  omega
 have hrk := h.tok.ranks
 refine ⟨⟨h.tok.same hsz (hst4 P hrk.1 h.far) (hst4 T hrk.2.1 h.ton), fun hT => ?_, h.good, hf4, fun hP => ?_, h.base.1, Nat.le_trans h.base.2 hsz⟩, ⟨hg.os, hg.tape, hg.output, hsz, fun k hk _ hkf => hst4 k hk hkf⟩, hft4, hst4⟩
 ·rcases hft4 T hT with h2 | h2
  ·exact h.ton h2
  ·omega
 ·rcases hft4 P hP with h2 | h2
  ·exact h.far h2
  ·omega
/-- What the file's function value says: how many blocks came before, and the parser's place. -/
def StW (P F T Bp : Nat) : Nat → FileM → World → Prop := fun x m w => m.lk = false ∧ (∃ ad cap, m.tv = .slice ad x cap) ∧ Loc w P F T m Bp #[.pointer (some ⟨P, 0, none⟩)] 88
theorem StW.aside {P F T Bp : Nat} : ∀ (x : Nat) (m : FileM) (w w' : World), StW P F T Bp x m w → Aside P w w' → StW P F T Bp x m w' := fun x m w w' h ha => ⟨h.1, h.2.1, h.2.2.aside ha⟩
end
end Go.Proofs.YtljgggohjigaoaaGreatDoor
namespace Go.Proofs.YtljgggohjigaoaaGreatDoor
open Go.RowKit Go.Shelf
set_option linter.unusedVariables false
set_option linter.unusedSimpArgs false

set_option maxRecDepth 100000 in
set_option maxHeartbeats 8000000 in
theorem whl1_any {W w : World} {P F T lo Bp x : Nat} {s0 : Ps} {m m1 : FileM} {tk : Tk} (h : Un W w P F T lo 0 24 m [] (takeS s0) m1) (hs : StW P F T Bp x m1 w) (hx : x ≤ 1000000000) :
  ∃ X', (∀ k ∈ X', 4 ≤ k ∧ (k ∈ ([] : List Nat) ∨ W.heap.size ≤ k)) ∧ Calls Tryz.prog 33 (#[tkV tk] ++ #[.pointer (some ⟨Bp, 0, none⟩)]) w (KEnd w P F T lo 0 m1 X' (StW P F T Bp) (topE tk x (takeS s0)) (fun _ => .tuple #[])) := by
 obtain ⟨iI, hiI, hzI, hsI, hbI⟩ := info_of infoInt0
 obtain ⟨hlk, ⟨ad, cap, htv⟩, hBp⟩ := hs
 refine ⟨[], fun k hk => (by cases hk), ?_⟩
 have hU1 := (Un.start (X := []) (h.ps.mark true) h.env h.fit).alloc (.cells #[.int .i64 tk.k, .string tk.x, .int .i64 (tk.at_ : Int)] 75)
 have hT1 := Loc.new (h.ps.mark true) #[.int .i64 tk.k, .string tk.x, .int .i64 (tk.at_ : Int)] 75
 have hB0 : Loc w P F T { m1 with lk := true } Bp #[.pointer (some ⟨P, 0, none⟩)] 88 := ⟨hBp.blk, hBp.neP, hBp.neT, hBp.out⟩
 have hB1 := hB0.alloc (.cells #[.int .i64 tk.k, .string tk.x, .int .i64 (tk.at_ : Int)] 75)
 obtain ⟨W1, hW1⟩ : ∃ W1, w.alloc (.cells #[.int .i64 tk.k, .string tk.x, .int .i64 (tk.at_ : Int)] 75) = W1 := ⟨_, rfl⟩
 have hsz : W1.heap.size = w.heap.size + 1 := by rw [← hW1]; simp
 rw [hW1] at hU1 hT1 hB1
 have hUD := hU1.below (Below.refl _ W1).drew
 have hTD := hT1.lc (Lc.of (Below.refl _ W1).drew []) (by simp)
 have hBD := hB1.lc (Lc.of (Below.refl _ W1).drew []) (by simp)
 have t0 := hT1.blk.cell 0
 have t1 := hT1.blk.cell 1
 have t2 := hT1.blk.cell 2
 have b0 := hB1.blk.cell 0
 obtain ⟨-, tv0, hpb, -⟩ := hU1.ps.tok
 have p3 := hpb.cell 3
 have f2 : W1.cell? ⟨F, 2, none⟩ = some (.slice ad x cap) := by
  have := hU1.ps.file.box.cell 2
  rw [← htv]
  simpa using this
 have hFm : F ∈ m1.foot F := (foot_permT m1 F).mem_iff.2 (List.mem_append.2 (.inr (by unfold FileM.restT; simp)))
 have hTF : w.heap.size ≠ F := fun e => hT1.out (e.symm ▸ hFm)
 have hrd := hUD.reads (block_all (F := F) (T := T) (P := P) (lo := lo) 24 0 rfl tk) (block_dec 24 tk)
 obtain ⟨R, hR⟩ : ∃ R, topE tk x (takeS s0) = R := ⟨_, rfl⟩
 have HR : Hid (bindP (blockM 24 tk) (fun i s => .ok (x + 1, { s with f := { s.f with top := s.f.top ++ [i] } })) (takeS s0) = R) := Lib.hid hR
 rw [hR]
 have HW1 := Lib.hid hW1
 have HM := Lib.hid (And.intro hlk htv)
 have HTD := Lib.hid hTD
 have HBD := Lib.hid hBD
 have HSZ := Lib.hid (And.intro hsz hTF)
 cases hm : blockM 24 tk (takeS s0) with
 | error bd =>
  rw [hm] at hrd
  have HRD := Lib.hid hrd
  have HRE := Lib.hid (bind_err hm HR.out)
  clear hrd hm hU1 hT1 hB0 hB1 hW1 hUD hTD hBD hpb hBp h htv hR hsz hlk hFm hTF
  go_enter Tryz.func33, Tryz.ntmps33
  go_wp2_with fail
  rw [HW1.out]
  refine wp_region_held_drew (S := fun w' => w'.cell? ⟨Bp, 0, none⟩ = some (.pointer (some ⟨P, 0, none⟩)) ∧ w'.cell? ⟨P, 3, none⟩ = some (.pointer (some ⟨F, 0, none⟩)) ∧ w'.cell? ⟨F, 2, none⟩ = some (.slice ad x cap) ∧ w'.cell? ⟨w.heap.size, 0, none⟩ = some (.int .i64 tk.k) ∧ w'.cell? ⟨w.heap.size, 1, none⟩ = some (.string tk.x) ∧ w'.cell? ⟨w.heap.size, 2, none⟩ = some (.int .i64 (tk.at_ : Int))) (by kernel_rfl) ⟨b0, p3, f2, t0, t1, t2⟩ (fun hHeld => ?_)
  refine wpAnyH_take (i := 0) (oi := _) (v := ?q_v0) rfl (by kernel_rfl) (by kernel_rfl) (by kernel_rfl) (fun _ _ _ h => h) (Or.inl ⟨by rfl, ?q_y0⟩) (by assumption) ?q_r0
  case q_y0 => (intro w hSw; (try dsimp only at hSw); go_simp; (try with_reducible rfl))
  try simp only [Act.put, List.setIfInBounds_toArray, List.set_cons_zero, List.set_cons_succ]
  refine wpAnyH_take (i := 1) (oi := _) (v := ?q_v1) rfl (by kernel_rfl) (by kernel_rfl) (by kernel_rfl) (fun _ _ _ h => h) (Or.inl ⟨by rfl, ?q_y1⟩) (by assumption) ?q_r1
  case q_y1 => (intro w hSw; (try dsimp only at hSw); go_simp; (try with_reducible rfl))
  try simp only [Act.put, List.setIfInBounds_toArray, List.set_cons_zero, List.set_cons_succ]
  refine wpAnyH_take (i := 2) (oi := _) (v := ?q_v2) rfl (by kernel_rfl) (by kernel_rfl) (by kernel_rfl) (fun _ _ _ h => h) (Or.inl ⟨by rfl, ?q_y2⟩) (by assumption) ?q_r2
  case q_y2 => (intro w hSw; (try dsimp only at hSw); go_simp; (try with_reducible rfl))
  try simp only [Act.put, List.setIfInBounds_toArray, List.set_cons_zero, List.set_cons_succ]
  refine wpAnyH_take (i := 3) (oi := _) (v := ?q_v3) rfl (by kernel_rfl) (by kernel_rfl) (by kernel_rfl) (fun _ _ _ h => h) (Or.inl ⟨by rfl, ?q_y3⟩) (by assumption) ?q_r3
  case q_y3 => (intro w hSw; (try dsimp only at hSw); go_simp; (try with_reducible rfl))
  try simp only [Act.put, List.setIfInBounds_toArray, List.set_cons_zero, List.set_cons_succ]
  refine wpAnyH_take (i := 4) (oi := _) (v := ?q_v4) rfl (by kernel_rfl) (by kernel_rfl) (by kernel_rfl) (fun _ _ _ h => h) (Or.inl ⟨by rfl, ?q_y4⟩) (by assumption) ?q_r4
  case q_y4 => (intro w hSw; (try dsimp only at hSw); go_simp; (try with_reducible rfl))
  try simp only [Act.put, List.setIfInBounds_toArray, List.set_cons_zero, List.set_cons_succ]
  refine wpAnyH_take (i := 5) (oi := _) (v := ?q_v5) rfl (by kernel_rfl) (by kernel_rfl) (by kernel_rfl) (fun _ _ _ h => h) (Or.inl ⟨by rfl, ?q_y5⟩) (by assumption) ?q_r5
  case q_y5 => (intro w hSw; (try dsimp only at hSw); go_simp; (try with_reducible rfl))
  try simp only [Act.put, List.setIfInBounds_toArray, List.set_cons_zero, List.set_cons_succ]
  refine wpAnyH_take (i := 6) (oi := _) (v := ?q_v6) rfl (by kernel_rfl) (by kernel_rfl) (by kernel_rfl) (fun _ _ _ h => h) (Or.inl ⟨by rfl, ?q_y6⟩) (by assumption) ?q_r6
  case q_y6 => (intro w hSw; (try dsimp only at hSw); go_simp; (try with_reducible rfl))
  try simp only [Act.put, List.setIfInBounds_toArray, List.set_cons_zero, List.set_cons_succ]
  refine wpAnyH_take (i := 7) (oi := _) (v := ?q_v7) rfl (by kernel_rfl) (by kernel_rfl) (by kernel_rfl) (fun _ _ _ h => h) (Or.inl ⟨by rfl, ?q_y7⟩) (by assumption) ?q_r7
  case q_y7 => (intro w hSw; (try dsimp only at hSw); go_simp; (try with_reducible rfl))
  try simp only [Act.put, List.setIfInBounds_toArray, List.set_cons_zero, List.set_cons_succ]
  refine wpAnyH_take (i := 8) (oi := _) (v := ?q_v8) rfl (by kernel_rfl) (by kernel_rfl) (by kernel_rfl) (fun _ _ _ h => h) (Or.inl ⟨by rfl, ?q_y8⟩) (by assumption) ?q_r8
  case q_y8 => (intro w hSw; (try dsimp only at hSw); go_simp; (try with_reducible rfl))
  try simp only [Act.put, List.setIfInBounds_toArray, List.set_cons_zero, List.set_cons_succ]
  refine wpAnyH_take (i := 9) (oi := _) (v := ?q_v9) rfl (by kernel_rfl) (by kernel_rfl) (by kernel_rfl) (fun _ _ _ h => h) (Or.inl ⟨by rfl, ?q_y9⟩) (by assumption) ?q_r9
  case q_y9 => (intro w hSw; (try dsimp only at hSw); go_simp; (try with_reducible rfl))
  try simp only [Act.put, List.setIfInBounds_toArray, List.set_cons_zero, List.set_cons_succ]
  refine wpAnyH_take (i := 10) (oi := _) (v := ?q_v10) rfl (by kernel_rfl) (by kernel_rfl) (by kernel_rfl) (fun _ _ _ h => h) (Or.inl ⟨by rfl, ?q_y10⟩) (by assumption) ?q_r10
  case q_y10 => (intro w hSw; (try dsimp only at hSw); go_simp; (try with_reducible rfl))
  try simp only [Act.put, List.setIfInBounds_toArray, List.set_cons_zero, List.set_cons_succ]
  refine wpAnyH_take (i := 11) (oi := _) (v := ?q_v11) rfl (by kernel_rfl) (by kernel_rfl) (by kernel_rfl) (fun _ _ _ h => h) (Or.inl ⟨by rfl, ?q_y11⟩) (by assumption) ?q_r11
  case q_y11 => (intro w hSw; (try dsimp only at hSw); go_simp; (try with_reducible rfl))
  try simp only [Act.put, List.setIfInBounds_toArray, List.set_cons_zero, List.set_cons_succ]
  refine wpAnyH_take (i := 12) (oi := _) (v := ?q_v12) rfl (by kernel_rfl) (by kernel_rfl) (by kernel_rfl) (fun _ _ _ h => h) (Or.inl ⟨by rfl, ?q_y12⟩) (by assumption) ?q_r12
  case q_y12 => (intro w hSw; (try dsimp only at hSw); go_simp; (try with_reducible rfl))
  try simp only [Act.put, List.setIfInBounds_toArray, List.set_cons_zero, List.set_cons_succ]
  refine wpAnyH_ready (rs := [13]) (by kernel_rfl) (by simp) ?_
  refine AllReadyH.cons (o := _) rfl (fun K hK => ?_) AllReadyH.nil
  go_simp
  go_at_call 34; refine HRD.out.mono ?_
  rintro e w4 hk
  obtain ⟨D, rfl, hk2⟩ := Bad.mark hk
  refine ⟨rfl, ?_⟩
  rw [HRE.out]
  exact ⟨D, rfl, hk2⟩
 | ok y =>
  obtain ⟨i, s3⟩ := y
  rw [hm] at hrd
  have HRD := Lib.hid hrd
  have HRo := Lib.hid (bind_ok hm HR.out)
  clear hrd hm hU1 hT1 hB0 hB1 hW1 hUD hTD hBD hpb hBp h htv hR hsz hlk hFm hTF
  go_enter Tryz.func33, Tryz.ntmps33
  go_wp2_with fail
  rw [HW1.out]
  refine have AFTER : (∀ (w9 w5 : World) (g2 cap2 : Nat), (∃ m9, Stepped w W1.drew w9 P F T lo 0 24 { m1 with lk := true } [] { m1 with lk := true } s3 m9 ∧ s3.f.top.length = x ∧ m9.tv = .slice ad x cap ∧ w5.ownsRow lo 3 1 (.slice (some ⟨g2, 0, none⟩) (x + 1) cap2) (x + 1) (intsV s3.f.top ++ [.int .i64 (i : Int)]) ∧ (w9.alloc (.cells #[.int .i64 (i : Int)] 3)).grownBy w5 (Value.slice ad x cap).ownBlock ∧ ((Value.slice ad x cap).ownBlock = some g2 ∨ g2 = (w9.alloc (.cells #[.int .i64 (i : Int)] 3)).heap.size)) → (?G : World → World → Nat → Nat → Prop) w9 w5 g2 cap2) := ?later; ?main
  case main =>
   refine wp_region_held_drew (S := fun w' => w'.cell? ⟨Bp, 0, none⟩ = some (.pointer (some ⟨P, 0, none⟩)) ∧ w'.cell? ⟨P, 3, none⟩ = some (.pointer (some ⟨F, 0, none⟩)) ∧ w'.cell? ⟨w.heap.size, 0, none⟩ = some (.int .i64 tk.k) ∧ w'.cell? ⟨w.heap.size, 1, none⟩ = some (.string tk.x) ∧ w'.cell? ⟨w.heap.size, 2, none⟩ = some (.int .i64 (tk.at_ : Int))) (by kernel_rfl) ⟨b0, p3, t0, t1, t2⟩ (fun hHeld => ?_)
   refine wpAnyH_take (i := 0) (oi := _) (v := ?r_v0) rfl (by kernel_rfl) (by kernel_rfl) (by kernel_rfl) (fun _ _ _ h => h) (Or.inl ⟨by rfl, ?r_y0⟩) (by assumption) ?r_r0
   case r_y0 => (intro w hSw; (try dsimp only at hSw); go_simp; (try with_reducible rfl))
   try simp only [Act.put, List.setIfInBounds_toArray, List.set_cons_zero, List.set_cons_succ]
   refine wpAnyH_take (i := 1) (oi := _) (v := ?r_v1) rfl (by kernel_rfl) (by kernel_rfl) (by kernel_rfl) (fun _ _ _ h => h) (Or.inl ⟨by rfl, ?r_y1⟩) (by assumption) ?r_r1
   case r_y1 => (intro w hSw; (try dsimp only at hSw); go_simp; (try with_reducible rfl))
   try simp only [Act.put, List.setIfInBounds_toArray, List.set_cons_zero, List.set_cons_succ]
   refine wpAnyH_take (i := 2) (oi := _) (v := ?r_v2) rfl (by kernel_rfl) (by kernel_rfl) (by kernel_rfl) (fun _ _ _ h => h) (Or.inl ⟨by rfl, ?r_y2⟩) (by assumption) ?r_r2
   case r_y2 => (intro w hSw; (try dsimp only at hSw); go_simp; (try with_reducible rfl))
   try simp only [Act.put, List.setIfInBounds_toArray, List.set_cons_zero, List.set_cons_succ]
   refine wpAnyH_take (i := 3) (oi := _) (v := ?r_v3) rfl (by kernel_rfl) (by kernel_rfl) (by kernel_rfl) (fun _ _ _ h => h) (Or.inl ⟨by rfl, ?r_y3⟩) (by assumption) ?r_r3
   case r_y3 => (intro w hSw; (try dsimp only at hSw); go_simp; (try with_reducible rfl))
   try simp only [Act.put, List.setIfInBounds_toArray, List.set_cons_zero, List.set_cons_succ]
   refine wpAnyH_take (i := 4) (oi := _) (v := ?r_v4) rfl (by kernel_rfl) (by kernel_rfl) (by kernel_rfl) (fun _ _ _ h => h) (Or.inl ⟨by rfl, ?r_y4⟩) (by assumption) ?r_r4
   case r_y4 => (intro w hSw; (try dsimp only at hSw); go_simp; (try with_reducible rfl))
   try simp only [Act.put, List.setIfInBounds_toArray, List.set_cons_zero, List.set_cons_succ]
   refine wpAnyH_take (i := 5) (oi := _) (v := ?r_v5) rfl (by kernel_rfl) (by kernel_rfl) (by kernel_rfl) (fun _ _ _ h => h) (Or.inl ⟨by rfl, ?r_y5⟩) (by assumption) ?r_r5
   case r_y5 => (intro w hSw; (try dsimp only at hSw); go_simp; (try with_reducible rfl))
   try simp only [Act.put, List.setIfInBounds_toArray, List.set_cons_zero, List.set_cons_succ]
   refine wpAnyH_take (i := 6) (oi := _) (v := ?r_v6) rfl (by kernel_rfl) (by kernel_rfl) (by kernel_rfl) (fun _ _ _ h => h) (Or.inl ⟨by rfl, ?r_y6⟩) (by assumption) ?r_r6
   case r_y6 => (intro w hSw; (try dsimp only at hSw); go_simp; (try with_reducible rfl))
   try simp only [Act.put, List.setIfInBounds_toArray, List.set_cons_zero, List.set_cons_succ]
   refine wpAnyH_take (i := 7) (oi := _) (v := ?r_v7) rfl (by kernel_rfl) (by kernel_rfl) (by kernel_rfl) (fun _ _ _ h => h) (Or.inl ⟨by rfl, ?r_y7⟩) (by assumption) ?r_r7
   case r_y7 => (intro w hSw; (try dsimp only at hSw); go_simp; (try with_reducible rfl))
   try simp only [Act.put, List.setIfInBounds_toArray, List.set_cons_zero, List.set_cons_succ]
   refine wpAnyH_take (i := 8) (oi := _) (v := ?r_v8) rfl (by kernel_rfl) (by kernel_rfl) (by kernel_rfl) (fun _ _ _ h => h) (Or.inl ⟨by rfl, ?r_y8⟩) (by assumption) ?r_r8
   case r_y8 => (intro w hSw; (try dsimp only at hSw); go_simp; (try with_reducible rfl))
   try simp only [Act.put, List.setIfInBounds_toArray, List.set_cons_zero, List.set_cons_succ]
   refine wpAnyH_take (i := 9) (oi := _) (v := ?r_v9) rfl (by kernel_rfl) (by kernel_rfl) (by kernel_rfl) (fun _ _ _ h => h) (Or.inl ⟨by rfl, ?r_y9⟩) (by assumption) ?r_r9
   case r_y9 => (intro w hSw; (try dsimp only at hSw); go_simp; (try with_reducible rfl))
   try simp only [Act.put, List.setIfInBounds_toArray, List.set_cons_zero, List.set_cons_succ]
   refine wpAnyH_take (i := 11) (oi := _) (v := ?r_v11) rfl (by kernel_rfl) (by kernel_rfl) (by kernel_rfl) (fun _ _ _ h => h) (Or.inl ⟨by rfl, ?r_y11⟩) (by assumption) ?r_r11
   case r_y11 => (intro w hSw; (try dsimp only at hSw); go_simp; (try with_reducible rfl))
   try simp only [Act.put, List.setIfInBounds_toArray, List.set_cons_zero, List.set_cons_succ]
   refine wpAnyH_take (i := 12) (oi := _) (v := ?r_v12) rfl (by kernel_rfl) (by kernel_rfl) (by kernel_rfl) (fun _ _ _ h => h) (Or.inl ⟨by rfl, ?r_y12⟩) (by assumption) ?r_r12
   case r_y12 => (intro w hSw; (try dsimp only at hSw); go_simp; (try with_reducible rfl))
   try simp only [Act.put, List.setIfInBounds_toArray, List.set_cons_zero, List.set_cons_succ]
   refine wpAnyH_ready (rs := [10, 13]) (by kernel_rfl) (by simp) ?_
   refine AllReadyH.cons (o := _) rfl (fun K hK => ?_) ?_
   ·go_simp
    refine hK.out _ _ ⟨b0, p3, t0, t1, t2⟩ (fun hHeld => ?_)
    clear hK K
    try simp only [Act.put, List.setIfInBounds_toArray, List.set_cons_zero, List.set_cons_succ]
    refine wpAnyH_ready (rs := [13]) (by kernel_rfl) (by simp) ?_
    refine AllReadyH.cons (o := _) rfl (fun K hK => ?_) AllReadyH.nil
    go_simp
    go_at_call 34; refine HRD.out.mono ?_
    rintro e w9 ⟨rfl, m9, hs9⟩
    have hnv : natV i = .int .i64 (i : Int) := rfl
    have htv9 : m9.tv = .slice ad x cap := (hs9.un.later.tv rfl).1.trans HM.out.2
    have hT9 := HTD.out.step hs9.outs hs9.later
    have hB9 := HBD.out.step hs9.outs hs9.later
    obtain ⟨-, tv9, hp9, -⟩ := hs9.un.ps.tok
    have hbx9 := hs9.un.ps.file.box
    rw [htv9] at hbx9
    have hrow0 := hs9.un.ps.file.top
    have hlen : s3.f.top.length = x := by
     obtain ⟨a1, c1, e1⟩ := slice_of hrow0
     rw [htv9] at e1
     cases e1
     rfl
    rw [htv9, hlen] at hrow0
    have hrow := hrow0.alloc (.cells #[.int .i64 (i : Int)] 3)
    have hblk := World.alloc_heap_new w9 (.cells #[.int .i64 (i : Int)] 3)
    have hlo9 : lo ≤ w9.heap.size := hs9.un.ps.base.2
    have hout : ∀ q, q ∉ m9.foot F → some q ≠ (Value.slice ad x cap).ownBlock := fun q hq e => hq ((foot_permT m9 F).mem_iff.2 (List.mem_append.2 (.inl (mem_ownB.2 (by rw [htv9]; exact e.symm)))))
    have hFo : some F ≠ (Value.slice ad x cap).ownBlock := fun e => (List.nodup_append.1 ((foot_permT m9 F).nodup_iff.1 hs9.un.ps.file.nodup)).2.2 F (mem_ownB.2 (by rw [htv9]; exact e.symm)) F (by unfold FileM.restT; simp) rfl
    have hFm9 : F ∈ m9.foot F := (foot_permT m9 F).mem_iff.2 (List.mem_append.2 (.inr (by unfold FileM.restT; simp)))
    have hneP : P ≠ F := fun e => hs9.un.ps.far (e.symm ▸ hFm9)
    have hneB : Bp ≠ F := fun e => hB9.out (e.symm ▸ hFm9)
    have HNO := Lib.hid (And.intro hFo (And.intro (hout P hs9.un.ps.far) (And.intro (hout Bp hB9.out) (hout w.heap.size hT9.out))))
    have HNF := Lib.hid (And.intro hneP hneB)
    have HT9 := Lib.hid hT9.blk
    have HB9 := Lib.hid hB9.blk
    have HP9 := Lib.hid hp9
    have HX9 := Lib.hid hbx9
    have HS9 := Lib.hid (And.intro hs9 (And.intro hlen htv9))
    clear hs9 htv9 hT9 hB9 hp9 hbx9 hrow0 hlen hout hFo hFm9 hneP hneB
    rw [hnv]
    refine hK.out _ _ ⟨HB9.out.cell 0, HP9.out.cell 3, HT9.out.cell 0, HT9.out.cell 1, HT9.out.cell 2⟩ (fun hHeld => ?_)
    clear hK K
    try simp only [Act.put, List.setIfInBounds_toArray, List.set_cons_zero, List.set_cons_succ]
    refine wpAnyH_ready (rs := [14]) (by kernel_rfl) (by simp) ?_
    refine AllReadyH.cons (o := _) rfl (fun K hK => ?_) AllReadyH.nil
    go_simp
    refine hK.out _ _ ⟨(HB9.out.alloc _).cell 0, (HP9.out.alloc _).cell 3, (HT9.out.alloc _).cell 0, (HT9.out.alloc _).cell 1, (HT9.out.alloc _).cell 2⟩ (fun hHeld => ?_)
    clear hK K
    try simp only [Act.put, List.setIfInBounds_toArray, List.set_cons_zero, List.set_cons_succ]
    refine wpAnyH_ready (rs := [15]) (by kernel_rfl) (by simp) ?_
    refine AllReadyH.cons (o := _) rfl (fun K hK => ?_) AllReadyH.nil
    refine step_append_lies _ rfl (.tmp 13) (.tmp 17) 26 rfl lo 3 iI (.int .i64 0) 1 8 Tryz.underlying26 hiI hzI hsI hbI rfl (by decide) _ _ _ rfl hrow ⟨w9.heap.size, 0, none⟩ 1 1 [.int .i64 (i : Int)] rfl rfl (World.news_of_block hblk) (by intro u hu; simp at hu; subst hu; rfl) (by decide) (by unfold maxLen; omega) (by omega) (by simp; omega) _ rfl ?_
    intro g2 cap2 w5 hown hgrow hat hlt
    have hX5 := Lib.hid ((HX9.out.alloc (.cells #[.int .i64 (i : Int)] 3)).grw hgrow HNO.out.1)
    have hP5 := Lib.hid ((HP9.out.alloc (.cells #[.int .i64 (i : Int)] 3)).grw hgrow HNO.out.2.1)
    have hB5 := Lib.hid ((HB9.out.alloc (.cells #[.int .i64 (i : Int)] 3)).grw hgrow HNO.out.2.2.1)
    have hT5 := Lib.hid ((HT9.out.alloc (.cells #[.int .i64 (i : Int)] 3)).grw hgrow HNO.out.2.2.2)
    have c52 := hX5.out.cell 2
    have f52 := hX5.out.frozen 2
    refine hK.out _ _ ⟨hB5.out.cell 0, hP5.out.cell 3, hT5.out.cell 0, hT5.out.cell 1, hT5.out.cell 2⟩ (fun hHeld => ?_)
    clear hK K
    try simp only [Act.put, List.setIfInBounds_toArray, List.set_cons_zero, List.set_cons_succ]
    refine wpAnyH_take (i := 16) (oi := _) (v := ?ra_v16) rfl (by kernel_rfl) (by kernel_rfl) (by kernel_rfl) (fun _ _ _ h => h) (Or.inl ⟨by rfl, ?ra_y16⟩) (by assumption) ?ra_r16
    case ra_y16 => (intro w hSw; (try dsimp only at hSw); go_simp; (try with_reducible rfl))
    try simp only [Act.put, List.setIfInBounds_toArray, List.set_cons_zero, List.set_cons_succ]
    refine wpAnyH_take (i := 17) (oi := _) (v := ?ra_v17) rfl (by kernel_rfl) (by kernel_rfl) (by kernel_rfl) (fun _ _ _ h => h) (Or.inl ⟨by rfl, ?ra_y17⟩) (by assumption) ?ra_r17
    case ra_y17 => (intro w hSw; (try dsimp only at hSw); go_simp; (try with_reducible rfl))
    try simp only [Act.put, List.setIfInBounds_toArray, List.set_cons_zero, List.set_cons_succ]
    refine wpAnyH_ready (rs := [18]) (by kernel_rfl) (by simp) ?_
    refine AllReadyH.cons (o := _) rfl (fun K hK => ?_) AllReadyH.nil
    go_simp
    refine hK.out _ _ ⟨(hB5.out.other (p := ⟨F, 2, none⟩) HNF.out.2 _).cell 0, (hP5.out.other (p := ⟨F, 2, none⟩) HNF.out.1 _).cell 3, (hT5.out.other (p := ⟨F, 2, none⟩) HSZ.out.2 _).cell 0, (hT5.out.other (p := ⟨F, 2, none⟩) HSZ.out.2 _).cell 1, (hT5.out.other (p := ⟨F, 2, none⟩) HSZ.out.2 _).cell 2⟩ (fun hHeld => ?_)
    clear hK K
    try simp only [Act.put, List.setIfInBounds_toArray, List.set_cons_zero, List.set_cons_succ]
    refine wpAnyH_done (by kernel_rfl) ?_ _
    exact AFTER w9 w5 g2 cap2 ⟨m9, HS9.out.1, HS9.out.2.1, HS9.out.2.2, hown, hgrow, hat⟩
   ·refine AllReadyH.cons (o := _) rfl (fun K hK => ?_) AllReadyH.nil
    go_simp
    go_at_call 34; refine HRD.out.mono ?_
    rintro e w9 ⟨rfl, m9, hs9⟩
    have hnv : natV i = .int .i64 (i : Int) := rfl
    have htv9 : m9.tv = .slice ad x cap := (hs9.un.later.tv rfl).1.trans HM.out.2
    have hT9 := HTD.out.step hs9.outs hs9.later
    have hB9 := HBD.out.step hs9.outs hs9.later
    obtain ⟨-, tv9, hp9, -⟩ := hs9.un.ps.tok
    have hbx9 := hs9.un.ps.file.box
    rw [htv9] at hbx9
    have hrow0 := hs9.un.ps.file.top
    have hlen : s3.f.top.length = x := by
     obtain ⟨a1, c1, e1⟩ := slice_of hrow0
     rw [htv9] at e1
     cases e1
     rfl
    rw [htv9, hlen] at hrow0
    have hrow := hrow0.alloc (.cells #[.int .i64 (i : Int)] 3)
    have hblk := World.alloc_heap_new w9 (.cells #[.int .i64 (i : Int)] 3)
    have hlo9 : lo ≤ w9.heap.size := hs9.un.ps.base.2
    have hout : ∀ q, q ∉ m9.foot F → some q ≠ (Value.slice ad x cap).ownBlock := fun q hq e => hq ((foot_permT m9 F).mem_iff.2 (List.mem_append.2 (.inl (mem_ownB.2 (by rw [htv9]; exact e.symm)))))
    have hFo : some F ≠ (Value.slice ad x cap).ownBlock := fun e => (List.nodup_append.1 ((foot_permT m9 F).nodup_iff.1 hs9.un.ps.file.nodup)).2.2 F (mem_ownB.2 (by rw [htv9]; exact e.symm)) F (by unfold FileM.restT; simp) rfl
    have hFm9 : F ∈ m9.foot F := (foot_permT m9 F).mem_iff.2 (List.mem_append.2 (.inr (by unfold FileM.restT; simp)))
    have hneP : P ≠ F := fun e => hs9.un.ps.far (e.symm ▸ hFm9)
    have hneB : Bp ≠ F := fun e => hB9.out (e.symm ▸ hFm9)
    have HNO := Lib.hid (And.intro hFo (And.intro (hout P hs9.un.ps.far) (And.intro (hout Bp hB9.out) (hout w.heap.size hT9.out))))
    have HNF := Lib.hid (And.intro hneP hneB)
    have HT9 := Lib.hid hT9.blk
    have HB9 := Lib.hid hB9.blk
    have HP9 := Lib.hid hp9
    have HX9 := Lib.hid hbx9
    have HS9 := Lib.hid (And.intro hs9 (And.intro hlen htv9))
    clear hs9 htv9 hT9 hB9 hp9 hbx9 hrow0 hlen hout hFo hFm9 hneP hneB
    rw [hnv]
    refine hK.out _ _ ⟨HB9.out.cell 0, HP9.out.cell 3, HT9.out.cell 0, HT9.out.cell 1, HT9.out.cell 2⟩ (fun hHeld => ?_)
    clear hK K
    try simp only [Act.put, List.setIfInBounds_toArray, List.set_cons_zero, List.set_cons_succ]
    refine wpAnyH_ready (rs := [10, 14]) (by kernel_rfl) (by simp) ?_
    refine AllReadyH.cons (o := _) rfl (fun K hK => ?_) ?_
    ·have f29 := HX9.out.cell 2
     go_simp
     refine hK.out _ _ ⟨HB9.out.cell 0, HP9.out.cell 3, HT9.out.cell 0, HT9.out.cell 1, HT9.out.cell 2⟩ (fun hHeld => ?_)
     clear hK K
     try simp only [Act.put, List.setIfInBounds_toArray, List.set_cons_zero, List.set_cons_succ]
     refine wpAnyH_ready (rs := [14]) (by kernel_rfl) (by simp) ?_
     refine AllReadyH.cons (o := _) rfl (fun K hK => ?_) AllReadyH.nil
     go_simp
     refine hK.out _ _ ⟨(HB9.out.alloc _).cell 0, (HP9.out.alloc _).cell 3, (HT9.out.alloc _).cell 0, (HT9.out.alloc _).cell 1, (HT9.out.alloc _).cell 2⟩ (fun hHeld => ?_)
     clear hK K
     try simp only [Act.put, List.setIfInBounds_toArray, List.set_cons_zero, List.set_cons_succ]
     refine wpAnyH_ready (rs := [15]) (by kernel_rfl) (by simp) ?_
     refine AllReadyH.cons (o := _) rfl (fun K hK => ?_) AllReadyH.nil
     refine step_append_lies _ rfl (.tmp 13) (.tmp 17) 26 rfl lo 3 iI (.int .i64 0) 1 8 Tryz.underlying26 hiI hzI hsI hbI rfl (by decide) _ _ _ rfl hrow ⟨w9.heap.size, 0, none⟩ 1 1 [.int .i64 (i : Int)] rfl rfl (World.news_of_block hblk) (by intro u hu; simp at hu; subst hu; rfl) (by decide) (by unfold maxLen; omega) (by omega) (by simp; omega) _ rfl ?_
     intro g2 cap2 w5 hown hgrow hat hlt
     have hX5 := Lib.hid ((HX9.out.alloc (.cells #[.int .i64 (i : Int)] 3)).grw hgrow HNO.out.1)
     have hP5 := Lib.hid ((HP9.out.alloc (.cells #[.int .i64 (i : Int)] 3)).grw hgrow HNO.out.2.1)
     have hB5 := Lib.hid ((HB9.out.alloc (.cells #[.int .i64 (i : Int)] 3)).grw hgrow HNO.out.2.2.1)
     have hT5 := Lib.hid ((HT9.out.alloc (.cells #[.int .i64 (i : Int)] 3)).grw hgrow HNO.out.2.2.2)
     have c52 := hX5.out.cell 2
     have f52 := hX5.out.frozen 2
     refine hK.out _ _ ⟨hB5.out.cell 0, hP5.out.cell 3, hT5.out.cell 0, hT5.out.cell 1, hT5.out.cell 2⟩ (fun hHeld => ?_)
     clear hK K
     try simp only [Act.put, List.setIfInBounds_toArray, List.set_cons_zero, List.set_cons_succ]
     refine wpAnyH_take (i := 16) (oi := _) (v := ?rb_v16) rfl (by kernel_rfl) (by kernel_rfl) (by kernel_rfl) (fun _ _ _ h => h) (Or.inl ⟨by rfl, ?rb_y16⟩) (by assumption) ?rb_r16
     case rb_y16 => (intro w hSw; (try dsimp only at hSw); go_simp; (try with_reducible rfl))
     try simp only [Act.put, List.setIfInBounds_toArray, List.set_cons_zero, List.set_cons_succ]
     refine wpAnyH_take (i := 17) (oi := _) (v := ?rb_v17) rfl (by kernel_rfl) (by kernel_rfl) (by kernel_rfl) (fun _ _ _ h => h) (Or.inl ⟨by rfl, ?rb_y17⟩) (by assumption) ?rb_r17
     case rb_y17 => (intro w hSw; (try dsimp only at hSw); go_simp; (try with_reducible rfl))
     try simp only [Act.put, List.setIfInBounds_toArray, List.set_cons_zero, List.set_cons_succ]
     refine wpAnyH_ready (rs := [18]) (by kernel_rfl) (by simp) ?_
     refine AllReadyH.cons (o := _) rfl (fun K hK => ?_) AllReadyH.nil
     go_simp
     refine hK.out _ _ ⟨(hB5.out.other (p := ⟨F, 2, none⟩) HNF.out.2 _).cell 0, (hP5.out.other (p := ⟨F, 2, none⟩) HNF.out.1 _).cell 3, (hT5.out.other (p := ⟨F, 2, none⟩) HSZ.out.2 _).cell 0, (hT5.out.other (p := ⟨F, 2, none⟩) HSZ.out.2 _).cell 1, (hT5.out.other (p := ⟨F, 2, none⟩) HSZ.out.2 _).cell 2⟩ (fun hHeld => ?_)
     clear hK K
     try simp only [Act.put, List.setIfInBounds_toArray, List.set_cons_zero, List.set_cons_succ]
     refine wpAnyH_done (by kernel_rfl) ?_ _
     exact AFTER w9 w5 g2 cap2 ⟨m9, HS9.out.1, HS9.out.2.1, HS9.out.2.2, hown, hgrow, hat⟩
    ·refine AllReadyH.cons (o := _) rfl (fun K hK => ?_) AllReadyH.nil
     go_simp
     refine hK.out _ _ ⟨(HB9.out.alloc _).cell 0, (HP9.out.alloc _).cell 3, (HT9.out.alloc _).cell 0, (HT9.out.alloc _).cell 1, (HT9.out.alloc _).cell 2⟩ (fun hHeld => ?_)
     clear hK K
     try simp only [Act.put, List.setIfInBounds_toArray, List.set_cons_zero, List.set_cons_succ]
     refine wpAnyH_ready (rs := [10]) (by kernel_rfl) (by simp) ?_
     refine AllReadyH.cons (o := _) rfl (fun K hK => ?_) AllReadyH.nil
     have f29 := (HX9.out.alloc (.cells #[.int .i64 (i : Int)] 3)).cell 2
     go_simp
     refine hK.out _ _ ⟨(HB9.out.alloc _).cell 0, (HP9.out.alloc _).cell 3, (HT9.out.alloc _).cell 0, (HT9.out.alloc _).cell 1, (HT9.out.alloc _).cell 2⟩ (fun hHeld => ?_)
     clear hK K
     try simp only [Act.put, List.setIfInBounds_toArray, List.set_cons_zero, List.set_cons_succ]
     refine wpAnyH_ready (rs := [15]) (by kernel_rfl) (by simp) ?_
     refine AllReadyH.cons (o := _) rfl (fun K hK => ?_) AllReadyH.nil
     refine step_append_lies _ rfl (.tmp 13) (.tmp 17) 26 rfl lo 3 iI (.int .i64 0) 1 8 Tryz.underlying26 hiI hzI hsI hbI rfl (by decide) _ _ _ rfl hrow ⟨w9.heap.size, 0, none⟩ 1 1 [.int .i64 (i : Int)] rfl rfl (World.news_of_block hblk) (by intro u hu; simp at hu; subst hu; rfl) (by decide) (by unfold maxLen; omega) (by omega) (by simp; omega) _ rfl ?_
     intro g2 cap2 w5 hown hgrow hat hlt
     have hX5 := Lib.hid ((HX9.out.alloc (.cells #[.int .i64 (i : Int)] 3)).grw hgrow HNO.out.1)
     have hP5 := Lib.hid ((HP9.out.alloc (.cells #[.int .i64 (i : Int)] 3)).grw hgrow HNO.out.2.1)
     have hB5 := Lib.hid ((HB9.out.alloc (.cells #[.int .i64 (i : Int)] 3)).grw hgrow HNO.out.2.2.1)
     have hT5 := Lib.hid ((HT9.out.alloc (.cells #[.int .i64 (i : Int)] 3)).grw hgrow HNO.out.2.2.2)
     have c52 := hX5.out.cell 2
     have f52 := hX5.out.frozen 2
     refine hK.out _ _ ⟨hB5.out.cell 0, hP5.out.cell 3, hT5.out.cell 0, hT5.out.cell 1, hT5.out.cell 2⟩ (fun hHeld => ?_)
     clear hK K
     try simp only [Act.put, List.setIfInBounds_toArray, List.set_cons_zero, List.set_cons_succ]
     refine wpAnyH_take (i := 16) (oi := _) (v := ?rc_v16) rfl (by kernel_rfl) (by kernel_rfl) (by kernel_rfl) (fun _ _ _ h => h) (Or.inl ⟨by rfl, ?rc_y16⟩) (by assumption) ?rc_r16
     case rc_y16 => (intro w hSw; (try dsimp only at hSw); go_simp; (try with_reducible rfl))
     try simp only [Act.put, List.setIfInBounds_toArray, List.set_cons_zero, List.set_cons_succ]
     refine wpAnyH_take (i := 17) (oi := _) (v := ?rc_v17) rfl (by kernel_rfl) (by kernel_rfl) (by kernel_rfl) (fun _ _ _ h => h) (Or.inl ⟨by rfl, ?rc_y17⟩) (by assumption) ?rc_r17
     case rc_y17 => (intro w hSw; (try dsimp only at hSw); go_simp; (try with_reducible rfl))
     try simp only [Act.put, List.setIfInBounds_toArray, List.set_cons_zero, List.set_cons_succ]
     refine wpAnyH_ready (rs := [18]) (by kernel_rfl) (by simp) ?_
     refine AllReadyH.cons (o := _) rfl (fun K hK => ?_) AllReadyH.nil
     go_simp
     refine hK.out _ _ ⟨(hB5.out.other (p := ⟨F, 2, none⟩) HNF.out.2 _).cell 0, (hP5.out.other (p := ⟨F, 2, none⟩) HNF.out.1 _).cell 3, (hT5.out.other (p := ⟨F, 2, none⟩) HSZ.out.2 _).cell 0, (hT5.out.other (p := ⟨F, 2, none⟩) HSZ.out.2 _).cell 1, (hT5.out.other (p := ⟨F, 2, none⟩) HSZ.out.2 _).cell 2⟩ (fun hHeld => ?_)
     clear hK K
     try simp only [Act.put, List.setIfInBounds_toArray, List.set_cons_zero, List.set_cons_succ]
     refine wpAnyH_done (by kernel_rfl) ?_ _
     exact AFTER w9 w5 g2 cap2 ⟨m9, HS9.out.1, HS9.out.2.1, HS9.out.2.2, hown, hgrow, hat⟩
  case later =>
   rintro w9 w5 g2 cap2 ⟨m9, hs9, hlen, htv9, hown, hgrow, hat⟩
   rw [← htv9] at hgrow hat
   have hadd := hs9.un.ps.addT hlen hown hgrow hat
   obtain ⟨wF, hwF⟩ : ∃ wF, w5.setCell ⟨F, 2, none⟩ (.slice (some ⟨g2, 0, none⟩) (x + 1) cap2) = wF := ⟨_, rfl⟩
   rw [hwF] at hadd ⊢
   obtain ⟨hpF, hoF, hlF, hsF⟩ := hadd
   have hBF := (HBD.out.step hs9.outs hs9.later)
   have HBF := Lib.hid (show Blk wF Bp #[.pointer (some ⟨P, 0, none⟩)] 88 from (hsF Bp hBF.blk.lt hBF.out).trans hBF.blk)
   have HEND := Lib.hid (And.intro hpF (And.intro hoF (And.intro hlF (And.intro hs9 hBF))))
   clear hpF hoF hlF hsF hs9 hBF hown hgrow hat hwF
   go_wp2_with fail
   first | go_ret | go_end0
   obtain ⟨hpF, hoF, hlF, hs9, hBF⟩ := HEND.out
   rw [← HRo.out]
   have hp2 := hpF.mark false
   refine ⟨rfl, _, hp2, OutsX.mark (b := true) (hs9.un.outs.trans hs9.un.later (hoF.x [])), ⟨fun g hg => ?_, fun hl => absurd hl (by rw [HM.out.1]; decide)⟩, rfl, ⟨_, _, rfl⟩, HBF.out, hBF.neP, hBF.neT, fun hm => ?_⟩
   ·rcases hlF g hg with h1 | h1
    ·exact hs9.un.later g h1
    ·exact .inr (Nat.le_trans hs9.un.outs.size h1)
   ·rcases hlF Bp hm with h1 | h1
    ·exact hBF.out h1
    ·have := hBF.blk.lt; omega
end Go.Proofs.YtljgggohjigaoaaGreatDoor
