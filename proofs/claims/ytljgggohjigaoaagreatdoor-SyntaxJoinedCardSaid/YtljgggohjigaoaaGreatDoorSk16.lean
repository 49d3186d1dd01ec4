/- A walk's state between two calls; what it holds of its own · An expression under way that grows; what is read one level deeper -/
import Derived.Test.YtljgggohjigaoaaGreatDoorSk15
namespace Go.Proofs.YtljgggohjigaoaaGreatDoor
open Go.RowKit Go.Shelf
set_option linter.unusedVariables false

theorem bind_err {α β : Type} {m : PM α} {k : α → PM β} {s : Ps} {bd : Bd} {R : PR β} (hm : m s = .error bd) (h : bindP m k s = R) : R = .error bd := by
 rw [← h]; unfold bindP; rw [hm]
theorem bind_ok {α β : Type} {m : PM α} {k : α → PM β} {s s' : Ps} {a : α} {R : PR β} (hm : m s = .ok (a, s')) (h : bindP m k s = R) : k a s' = R := by
 rw [← h]; unfold bindP; rw [hm]
theorem Fit.dec {α : Type} {d : Nat} {c : Int} {s s' : Ps} {a : α} {M : PM α} (h : Fit d s) (hD : Dec d c M) (hc : 0 ≤ c) (hm : M s = .ok (a, s')) : Fit d s' := h.of (hD s h.snd a s' hm).1 (hD s h.snd a s' hm).2 hc
theorem Fit.peek {d : Nat} {s : Ps} (h : Fit d s) : Fit d (peekS s) := h.of (c := 0) (peek_sfx s) (by have := pot_peek s; omega) (by omega)
theorem Fit.take {d : Nat} {s : Ps} (h : Fit d s) : Fit d (takeS s) := h.of (c := 0) (take_sfx s) (by have := pot_take s; omega) (by omega)
theorem Fit.kind {d : Nat} {s : Ps} (h : Fit d s) {b : ByteArray} (hb : b ≠ ⟨#[]⟩) (hi : isW b (next s) = true) : (next s).k ≠ 0 := fun e => by
 have h1 := isW_wt hb h.snd hi
 unfold wt at h1
 rw [if_pos e] at h1
 omega
/-- An error that was thrown; all but the parser, its file and some blocks is as it was. -/
def Bad (W : World) (P F : Nat) (m : FileM) (X : List Nat) (bd : Bd) (e : Ending) (w' : World) : Prop := ∃ D, e = .panicked [{ v := .iface 29 (.pointer (some ⟨D, 0, none⟩)), recovered := false }] ∧ W.heap.size ≤ D ∧ Blk w' D #[.int .i64 bd.1, .string ⟨#[]⟩, .int .i64 (bd.2 : Int)] 34 ∧ OutsX W w' P F m X
/-- Where a walk stands: W is its first world, w this one. -/
structure Un (W w : World) (P F T lo dp d : Nat) (m : FileM) (X : List Nat) (s : Ps) (m1 : FileM) : Prop where
 ps : PsAt w P F T lo dp s m1
 outs : OutsX W w P F m X
 later : Later W F m m1
 env : Env w P F
 fit : Fit d s
structure Stepped (W w w' : World) (P F T lo dp d : Nat) (m : FileM) (X : List Nat) (m1 : FileM) (s2 : Ps) (m2 : FileM) : Prop where
 un : Un W w' P F T lo dp d m X s2 m2
 outs : Outs w w' P F m1
 later : Later w F m1 m2
/-- How a step ends. -/
def Stp {α : Type} (W w : World) (P F T lo dp d : Nat) (m : FileM) (X : List Nat) (m1 : FileM) (val : α → Value) (r : PR α) (e : Ending) (w' : World) : Prop := match r with
 | .ok (a, s2) => e = .returned (val a) ∧ ∃ m2, Stepped W w w' P F T lo dp d m X m1 s2 m2
 | .error bd => Bad W P F m X bd e w'
theorem OutsX.refl (W : World) (P F : Nat) (m : FileM) (X : List Nat) : OutsX W W P F m X := ⟨rfl, rfl, rfl, Nat.le_refl _, fun _ _ _ _ _ => rfl⟩
theorem OutsX.join {a b c : World} {P F : Nat} {m m' : FileM} {X X' : List Nat} (h : OutsX a b P F m X) (hl : Later a F m m') (k : OutsX b c P F m' X') (hX : ∀ i ∈ X', i ∈ X ∨ a.heap.size ≤ i) : OutsX a c P F m X :=
 ⟨k.os.trans h.os, k.tape.trans h.tape, k.output.trans h.output, Nat.le_trans h.size k.size, fun i hi h1 h2 h3 => (k.block i (Nat.lt_of_lt_of_le hi h.size) h1 (fun e => by
  rcases hl i e with h4 | h4
  ·exact h2 h4
  ·omega) (fun e => by
  rcases hX i e with h4 | h4
  ·exact h3 h4
  ·omega)).trans (h.block i hi h1 h2 h3)⟩
theorem Outs.x {W W' : World} {P F : Nat} {m : FileM} (h : Outs W W' P F m) (X : List Nat) : OutsX W W' P F m X := ⟨h.os, h.tape, h.output, h.size, fun k hk h1 h2 _ => h.block k hk h1 h2⟩
theorem OutsX.o {W W' : World} {P F : Nat} {m : FileM} (h : OutsX W W' P F m []) : Outs W W' P F m := ⟨h.os, h.tape, h.output, h.size, fun k hk h1 h2 => h.block k hk h1 h2 (by simp)⟩
/-- A change of some blocks of its own. -/
structure Lc (w w' : World) (Y : List Nat) : Prop where
 os : w'.os = w.os
 tape : w'.tape = w.tape
 output : w'.output = w.output
 size : w.heap.size ≤ w'.heap.size
 block : ∀ k, k < w.heap.size → k ∉ Y → w'.heap[k]? = w.heap[k]?
theorem Lc.of {w w' : World} (h : Below w.heap.size w w') (Y : List Nat) : Lc w w' Y := ⟨h.os, h.tape, h.output, h.size, fun k hk _ => h.block k hk⟩
theorem Lc.alloc (w : World) (o : Obj) (Y : List Nat) : Lc w (w.alloc o) Y := Lc.of (below_new w o) Y
theorem Lc.set (w : World) (B i : Nat) (u : Value) {Y : List Nat} (hB : B ∈ Y) : Lc w (w.setCell ⟨B, i, none⟩ u) Y := ⟨rfl, rfl, rfl, by simp, fun k hk h => Below.heap_setCell _ _ _ _ (by show k ≠ B; rintro rfl; exact h hB)⟩
theorem Lc.trans {a b c : World} {Y : List Nat} (h : Lc a b Y) (k : Lc b c Y) : Lc a c Y :=
 ⟨k.os.trans h.os, k.tape.trans h.tape, k.output.trans h.output, Nat.le_trans h.size k.size, fun i hi h1 => (k.block i (Nat.lt_of_lt_of_le hi h.size) h1).trans (h.block i hi h1)⟩
theorem Lc.mono {a b : World} {Y Z : List Nat} (h : Lc a b Y) (hY : ∀ k ∈ Y, k ∈ Z) : Lc a b Z := ⟨h.os, h.tape, h.output, h.size, fun k hk hn => h.block k hk (fun hm => hn (hY k hm))⟩
theorem Lc.drew {a b : World} {Y : List Nat} (h : Lc a b Y) : Lc a b.drew Y := ⟨h.os, h.tape, h.output, h.size, h.block⟩
/-- What a step may write of the walk's own. -/
def Free (W : World) (P F T : Nat) (X : List Nat) (m1 : FileM) (k : Nat) : Prop := k ≠ P ∧ k ≠ T ∧ k ∉ m1.foot F ∧ 4 ≤ k ∧ (k ∈ X ∨ W.heap.size ≤ k)
/-- A block of its own. -/
structure Loc (w : World) (P F T : Nat) (m1 : FileM) (B : Nat) (cs : Array Value) (ty : TypeId) : Prop where
 blk : Blk w B cs ty
 neP : B ≠ P
 neT : B ≠ T
 out : B ∉ m1.foot F
/-- A row of its own. -/
structure OwnL (w : World) (P F T lo N : Nat) (m1 : FileM) (e : TypeId) (size : Nat) (v : Value) (n : Nat) (xs : List Value) : Prop where
 row : w.ownsRow lo e size v n xs
 out : ∀ g, v.ownBlock = some g → g ∉ m1.foot F ∧ g ≠ P ∧ g ≠ T ∧ N ≤ g
/-- An expression of its own. -/
structure UnE (w : World) (P F T lo N : Nat) (m1 : FileM) (E : Nat) (x : ExM) : Prop where
 loc : Loc w P F T m1 E #[.int .i64 x.e.k, .string x.e.x, x.av, x.kv, .int .i64 (x.e.at_ : Int)] 38
 ok : x.Ok lo w
 foot : ∀ g ∈ x.foot, g ∉ m1.foot F ∧ g ≠ P ∧ g ≠ T ∧ g ≠ E ∧ N ≤ g
 nodup : x.foot.Nodup
section
variable {W w w' : World} {P F T lo dp d N : Nat} {m m1 m2 : FileM} {X Y : List Nat} {s s2 : Ps}
theorem Loc.step {B : Nat} {cs : Array Value} {ty : TypeId} (h : Loc w P F T m1 B cs ty) (ho : Outs w w' P F m1) (hl : Later w F m1 m2) : Loc w' P F T m2 B cs ty :=
 ⟨(ho.block B h.blk.lt h.neP h.out).trans h.blk, h.neP, h.neT, fun hm => (hl B hm).elim h.out (fun hge => by have := h.blk.lt; omega)⟩
theorem Loc.lc {B : Nat} {cs : Array Value} {ty : TypeId} (h : Loc w P F T m1 B cs ty) (hc : Lc w w' Y) (hB : B ∉ Y) : Loc w' P F T m1 B cs ty := ⟨(hc.block B h.blk.lt hB).trans h.blk, h.neP, h.neT, h.out⟩
theorem Loc.kstep {B : Nat} {cs : Array Value} {ty : TypeId} (h : Loc w P F T m1 B cs ty) (ho : OutsX w w' P F m1 Y) (hl : Later w F m1 m2) (hB : B ∉ Y) : Loc w' P F T m2 B cs ty :=
 ⟨(ho.block B h.blk.lt h.neP h.out hB).trans h.blk, h.neP, h.neT, fun hm => (hl B hm).elim h.out (fun hge => by have := h.blk.lt; omega)⟩
theorem Loc.new (h : PsAt w P F T lo dp s m1) (cs : Array Value) (ty : TypeId) : Loc (w.alloc (.cells cs ty)) P F T m1 w.heap.size cs ty :=
 ⟨Blk.new _ _ _, by have := h.tok.ranks; omega, by have := h.tok.ranks; omega, fun hm => by have := (h.file.lt _ hm).1; omega⟩
theorem Loc.put {B : Nat} {cs : Array Value} {ty : TypeId} (h : Loc w P F T m1 B cs ty) (i : Nat) (u : Value) : Loc (w.setCell ⟨B, i, none⟩ u) P F T m1 B (cs.setIfInBounds i u) ty := ⟨h.blk.set i u, h.neP, h.neT, h.out⟩
theorem OwnL.step {e : TypeId} {size n : Nat} {v : Value} {xs : List Value} (h : OwnL w P F T lo N m1 e size v n xs) (ho : Outs w w' P F m1) (hl : Later w F m1 m2) : OwnL w' P F T lo N m2 e size v n xs :=
 ⟨row_same h.row (fun g hg => ho.block g (row_lt h.row hg).2 (h.out g hg).2.1 (h.out g hg).1), fun g hg => ⟨fun hm => (hl g hm).elim (h.out g hg).1 (fun hge => by have := (row_lt h.row hg).2; omega), (h.out g hg).2⟩⟩
theorem OwnL.lc {e : TypeId} {size n : Nat} {v : Value} {xs : List Value} (h : OwnL w P F T lo N m1 e size v n xs) (hc : Lc w w' Y) (hY : ∀ g, v.ownBlock = some g → g ∉ Y) : OwnL w' P F T lo N m1 e size v n xs :=
 ⟨row_same h.row (fun g hg => hc.block g (row_lt h.row hg).2 (hY g hg)), h.out⟩
theorem OwnL.nil (w : World) (P F T lo N : Nat) (m1 : FileM) (e : TypeId) (size : Nat) : OwnL w P F T lo N m1 e size (.slice none 0 0) 0 [] := ⟨World.ownsRow_nil _ _ _ _, fun g hg => by cases hg⟩
theorem UnE.step {E : Nat} {x : ExM} (h : UnE w P F T lo N m1 E x) (ho : Outs w w' P F m1) (hl : Later w F m1 m2) : UnE w' P F T lo N m2 E x :=
 ⟨h.loc.step ho hl, h.ok.keep (fun g hg => ho.block g (h.ok.lt g hg).2 (h.foot g hg).2.1 (h.foot g hg).1), fun g hg => ⟨fun hm => (hl g hm).elim (h.foot g hg).1 (fun hge => by have := (h.ok.lt g hg).2; omega), (h.foot g hg).2⟩, h.nodup⟩
theorem UnE.lc {E : Nat} {x : ExM} (h : UnE w P F T lo N m1 E x) (hc : Lc w w' Y) (hE : E ∉ Y) (hY : ∀ g ∈ x.foot, g ∉ Y) : UnE w' P F T lo N m1 E x :=
 ⟨h.loc.lc hc hE, h.ok.keep (fun g hg => hc.block g (h.ok.lt g hg).2 (hY g hg)), h.foot, h.nodup⟩
theorem UnE.aside {E : Nat} {x : ExM} (h : UnE w P F T lo N m1 E x) (ha : Aside P w w') : UnE w' P F T lo N m1 E x := h.step (Outs.aside ha) (Later.refl _ _ _)
/-- A new expression without parts. -/
theorem UnE.new (h : PsAt w P F T lo dp s m1) (k : Int) (x : ByteArray) (a : Nat) : UnE (w.alloc (.cells #[.int .i64 k, .string x, .slice none 0 0, .slice none 0 0, .int .i64 (a : Int)] 38)) P F T lo N m1 w.heap.size ⟨⟨k, x, [], [], a⟩, .slice none 0 0, .slice none 0 0⟩ :=
 ⟨Loc.new h _ _, ⟨World.ownsRow_nil _ _ _ _, World.ownsRow_nil _ _ _ _⟩, fun g hg => (by cases hg), by simp [ExM.foot, ownB, Value.ownBlock]⟩
theorem UnE.keepOk {E : Nat} {x : ExM} (h : UnE w P F T lo N m1 E x) (i : Nat) (u : Value) : x.Ok lo (w.setCell ⟨E, i, none⟩ u) := h.ok.keep (fun g hg => Below.heap_setCell _ _ _ _ (by exact (h.foot g hg).2.2.2.1))
theorem UnE.setK {E : Nat} {x : ExM} (h : UnE w P F T lo N m1 E x) (k : Int) : UnE (w.setCell ⟨E, 0, none⟩ (.int .i64 k)) P F T lo N m1 E { x with e := { x.e with k := k } } :=
 ⟨by have := h.loc.put 0 (.int .i64 k); simpa using this, ⟨(h.keepOk 0 _).args, (h.keepOk 0 _).keys⟩, h.foot, h.nodup⟩
theorem UnE.setX {E : Nat} {x : ExM} (h : UnE w P F T lo N m1 E x) (t : ByteArray) : UnE (w.setCell ⟨E, 1, none⟩ (.string t)) P F T lo N m1 E { x with e := { x.e with x := t } } :=
 ⟨by have := h.loc.put 1 (.string t); simpa using this, ⟨(h.keepOk 1 _).args, (h.keepOk 1 _).keys⟩, h.foot, h.nodup⟩
theorem UnE.setAt {E : Nat} {x : ExM} (h : UnE w P F T lo N m1 E x) (a : Nat) : UnE (w.setCell ⟨E, 4, none⟩ (.int .i64 (a : Int))) P F T lo N m1 E { x with e := { x.e with at_ := a } } :=
 ⟨by have := h.loc.put 4 (.int .i64 (a : Int)); simpa using this, ⟨(h.keepOk 4 _).args, (h.keepOk 4 _).keys⟩, h.foot, h.nodup⟩
/-- Its arguments are another row. -/
theorem UnE.setArgs {E : Nat} {x : ExM} (h : UnE w P F T lo N m1 E x) (hk : x.kv = .slice none 0 0) {l : List Nat} {av : Value} (hr : OwnL w P F T lo N m1 3 1 av l.length (intsV l)) (hE : av.ownBlock ≠ some E) : UnE (w.setCell ⟨E, 2, none⟩ av) P F T lo N m1 E ⟨{ x.e with args := l }, av, x.kv⟩ := by
 refine ⟨by have := h.loc.put 2 av; simpa using this, ⟨row_same hr.row (fun g hg => Below.heap_setCell _ _ _ _ (by show g ≠ E; rintro rfl; exact hE hg)), (h.keepOk 2 _).keys⟩, fun g hg => ?_, ?_⟩
 ·rcases List.mem_append.1 hg with h1 | h1
  ·have h2 := mem_ownB.1 h1
   have h3 := hr.out g h2
   exact ⟨h3.1, h3.2.1, h3.2.2.1, fun e => hE (by rw [← e]; exact h2), h3.2.2.2⟩
  ·exact h.foot g (List.mem_append.2 (.inr h1))
 ·unfold ExM.foot
  rw [hk]
  simpa [ownB, Value.ownBlock] using ownB_nodup av
theorem Un.start (h : PsAt W P F T lo dp s m) (he : Env W P F) (hf : Fit d s) : Un W W P F T lo dp d m X s m := ⟨h, OutsX.refl _ _ _ _ _, Later.refl _ _ _, he, hf⟩
theorem Un.lc (h : Un W w P F T lo dp d m X s m1) (hc : Lc w w' Y) (hY : ∀ k ∈ Y, Free W P F T X m1 k) : Un W w' P F T lo dp d m X s m1 :=
 ⟨h.ps.same hc.size (fun k hk hm => hc.block k hk (fun hy => by
  rcases hm with rfl | rfl | hm
  ·exact (hY _ hy).1 rfl
  ·exact (hY _ hy).2.1 rfl
  ·exact (hY _ hy).2.2.1 hm)), ⟨hc.os.trans h.outs.os, hc.tape.trans h.outs.tape, hc.output.trans h.outs.output, Nat.le_trans h.outs.size hc.size, fun k hk h1 h2 h3 => (hc.block k (Nat.lt_of_lt_of_le hk h.outs.size) (fun hy => by
   rcases (hY _ hy).2.2.2.2 with h4 | h4
   ·exact h3 h4
   ·omega)).trans (h.outs.block k hk h1 h2 h3)⟩, h.later, h.env.keep hc.size (fun k hk => hc.block k (Nat.lt_of_lt_of_le hk h.env.ready.1) (fun hy => by have := (hY _ hy).2.2.2.1; omega)), h.fit⟩
theorem Un.alloc (h : Un W w P F T lo dp d m X s m1) (o : Obj) : Un W (w.alloc o) P F T lo dp d m X s m1 := h.lc (Lc.alloc w o []) (fun k hk => by cases hk)
theorem Un.below (h : Un W w P F T lo dp d m X s m1) (hb : Below w.heap.size w w') : Un W w' P F T lo dp d m X s m1 := h.lc (Lc.of hb []) (fun k hk => by cases hk)
theorem Un.set (h : Un W w P F T lo dp d m X s m1) {B : Nat} (hB : Free W P F T X m1 B) (i : Nat) (u : Value) : Un W (w.setCell ⟨B, i, none⟩ u) P F T lo dp d m X s m1 := h.lc (Lc.set w B i u (List.mem_singleton.2 rfl)) (fun k hk => by rw [List.mem_singleton.1 hk]; exact hB)
theorem Un.aside (h : Un W w P F T lo dp d m X s m1) (ha : Aside P w w') (hp : PsAt w' P F T lo dp s2 m1) (hf : Fit d s2) : Stepped W w w' P F T lo dp d m X m1 s2 m1 :=
 ⟨⟨hp, h.outs.trans h.later (OutsX.of ha X), h.later, h.env.aside ha, hf⟩, Outs.aside ha, Later.refl _ _ _⟩
theorem Un.threw {bd : Bd} {e : Ending} (h : Un W w P F T lo dp d m X s m1) (hk : ThrewP w P bd e w') : Bad W P F m X bd e w' := by
 obtain ⟨D, h1, h2, h3, h4⟩ := hk
 exact ⟨D, h1, Nat.le_trans h.outs.size h2, h3, h.outs.trans h.later (OutsX.of h4 X)⟩
theorem Un.want (h : Un W w P F T lo dp d m X s m1) {b : ByteArray} (hb : b ≠ ⟨#[]⟩) : Calls Tryz.prog 99 #[.pointer (some ⟨P, 0, none⟩), .string b] w (Stp W w P F T lo dp d m X m1 tkV (wantM b s)) := by
 refine (want_ps h.ps hb).mono ?_
 intro e w' hk
 unfold Stp
 cases hm : wantM b s with
 | error bd => rw [hm] at hk; exact h.threw hk
 | ok y =>
  obtain ⟨t, s2⟩ := y
  rw [hm] at hk
  obtain ⟨rfl, hp, ha⟩ := hk
  exact ⟨rfl, _, h.aside ha hp (h.fit.dec (Dec.want hb) (by decide) hm)⟩
theorem Un.kind (h : Un W w P F T lo dp d m X s m1) {k : Int} (hk : k ≠ 0) : Calls Tryz.prog 35 #[.pointer (some ⟨P, 0, none⟩), .int .i64 k] w (Stp W w P F T lo dp d m X m1 tkV (kindM k s)) := by
 refine (kind_ps h.ps hk).mono ?_
 intro e w' hk
 unfold Stp
 cases hm : kindM k s with
 | error bd => rw [hm] at hk; exact h.threw hk
 | ok y =>
  obtain ⟨t, s2⟩ := y
  rw [hm] at hk
  obtain ⟨rfl, hp, ha⟩ := hk
  exact ⟨rfl, _, h.aside ha hp (h.fit.dec Dec.kind0 (by decide) hm)⟩
theorem Un.skip (h : Un W w P F T lo dp d m X s m1) {b : ByteArray} (hb : b ≠ ⟨#[]⟩) : Calls Tryz.prog 74 #[.pointer (some ⟨P, 0, none⟩), .string b] w (Stp W w P F T lo dp d m X m1 Value.bool (skipM b s)) := by
 refine (skip_ps h.ps hb).mono ?_
 intro e w' hk
 unfold Stp
 cases hm : skipM b s with
 | error bd => rw [hm] at hk; exact hk.elim
 | ok y =>
  obtain ⟨t, s2⟩ := y
  rw [hm] at hk
  obtain ⟨rfl, hp, ha⟩ := hk
  exact ⟨rfl, _, h.aside ha hp (h.fit.dec Dec.skip (by decide) hm)⟩
theorem Un.lines (h : Un W w P F T lo dp d m X s m1) : Calls Tryz.prog 51 #[.pointer (some ⟨P, 0, none⟩)] w (Stp W w P F T lo dp d m X m1 Value.bool (linesM s)) := by
 refine (lines_ps h.ps).mono ?_
 intro e w' hk
 unfold Stp
 cases hm : linesM s with
 | error bd => rw [hm] at hk; exact hk.elim
 | ok y =>
  obtain ⟨t, s2⟩ := y
  rw [hm] at hk
  obtain ⟨rfl, hp, ha⟩ := hk
  exact ⟨rfl, _, h.aside ha hp (h.fit.dec Dec.lines (by decide) hm)⟩
theorem Un.is (h : Un W w P F T lo dp d m X s m1) (b : ByteArray) : Calls Tryz.prog 102 #[.pointer (some ⟨P, 0, none⟩), .string b] w (fun e w' => e = .returned (.bool (isW b (next s))) ∧ Stepped W w w' P F T lo dp d m X m1 (peekS s) m1) := by
 refine (is_ps h.ps b).mono ?_
 rintro e w' ⟨rfl, hp, ha⟩
 exact ⟨rfl, h.aside ha hp h.fit.peek⟩
theorem Un.peek (h : Un W w P F T lo dp d m X s m1) : Calls Tryz.prog 52 #[.pointer (some ⟨P, 0, none⟩)] w (fun e w' => e = .returned (tkV (next s)) ∧ Stepped W w w' P F T lo dp d m X m1 (peekS s) m1) := by
 refine (peek_ps h.ps).mono ?_
 rintro e w' ⟨rfl, hp, ha⟩
 exact ⟨rfl, h.aside ha hp h.fit.peek⟩
theorem Un.take (h : Un W w P F T lo dp d m X s m1) (hk : (next s).k ≠ 0) : Calls Tryz.prog 53 #[.pointer (some ⟨P, 0, none⟩)] w (fun e w' => e = .returned (tkV (next s)) ∧ Stepped W w w' P F T lo dp d m X m1 (takeS s) m1) := by
 refine (take_ps h.ps hk).mono ?_
 rintro e w' ⟨rfl, hp, ha⟩
 exact ⟨rfl, h.aside ha hp h.fit.take⟩
/-- A reader. -/
theorem Un.reads (h : Un W w P F T lo dp d m X s m1) {fn : Nat} {args : Array Value} {sp : PM Nat} (hR : Rds P F T lo dp d fn args sp) (hD : Dec d 0 sp) : Calls Tryz.prog fn args w (Stp W w P F T lo dp d m X m1 natV (sp s)) := by
 refine (hR w s m1 h.ps h.env h.fit).mono ?_
 intro e w' hk
 unfold Stp
 unfold PEnd at hk
 cases hm : sp s with
 | error bd =>
  rw [hm] at hk
  obtain ⟨D, h1, h2, h3, h4⟩ := hk
  exact ⟨D, h1, Nat.le_trans h.outs.size h2, h3, h.outs.trans h.later (h4.x X)⟩
 | ok y =>
  obtain ⟨a, s2⟩ := y
  rw [hm] at hk
  obtain ⟨rfl, m2, hp, ho, hl⟩ := hk
  exact ⟨rfl, m2, ⟨hp, h.outs.trans h.later (ho.x X), h.later.trans h.outs.size hl, h.env.outs h.ps ho, h.fit.dec hD (by decide) hm⟩, ho, hl⟩
/-- The last step is the walk's own ending. -/
theorem Stp.p {α : Type} {val : α → Value} {r : PR α} {e : Ending} (h : Stp W w P F T lo dp d m [] m1 val r e w') : PEnd W P F T lo dp m val r e w' := by
 unfold Stp at h
 unfold PEnd
 cases r with
 | error bd =>
  obtain ⟨D, h1, h2, h3, h4⟩ := h
  exact ⟨D, h1, h2, h3, h4.o⟩
 | ok y =>
  obtain ⟨a, s2⟩ := y
  obtain ⟨h1, m2, h2⟩ := h
  exact ⟨h1, m2, h2.un.ps, h2.un.outs.o, h2.un.later⟩
theorem Bad.p {α : Type} {val : α → Value} {bd : Bd} {e : Ending} (h : Bad W P F m [] bd e w') : PEnd W P F T lo dp m val (.error bd : PR α) e w' := by
 obtain ⟨D, h1, h2, h3, h4⟩ := h
 exact ⟨D, h1, h2, h3, h4.o⟩
theorem Bad.k {α : Type} {val : α → Value} {St : α → FileM → World → Prop} {bd : Bd} {e : Ending} (h : Bad W P F m X bd e w') : KEnd W P F T lo dp m X St (.error bd : PR α) val e w' := h
/-- An expression that has ended, as the last step. -/
theorem Un.add (h : Un W w P F T lo dp d m [] s m1) {x : ExM} (hx : x.Ok lo w) (hxf : ∀ g ∈ x.foot, g ∉ m1.foot F ∧ g ≠ P ∧ g ≠ T ∧ W.heap.size ≤ g) (hxn : x.foot.Nodup) :
  Calls Tryz.prog 105 #[.pointer (some ⟨P, 0, none⟩), .agg #[.int .i64 x.e.k, .string x.e.x, x.av, x.kv, .int .i64 (x.e.at_ : Int)]] w (PEnd W P F T lo dp m natV (addM x.e s)) := by
 refine (add_any h.ps hx (fun g hg => ⟨(hxf g hg).1, (hxf g hg).2.1, (hxf g hg).2.2.1⟩) hxn h.fit.room).mono ?_
 rintro e w' ⟨rfl, m', hp', ho, hl⟩
 refine ⟨rfl, m', hp', (h.outs.trans h.later (ho.x [])).o, ⟨fun g hg => ?_, hl.tv.trans h.later.tv⟩⟩
 rcases hl g hg with h1 | h1 | h1
 ·exact h.later g h1
 ·exact .inr (hxf g h1).2.2.2
 ·exact .inr (Nat.le_trans h.outs.size h1)
theorem Un.addE {E : Nat} {x : ExM} (h : Un W w P F T lo dp d m [] s m1) (hx : UnE w P F T lo W.heap.size m1 E x) :
  Calls Tryz.prog 105 #[.pointer (some ⟨P, 0, none⟩), .agg #[.int .i64 x.e.k, .string x.e.x, x.av, x.kv, .int .i64 (x.e.at_ : Int)]] w (PEnd W P F T lo dp m natV (addM x.e s)) :=
 h.add hx.ok (fun g hg => ⟨(hx.foot g hg).1, (hx.foot g hg).2.1, (hx.foot g hg).2.2.1, (hx.foot g hg).2.2.2.2⟩) hx.nodup
theorem Un.addNone (h : Un W w P F T lo dp d m [] s m1) (k : Int) (x : ByteArray) (a : Nat) :
  Calls Tryz.prog 105 #[.pointer (some ⟨P, 0, none⟩), .agg #[.int .i64 k, .string x, .slice none 0 0, .slice none 0 0, .int .i64 (a : Int)]] w (PEnd W P F T lo dp m natV (addM ⟨k, x, [], [], a⟩ s)) :=
 h.add (x := ⟨⟨k, x, [], [], a⟩, .slice none 0 0, .slice none 0 0⟩) ⟨World.ownsRow_nil _ _ _ _, World.ownsRow_nil _ _ _ _⟩ (fun g hg => by cases hg) (by simp [ExM.foot, ownB, Value.ownBlock])
/-- Behind a reader of a closure, too. -/
theorem Un.kend {α : Type} {X' : List Nat} {St : α → FileM → World → Prop} {val : α → Value} {a : α} {e : Ending} (h : Un W w P F T lo dp d m X s m1) (hX : ∀ k ∈ X', 4 ≤ k ∧ (k ∈ X ∨ W.heap.size ≤ k)) (hf : Fit d s2) (hk : KEnd w P F T lo dp m1 X' St (.ok (a, s2)) val e w') :
  e = .returned (val a) ∧ ∃ m2, Un W w' P F T lo dp d m X s2 m2 ∧ OutsX w w' P F m1 X' ∧ Later w F m1 m2 ∧ St a m2 w' := by
 obtain ⟨h1, m2, h2, h3, h4, h5⟩ := hk
 refine ⟨h1, m2, ⟨h2, h.outs.join h.later h3 (fun k hk => (hX k hk).2), h.later.trans h.outs.size h4, h.env.keep h3.size (fun k hk => h3.block k (Nat.lt_of_lt_of_le hk h.env.ready.1) (by have := h.env.far; omega) (fun hm => ?_) (fun hm => by have := (hX k hm).1; omega)), hf⟩, h3, h4, h5⟩
 have h1 := (h.ps.file.lt k hm).2
 have h2 := h.ps.base.1
 have h3 := h.env.far.2
 omega
theorem Un.kbad {α : Type} {X' : List Nat} {St : α → FileM → World → Prop} {val : α → Value} {bd : Bd} {e : Ending} (h : Un W w P F T lo dp d m X s m1) (hX : ∀ k ∈ X', k ∈ X ∨ W.heap.size ≤ k) (hk : KEnd w P F T lo dp m1 X' St (.error bd : PR α) val e w') : Bad W P F m X bd e w' := by
 obtain ⟨D, h1, h2, h3, h4⟩ := hk
 exact ⟨D, h1, Nat.le_trans h.outs.size h2, h3, h.outs.join h.later h4 hX⟩
theorem Un.k {α : Type} {St : α → FileM → World → Prop} {val : α → Value} {a : α} (h : Un W w P F T lo dp d m X s m1) (hs : St a m1 w) : KEnd W P F T lo dp m X St (.ok (a, s)) val (.returned (val a)) w := ⟨rfl, m1, h.ps, h.outs, h.later, hs⟩
end
/-- What a function value says of the expression under way that it holds. -/
def StE {α : Type} (P F T lo N E : Nat) (ex : α → Ex) : α → FileM → World → Prop := fun a m w => ∃ x : ExM, x.e = ex a ∧ UnE w P F T lo N m E x
theorem StE.aside {α : Type} {P F T lo N E : Nat} {ex : α → Ex} : ∀ (a : α) (m : FileM) (w w' : World), StE P F T lo N E ex a m w → Aside P w w' → StE P F T lo N E ex a m w' := fun a m w w' ⟨x, h1, h2⟩ ha => ⟨x, h1, h2.aside ha⟩
end Go.Proofs.YtljgggohjigaoaaGreatDoor
namespace Go.Proofs.YtljgggohjigaoaaGreatDoor
open Go.RowKit Go.Shelf
set_option linter.unusedVariables false

theorem grown_lc {w w3 : World} {o : Obj} {row : Option Nat} {Y : List Nat} (hg : (w.alloc o).grownBy w3 row) (hY : ∀ g, row = some g → g ∈ Y) : Lc w w3 Y :=
 ⟨hg.os, hg.tape, hg.output, by have := hg.size; simp at this; omega, fun k hk hn => (hg.block k (by simp; omega) (fun e => hn (hY k e.symm))).trans (Below.heap_alloc w o k hk)⟩
section
variable {w : World} {P F T lo dp N E : Nat} {m1 : FileM} {s : Ps} {x : ExM}
/-- An argument more. -/
theorem UnE.push (h : UnE w P F T lo N m1 E x) (hp : PsAt w P F T lo dp s m1) (hN : N ≤ w.heap.size) {o : Obj} {w3 : World} {g2 cap2 n i : Nat} (hn : x.e.args.length = n)
  (hown : w3.ownsRow lo 3 1 (.slice (some ⟨g2, 0, none⟩) (n + 1) cap2) (n + 1) (intsV x.e.args ++ [.int .i64 (i : Int)])) (hg : (w.alloc o).grownBy w3 x.av.ownBlock) (hat : x.av.ownBlock = some g2 ∨ g2 = (w.alloc o).heap.size) :
  UnE (w3.setCell ⟨E, 2, none⟩ (.slice (some ⟨g2, 0, none⟩) (n + 1) cap2)) P F T lo N m1 E ⟨{ x.e with args := x.e.args ++ [i] }, .slice (some ⟨g2, 0, none⟩) (n + 1) cap2, x.kv⟩ ∧ Lc w (w3.setCell ⟨E, 2, none⟩ (.slice (some ⟨g2, 0, none⟩) (n + 1) cap2)) (E :: ownB x.av) := by
 have hsz : (w.alloc o).heap.size = w.heap.size + 1 := by simp
 have hl3 : Lc w w3 (ownB x.av) := grown_lc hg (fun g e => mem_ownB.2 e)
 have hEa : E ∉ ownB x.av := fun e => (h.foot E (List.mem_append.2 (.inl e))).2.2.2.1 rfl
 have hg2 : g2 ∉ m1.foot F ∧ g2 ≠ P ∧ g2 ≠ T ∧ g2 ≠ E ∧ N ≤ g2 ∧ g2 ∉ ownB x.kv := by
  rcases hat with h1 | h1
  ·have h2 := mem_ownB.2 h1
   have h3 := h.foot g2 (List.mem_append.2 (.inl h2))
   refine ⟨h3.1, h3.2.1, h3.2.2.1, h3.2.2.2.1, h3.2.2.2.2, fun h4 => ?_⟩
   have h5 := h.nodup
   unfold ExM.foot at h5
   exact (List.nodup_append.1 h5).2.2 g2 h2 g2 h4 rfl
  ·have hrk := hp.tok.ranks
   have hE := h.loc.blk.lt
   refine ⟨fun h4 => by have := (hp.file.lt _ h4).1; omega, by omega, by omega, by omega, by omega, fun h4 => ?_⟩
   have := (h.ok.lt g2 (List.mem_append.2 (.inr h4))).2
   omega
 have hloc := (h.loc.lc hl3 hEa).put 2 (.slice (some ⟨g2, 0, none⟩) (n + 1) cap2)
 have hil : (x.e.args ++ [i]).length = n + 1 := by simp [hn]
 refine ⟨⟨by simpa using hloc, ⟨?_, ?_⟩, fun g hgm => ?_, ?_⟩, (hl3.mono (fun k hk => List.mem_cons_of_mem _ hk)).trans (Lc.set _ _ _ _ List.mem_cons_self)⟩
 ·show World.ownsRow _ lo 3 1 _ (x.e.args ++ [i]).length (intsV (x.e.args ++ [i]))
  rw [hil]
  have hin : intsV (x.e.args ++ [i]) = intsV x.e.args ++ [.int .i64 (i : Int)] := by simp [intsV]
  rw [hin]
  exact row_same hown (fun g e => by
   obtain rfl : g2 = g := Option.some.inj e
   exact Below.heap_setCell _ _ _ _ (by exact hg2.2.2.2.1))
 ·refine row_same h.ok.keys (fun g e => ?_)
  have h2 := mem_ownB.2 e
  rw [Below.heap_setCell _ _ _ _ (by exact (h.foot g (List.mem_append.2 (.inr h2))).2.2.2.1)]
  refine hl3.block g (row_lt h.ok.keys e).2 (fun h3 => ?_)
  have h5 := h.nodup
  unfold ExM.foot at h5
  exact (List.nodup_append.1 h5).2.2 g h3 g h2 rfl
 ·rcases List.mem_append.1 hgm with h1 | h1
  ·obtain rfl : g2 = g := Option.some.inj (mem_ownB.1 h1)
   exact ⟨hg2.1, hg2.2.1, hg2.2.2.1, hg2.2.2.2.1, hg2.2.2.2.2.1⟩
  ·exact h.foot g (List.mem_append.2 (.inr h1))
 ·show (ownB (.slice (some ⟨g2, 0, none⟩) (n + 1) cap2) ++ ownB x.kv).Nodup
  have ho : ownB (.slice (some ⟨g2, 0, none⟩) (n + 1) cap2) = [g2] := rfl
  rw [ho]
  simp only [List.cons_append, List.nil_append, List.nodup_cons]
  exact ⟨hg2.2.2.2.2.2, ownB_nodup _⟩
/-- A key more. -/
theorem UnE.pushKey (h : UnE w P F T lo N m1 E x) (hp : PsAt w P F T lo dp s m1) (hN : N ≤ w.heap.size) {o : Obj} {w3 : World} {g2 cap2 n : Nat} {t : ByteArray} (hn : x.e.keys.length = n)
  (hown : w3.ownsRow lo 9 1 (.slice (some ⟨g2, 0, none⟩) (n + 1) cap2) (n + 1) (x.e.keys.map Value.string ++ [.string t])) (hg : (w.alloc o).grownBy w3 x.kv.ownBlock) (hat : x.kv.ownBlock = some g2 ∨ g2 = (w.alloc o).heap.size) :
  UnE (w3.setCell ⟨E, 3, none⟩ (.slice (some ⟨g2, 0, none⟩) (n + 1) cap2)) P F T lo N m1 E ⟨{ x.e with keys := x.e.keys ++ [t] }, x.av, .slice (some ⟨g2, 0, none⟩) (n + 1) cap2⟩ ∧ Lc w (w3.setCell ⟨E, 3, none⟩ (.slice (some ⟨g2, 0, none⟩) (n + 1) cap2)) (E :: ownB x.kv) := by
 have hsz : (w.alloc o).heap.size = w.heap.size + 1 := by simp
 have hl3 : Lc w w3 (ownB x.kv) := grown_lc hg (fun g e => mem_ownB.2 e)
 have hEa : E ∉ ownB x.kv := fun e => (h.foot E (List.mem_append.2 (.inr e))).2.2.2.1 rfl
 have hg2 : g2 ∉ m1.foot F ∧ g2 ≠ P ∧ g2 ≠ T ∧ g2 ≠ E ∧ N ≤ g2 ∧ g2 ∉ ownB x.av := by
  rcases hat with h1 | h1
  ·have h2 := mem_ownB.2 h1
   have h3 := h.foot g2 (List.mem_append.2 (.inr h2))
   refine ⟨h3.1, h3.2.1, h3.2.2.1, h3.2.2.2.1, h3.2.2.2.2, fun h4 => ?_⟩
   have h5 := h.nodup
   unfold ExM.foot at h5
   exact (List.nodup_append.1 h5).2.2 g2 h4 g2 h2 rfl
  ·have hrk := hp.tok.ranks
   have hE := h.loc.blk.lt
   refine ⟨fun h4 => by have := (hp.file.lt _ h4).1; omega, by omega, by omega, by omega, by omega, fun h4 => ?_⟩
   have := (h.ok.lt g2 (List.mem_append.2 (.inl h4))).2
   omega
 have hloc := (h.loc.lc hl3 hEa).put 3 (.slice (some ⟨g2, 0, none⟩) (n + 1) cap2)
 have hil : (x.e.keys ++ [t]).length = n + 1 := by simp [hn]
 refine ⟨⟨by simpa using hloc, ⟨?_, ?_⟩, fun g hgm => ?_, ?_⟩, (hl3.mono (fun k hk => List.mem_cons_of_mem _ hk)).trans (Lc.set _ _ _ _ List.mem_cons_self)⟩
 ·refine row_same h.ok.args (fun g e => ?_)
  have h2 := mem_ownB.2 e
  rw [Below.heap_setCell _ _ _ _ (by exact (h.foot g (List.mem_append.2 (.inl h2))).2.2.2.1)]
  refine hl3.block g (row_lt h.ok.args e).2 (fun h3 => ?_)
  have h5 := h.nodup
  unfold ExM.foot at h5
  exact (List.nodup_append.1 h5).2.2 g h2 g h3 rfl
 ·show World.ownsRow _ lo 9 1 _ (x.e.keys ++ [t]).length ((x.e.keys ++ [t]).map Value.string)
  rw [hil]
  have hin : (x.e.keys ++ [t]).map Value.string = x.e.keys.map Value.string ++ [.string t] := by simp
  rw [hin]
  exact row_same hown (fun g e => by
   obtain rfl : g2 = g := Option.some.inj e
   exact Below.heap_setCell _ _ _ _ (by exact hg2.2.2.2.1))
 ·rcases List.mem_append.1 hgm with h1 | h1
  ·exact h.foot g (List.mem_append.2 (.inl h1))
  ·obtain rfl : g2 = g := Option.some.inj (mem_ownB.1 h1)
   exact ⟨hg2.1, hg2.2.1, hg2.2.2.1, hg2.2.2.2.1, hg2.2.2.2.2.1⟩
 ·show (ownB x.av ++ ownB (.slice (some ⟨g2, 0, none⟩) (n + 1) cap2)).Nodup
  have ho : ownB (.slice (some ⟨g2, 0, none⟩) (n + 1) cap2) = [g2] := rfl
  rw [ho, List.nodup_append]
  exact ⟨ownB_nodup _, by simp, fun a ha b hb e => by rw [List.mem_singleton] at hb; subst hb; subst e; exact hg2.2.2.2.2.2 ha⟩
end
/-- A walk with an expression under way. -/
structure UnS (W w : World) (P F T lo dp d : Nat) (m : FileM) (X : List Nat) (s : Ps) (m1 : FileM) (N E : Nat) (x : ExM) : Prop where
 un : Un W w P F T lo dp d m X s m1
 ue : UnE w P F T lo N m1 E x
 mine : ∀ k, k = E ∨ k ∈ x.foot → 4 ≤ k ∧ (k ∈ X ∨ W.heap.size ≤ k)
 le : N ≤ W.heap.size
section
variable {W w w' : World} {P F T lo dp d N E : Nat} {m m1 m2 : FileM} {X : List Nat} {s s2 : Ps} {x : ExM}
theorem UnS.step (h : UnS W w P F T lo dp d m X s m1 N E x) (k : Stepped W w w' P F T lo dp d m X m1 s2 m2) : UnS W w' P F T lo dp d m X s2 m2 N E x := ⟨k.un, h.ue.step k.outs k.later, h.mine, h.le⟩
theorem UnS.free (h : UnS W w P F T lo dp d m X s m1 N E x) {k : Nat} (hk : k = E ∨ k ∈ x.foot) : Free W P F T X m1 k := by
 rcases hk with rfl | hk
 ·exact ⟨h.ue.loc.neP, h.ue.loc.neT, h.ue.loc.out, h.mine _ (.inl rfl)⟩
 ·have h1 := h.ue.foot k hk
  exact ⟨h1.2.1, h1.2.2.1, h1.1, h.mine _ (.inr hk)⟩
theorem UnS.alloc (h : UnS W w P F T lo dp d m X s m1 N E x) (o : Obj) : UnS W (w.alloc o) P F T lo dp d m X s m1 N E x := ⟨h.un.alloc o, h.ue.lc (Lc.alloc w o []) (by simp) (by simp), h.mine, h.le⟩
theorem UnS.below (h : UnS W w P F T lo dp d m X s m1 N E x) (hb : Below w.heap.size w w') : UnS W w' P F T lo dp d m X s m1 N E x := ⟨h.un.below hb, h.ue.lc (Lc.of hb []) (by simp) (by simp), h.mine, h.le⟩
theorem UnS.setK (h : UnS W w P F T lo dp d m X s m1 N E x) (k : Int) : UnS W (w.setCell ⟨E, 0, none⟩ (.int .i64 k)) P F T lo dp d m X s m1 N E { x with e := { x.e with k := k } } := ⟨h.un.set (h.free (.inl rfl)) _ _, h.ue.setK k, h.mine, h.le⟩
theorem UnS.setX (h : UnS W w P F T lo dp d m X s m1 N E x) (t : ByteArray) : UnS W (w.setCell ⟨E, 1, none⟩ (.string t)) P F T lo dp d m X s m1 N E { x with e := { x.e with x := t } } := ⟨h.un.set (h.free (.inl rfl)) _ _, h.ue.setX t, h.mine, h.le⟩
theorem UnS.setAt (h : UnS W w P F T lo dp d m X s m1 N E x) (a : Nat) : UnS W (w.setCell ⟨E, 4, none⟩ (.int .i64 (a : Int))) P F T lo dp d m X s m1 N E { x with e := { x.e with at_ := a } } := ⟨h.un.set (h.free (.inl rfl)) _ _, h.ue.setAt a, h.mine, h.le⟩
theorem UnS.setArgs (h : UnS W w P F T lo dp d m X s m1 N E x) (hk : x.kv = .slice none 0 0) {l : List Nat} {av : Value} (hr : OwnL w P F T lo W.heap.size m1 3 1 av l.length (intsV l)) (hE : av.ownBlock ≠ some E) : UnS W (w.setCell ⟨E, 2, none⟩ av) P F T lo dp d m X s m1 N E ⟨{ x.e with args := l }, av, x.kv⟩ :=
 ⟨h.un.set (h.free (.inl rfl)) _ _, h.ue.setArgs hk ⟨hr.row, fun g hg => ⟨(hr.out g hg).1, (hr.out g hg).2.1, (hr.out g hg).2.2.1, Nat.le_trans h.le (hr.out g hg).2.2.2⟩⟩ hE, fun k hk2 => by
  rcases hk2 with rfl | hk2
  ·exact h.mine _ (.inl rfl)
  ·rcases List.mem_append.1 hk2 with h1 | h1
   ·have h2 := (hr.out k (mem_ownB.1 h1)).2.2.2
    have h3 := h.un.env.far
    have h4 := h.un.ps.base
    have h5 := row_lt hr.row (mem_ownB.1 h1)
    exact ⟨by omega, .inr h2⟩
   ·exact h.mine _ (.inr (List.mem_append.2 (.inr h1))), h.le⟩
theorem UnS.push (h : UnS W w P F T lo dp d m X s m1 N E x) {o : Obj} {w3 : World} {g2 cap2 n i : Nat} (hn : x.e.args.length = n)
  (hown : w3.ownsRow lo 3 1 (.slice (some ⟨g2, 0, none⟩) (n + 1) cap2) (n + 1) (intsV x.e.args ++ [.int .i64 (i : Int)])) (hg : (w.alloc o).grownBy w3 x.av.ownBlock) (hat : x.av.ownBlock = some g2 ∨ g2 = (w.alloc o).heap.size) :
  UnS W (w3.setCell ⟨E, 2, none⟩ (.slice (some ⟨g2, 0, none⟩) (n + 1) cap2)) P F T lo dp d m X s m1 N E ⟨{ x.e with args := x.e.args ++ [i] }, .slice (some ⟨g2, 0, none⟩) (n + 1) cap2, x.kv⟩ ∧ Lc w (w3.setCell ⟨E, 2, none⟩ (.slice (some ⟨g2, 0, none⟩) (n + 1) cap2)) (E :: ownB x.av) := by
 have hp := h.ue.push h.un.ps (Nat.le_trans h.le h.un.outs.size) hn hown hg hat
 have hs := h.un.outs.size
 refine ⟨⟨h.un.lc hp.2 (fun k hk => ?_), hp.1, fun k hk => ?_, h.le⟩, hp.2⟩
 ·rcases List.mem_cons.1 hk with rfl | hk
  ·exact h.free (.inl rfl)
  ·exact h.free (.inr (List.mem_append.2 (.inl hk)))
 ·rcases hk with rfl | hk
  ·exact h.mine _ (.inl rfl)
  ·rcases List.mem_append.1 hk with h1 | h1
   ·obtain rfl : g2 = k := Option.some.inj (mem_ownB.1 h1)
    rcases hat with h2 | h2
    ·exact h.mine _ (.inr (List.mem_append.2 (.inl (mem_ownB.2 h2))))
    ·have h4 := h.un.env.ready.1
     simp at h2
     exact ⟨by omega, .inr (by omega)⟩
   ·exact h.mine _ (.inr (List.mem_append.2 (.inr h1)))
theorem UnS.pushKey (h : UnS W w P F T lo dp d m X s m1 N E x) {o : Obj} {w3 : World} {g2 cap2 n : Nat} {t : ByteArray} (hn : x.e.keys.length = n)
  (hown : w3.ownsRow lo 9 1 (.slice (some ⟨g2, 0, none⟩) (n + 1) cap2) (n + 1) (x.e.keys.map Value.string ++ [.string t])) (hg : (w.alloc o).grownBy w3 x.kv.ownBlock) (hat : x.kv.ownBlock = some g2 ∨ g2 = (w.alloc o).heap.size) :
  UnS W (w3.setCell ⟨E, 3, none⟩ (.slice (some ⟨g2, 0, none⟩) (n + 1) cap2)) P F T lo dp d m X s m1 N E ⟨{ x.e with keys := x.e.keys ++ [t] }, x.av, .slice (some ⟨g2, 0, none⟩) (n + 1) cap2⟩ ∧ Lc w (w3.setCell ⟨E, 3, none⟩ (.slice (some ⟨g2, 0, none⟩) (n + 1) cap2)) (E :: ownB x.kv) := by
 have hp := h.ue.pushKey h.un.ps (Nat.le_trans h.le h.un.outs.size) hn hown hg hat
 have hs := h.un.outs.size
 refine ⟨⟨h.un.lc hp.2 (fun k hk => ?_), hp.1, fun k hk => ?_, h.le⟩, hp.2⟩
 ·rcases List.mem_cons.1 hk with rfl | hk
  ·exact h.free (.inl rfl)
  ·exact h.free (.inr (List.mem_append.2 (.inr hk)))
 ·rcases hk with rfl | hk
  ·exact h.mine _ (.inl rfl)
  ·rcases List.mem_append.1 hk with h1 | h1
   ·exact h.mine _ (.inr (List.mem_append.2 (.inl h1)))
   ·obtain rfl : g2 = k := Option.some.inj (mem_ownB.1 h1)
    rcases hat with h2 | h2
    ·exact h.mine _ (.inr (List.mem_append.2 (.inr (mem_ownB.2 h2))))
    ·have h4 := h.un.env.ready.1
     simp at h2
     exact ⟨by omega, .inr (by omega)⟩
/-- A closure's ending. -/
theorem UnS.k {α : Type} {ex : α → Ex} {a : α} {val : α → Value} (h : UnS W w P F T lo dp d m X s m1 N E x) (he : x.e = ex a) : KEnd W P F T lo dp m X (StE P F T lo N E ex) (.ok (a, s)) val (.returned (val a)) w := h.un.k ⟨x, he, h.ue⟩
end
/-- What is read where d levels are left: one level deeper. -/
structure Subs (F lo dp d : Nat) (nx : Sub) : Prop where
 left : Left24 dp nx
 ok : SubOk d nx
 sub : ∀ p, nx = some p → ∃ d', d = d' + 1 ∧ Dec d' 0 p.1 ∧ Dec d' 0 p.2 ∧ (∀ P T, Rds P F T lo (dp + 1) d' 75 #[.pointer (some ⟨P, 0, none⟩)] p.1) ∧ ∀ P T, Rds P F T lo (dp + 1) d' 119 #[.pointer (some ⟨P, 0, none⟩)] p.2
/-- How args ends. -/
def ArgsEnd (W : World) (P F T lo dp d : Nat) (m : FileM) (r : PR (List Nat)) (e : Ending) (w' : World) : Prop := match r with
 | .ok (l, s2) => ∃ av m2, e = .returned av ∧ Un W w' P F T lo dp d m [] s2 m2 ∧ OwnL w' P F T lo W.heap.size m2 3 1 av l.length (intsV l)
 | .error bd => Bad W P F m [] bd e w'
theorem infoInt0 : (Tryz.prog.info? 3).map (fun i => (i.zero, i.size, i.bytes)) = some (some (.int .i64 0), 1, 8) := by kernel_rfl
theorem infoStr0 : (Tryz.prog.info? 9).map (fun i => (i.zero, i.size, i.bytes)) = some (some (.string ⟨#[]⟩), 1, 16) := by kernel_rfl
theorem info_of {t : TypeId} {z : Value} {a b : Nat} (h : (Tryz.prog.info? t).map (fun i => (i.zero, i.size, i.bytes)) = some (some z, a, b)) : ∃ i : TypeInfo, Tryz.prog.info? t = some i ∧ i.zero = some z ∧ i.size = a ∧ i.bytes = b := by
 cases hi : Tryz.prog.info? t with
 | none => rw [hi] at h; cases h
 | some i =>
  rw [hi] at h
  simp only [Option.map_some, Option.some.injEq, Prod.mk.injEq] at h
  exact ⟨i, rfl, h.1, h.2.1, h.2.2⟩
end Go.Proofs.YtljgggohjigaoaaGreatDoor
