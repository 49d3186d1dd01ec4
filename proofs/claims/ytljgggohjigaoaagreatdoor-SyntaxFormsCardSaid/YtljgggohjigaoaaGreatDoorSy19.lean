/- A walk's state between two calls; what it holds of its own -/
import Derived.Test.YtljgggohjigaoaaGreatDoorSy18
namespace Go.Proofs.YtljgggohjigaoaaGreatDoor
open Go.RowKit Go.Shelf
set_option linter.unusedVariables false

theorem bind_err {α β : Type} {m : PM α} {k : α → PM β} {s : Ps} {bd : Bd} {R : PR β} (hm : m s = .error bd) (h : bindP m k s = R) : R = .error bd := by
  rw [← h]; unfold bindP; rw [hm]
theorem bind_ok {α β : Type} {m : PM α} {k : α → PM β} {s s' : Ps} {a : α} {R : PR β} (hm : m s = .ok (a, s')) (h : bindP m k s = R) : k a s' = R := by
  rw [← h]; unfold bindP; rw [hm]
theorem Fit.dec {α : Type} {d : Nat} {c : Int} {s s' : Ps} {a : α} {M : PM α} (h : Fit d s) (hD : Dec d c M) (hc : 0 ≤ c) (hm : M s = .ok (a, s')) : Fit d s' := h.of (hD s h.snd a s' hm).1 (hD s h.snd a s' hm).2 hc
theorem Fit.peek {d : Nat} {s : Ps} (h : Fit d s) : Fit d (peekS s) := h.of (c := 0) (peek_sfx s) (by have := pot_peek s; omega) (by omega)
theorem Fit.take {d : Nat} {s : Ps} (h : Fit d s) : Fit d (takeS s) := h.of (c := 0) (take_sfx s) (by have := pot_take s; omega) (by omega)
theorem Fit.kind {d : Nat} {s : Ps} (h : Fit d s) {b : ByteArray} (hb : b ≠ ⟨#[]⟩) (hi : isW b (next s) = true) : (next s).k ≠ 0 := fun e => by
  have h1 := isW_wt hb h.snd hi
  unfold wt at h1
  rw [if_pos e] at h1
  omega
/-- An error that was thrown; all but the parser, its file and some blocks is as it was. -/
def Bad (W : World) (P F : Nat) (m : FileM) (X : List Nat) (bd : Bd) (e : Ending) (w' : World) : Prop := ∃ D, e = .panicked [{ v := .iface 29 (.pointer (some ⟨D, 0, none⟩)), recovered := false }] ∧ W.heap.size ≤ D ∧ Blk w' D #[.int .i64 bd.1, .string ⟨#[]⟩, .int .i64 (bd.2 : Int)] 34 ∧ OutsX W w' P F m X
/-- Where a walk stands: W is its first world, w this one. -/
structure Un (W w : World) (P F T lo dp d : Nat) (m : FileM) (X : List Nat) (s : Ps) (m1 : FileM) : Prop where
  ps : PsAt w P F T lo dp s m1
  outs : OutsX W w P F m X
  later : Later W F m m1
  env : Env w P F
  fit : Fit d s
structure Stepped (W w w' : World) (P F T lo dp d : Nat) (m : FileM) (X : List Nat) (m1 : FileM) (s2 : Ps) (m2 : FileM) : Prop where
  un : Un W w' P F T lo dp d m X s2 m2
  outs : Outs w w' P F m1
  later : Later w F m1 m2
/-- How a step ends. -/
def Stp {α : Type} (W w : World) (P F T lo dp d : Nat) (m : FileM) (X : List Nat) (m1 : FileM) (val : α → Value) (r : PR α) (e : Ending) (w' : World) : Prop := match r with
  | .ok (a, s2) => e = .returned (val a) ∧ ∃ m2, Stepped W w w' P F T lo dp d m X m1 s2 m2
  | .error bd => Bad W P F m X bd e w'
theorem OutsX.refl (W : World) (P F : Nat) (m : FileM) (X : List Nat) : OutsX W W P F m X := ⟨rfl, rfl, rfl, Nat.le_refl _, fun _ _ _ _ _ => rfl⟩
theorem OutsX.join {a b c : World} {P F : Nat} {m m' : FileM} {X X' : List Nat} (h : OutsX a b P F m X) (hl : Later a F m m') (k : OutsX b c P F m' X') (hX : ∀ i ∈ X', i ∈ X ∨ a.heap.size ≤ i) : OutsX a c P F m X :=
  ⟨k.os.trans h.os, k.tape.trans h.tape, k.output.trans h.output, Nat.le_trans h.size k.size, fun i hi h1 h2 h3 => (k.block i (Nat.lt_of_lt_of_le hi h.size) h1 (fun e => by
    rcases hl i e with h4 | h4
    · exact h2 h4
    · omega) (fun e => by
    rcases hX i e with h4 | h4
    · exact h3 h4
    · omega)).trans (h.block i hi h1 h2 h3)⟩
theorem Outs.x {W W' : World} {P F : Nat} {m : FileM} (h : Outs W W' P F m) (X : List Nat) : OutsX W W' P F m X := ⟨h.os, h.tape, h.output, h.size, fun k hk h1 h2 _ => h.block k hk h1 h2⟩
theorem OutsX.o {W W' : World} {P F : Nat} {m : FileM} (h : OutsX W W' P F m []) : Outs W W' P F m := ⟨h.os, h.tape, h.output, h.size, fun k hk h1 h2 => h.block k hk h1 h2 (by simp)⟩
/-- A change of some blocks of its own. -/
structure Lc (w w' : World) (Y : List Nat) : Prop where
  os : w'.os = w.os
  tape : w'.tape = w.tape
  output : w'.output = w.output
  size : w.heap.size ≤ w'.heap.size
  block : ∀ k, k < w.heap.size → k ∉ Y → w'.heap[k]? = w.heap[k]?
theorem Lc.of {w w' : World} (h : Below w.heap.size w w') (Y : List Nat) : Lc w w' Y := ⟨h.os, h.tape, h.output, h.size, fun k hk _ => h.block k hk⟩
theorem Lc.alloc (w : World) (o : Obj) (Y : List Nat) : Lc w (w.alloc o) Y := Lc.of (below_new w o) Y
theorem Lc.set (w : World) (B i : Nat) (u : Value) {Y : List Nat} (hB : B ∈ Y) : Lc w (w.setCell ⟨B, i, none⟩ u) Y := ⟨rfl, rfl, rfl, by simp, fun k hk h => Below.heap_setCell _ _ _ _ (by show k ≠ B; rintro rfl; exact h hB)⟩
theorem Lc.trans {a b c : World} {Y : List Nat} (h : Lc a b Y) (k : Lc b c Y) : Lc a c Y :=
  ⟨k.os.trans h.os, k.tape.trans h.tape, k.output.trans h.output, Nat.le_trans h.size k.size, fun i hi h1 => (k.block i (Nat.lt_of_lt_of_le hi h.size) h1).trans (h.block i hi h1)⟩
theorem Lc.mono {a b : World} {Y Z : List Nat} (h : Lc a b Y) (hY : ∀ k ∈ Y, k ∈ Z) : Lc a b Z := ⟨h.os, h.tape, h.output, h.size, fun k hk hn => h.block k hk (fun hm => hn (hY k hm))⟩
theorem Lc.drew {a b : World} {Y : List Nat} (h : Lc a b Y) : Lc a b.drew Y := ⟨h.os, h.tape, h.output, h.size, h.block⟩
/-- What a step may write of the walk's own. -/
def Free (W : World) (P F T : Nat) (X : List Nat) (m1 : FileM) (k : Nat) : Prop := k ≠ P ∧ k ≠ T ∧ k ∉ m1.foot F ∧ 4 ≤ k ∧ (k ∈ X ∨ W.heap.size ≤ k)
/-- A block of its own. -/
structure Loc (w : World) (P F T : Nat) (m1 : FileM) (B : Nat) (cs : Array Value) (ty : TypeId) : Prop where
  blk : Blk w B cs ty
  neP : B ≠ P
  neT : B ≠ T
  out : B ∉ m1.foot F
/-- A row of its own. -/
structure OwnL (w : World) (P F T lo N : Nat) (m1 : FileM) (e : TypeId) (size : Nat) (v : Value) (n : Nat) (xs : List Value) : Prop where
  row : w.ownsRow lo e size v n xs
  out : ∀ g, v.ownBlock = some g → g ∉ m1.foot F ∧ g ≠ P ∧ g ≠ T ∧ N ≤ g
/-- An expression of its own. -/
structure UnE (w : World) (P F T lo N : Nat) (m1 : FileM) (E : Nat) (x : ExM) : Prop where
  loc : Loc w P F T m1 E #[.int .i64 x.e.k, .string x.e.x, x.av, x.kv, .int .i64 (x.e.at_ : Int)] 38
  ok : x.Ok lo w
  foot : ∀ g ∈ x.foot, g ∉ m1.foot F ∧ g ≠ P ∧ g ≠ T ∧ g ≠ E ∧ N ≤ g
  nodup : x.foot.Nodup
section
variable {W w w' : World} {P F T lo dp d N : Nat} {m m1 m2 : FileM} {X Y : List Nat} {s s2 : Ps}
theorem Loc.step {B : Nat} {cs : Array Value} {ty : TypeId} (h : Loc w P F T m1 B cs ty) (ho : Outs w w' P F m1) (hl : Later w F m1 m2) : Loc w' P F T m2 B cs ty :=
  ⟨(ho.block B h.blk.lt h.neP h.out).trans h.blk, h.neP, h.neT, fun hm => (hl B hm).elim h.out (fun hge => by have := h.blk.lt; omega)⟩
theorem Loc.lc {B : Nat} {cs : Array Value} {ty : TypeId} (h : Loc w P F T m1 B cs ty) (hc : Lc w w' Y) (hB : B ∉ Y) : Loc w' P F T m1 B cs ty := ⟨(hc.block B h.blk.lt hB).trans h.blk, h.neP, h.neT, h.out⟩
theorem Loc.kstep {B : Nat} {cs : Array Value} {ty : TypeId} (h : Loc w P F T m1 B cs ty) (ho : OutsX w w' P F m1 Y) (hl : Later w F m1 m2) (hB : B ∉ Y) : Loc w' P F T m2 B cs ty :=
  ⟨(ho.block B h.blk.lt h.neP h.out hB).trans h.blk, h.neP, h.neT, fun hm => (hl B hm).elim h.out (fun hge => by have := h.blk.lt; omega)⟩
theorem Loc.new (h : PsAt w P F T lo dp s m1) (cs : Array Value) (ty : TypeId) : Loc (w.alloc (.cells cs ty)) P F T m1 w.heap.size cs ty :=
  ⟨Blk.new _ _ _, by have := h.tok.ranks; omega, by have := h.tok.ranks; omega, fun hm => by have := (h.file.lt _ hm).1; omega⟩
theorem Loc.put {B : Nat} {cs : Array Value} {ty : TypeId} (h : Loc w P F T m1 B cs ty) (i : Nat) (u : Value) : Loc (w.setCell ⟨B, i, none⟩ u) P F T m1 B (cs.setIfInBounds i u) ty := ⟨h.blk.set i u, h.neP, h.neT, h.out⟩
theorem OwnL.step {e : TypeId} {size n : Nat} {v : Value} {xs : List Value} (h : OwnL w P F T lo N m1 e size v n xs) (ho : Outs w w' P F m1) (hl : Later w F m1 m2) : OwnL w' P F T lo N m2 e size v n xs :=
  ⟨row_same h.row (fun g hg => ho.block g (row_lt h.row hg).2 (h.out g hg).2.1 (h.out g hg).1), fun g hg => ⟨fun hm => (hl g hm).elim (h.out g hg).1 (fun hge => by have := (row_lt h.row hg).2; omega), (h.out g hg).2⟩⟩
theorem OwnL.lc {e : TypeId} {size n : Nat} {v : Value} {xs : List Value} (h : OwnL w P F T lo N m1 e size v n xs) (hc : Lc w w' Y) (hY : ∀ g, v.ownBlock = some g → g ∉ Y) : OwnL w' P F T lo N m1 e size v n xs :=
  ⟨row_same h.row (fun g hg => hc.block g (row_lt h.row hg).2 (hY g hg)), h.out⟩
theorem OwnL.nil (w : World) (P F T lo N : Nat) (m1 : FileM) (e : TypeId) (size : Nat) : OwnL w P F T lo N m1 e size (.slice none 0 0) 0 [] := ⟨World.ownsRow_nil _ _ _ _, fun g hg => by cases hg⟩
theorem UnE.step {E : Nat} {x : ExM} (h : UnE w P F T lo N m1 E x) (ho : Outs w w' P F m1) (hl : Later w F m1 m2) : UnE w' P F T lo N m2 E x :=
  ⟨h.loc.step ho hl, h.ok.keep (fun g hg => ho.block g (h.ok.lt g hg).2 (h.foot g hg).2.1 (h.foot g hg).1), fun g hg => ⟨fun hm => (hl g hm).elim (h.foot g hg).1 (fun hge => by have := (h.ok.lt g hg).2; omega), (h.foot g hg).2⟩, h.nodup⟩
theorem UnE.lc {E : Nat} {x : ExM} (h : UnE w P F T lo N m1 E x) (hc : Lc w w' Y) (hE : E ∉ Y) (hY : ∀ g ∈ x.foot, g ∉ Y) : UnE w' P F T lo N m1 E x :=
  ⟨h.loc.lc hc hE, h.ok.keep (fun g hg => hc.block g (h.ok.lt g hg).2 (hY g hg)), h.foot, h.nodup⟩
theorem UnE.aside {E : Nat} {x : ExM} (h : UnE w P F T lo N m1 E x) (ha : Aside P w w') : UnE w' P F T lo N m1 E x := h.step (Outs.aside ha) (Later.refl _ _ _)
/-- A new expression without parts. -/
theorem UnE.new (h : PsAt w P F T lo dp s m1) (k : Int) (x : ByteArray) (a : Nat) : UnE (w.alloc (.cells #[.int .i64 k, .string x, .slice none 0 0, .slice none 0 0, .int .i64 (a : Int)] 38)) P F T lo N m1 w.heap.size ⟨⟨k, x, [], [], a⟩, .slice none 0 0, .slice none 0 0⟩ :=
  ⟨Loc.new h _ _, ⟨World.ownsRow_nil _ _ _ _, World.ownsRow_nil _ _ _ _⟩, fun g hg => (by cases hg), by simp [ExM.foot, ownB, Value.ownBlock]⟩
theorem UnE.keepOk {E : Nat} {x : ExM} (h : UnE w P F T lo N m1 E x) (i : Nat) (u : Value) : x.Ok lo (w.setCell ⟨E, i, none⟩ u) := h.ok.keep (fun g hg => Below.heap_setCell _ _ _ _ (by exact (h.foot g hg).2.2.2.1))
theorem UnE.setK {E : Nat} {x : ExM} (h : UnE w P F T lo N m1 E x) (k : Int) : UnE (w.setCell ⟨E, 0, none⟩ (.int .i64 k)) P F T lo N m1 E { x with e := { x.e with k := k } } :=
  ⟨by have := h.loc.put 0 (.int .i64 k); simpa using this, ⟨(h.keepOk 0 _).args, (h.keepOk 0 _).keys⟩, h.foot, h.nodup⟩
theorem UnE.setX {E : Nat} {x : ExM} (h : UnE w P F T lo N m1 E x) (t : ByteArray) : UnE (w.setCell ⟨E, 1, none⟩ (.string t)) P F T lo N m1 E { x with e := { x.e with x := t } } :=
  ⟨by have := h.loc.put 1 (.string t); simpa using this, ⟨(h.keepOk 1 _).args, (h.keepOk 1 _).keys⟩, h.foot, h.nodup⟩
theorem UnE.setAt {E : Nat} {x : ExM} (h : UnE w P F T lo N m1 E x) (a : Nat) : UnE (w.setCell ⟨E, 4, none⟩ (.int .i64 (a : Int))) P F T lo N m1 E { x with e := { x.e with at_ := a } } :=
  ⟨by have := h.loc.put 4 (.int .i64 (a : Int)); simpa using this, ⟨(h.keepOk 4 _).args, (h.keepOk 4 _).keys⟩, h.foot, h.nodup⟩
/-- Its arguments are another row. -/
theorem UnE.setArgs {E : Nat} {x : ExM} (h : UnE w P F T lo N m1 E x) (hk : x.kv = .slice none 0 0) {l : List Nat} {av : Value} (hr : OwnL w P F T lo N m1 3 1 av l.length (intsV l)) (hE : av.ownBlock ≠ some E) : UnE (w.setCell ⟨E, 2, none⟩ av) P F T lo N m1 E ⟨{ x.e with args := l }, av, x.kv⟩ := by
  refine ⟨by have := h.loc.put 2 av; simpa using this, ⟨row_same hr.row (fun g hg => Below.heap_setCell _ _ _ _ (by show g ≠ E; rintro rfl; exact hE hg)), (h.keepOk 2 _).keys⟩, fun g hg => ?_, ?_⟩
  · rcases List.mem_append.1 hg with h1 | h1
    · have h2 := mem_ownB.1 h1
      have h3 := hr.out g h2
      exact ⟨h3.1, h3.2.1, h3.2.2.1, fun e => hE (by rw [← e]; exact h2), h3.2.2.2⟩
    · exact h.foot g (List.mem_append.2 (.inr h1))
  · unfold ExM.foot
    rw [hk]
    simpa [ownB, Value.ownBlock] using ownB_nodup av
theorem Un.start (h : PsAt W P F T lo dp s m) (he : Env W P F) (hf : Fit d s) : Un W W P F T lo dp d m X s m := ⟨h, OutsX.refl _ _ _ _ _, Later.refl _ _ _, he, hf⟩
theorem Un.lc (h : Un W w P F T lo dp d m X s m1) (hc : Lc w w' Y) (hY : ∀ k ∈ Y, Free W P F T X m1 k) : Un W w' P F T lo dp d m X s m1 :=
  ⟨h.ps.same hc.size (fun k hk hm => hc.block k hk (fun hy => by
    rcases hm with rfl | rfl | hm
    · exact (hY _ hy).1 rfl
    · exact (hY _ hy).2.1 rfl
    · exact (hY _ hy).2.2.1 hm)), ⟨hc.os.trans h.outs.os, hc.tape.trans h.outs.tape, hc.output.trans h.outs.output, Nat.le_trans h.outs.size hc.size, fun k hk h1 h2 h3 => (hc.block k (Nat.lt_of_lt_of_le hk h.outs.size) (fun hy => by
      rcases (hY _ hy).2.2.2.2 with h4 | h4
      · exact h3 h4
      · omega)).trans (h.outs.block k hk h1 h2 h3)⟩, h.later, h.env.keep hc.size (fun k hk => hc.block k (Nat.lt_of_lt_of_le hk h.env.ready.1) (fun hy => by have := (hY _ hy).2.2.2.1; omega)), h.fit⟩
theorem Un.alloc (h : Un W w P F T lo dp d m X s m1) (o : Obj) : Un W (w.alloc o) P F T lo dp d m X s m1 := h.lc (Lc.alloc w o []) (fun k hk => by cases hk)
theorem Un.below (h : Un W w P F T lo dp d m X s m1) (hb : Below w.heap.size w w') : Un W w' P F T lo dp d m X s m1 := h.lc (Lc.of hb []) (fun k hk => by cases hk)
theorem Un.set (h : Un W w P F T lo dp d m X s m1) {B : Nat} (hB : Free W P F T X m1 B) (i : Nat) (u : Value) : Un W (w.setCell ⟨B, i, none⟩ u) P F T lo dp d m X s m1 := h.lc (Lc.set w B i u (List.mem_singleton.2 rfl)) (fun k hk => by rw [List.mem_singleton.1 hk]; exact hB)
theorem Un.aside (h : Un W w P F T lo dp d m X s m1) (ha : Aside P w w') (hp : PsAt w' P F T lo dp s2 m1) (hf : Fit d s2) : Stepped W w w' P F T lo dp d m X m1 s2 m1 :=
  ⟨⟨hp, h.outs.trans h.later (OutsX.of ha X), h.later, h.env.aside ha, hf⟩, Outs.aside ha, Later.refl _ _ _⟩
theorem Un.threw {bd : Bd} {e : Ending} (h : Un W w P F T lo dp d m X s m1) (hk : ThrewP w P bd e w') : Bad W P F m X bd e w' := by
  obtain ⟨D, h1, h2, h3, h4⟩ := hk
  exact ⟨D, h1, Nat.le_trans h.outs.size h2, h3, h.outs.trans h.later (OutsX.of h4 X)⟩
theorem Un.want (h : Un W w P F T lo dp d m X s m1) {b : ByteArray} (hb : b ≠ ⟨#[]⟩) : Calls Tryz.prog 99 #[.pointer (some ⟨P, 0, none⟩), .string b] w (Stp W w P F T lo dp d m X m1 tkV (wantM b s)) := by
  refine (want_ps h.ps hb).mono ?_
  intro e w' hk
  unfold Stp
  cases hm : wantM b s with
  | error bd => rw [hm] at hk; exact h.threw hk
  | ok y =>
    obtain ⟨t, s2⟩ := y
    rw [hm] at hk
    obtain ⟨rfl, hp, ha⟩ := hk
    exact ⟨rfl, _, h.aside ha hp (h.fit.dec (Dec.want hb) (by decide) hm)⟩
theorem Un.kind (h : Un W w P F T lo dp d m X s m1) {k : Int} (hk : k ≠ 0) : Calls Tryz.prog 35 #[.pointer (some ⟨P, 0, none⟩), .int .i64 k] w (Stp W w P F T lo dp d m X m1 tkV (kindM k s)) := by
  refine (kind_ps h.ps hk).mono ?_
  intro e w' hk
  unfold Stp
  cases hm : kindM k s with
  | error bd => rw [hm] at hk; exact h.threw hk
  | ok y =>
    obtain ⟨t, s2⟩ := y
    rw [hm] at hk
    obtain ⟨rfl, hp, ha⟩ := hk
    exact ⟨rfl, _, h.aside ha hp (h.fit.dec Dec.kind0 (by decide) hm)⟩
theorem Un.skip (h : Un W w P F T lo dp d m X s m1) {b : ByteArray} (hb : b ≠ ⟨#[]⟩) : Calls Tryz.prog 74 #[.pointer (some ⟨P, 0, none⟩), .string b] w (Stp W w P F T lo dp d m X m1 Value.bool (skipM b s)) := by
  refine (skip_ps h.ps hb).mono ?_
  intro e w' hk
  unfold Stp
  cases hm : skipM b s with
  | error bd => rw [hm] at hk; exact hk.elim
  | ok y =>
    obtain ⟨t, s2⟩ := y
    rw [hm] at hk
    obtain ⟨rfl, hp, ha⟩ := hk
    exact ⟨rfl, _, h.aside ha hp (h.fit.dec Dec.skip (by decide) hm)⟩
theorem Un.lines (h : Un W w P F T lo dp d m X s m1) : Calls Tryz.prog 51 #[.pointer (some ⟨P, 0, none⟩)] w (Stp W w P F T lo dp d m X m1 Value.bool (linesM s)) := by
  refine (lines_ps h.ps).mono ?_
  intro e w' hk
  unfold Stp
  cases hm : linesM s with
  | error bd => rw [hm] at hk; exact hk.elim
  | ok y =>
    obtain ⟨t, s2⟩ := y
    rw [hm] at hk
    obtain ⟨rfl, hp, ha⟩ := hk
    exact ⟨rfl, _, h.aside ha hp (h.fit.dec Dec.lines (by decide) hm)⟩
theorem Un.is (h : Un W w P F T lo dp d m X s m1) (b : ByteArray) : Calls Tryz.prog 102 #[.pointer (some ⟨P, 0, none⟩), .string b] w (fun e w' => e = .returned (.bool (isW b (next s))) ∧ Stepped W w w' P F T lo dp d m X m1 (peekS s) m1) := by
  refine (is_ps h.ps b).mono ?_
  rintro e w' ⟨rfl, hp, ha⟩
  exact ⟨rfl, h.aside ha hp h.fit.peek⟩
theorem Un.peek (h : Un W w P F T lo dp d m X s m1) : Calls Tryz.prog 52 #[.pointer (some ⟨P, 0, none⟩)] w (fun e w' => e = .returned (tkV (next s)) ∧ Stepped W w w' P F T lo dp d m X m1 (peekS s) m1) := by
  refine (peek_ps h.ps).mono ?_
  rintro e w' ⟨rfl, hp, ha⟩
  exact ⟨rfl, h.aside ha hp h.fit.peek⟩
theorem Un.take (h : Un W w P F T lo dp d m X s m1) (hk : (next s).k ≠ 0) : Calls Tryz.prog 53 #[.pointer (some ⟨P, 0, none⟩)] w (fun e w' => e = .returned (tkV (next s)) ∧ Stepped W w w' P F T lo dp d m X m1 (takeS s) m1) := by
  refine (take_ps h.ps hk).mono ?_
  rintro e w' ⟨rfl, hp, ha⟩
  exact ⟨rfl, h.aside ha hp h.fit.take⟩
/-- A reader. -/
theorem Un.reads (h : Un W w P F T lo dp d m X s m1) {fn : Nat} {args : Array Value} {sp : PM Nat} (hR : Rds P F T lo dp d fn args sp) (hD : Dec d 0 sp) : Calls Tryz.prog fn args w (Stp W w P F T lo dp d m X m1 natV (sp s)) := by
  refine (hR w s m1 h.ps h.env h.fit).mono ?_
  intro e w' hk
  unfold Stp
  unfold PEnd at hk
  cases hm : sp s with
  | error bd =>
    rw [hm] at hk
    obtain ⟨D, h1, h2, h3, h4⟩ := hk
    exact ⟨D, h1, Nat.le_trans h.outs.size h2, h3, h.outs.trans h.later (h4.x X)⟩
  | ok y =>
    obtain ⟨a, s2⟩ := y
    rw [hm] at hk
    obtain ⟨rfl, m2, hp, ho, hl⟩ := hk
    exact ⟨rfl, m2, ⟨hp, h.outs.trans h.later (ho.x X), h.later.trans h.outs.size hl, h.env.outs h.ps ho, h.fit.dec hD (by decide) hm⟩, ho, hl⟩
/-- The last step is the walk's own ending. -/
theorem Stp.p {α : Type} {val : α → Value} {r : PR α} {e : Ending} (h : Stp W w P F T lo dp d m [] m1 val r e w') : PEnd W P F T lo dp m val r e w' := by
  unfold Stp at h
  unfold PEnd
  cases r with
  | error bd =>
    obtain ⟨D, h1, h2, h3, h4⟩ := h
    exact ⟨D, h1, h2, h3, h4.o⟩
  | ok y =>
    obtain ⟨a, s2⟩ := y
    obtain ⟨h1, m2, h2⟩ := h
    exact ⟨h1, m2, h2.un.ps, h2.un.outs.o, h2.un.later⟩
theorem Bad.p {α : Type} {val : α → Value} {bd : Bd} {e : Ending} (h : Bad W P F m [] bd e w') : PEnd W P F T lo dp m val (.error bd : PR α) e w' := by
  obtain ⟨D, h1, h2, h3, h4⟩ := h
  exact ⟨D, h1, h2, h3, h4.o⟩
theorem Bad.k {α : Type} {val : α → Value} {St : α → FileM → World → Prop} {bd : Bd} {e : Ending} (h : Bad W P F m X bd e w') : KEnd W P F T lo dp m X St (.error bd : PR α) val e w' := h
/-- An expression that has ended, as the last step. -/
theorem Un.add (h : Un W w P F T lo dp d m [] s m1) {x : ExM} (hx : x.Ok lo w) (hxf : ∀ g ∈ x.foot, g ∉ m1.foot F ∧ g ≠ P ∧ g ≠ T ∧ W.heap.size ≤ g) (hxn : x.foot.Nodup) :
    Calls Tryz.prog 105 #[.pointer (some ⟨P, 0, none⟩), .agg #[.int .i64 x.e.k, .string x.e.x, x.av, x.kv, .int .i64 (x.e.at_ : Int)]] w (PEnd W P F T lo dp m natV (addM x.e s)) := by
  refine (add_any h.ps hx (fun g hg => ⟨(hxf g hg).1, (hxf g hg).2.1, (hxf g hg).2.2.1⟩) hxn h.fit.room).mono ?_
  rintro e w' ⟨rfl, m', hp', ho, hl⟩
  refine ⟨rfl, m', hp', (h.outs.trans h.later (ho.x [])).o, ⟨fun g hg => ?_, hl.tv.trans h.later.tv⟩⟩
  rcases hl g hg with h1 | h1 | h1
  · exact h.later g h1
  · exact .inr (hxf g h1).2.2.2
  · exact .inr (Nat.le_trans h.outs.size h1)
theorem Un.addE {E : Nat} {x : ExM} (h : Un W w P F T lo dp d m [] s m1) (hx : UnE w P F T lo W.heap.size m1 E x) :
    Calls Tryz.prog 105 #[.pointer (some ⟨P, 0, none⟩), .agg #[.int .i64 x.e.k, .string x.e.x, x.av, x.kv, .int .i64 (x.e.at_ : Int)]] w (PEnd W P F T lo dp m natV (addM x.e s)) :=
  h.add hx.ok (fun g hg => ⟨(hx.foot g hg).1, (hx.foot g hg).2.1, (hx.foot g hg).2.2.1, (hx.foot g hg).2.2.2.2⟩) hx.nodup
theorem Un.addNone (h : Un W w P F T lo dp d m [] s m1) (k : Int) (x : ByteArray) (a : Nat) :
    Calls Tryz.prog 105 #[.pointer (some ⟨P, 0, none⟩), .agg #[.int .i64 k, .string x, .slice none 0 0, .slice none 0 0, .int .i64 (a : Int)]] w (PEnd W P F T lo dp m natV (addM ⟨k, x, [], [], a⟩ s)) :=
  h.add (x := ⟨⟨k, x, [], [], a⟩, .slice none 0 0, .slice none 0 0⟩) ⟨World.ownsRow_nil _ _ _ _, World.ownsRow_nil _ _ _ _⟩ (fun g hg => by cases hg) (by simp [ExM.foot, ownB, Value.ownBlock])
/-- Behind a reader of a closure, too. -/
theorem Un.kend {α : Type} {X' : List Nat} {St : α → FileM → World → Prop} {val : α → Value} {a : α} {e : Ending} (h : Un W w P F T lo dp d m X s m1) (hX : ∀ k ∈ X', 4 ≤ k ∧ (k ∈ X ∨ W.heap.size ≤ k)) (hf : Fit d s2) (hk : KEnd w P F T lo dp m1 X' St (.ok (a, s2)) val e w') :
    e = .returned (val a) ∧ ∃ m2, Un W w' P F T lo dp d m X s2 m2 ∧ OutsX w w' P F m1 X' ∧ Later w F m1 m2 ∧ St a m2 w' := by
  obtain ⟨h1, m2, h2, h3, h4, h5⟩ := hk
  refine ⟨h1, m2, ⟨h2, h.outs.join h.later h3 (fun k hk => (hX k hk).2), h.later.trans h.outs.size h4, h.env.keep h3.size (fun k hk => h3.block k (Nat.lt_of_lt_of_le hk h.env.ready.1) (by have := h.env.far; omega) (fun hm => ?_) (fun hm => by have := (hX k hm).1; omega)), hf⟩, h3, h4, h5⟩
  have h1 := (h.ps.file.lt k hm).2
  have h2 := h.ps.base.1
  have h3 := h.env.far.2
  omega
theorem Un.kbad {α : Type} {X' : List Nat} {St : α → FileM → World → Prop} {val : α → Value} {bd : Bd} {e : Ending} (h : Un W w P F T lo dp d m X s m1) (hX : ∀ k ∈ X', k ∈ X ∨ W.heap.size ≤ k) (hk : KEnd w P F T lo dp m1 X' St (.error bd : PR α) val e w') : Bad W P F m X bd e w' := by
  obtain ⟨D, h1, h2, h3, h4⟩ := hk
  exact ⟨D, h1, Nat.le_trans h.outs.size h2, h3, h.outs.join h.later h4 hX⟩
theorem Un.k {α : Type} {St : α → FileM → World → Prop} {val : α → Value} {a : α} (h : Un W w P F T lo dp d m X s m1) (hs : St a m1 w) : KEnd W P F T lo dp m X St (.ok (a, s)) val (.returned (val a)) w := ⟨rfl, m1, h.ps, h.outs, h.later, hs⟩
end
/-- What a function value says of the expression under way that it holds. -/
def StE {α : Type} (P F T lo N E : Nat) (ex : α → Ex) : α → FileM → World → Prop := fun a m w => ∃ x : ExM, x.e = ex a ∧ UnE w P F T lo N m E x
theorem StE.aside {α : Type} {P F T lo N E : Nat} {ex : α → Ex} : ∀ (a : α) (m : FileM) (w w' : World), StE P F T lo N E ex a m w → Aside P w w' → StE P F T lo N E ex a m w' := fun a m w w' ⟨x, h1, h2⟩ ha => ⟨x, h1, h2.aside ha⟩
end Go.Proofs.YtljgggohjigaoaaGreatDoor
