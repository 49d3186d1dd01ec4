/- The parser and its file; an expression that has ended · The parser's state through small steps; what stands between two signs · What stands between two signs, one level deeper -/
import Derived.Deep.RegionLaw
import Derived.Deep.AppendLies
import Derived.BigRegion
import Derived.Test.YtljgggohjigaoaaGreatDoorSk09
namespace Go.Proofs.YtljgggohjigaoaaGreatDoor
open Go.RowKit Go.Shelf
set_option linter.unusedVariables false

/-- The parser at P, in a state; what it has made in F, its rows from lo on. -/
structure PsAt (W : World) (P F T lo dp : Nat) (s : Ps) (m : FileM) : Prop where
 tok : ParAt W P F T dp s.over s.toks
 ton : T ∉ m.foot F
 good : GoodT s.toks
 file : FileOk W F lo m s.f
 far : P ∉ m.foot F
 base : F < lo ∧ lo ≤ W.heap.size
/-- All else is as it was. -/
structure Outs (W W' : World) (P F : Nat) (m : FileM) : Prop where
 os : W'.os = W.os
 tape : W'.tape = W.tape
 output : W'.output = W.output
 size : W.heap.size ≤ W'.heap.size
 block : ∀ k, k < W.heap.size → k ≠ P → k ∉ m.foot F → W'.heap[k]? = W.heap[k]?
/-- Rows that grew, or are new. -/
def Kept (m m' : FileM) : Prop := m.lk = true → m'.tv = m.tv ∧ m'.lk = true
theorem Kept.refl (m : FileM) : Kept m m := fun h => ⟨rfl, h⟩
theorem Kept.trans {a b c : FileM} (k : Kept b c) (h : Kept a b) : Kept a c := fun l => ⟨(k (h l).2).1.trans (h l).1, (k (h l).2).2⟩
structure Later (W : World) (F : Nat) (m m' : FileM) : Prop where
 at_ : ∀ g ∈ m'.foot F, g ∈ m.foot F ∨ W.heap.size ≤ g
 tv : Kept m m'
instance {W : World} {F : Nat} {m m' : FileM} : CoeFun (Later W F m m') (fun _ => ∀ g ∈ m'.foot F, g ∈ m.foot F ∨ W.heap.size ≤ g) := ⟨Later.at_⟩
/-- The same with rows that are handed over. -/
structure LaterY (W : World) (F : Nat) (m : FileM) (Y : List Nat) (m' : FileM) : Prop where
 at_ : ∀ g ∈ m'.foot F, g ∈ m.foot F ∨ g ∈ Y ∨ W.heap.size ≤ g
 tv : Kept m m'
instance {W : World} {F : Nat} {m m' : FileM} {Y : List Nat} : CoeFun (LaterY W F m Y m') (fun _ => ∀ g ∈ m'.foot F, g ∈ m.foot F ∨ g ∈ Y ∨ W.heap.size ≤ g) := ⟨LaterY.at_⟩
theorem Outs.refl (W : World) (P F : Nat) (m : FileM) : Outs W W P F m := ⟨rfl, rfl, rfl, Nat.le_refl _, fun _ _ _ _ => rfl⟩
theorem Later.refl (W : World) (F : Nat) (m : FileM) : Later W F m m := ⟨fun g hg => .inl hg, Kept.refl m⟩
theorem Outs.trans {a b c : World} {P F : Nat} {m m' : FileM} (h : Outs a b P F m) (hl : Later a F m m') (k : Outs b c P F m') : Outs a c P F m :=
 ⟨k.os.trans h.os, k.tape.trans h.tape, k.output.trans h.output, Nat.le_trans h.size k.size, fun i hi h1 h2 => (k.block i (Nat.lt_of_lt_of_le hi h.size) h1 (fun e => by
  rcases hl i e with h3 | h3
  ·exact h2 h3
  ·omega)).trans (h.block i hi h1 h2)⟩
theorem Later.trans {a b : World} {F : Nat} {m m' m'' : FileM} (hs : a.heap.size ≤ b.heap.size) (h : Later a F m m') (k : Later b F m' m'') : Later a F m m'' := by
 refine ⟨fun g hg => ?_, k.tv.trans h.tv⟩
 rcases k g hg with h1 | h1
 ·exact h g h1
 ·exact .inr (Nat.le_trans hs h1)
theorem Outs.aside {W W' : World} {P F : Nat} {m : FileM} (h : Aside P W W') : Outs W W' P F m := ⟨h.os, h.tape, h.output, h.size, fun k hk h1 _ => h.block k hk h1⟩
theorem FileOk.aside {W W' : World} {P F lo : Nat} {m : FileM} {f : Fi} (h : FileOk W F lo m f) (ha : Aside P W W') (hP : P ∉ m.foot F) : FileOk W' F lo m f := h.keep (fun g hg => ha.block g (h.lt g hg).1 (fun e => hP (by rw [← e]; exact hg)))
theorem PsAt.below {W W' : World} {P F T lo dp : Nat} {s : Ps} {m : FileM} (h : PsAt W P F T lo dp s m) (hb : Below W.heap.size W W') : PsAt W' P F T lo dp s m :=
 ⟨h.tok.below hb, h.ton, h.good, h.file.keep (fun k hk => hb.block k (h.file.lt k hk).1), h.far, h.base.1, Nat.le_trans h.base.2 hb.size⟩
/-- How a reader ends. -/
def PEnd {α : Type} (W : World) (P F T lo dp : Nat) (m : FileM) (val : α → Value) (r : PR α) (e : Ending) (w' : World) : Prop := match r with
 | .ok (a, s') => e = .returned (val a) ∧ ∃ m', PsAt w' P F T lo dp s' m' ∧ Outs W w' P F m ∧ Later W F m m'
 | .error bd => ∃ D, e = .panicked [{ v := .iface 29 (.pointer (some ⟨D, 0, none⟩)), recovered := false }] ∧ W.heap.size ≤ D ∧ Blk w' D #[.int .i64 bd.1, .string ⟨#[]⟩, .int .i64 (bd.2 : Int)] 34 ∧ Outs W w' P F m
theorem Blk.grw {w w' : World} {B : Nat} {cs : Array Value} {t : TypeId} {row : Option Nat} (h : Blk w B cs t) (hg : w.grownBy w' row) (hne : some B ≠ row) : Blk w' B cs t := (hg.block B h.lt hne).trans h
theorem Blk.grwD {w w' : World} {B : Nat} {cs : Array Value} {t : TypeId} {row : Option Nat} (h : Blk w B cs t) (hg : w.drew.grownBy w' row) (hne : some B ≠ row) : Blk w' B cs t := Blk.grw (w := w.drew) h hg hne
theorem infoE0 : (Tryz.prog.info? 38).map (fun i => (i.zero.map (·.cells.size), i.size, i.bytes)) = some (some 5, 5, 80) := by kernel_rfl
theorem infoE : ∃ (i : TypeInfo) (z : Value), Tryz.prog.info? 38 = some i ∧ i.zero = some z ∧ z.cells.size = 5 ∧ i.size = 5 ∧ i.bytes = 80 := by
 have h := infoE0
 cases hi : Tryz.prog.info? 38 with
 | none => rw [hi] at h; cases h
 | some i =>
  rw [hi] at h
  simp only [Option.map_some, Option.some.injEq, Prod.mk.injEq] at h
  obtain ⟨h1, h2, h3⟩ := h
  cases hz : i.zero with
  | none => rw [hz] at h1; cases h1
  | some z => rw [hz] at h1; exact ⟨i, z, rfl, hz, by simpa using h1, h2, h3⟩
theorem slice_of {w : World} {B e size n : Nat} {v : Value} {xs : List Value} (h : w.ownsRow B e size v n xs) : ∃ ad cap, v = .slice ad n cap := by
 obtain ⟨-, ⟨e, h0⟩ | ⟨g, cap, cur, e, -⟩⟩ := h
 ·exact ⟨none, 0, by rw [e, h0]⟩
 ·exact ⟨_, cap, e⟩
set_option maxRecDepth 100000 in
set_option maxHeartbeats 8000000 in
theorem add_any {W : World} {P F T lo dp : Nat} {s : Ps} {m : FileM} (h : PsAt W P F T lo dp s m) {x : ExM} (hx : x.Ok lo W) (hxf : ∀ g ∈ x.foot, g ∉ m.foot F ∧ g ≠ P ∧ g ≠ T) (hxn : x.foot.Nodup) (hroom : s.f.exprs.length ≤ 1000000000) :
  Calls Tryz.prog 105 #[.pointer (some ⟨P, 0, none⟩), .agg #[.int .i64 x.e.k, .string x.e.x, x.av, x.kv, .int .i64 (x.e.at_ : Int)]] W (fun e w' => e = .returned (.int .i64 (s.f.exprs.length : Int)) ∧ ∃ m', PsAt w' P F T lo dp { s with f := { s.f with exprs := s.f.exprs ++ [x.e] } } m' ∧ Outs W w' P F m ∧ LaterY W F m x.foot m') := by
 obtain ⟨iE, zE, hiE, hzE, hzE5, hsE, hbE⟩ := infoE
 obtain ⟨aa, ac, haa⟩ := slice_of hx.args
 obtain ⟨ka, kc, hka⟩ := slice_of hx.keys
 have hcel : x.cells = [.int .i64 x.e.k, .string x.e.x, .slice aa x.e.args.length ac, .slice ka x.e.keys.length kc, .int .i64 (x.e.at_ : Int)] := by unfold ExM.cells; rw [haa, hka]
 rw [haa, hka]
 obtain ⟨W1, hW1⟩ : ∃ W1, W.alloc (.cells #[.int .i64 x.e.k, .string x.e.x, .slice aa x.e.args.length ac, .slice ka x.e.keys.length kc, .int .i64 (x.e.at_ : Int)] 38) = W1 := ⟨_, rfl⟩
 have hb1 : Below W.heap.size W W1 := by rw [← hW1]; exact below_new _ _
 have hk1 : Blk W1 W.heap.size #[.int .i64 x.e.k, .string x.e.x, .slice aa x.e.args.length ac, .slice ka x.e.keys.length kc, .int .i64 (x.e.at_ : Int)] 38 := by rw [← hW1]; exact Blk.new _ _ _
 have hs1 : W1.heap.size = W.heap.size + 1 := by rw [← hW1]; simp
 have h1 := h.below hb1
 have hx1 : x.Ok lo W1 := hx.keep (fun g hg => hb1.block g (hx.lt g hg).2)
 obtain ⟨ea, ec, hea⟩ := slice_of h1.file.exprs
 obtain ⟨n, hn⟩ : ∃ n, m.ms.length = n := ⟨_, rfl⟩
 have hrow := h1.file.exprs.alloc (.cells #[.int .i64 x.e.k, .string x.e.x, .slice aa x.e.args.length ac, .slice ka x.e.keys.length kc, .int .i64 (x.e.at_ : Int)] 38)
 have hblk := World.alloc_heap_new W1 (.cells #[.int .i64 x.e.k, .string x.e.x, .slice aa x.e.args.length ac, .slice ka x.e.keys.length kc, .int .i64 (x.e.at_ : Int)] 38)
 rw [hs1] at hblk
 have hnr : n ≤ 1000000000 := by rw [← hn, ← List.length_map (f := ExM.e), h.file.es]; exact hroom
 have hlo := h1.base.2
 have hbx0 := h1.file.box
 have hFne : some F ≠ m.ev.ownBlock := fun e => by
  have hh := h1.file.nodup
  unfold FileM.foot at hh
  exact (List.nodup_append.1 hh).2.2 F (mem_ownB.2 e.symm) F List.mem_cons_self rfl
 have hFne2 := hFne
 rw [hea, hn] at hFne2
 have HF := Lib.hid hFne2
 have HBX := Lib.hid hbx0
 have HALL := Lib.hid (And.intro h (And.intro h1 (And.intro hx1 (And.intro hxf (And.intro hxn hcel)))))
 have HW1 := Lib.hid (And.intro hb1 (And.intro hk1 hs1))
 obtain ⟨hgP, tv, hpb, hto⟩ := h1.tok
 have p3 := hpb.cell 3
 have p3a := (hpb.alloc (.cells #[.int .i64 x.e.k, .string x.e.x, .slice aa x.e.args.length ac, .slice ka x.e.keys.length kc, .int .i64 (x.e.at_ : Int)] 38)).cell 3
 have HPB := Lib.hid hpb
 have bx0a := (hbx0.alloc (.cells #[.int .i64 x.e.k, .string x.e.x, .slice aa x.e.args.length ac, .slice ka x.e.keys.length kc, .int .i64 (x.e.at_ : Int)] 38)).cell 0
 have hPne : some P ≠ (Value.slice ea n ec).ownBlock := fun e => by
  rw [← hn, ← hea] at e
  exact h1.far (mem_foot.2 (.inl e.symm))
 have HPN := Lib.hid hPne
 have bx0 := hbx0.cell 0
 have bf0 := (hbx0.alloc (.cells #[.int .i64 x.e.k, .string x.e.x, .slice aa x.e.args.length ac, .slice ka x.e.keys.length kc, .int .i64 (x.e.at_ : Int)] 38)).frozen 0
 have v0 := hk1.cell 0
 have v1 := hk1.cell 1
 have v2 := hk1.cell 2
 have v3 := hk1.cell 3
 have v4 := hk1.cell 4
 rw [hea, hn] at bx0 bx0a hrow
 have HEA := Lib.hid (And.intro hea hn)
 clear h h1 hx hx1 hxf hxn hroom hb1 hcel hbx0 hpb hto hk1 hFne hFne2 hPne haa hka hea hn
 go_enter Tryz.func105, Tryz.ntmps105
 go_wp2_with fail
 refine have AFTER : (∀ (w3 : World) (g2 cap2 : Nat), (w3.ownsRow lo 38 5 (.slice (some ⟨g2, 0, none⟩) (n + 1) cap2) (n + 1) (m.ms.flatMap ExM.cells ++ [.int .i64 x.e.k, .string x.e.x, .slice aa x.e.args.length ac, .slice ka x.e.keys.length kc, .int .i64 (x.e.at_ : Int)])) ∧ (W1.alloc (.cells #[.int .i64 x.e.k, .string x.e.x, .slice aa x.e.args.length ac, .slice ka x.e.keys.length kc, .int .i64 (x.e.at_ : Int)] 38)).drew.grownBy w3 (Value.slice ea n ec).ownBlock ∧ ((Value.slice ea n ec).ownBlock = some g2 ∨ g2 = (W1.alloc (.cells #[.int .i64 x.e.k, .string x.e.x, .slice aa x.e.args.length ac, .slice ka x.e.keys.length kc, .int .i64 (x.e.at_ : Int)] 38)).heap.size) ∧ g2 < w3.heap.size → (?G : World → Nat → Nat → Prop) w3 g2 cap2) := ?later; ?main
 case main =>
  go_region_law (refine step_append_lies _ rfl (.tmp 15) (.tmp 17) 24 rfl lo 38 iE zE 5 80 Tryz.underlying24 hiE hzE hsE hbE hzE5 (by decide) _ _ _ rfl hrow ⟨W.heap.size + 1, 0, none⟩ 1 1 [.int .i64 x.e.k, .string x.e.x, .slice aa x.e.args.length ac, .slice ka x.e.keys.length kc, .int .i64 (x.e.at_ : Int)] rfl rfl (World.news_of_block hblk) (by intro u hu; simp at hu; rcases hu with rfl | rfl | rfl | rfl | rfl <;> rfl) (by decide) (by unfold maxLen; omega) (by omega) (by simp; omega) _ rfl ?_; intro g2 cap2 w3 hown hgrow hat hlt; have hbx3 := (HBX.out.alloc (.cells #[.int .i64 x.e.k, .string x.e.x, .slice aa x.e.args.length ac, .slice ka x.e.keys.length kc, .int .i64 (x.e.at_ : Int)] 38)).grwD hgrow HF.out; have c30 := hbx3.cell 0; have f30 := hbx3.frozen 0; have p30 := ((HPB.out.alloc (.cells #[.int .i64 x.e.k, .string x.e.x, .slice aa x.e.args.length ac, .slice ka x.e.keys.length kc, .int .i64 (x.e.at_ : Int)] 38)).grwD hgrow HPN.out).cell 3)
  all_goals exact AFTER w3 g2 cap2 ⟨hown, hgrow, hat, hlt⟩
 case later =>
  intro w3 g2 cap2 ⟨hown, hgrow, hat, hlt⟩
  obtain ⟨h, h1, hx1, hxf, hxn, hcel⟩ := HALL.out
  have hg' : (W1.alloc (.cells #[.int .i64 x.e.k, .string x.e.x, .slice aa x.e.args.length ac, .slice ka x.e.keys.length kc, .int .i64 (x.e.at_ : Int)] 38)).grownBy w3 m.ev.ownBlock := by
   rw [HEA.out.1, HEA.out.2]
   exact ⟨hgrow.os, hgrow.tape, hgrow.output, hgrow.size, hgrow.block⟩
  have hat' : m.ev.ownBlock = some g2 ∨ g2 = (W1.alloc (.cells #[.int .i64 x.e.k, .string x.e.x, .slice aa x.e.args.length ac, .slice ka x.e.keys.length kc, .int .i64 (x.e.at_ : Int)] 38)).heap.size := by
   rw [HEA.out.1, HEA.out.2]
   exact hat
  have hown' : w3.ownsRow lo 38 5 (.slice (some ⟨g2, 0, none⟩) (m.ms.length + 1) cap2) (m.ms.length + 1) (m.ms.flatMap ExM.cells ++ x.cells) := by
   rw [HEA.out.2, hcel]
   exact hown
  have hadd := FileOk.addE h1.file h.base.1 h1.base.2 hx1 (fun g hg => (hxf g hg).1) hxn hown' hg' hat'
  rw [HEA.out.2] at hadd
  obtain ⟨wF, hwF⟩ : ∃ wF, w3.setCell ⟨F, 0, none⟩ (.slice (some ⟨g2, 0, none⟩) (n + 1) cap2) = wF := ⟨_, rfl⟩
  rw [hwF] at hadd ⊢
  obtain ⟨hf4, hft4, hst4⟩ := hadd
  have hsz4 : W1.heap.size ≤ wF.heap.size := by
   rw [← hwF]
   have := hg'.size
   simp at this ⊢
   omega
  have hrk := h1.tok.ranks
  have hp4 : ParAt wF P F T dp s.over s.toks := h1.tok.same hsz4 (hst4 P hrk.1 h1.far) (hst4 T hrk.2.1 h1.ton)
  have hP4 : Blk wF P #[tv, .bool s.over, .int .i64 (dp : Int), .pointer (some ⟨F, 0, none⟩)] 64 := (hst4 P hrk.1 h1.far).trans HPB.out
  have hb4 := hf4.box
  have q3 := hP4.cell 3
  have q0 := hb4.cell 0
  have HEND := Lib.hid (And.intro hf4 (And.intro hft4 (And.intro hst4 (And.intro hp4 hsz4))))
  have HOS : Hid (wF.os = W.os ∧ wF.tape = W.tape ∧ wF.output = W.output) := Lib.hid (by
   rw [← hwF]
   exact ⟨hgrow.os.trans HW1.out.1.os, hgrow.tape.trans HW1.out.1.tape, hgrow.output.trans HW1.out.1.output⟩)
  have e1 : ((n : Int) + 1) - 1 = (n : Int) := by omega
  have HLN : Hid ((s.f.exprs.length : Int) = (n : Int)) := Lib.hid (by rw [← HEA.out.2, ← List.length_map (f := ExM.e), h.file.es])
  clear hf4 hft4 hst4 hp4 hP4 hb4 hwF hg' hat' hown' hown hgrow hat hlt h h1 hx1 hxf hxn hcel p3 p3a bx0 bx0a bf0 v0 v1 v2 v3 v4 hrow hblk hW1
  go_wp2_with fail
  go_ret
  obtain ⟨hf4, hft4, hst4, hp4, hsz4⟩ := HEND.out
  obtain ⟨h, h1, hx1, hxf, hxn, hcel⟩ := HALL.out
  have hs := HW1.out.2.2
  refine ⟨by rw [HLN.out]; rfl, _, ⟨hp4, fun hT => ?_, h.good, hf4, fun hP => ?_, h.base.1, Nat.le_trans h1.base.2 hsz4⟩, ⟨HOS.out.1, HOS.out.2.1, HOS.out.2.2, by omega, fun k hk hkP hkf => (hst4 k (by omega) hkf).trans (HW1.out.1.block k hk)⟩, ⟨fun g hg => ?_, fun h => ⟨rfl, h⟩⟩⟩
  ·rcases hft4 T hT with h2 | h2 | h2
   ·exact h.ton h2
   ·exact (hxf T h2).2.2 rfl
   ·have := h.tok.ranks; omega
  ·rcases hft4 P hP with h2 | h2 | h2
   ·exact h.far h2
   ·exact (hxf P h2).2.1 rfl
   ·have := h.tok.ranks; omega
  ·rcases hft4 g hg with h2 | h2 | h2
   ·exact .inl h2
   ·exact .inr (.inl h2)
   ·exact .inr (.inr (by omega))
end Go.Proofs.YtljgggohjigaoaaGreatDoor
namespace Go.Proofs.YtljgggohjigaoaaGreatDoor
open Go.RowKit Go.Shelf
set_option linter.unusedVariables false

section
variable {W W' : World} {P F T lo dp : Nat} {s : Ps} {m : FileM}
theorem PsAt.aside (h : PsAt W P F T lo dp s m) (ha : Aside P W W') {dp' : Nat} {s' : Ps} (ht : ParAt W' P F T dp' s'.over s'.toks) (hg : GoodT s'.toks) (hf : s'.f = s.f) : PsAt W' P F T lo dp' s' m :=
 ⟨ht, h.ton, hg, by rw [hf]; exact h.file.aside ha h.far, h.far, h.base.1, Nat.le_trans h.base.2 ha.size⟩
theorem PsAt.stays (h : PsAt W P F T lo dp s m) (ha : Aside P W W') (hP : W'.heap[P]? = W.heap[P]?) : PsAt W' P F T lo dp s m :=
 h.aside ha (h.tok.same ha.size hP (ha.block T h.tok.ranks.2.1 h.tok.ranks.2.2)) h.good rfl
theorem PsAt.setOver (h : PsAt W P F T lo dp s m) (b : Bool) : PsAt (W.setCell ⟨P, 1, none⟩ (.bool b)) P F T lo dp { s with over := b } m := by
 refine h.aside ((Aside.refl P W).set 1 _) ?_ h.good rfl
 obtain ⟨h1, tv, h2, h3⟩ := h.tok
 refine ⟨h1, tv, by have := h2.set 1 (.bool b); simpa using this, h3.keep (by simp) (Below.heap_setCell _ _ _ _ (by exact h1))⟩
theorem PsAt.setDepth (h : PsAt W P F T lo dp s m) (d : Nat) : PsAt (W.setCell ⟨P, 2, none⟩ (.int .i64 (d : Int))) P F T lo d s m := by
 refine h.aside ((Aside.refl P W).set 2 _) ?_ h.good rfl
 obtain ⟨h1, tv, h2, h3⟩ := h.tok
 refine ⟨h1, tv, by have := h2.set 2 (.int .i64 (d : Int)); simpa using this, h3.keep (by simp) (Below.heap_setCell _ _ _ _ (by exact h1))⟩
theorem PsAt.blk (h : PsAt W P F T lo dp s m) : ∃ tv, Blk W P #[tv, .bool s.over, .int .i64 (dp : Int), .pointer (some ⟨F, 0, none⟩)] 64 := by
 obtain ⟨h1, tv, h2, h3⟩ := h.tok
 exact ⟨tv, h2⟩
theorem PsAt.peeked (h : PsAt W P F T lo dp s m) (ha : Aside P W W') (ht : ParAt W' P F T dp s.over (peekL s.over s.toks)) : PsAt W' P F T lo dp (peekS s) m := h.aside ha ht (h.good.peek _) rfl
theorem PsAt.taken (h : PsAt W P F T lo dp s m) (ha : Aside P W W') (ht : ParAt W' P F T dp s.over ((peekL s.over s.toks).drop 1)) (hk : (next s).k ≠ 0) : PsAt W' P F T lo dp (takeS s) m := h.aside ha ht (h.good.taken hk) rfl
/-- A sign wanted. -/
theorem want_ps (h : PsAt W P F T lo dp s m) {w : ByteArray} (hw : w ≠ ⟨#[]⟩) : Calls Tryz.prog 99 #[.pointer (some ⟨P, 0, none⟩), .string w] W fun e w' => match wantM w s with
  | .ok (t, s') => e = .returned (tkV t) ∧ PsAt w' P F T lo dp s' m ∧ Aside P W w'
  | .error bd => ThrewP W P bd e w' := by
 unfold wantM
 cases hi : isW w (next s) with
 | true =>
  rw [if_pos rfl]
  refine (want_yes h.tok h.good hw hi).mono ?_
  rintro e w' ⟨rfl, hp, ha⟩
  exact ⟨rfl, h.taken ha hp (isW_kind h.good hw hi), ha⟩
 | false =>
  rw [if_neg (by decide)]
  exact want_no h.tok h.good hi
theorem kind_ps (h : PsAt W P F T lo dp s m) {k : Int} (hk : k ≠ 0) : Calls Tryz.prog 35 #[.pointer (some ⟨P, 0, none⟩), .int .i64 k] W fun e w' => match kindM k s with
  | .ok (t, s') => e = .returned (tkV t) ∧ PsAt w' P F T lo dp s' m ∧ Aside P W w'
  | .error bd => ThrewP W P bd e w' := by
 unfold kindM
 by_cases hi : (next s).k = k
 ·rw [if_pos hi]
  refine (wkind_yes hk h.tok h.good hi).mono ?_
  rintro e w' ⟨rfl, hp, ha⟩
  exact ⟨rfl, h.taken ha hp (by rw [hi]; exact hk), ha⟩
 ·rw [if_neg hi]
  exact wkind_no h.tok h.good hi
theorem skip_ps (h : PsAt W P F T lo dp s m) {w : ByteArray} (hw : w ≠ ⟨#[]⟩) : Calls Tryz.prog 74 #[.pointer (some ⟨P, 0, none⟩), .string w] W fun e w' => match skipM w s with
  | .ok (b, s') => e = .returned (.bool b) ∧ PsAt w' P F T lo dp s' m ∧ Aside P W w'
  | .error bd => False := by
 unfold skipM
 cases hi : isW w (next s) with
 | true =>
  rw [if_pos rfl]
  refine (pskip_yes h.tok h.good hw hi).mono ?_
  rintro e w' ⟨rfl, hp, ha⟩
  exact ⟨rfl, h.taken ha hp (isW_kind h.good hw hi), ha⟩
 | false =>
  rw [if_neg (by decide)]
  refine (pskip_no h.tok h.good hi).mono ?_
  rintro e w' ⟨rfl, hp, ha⟩
  exact ⟨rfl, h.peeked ha hp, ha⟩
theorem is_ps (h : PsAt W P F T lo dp s m) (w : ByteArray) : Calls Tryz.prog 102 #[.pointer (some ⟨P, 0, none⟩), .string w] W fun e w' => e = .returned (.bool (isW w (next s))) ∧ PsAt w' P F T lo dp (peekS s) m ∧ Aside P W w' := by
 refine (pis_any w h.tok h.good).mono ?_
 rintro e w' ⟨rfl, hp, ha⟩
 exact ⟨rfl, h.peeked ha hp, ha⟩
theorem peek_ps (h : PsAt W P F T lo dp s m) : Calls Tryz.prog 52 #[.pointer (some ⟨P, 0, none⟩)] W fun e w' => e = .returned (tkV (next s)) ∧ PsAt w' P F T lo dp (peekS s) m ∧ Aside P W w' := by
 refine (peek_any h.tok (h.good.peek _).ne).mono ?_
 rintro e w' ⟨rfl, hp, ha⟩
 exact ⟨rfl, h.peeked ha hp, ha⟩
theorem take_ps (h : PsAt W P F T lo dp s m) (hk : (next s).k ≠ 0) : Calls Tryz.prog 53 #[.pointer (some ⟨P, 0, none⟩)] W fun e w' => e = .returned (tkV (next s)) ∧ PsAt w' P F T lo dp (takeS s) m ∧ Aside P W w' := by
 refine (ptake_any h.tok (h.good.taken hk).ne).mono ?_
 rintro e w' ⟨rfl, hp, ha⟩
 exact ⟨rfl, h.taken ha hp hk, ha⟩
theorem lines_ps (h : PsAt W P F T lo dp s m) : Calls Tryz.prog 51 #[.pointer (some ⟨P, 0, none⟩)] W fun e w' => match linesM s with
  | .ok (b, s') => e = .returned (.bool b) ∧ PsAt w' P F T lo dp s' m ∧ Aside P W w'
  | .error bd => False := by
 refine (lines_any h.tok h.good).mono ?_
 rintro e w' ⟨rfl, hp, hg, ha⟩
 exact ⟨rfl, h.aside ha hp hg rfl, ha⟩
end
/-- All else is as it was, but some blocks that a function value holds. -/
structure OutsX (W W' : World) (P F : Nat) (m : FileM) (X : List Nat) : Prop where
 os : W'.os = W.os
 tape : W'.tape = W.tape
 output : W'.output = W.output
 size : W.heap.size ≤ W'.heap.size
 block : ∀ k, k < W.heap.size → k ≠ P → k ∉ m.foot F → k ∉ X → W'.heap[k]? = W.heap[k]?
theorem OutsX.of {W W' : World} {P F : Nat} {m : FileM} (h : Aside P W W') (X : List Nat) : OutsX W W' P F m X := ⟨h.os, h.tape, h.output, h.size, fun k hk h1 _ _ => h.block k hk h1⟩
theorem OutsX.trans {a b c : World} {P F : Nat} {m m' : FileM} {X : List Nat} (h : OutsX a b P F m X) (hl : Later a F m m') (k : OutsX b c P F m' X) : OutsX a c P F m X :=
 ⟨k.os.trans h.os, k.tape.trans h.tape, k.output.trans h.output, Nat.le_trans h.size k.size, fun i hi h1 h2 h3 => (k.block i (Nat.lt_of_lt_of_le hi h.size) h1 (fun e => by
  rcases hl i e with h4 | h4
  ·exact h2 h4
  ·omega) h3).trans (h.block i hi h1 h2 h3)⟩
/-- How a function value ends that reads: what it says of its own variables is St. -/
def KEnd {α : Type} (W : World) (P F T lo dp : Nat) (m : FileM) (X : List Nat) (St : α → FileM → World → Prop) (r : PR α) (val : α → Value) (e : Ending) (w' : World) : Prop := match r with
 | .ok (a, s') => e = .returned (val a) ∧ ∃ m', PsAt w' P F T lo dp s' m' ∧ OutsX W w' P F m X ∧ Later W F m m' ∧ St a m' w'
 | .error bd => ∃ D, e = .panicked [{ v := .iface 29 (.pointer (some ⟨D, 0, none⟩)), recovered := false }] ∧ W.heap.size ≤ D ∧ Blk w' D #[.int .i64 bd.1, .string ⟨#[]⟩, .int .i64 (bd.2 : Int)] 34 ∧ OutsX W w' P F m X
/-- What the function value of between does: ahead of the end that is wanted. -/
def inner {α : Type} (rd : PM α) (e : ByteArray) (over : Bool) : PM α := fun s => match rd { s with over := over } with
 | .error bd => .error bd
 | .ok (a, s2) => match wantM e s2 with
  | .error bd => .error bd
  | .ok (_, s3) => .ok (a, { s3 with over := s.over })
set_option maxRecDepth 100000 in
set_option maxHeartbeats 4000000 in
theorem between1_any {α : Type} {W : World} {P F T lo dp : Nat} {s : Ps} {m : FileM} (h : PsAt W P F T lo dp s m) {Bp Bo Br Be : Nat} {over : Bool} {en : ByteArray} (hen : en ≠ ⟨#[]⟩) {gr : Nat} {lbr : Array Value} (egr : ∀ args w, (callFunc gr args).run Tryz.prog w = .ok (.enter gr args) w)
  (bp : Blk W Bp #[.pointer (some ⟨P, 0, none⟩)] 88) (bo : Blk W Bo #[.bool over] 4) (br : Blk W Br #[.func (.func gr) #[] lbr] 1) (be : Blk W Be #[.string en] 9) {X : List Nat}
  (hfar : ∀ B, B = Bp ∨ B = Bo ∨ B = Br ∨ B = Be → B ≠ P ∧ B ∉ m.foot F ∧ B ∉ X) {rd : PM α} {St : α → FileM → World → Prop} (hst : ∀ a m w w', St a m w → Aside P w w' → St a m w')
  (hr : Calls Tryz.prog gr lbr (W.setCell ⟨P, 1, none⟩ (.bool over)) (KEnd (W.setCell ⟨P, 1, none⟩ (.bool over)) P F T lo dp m X St (rd { s with over := over }) (fun _ => .tuple #[]))) :
  Calls Tryz.prog 101 #[.pointer (some ⟨Bp, 0, none⟩), .pointer (some ⟨Bo, 0, none⟩), .pointer (some ⟨Br, 0, none⟩), .pointer (some ⟨Be, 0, none⟩)] W (KEnd W P F T lo dp m X St (inner rd en over s) (fun _ => .tuple #[])) := by
 obtain ⟨tv, hP⟩ := h.blk
 have HPS := Lib.hid h
 have HF := Lib.hid hfar
 have HST := Lib.hid hst
 have HEN := Lib.hid hen
 have HBX := Lib.hid (And.intro bp (And.intro bo (And.intro br be)))
 have p0 := bp.cell 0
 have o0 := bo.cell 0
 have r0 := br.cell 0
 have k1 := hP.cell 1
 have f1 := hP.frozen 1
 have d0 := (bp.other (p := ⟨P, 1, none⟩) (by exact (hfar Bp (.inl rfl)).1) (.bool over)).cell 0
 have d2 := (br.other (p := ⟨P, 1, none⟩) (by exact (hfar Br (.inr (.inr (.inl rfl)))).1) (.bool over)).cell 0
 have HA1 : Hid (Aside P W (W.setCell ⟨P, 1, none⟩ (.bool over))) := Lib.hid ((Aside.refl P W).set 1 _)
 obtain ⟨R, hR⟩ : ∃ R, rd { s with over := over } = R := ⟨_, rfl⟩
 rw [hR] at hr
 have HRD := Lib.hid hR
 have HR := Lib.hid hr
 obtain ⟨W1, hW1⟩ : ∃ W1, W.setCell ⟨P, 1, none⟩ (.bool over) = W1 := ⟨_, rfl⟩
 rw [hW1] at HA1 HR d0 d2
 obtain ⟨ov, hov⟩ : ∃ ov, s.over = ov := ⟨_, rfl⟩
 have HOV := Lib.hid hov
 rw [hov] at k1
 clear h hfar hst hen bp bo br be hP hr hR hov
 go_enter Tryz.func101, Tryz.ntmps101
 go_wp2_with fail
 refine HR.out.mono ?_
 intro e w2 hk
 have hAX := OutsX.of HA1.out X (F := F) (m := m)
 cases R with
 | error bd =>
  obtain ⟨D, rfl, hD, hdb, hox⟩ := hk
  refine ⟨rfl, ?_⟩
  have hi : inner rd en over s = .error bd := by unfold inner; rw [HRD.out]
  rw [hi]
  exact ⟨D, rfl, Nat.le_trans HA1.out.size hD, hdb, hAX.trans (Later.refl W F m) hox⟩
 | ok y =>
  obtain ⟨a, s2⟩ := y
  obtain ⟨rfl, m2, hp2, hox, hlt, hs2⟩ := hk
  have hkeep : ∀ {B : Nat} {cs : Array Value} {ty : TypeId}, (B = Bp ∨ B = Bo ∨ B = Br ∨ B = Be) → Blk W B cs ty → Blk w2 B cs ty := fun {B cs ty} hB hb => (hox.block B (Nat.lt_of_lt_of_le hb.lt HA1.out.size) (HF.out B hB).1 (HF.out B hB).2.1 (HF.out B hB).2.2).trans ((HA1.out.block B hb.lt (HF.out B hB).1).trans hb)
  have hbp2 := hkeep (.inl rfl) HBX.out.1
  have p02 := hbp2.cell 0
  have e02 := (hkeep (.inr (.inr (.inr rfl))) HBX.out.2.2.2).cell 0
  have HBP2 := Lib.hid hbp2
  have HP2 := Lib.hid hp2
  have HW2 := Lib.hid (And.intro hox (And.intro hlt hs2))
  have HWT := Lib.hid (want_ps hp2 HEN.out)
  have hPB := (HF.out Bp (.inl rfl)).1
  clear hp2 hox hlt hs2 hkeep hbp2 p0 o0 r0 k1 f1 d0 d2 hAX
  go_wp2_with fail
  go_at_call 99; refine HWT.out.mono ?_
  intro e w3 hw
  cases hwt : wantM en s2 with
  | error bd =>
   rw [hwt] at hw
   obtain ⟨D, rfl, hD, hdb, ha⟩ := hw
   refine ⟨rfl, ?_⟩
   have hi : inner rd en over s = .error bd := by unfold inner; rw [HRD.out]; simp only; rw [hwt]
   rw [hi]
   exact ⟨D, rfl, Nat.le_trans (Nat.le_trans HA1.out.size HW2.out.1.size) hD, hdb, ((OutsX.of HA1.out X).trans (Later.refl W F m) HW2.out.1).trans (⟨fun g hg => (HW2.out.2.1 g hg).imp id (Nat.le_trans HA1.out.size), HW2.out.2.1.tv⟩) (OutsX.of ha X)⟩
  | ok y =>
   obtain ⟨t3, s3⟩ := y
   rw [hwt] at hw
   obtain ⟨rfl, hp3, ha3⟩ := hw
   obtain ⟨tv3, hP3⟩ := hp3.blk
   have k3 := hP3.cell 1
   have f3 := hP3.frozen 1
   have p03 := (HBP2.out.aside ha3 hPB).cell 0
   have HP3 := Lib.hid (And.intro hp3 ha3)
   have HWE := Lib.hid hwt
   clear hp3 ha3 hP3 hwt p02 e02
   go_wp2_with fail
   first | go_end0 | go_ret
   have hi : inner rd en over s = .ok (a, { s3 with over := s.over }) := by unfold inner; rw [HRD.out]; simp only; rw [HWE.out]
   rw [hi]
   refine ⟨rfl, m2, ?_, ?_, ⟨fun g hg => (HW2.out.2.1 g hg).imp id (Nat.le_trans HA1.out.size), HW2.out.2.1.tv⟩, ?_⟩
   ·have := HP3.out.1.setOver ov
    rw [HOV.out]
    exact this
   ·exact ((OutsX.of HA1.out X).trans (Later.refl W F m) HW2.out.1).trans (⟨fun g hg => (HW2.out.2.1 g hg).imp id (Nat.le_trans HA1.out.size), HW2.out.2.1.tv⟩) (OutsX.of (HP3.out.2.set 1 _) X)
   ·exact HST.out _ _ _ _ HW2.out.2.2 (HP3.out.2.set 1 _)
end Go.Proofs.YtljgggohjigaoaaGreatDoor
namespace Go.Proofs.YtljgggohjigaoaaGreatDoor
open Go.RowKit Go.Shelf
set_option linter.unusedVariables false

/-- How many levels are left, and what reads there. -/
def Left24 (dp : Nat) (nx : Sub) : Prop := (dp = 24 ∧ nx = none) ∨ (dp < 24 ∧ ∃ p, nx = some p)
theorem inner_between {α : Type} {b en : ByteArray} {over : Bool} {nx : Sub} {f : PM Nat × PM Nat → PM α} {s : Ps} : betweenM b en over nx f s = (match wantM b s with
  | .error bd => .error bd
  | .ok (t, s1) => match nx with
   | none => .error (7, t.at_)
   | some p => match inner (f p) en over s1 with
    | .error bd => .error bd
    | .ok (a, s3) => .ok ((a, t.at_), s3)) := by
 unfold betweenM bindP deeperM inner
 cases wantM b s with
 | error bd => rfl
 | ok y =>
  obtain ⟨t, s1⟩ := y
  cases nx with
  | none => rfl
  | some p =>
   simp only
   cases f p { s1 with over := over } with
   | error bd => rfl
   | ok y =>
    obtain ⟨a, s2⟩ := y
    simp only
    cases wantM en s2 with
    | error bd => rfl
    | ok y => rfl
/-- A closure's ending, as deeper wants it. -/
theorem KEnd.reads {α : Type} {W : World} {P F T lo dp : Nat} {m : FileM} {X : List Nat} {St : α → FileM → World → Prop} {r : PR α} {e : Ending} {w : World} (h : KEnd W P F T lo dp m X St r (fun _ => .tuple #[]) e w) :
  ReadsK P F dp (fun w => ∃ a s', r = .ok (a, s') ∧ ∃ m', PsAt w P F T lo dp s' m' ∧ OutsX W w P F m X ∧ Later W F m m' ∧ St a m' w) (fun v w => ∃ bd D, r = .error bd ∧ v = .iface 29 (.pointer (some ⟨D, 0, none⟩)) ∧ W.heap.size ≤ D ∧ Blk w D #[.int .i64 bd.1, .string ⟨#[]⟩, .int .i64 (bd.2 : Int)] 34 ∧ OutsX W w P F m X) e w := by
 unfold KEnd at h
 cases r with
 | error bd =>
  obtain ⟨D, h1, h2, h3, h4⟩ := h
  exact .inr ⟨_, h1, bd, D, rfl, rfl, h2, h3, h4⟩
 | ok y =>
  obtain ⟨a, s'⟩ := y
  obtain ⟨h1, m', h2, h3, h4, h5⟩ := h
  obtain ⟨tv, hb⟩ := h2.blk
  exact .inl ⟨h1, ⟨a, s', rfl, m', h2, h3, h4, h5⟩, tv, _, hb⟩
theorem four_boxes (W : World) (a b c d : Value) (ta tb tc td : TypeId) : Below W.heap.size W ((((W.alloc (.cells #[a] ta)).alloc (.cells #[b] tb)).alloc (.cells #[c] tc)).alloc (.cells #[d] td)) ∧ Blk ((((W.alloc (.cells #[a] ta)).alloc (.cells #[b] tb)).alloc (.cells #[c] tc)).alloc (.cells #[d] td)) W.heap.size #[a] ta ∧ Blk ((((W.alloc (.cells #[a] ta)).alloc (.cells #[b] tb)).alloc (.cells #[c] tc)).alloc (.cells #[d] td)) (W.heap.size + 1) #[b] tb ∧ Blk ((((W.alloc (.cells #[a] ta)).alloc (.cells #[b] tb)).alloc (.cells #[c] tc)).alloc (.cells #[d] td)) (W.heap.size + 1 + 1) #[c] tc ∧ Blk ((((W.alloc (.cells #[a] ta)).alloc (.cells #[b] tb)).alloc (.cells #[c] tc)).alloc (.cells #[d] td)) (W.heap.size + 1 + 1 + 1) #[d] td := by
 have h1 := below_new W (.cells #[a] ta)
 have h2 := h1.alloc h1.size (.cells #[b] tb)
 have h3 := h2.alloc h2.size (.cells #[c] tc)
 have h4 := h3.alloc h3.size (.cells #[d] td)
 have k1 := (((Blk.new W #[a] ta).alloc (.cells #[b] tb)).alloc (.cells #[c] tc)).alloc (.cells #[d] td)
 have k2 := ((Blk.new (W.alloc (.cells #[a] ta)) #[b] tb).alloc (.cells #[c] tc)).alloc (.cells #[d] td)
 have k3 := (Blk.new ((W.alloc (.cells #[a] ta)).alloc (.cells #[b] tb)) #[c] tc).alloc (.cells #[d] td)
 have k4 := Blk.new (((W.alloc (.cells #[a] ta)).alloc (.cells #[b] tb)).alloc (.cells #[c] tc)) #[d] td
 exact ⟨h4, k1, by simpa using k2, by simpa using k3, by simpa using k4⟩
set_option maxRecDepth 100000 in
set_option maxHeartbeats 4000000 in
theorem pbetween_any {α : Type} {W : World} {P F T lo dp : Nat} {s : Ps} {m : FileM} (h : PsAt W P F T lo dp s m) {nx : Sub} (hnx : Left24 dp nx) {b en : ByteArray} (hb : b ≠ ⟨#[]⟩) (hen : en ≠ ⟨#[]⟩) {over : Bool} {gr : Nat} {lbr : Array Value} (egr : ∀ args w, (callFunc gr args).run Tryz.prog w = .ok (.enter gr args) w) {X : List Nat} (hX : ∀ k ∈ X, k < W.heap.size) {f : PM Nat × PM Nat → PM α} {St : α → FileM → World → Prop} (hst : ∀ a m w w', St a m w → Aside P w w' → St a m w')
  (hr : ∀ p, nx = some p → ∀ (W' : World) (s' : Ps), Aside P W W' → PsAt W' P F T lo (dp + 1) s' m → s'.over = over → s'.toks = (takeS s).toks → s'.f = s.f → Calls Tryz.prog gr lbr W' (KEnd W' P F T lo (dp + 1) m X St (f p s') (fun _ => .tuple #[]))) :
  Calls Tryz.prog 73 #[.pointer (some ⟨P, 0, none⟩), .string b, .string en, .bool over, .func (.func gr) #[] lbr] W (KEnd W P F T lo dp m X (fun r m w => St r.1 m w) (betweenM b en over nx f s) (fun r => .int .i64 (r.2 : Int))) := by
 obtain ⟨hb4, x0, x1, x2, x3⟩ := four_boxes W (.pointer (some ⟨P, 0, none⟩)) (.string en) (.bool over) (.func (.func gr) #[] lbr) 88 9 4 1
 obtain ⟨W4, hW4⟩ : ∃ W4, ((((W.alloc (.cells #[.pointer (some ⟨P, 0, none⟩)] 88)).alloc (.cells #[.string en] 9)).alloc (.cells #[.bool over] 4)).alloc (.cells #[.func (.func gr) #[] lbr] 1)) = W4 := ⟨_, rfl⟩
 rw [hW4] at hb4 x0 x1 x2 x3
 have HBX := Lib.hid (And.intro hb4 (And.intro x0 (And.intro x1 (And.intro x2 x3))))
 have HPS := Lib.hid h
 have HNX := Lib.hid hnx
 have HX := Lib.hid hX
 have HR := Lib.hid hr
 have HST := Lib.hid hst
 have HEN := Lib.hid hen
 have HWT := Lib.hid (want_ps (h.below hb4) hb)
 have b0 := x0.cell 0
 have hmf : ∀ (fn : Fn) (first cap : Array Value) (w : World), (Instr.makeFunc fn first cap).run Tryz.prog w = .ok (.func fn first cap) w := fun _ _ _ _ => rfl
 clear h hnx hX hr hst hen hb hb4 x0 x1 x2 x3
 obtain ⟨R, hRR⟩ : ∃ R, betweenM b en over nx f s = R := ⟨_, rfl⟩
 have HRR := Lib.hid hRR
 rw [hRR]
 clear hRR
 go_enter Tryz.func73, Tryz.ntmps73
 go_wp2_with fail
 go_at_call 99; refine HWT.out.mono ?_
 intro e w5 hw
 have hA4 : Aside P W W4 := Aside.of HBX.out.1
 cases hwt : wantM b s with
 | error bd =>
  rw [hwt] at hw
  obtain ⟨D, rfl, hD, hdb, ha⟩ := hw
  refine ⟨rfl, ?_⟩
  have hR : R = .error bd := by rw [← HRR.out, inner_between, hwt]
  rw [hR]
  exact ⟨D, rfl, Nat.le_trans hA4.size hD, hdb, OutsX.of (hA4.trans ha) X⟩
 | ok y =>
  obtain ⟨t, s1⟩ := y
  rw [hwt] at hw
  obtain ⟨rfl, hp5, ha5⟩ := hw
  have hs1 : s1 = takeS s := by
   unfold wantM at hwt
   split at hwt
   ·cases hwt; rfl
   ·cases hwt
  have hA5 := hA4.trans ha5
  have hrkP := HPS.out.tok.ranks.1
  have hl0 := HBX.out.2.1.lt
  have y0 := HBX.out.2.1.aside ha5 (by omega)
  have y1 := HBX.out.2.2.1.aside ha5 (by omega)
  have y2 := HBX.out.2.2.2.1.aside ha5 (by omega)
  have y3 := HBX.out.2.2.2.2.aside ha5 (by omega)
  have c0 := y0.cell 0
  have hfl : ∀ w : World, (Instr.field 75 (tkV t) 2).run Tryz.prog w = .ok (.int .i64 (t.at_ : Int)) w := fun _ => rfl
  have HP5 := Lib.hid (And.intro hp5 (And.intro hA5 hs1))
  have HY := Lib.hid (And.intro y0 (And.intro y1 (And.intro y2 y3)))
  obtain ⟨tv, hP⟩ := hp5.blk
  rcases HNX.out with ⟨h24, hn⟩ | ⟨h24, p, hn⟩
  ·have HD := Lib.hid (fun fv => deeper_too (F := F) (by rw [h24] at hP; exact hP) (t.at_ : Int) fv)
   have hR : R = .error (7, t.at_) := by rw [← HRR.out, inner_between, hwt, hn]
   have HRE := Lib.hid hR
   clear hp5 hA4 ha5 hwt hs1 hA5 hl0 y0 y1 y2 y3 hP h24 hn b0 hR
   go_wp2_with (go_at_call 100; refine (HD.out _).mono ?_; rintro e w6 ⟨D, rfl, hD, hdb, hbw⟩)
   refine ⟨rfl, ?_⟩
   rw [HRE.out]
   exact ⟨D, rfl, Nat.le_trans HP5.out.2.1.size hD, hdb, OutsX.of (HP5.out.2.1.trans (Aside.of hbw)) X⟩
  ·have hW6 := hp5.setDepth (dp + 1)
   have hA6 : Aside P W (w5.setCell ⟨P, 2, none⟩ (.int .i64 ((dp + 1 : Nat) : Int))) := hA5.set 2 _
   have hfoot := HPS.out.file.lt
   have hC := between1_any (α := α) hW6 (Bp := W.heap.size) (Bo := W.heap.size + 1 + 1) (Br := W.heap.size + 1 + 1 + 1) (Be := W.heap.size + 1) (over := over) HEN.out egr (y0.other (p := ⟨P, 2, none⟩) (by show W.heap.size ≠ P; omega) _) (y2.other (p := ⟨P, 2, none⟩) (by show W.heap.size + 1 + 1 ≠ P; omega) _) (y3.other (p := ⟨P, 2, none⟩) (by show W.heap.size + 1 + 1 + 1 ≠ P; omega) _) (y1.other (p := ⟨P, 2, none⟩) (by show W.heap.size + 1 ≠ P; omega) _) (X := X)
    (fun B hB => by
     have hge : W.heap.size ≤ B := by omega
     exact ⟨by omega, fun hm => by have := (hfoot B hm).1; omega, fun hm => by have := HX.out B hm; omega⟩) (rd := f p) (St := St) HST.out
    (HR.out p hn _ _ (hA6.set 1 _) (hW6.setOver over) rfl (by rw [hs1]) (by rw [hs1]; rfl))
   have hD := deeper_any hP h24 (t.at_ : Int) (enters_of Tryz.func101 (by kernel_rfl) rfl) (hC.mono (fun e w hk => hk.reads))
   have HD := Lib.hid hD
   have HS1 := Lib.hid hs1
   have HRK := Lib.hid hrkP
   have hR : R = (match inner (f p) en over s1 with | .error bd => .error bd | .ok (a, s3) => .ok ((a, t.at_), s3)) := by rw [← HRR.out, inner_between, hwt, hn]
   have HRE := Lib.hid hR
   have HA6 := Lib.hid hA6
   clear hp5 hA4 ha5 hwt hs1 hA5 hl0 y0 y1 y2 y3 hP h24 hn b0 hW6 hA6 hfoot hC hD hrkP hR
   go_wp2_with fail
   go_at_call 100; refine HD.out.mono ?_
   rintro e w8 (⟨rfl, w7, ⟨a, s3, hin, m', hp7, ho7, hl7, hs7⟩, -, rfl⟩ | ⟨v, rfl, bd, D, hin, rfl, hD, hdb, ho7⟩)
   ·have HZ := Lib.hid (And.intro hin (And.intro hp7 (And.intro ho7 (And.intro hl7 hs7))))
    clear hin hp7 ho7 hl7 hs7
    go_wp2_with fail
    go_ret
    obtain ⟨hin, hp7, ho7, hl7, hs7⟩ := HZ.out
    rw [HRE.out, hin]
    refine ⟨rfl, m', ?_, ?_, ⟨fun g hg => (hl7 g hg).imp id (Nat.le_trans HA6.out.size), hl7.tv⟩, HST.out _ _ _ _ hs7 ((Aside.refl P w7).set 2 _)⟩
    ·exact hp7.setDepth dp
    ·exact ((OutsX.of HA6.out X).trans (Later.refl W F m) ho7).trans (⟨fun g hg => (hl7 g hg).imp id (Nat.le_trans HA6.out.size), hl7.tv⟩) (OutsX.of ((Aside.refl P w7).set 2 _) X)
   ·refine ⟨rfl, ?_⟩
    rw [HRE.out, hin]
    exact ⟨D, rfl, Nat.le_trans HA6.out.size hD, hdb, (OutsX.of HA6.out X).trans (Later.refl W F m) ho7⟩
end Go.Proofs.YtljgggohjigaoaaGreatDoor
