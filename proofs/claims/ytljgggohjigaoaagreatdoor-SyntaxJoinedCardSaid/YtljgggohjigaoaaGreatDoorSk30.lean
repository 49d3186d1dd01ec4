/- Expressions, however deep · A file: a block more, a place more · A block: its reading, and what stands while it is read -/
import Derived.Test.YtljgggohjigaoaaGreatDoorSk24
import Derived.Test.YtljgggohjigaoaaGreatDoorSk25
import Derived.Test.YtljgggohjigaoaaGreatDoorSk29
namespace Go.Proofs.YtljgggohjigaoaaGreatDoor
open Go.RowKit Go.Shelf
set_option linter.unusedVariables false

theorem text_all {F lo dp d P T : Nat} {nx : Sub} (hs : Subs F lo dp d nx) {W : World} {s : Ps} {m : FileM} (h : PsAt W P F T lo dp s m) (he : Env W P F) (hf : Fit d s) (hk : (next s).k = 3) : Calls Tryz.prog 158 #[.pointer (some ⟨P, 0, none⟩)] W (PEnd W P F T lo dp m natV (textM nx s)) := by
 obtain ⟨hC, hsz⟩ := next_txt hf hk
 rcases text_ins hC with ⟨hi, y, hy⟩ | ⟨p0, y0, z0, hx, hz, hi, w0, hw0⟩
 ·exact text_plain hs h he hf hk hi hy
 ·exact text_parts (w0 := w0) hs h he hf hk hx hi
theorem rds_all {F lo dp d : Nat} {nx : Sub} (hs : Subs F lo dp d nx) (P T : Nat) : Rds P F T lo dp d 75 #[.pointer (some ⟨P, 0, none⟩)] (exprM nx) ∧ Rds P F T lo dp d 119 #[.pointer (some ⟨P, 0, none⟩)] (signedM nx) := by
 have hA := atom_any (P := P) (T := T) hs (fun W s m h he hf hk => text_all hs h he hf hk)
 have hPo := posted_any hs.ok hA (fun one => indexed_any hs one)
 have hSg := signed_any (P := P) (T := T) hs.left hs.ok hPo (fun p hp => by
  obtain ⟨d', h1, h2, h3, h4, h5⟩ := hs.sub p hp
  exact ⟨d', h1, h3, h5 P T⟩)
 have hJ := joined_any hs.ok hSg 6 (Nat.le_refl _)
 exact ⟨expr_any hs hJ, hSg⟩
theorem subs_all {F lo : Nat} : ∀ (d dp : Nat), dp + d = 24 → Subs F lo dp d (subP d)
 | 0, dp, h => ⟨.inl ⟨by omega, rfl⟩, sub_ok 0, fun p hp => by cases hp⟩
 | d + 1, dp, h => ⟨.inr ⟨by omega, _, rfl⟩, sub_ok (d + 1), fun p hp => by
   have hs := subs_all (F := F) (lo := lo) d (dp + 1) (by omega)
   obtain rfl : (exprM (subP d), signedM (subP d)) = p := Option.some.inj hp
   exact ⟨d, rfl, expr_dec (sub_ok d), signed_dec (sub_ok d), fun P T => (rds_all hs P T).1, fun P T => (rds_all hs P T).2⟩⟩
theorem exprs_any {F lo d dp : Nat} (h : dp + d = 24) (P T : Nat) : Rds P F T lo dp d 75 #[.pointer (some ⟨P, 0, none⟩)] (exprM (subP d)) := (rds_all (subs_all d dp h) P T).1
end Go.Proofs.YtljgggohjigaoaaGreatDoor
namespace Go.Proofs.YtljgggohjigaoaaGreatDoor
open Go.RowKit Go.Shelf
set_option linter.unusedVariables false

def FileM.restB (m : FileM) (F : Nat) : List Nat := ownB m.ev ++ (F :: (ownB m.tv ++ (m.ns.flatMap BlM.foot ++ m.ms.flatMap ExM.foot)))
def FileM.restT (m : FileM) (F : Nat) : List Nat := ownB m.ev ++ (F :: (ownB m.bv ++ (m.ns.flatMap BlM.foot ++ m.ms.flatMap ExM.foot)))
theorem foot_permB (m : FileM) (F : Nat) : (m.foot F).Perm (ownB m.bv ++ m.restB F) := List.perm_iff_count.2 fun a => by
 unfold FileM.foot FileM.rest FileM.restB
 simp only [List.count_append, List.count_cons]
 omega
theorem foot_permT (m : FileM) (F : Nat) : (m.foot F).Perm (ownB m.tv ++ m.restT F) := List.perm_iff_count.2 fun a => by
 unfold FileM.foot FileM.rest FileM.restT
 simp only [List.count_append, List.count_cons]
 omega
section
variable {W : World} {F lo : Nat} {m : FileM} {f : Fi}
/-- A block more. -/
theorem FileOk.addB {w3 : World} {g2 cap2 : Nat} {x : BlM} {o : Obj} (h : FileOk W F lo m f) (hF : F < lo) (hlo : lo ≤ W.heap.size) (hx : x.Ok lo W) (hxf : ∀ g ∈ x.foot, g ∉ m.foot F) (hxn : x.foot.Nodup)
  (hown : w3.ownsRow lo 41 5 (.slice (some ⟨g2, 0, none⟩) (m.ns.length + 1) cap2) (m.ns.length + 1) (m.ns.flatMap BlM.cells ++ x.cells)) (hg : (W.alloc o).grownBy w3 m.bv.ownBlock) (hat : m.bv.ownBlock = some g2 ∨ g2 = (W.alloc o).heap.size) :
  FileOk (w3.setCell ⟨F, 1, none⟩ (.slice (some ⟨g2, 0, none⟩) (m.ns.length + 1) cap2)) F lo { m with bv := .slice (some ⟨g2, 0, none⟩) (m.ns.length + 1) cap2, ns := m.ns ++ [x] } { f with blocks := f.blocks ++ [x.b] } ∧
  (∀ g ∈ ({ m with bv := .slice (some ⟨g2, 0, none⟩) (m.ns.length + 1) cap2, ns := m.ns ++ [x] } : FileM).foot F, g ∈ m.foot F ∨ g ∈ x.foot ∨ W.heap.size ≤ g) ∧
  (∀ k, k < W.heap.size → k ∉ m.foot F → (w3.setCell ⟨F, 1, none⟩ (.slice (some ⟨g2, 0, none⟩) (m.ns.length + 1) cap2)).heap[k]? = W.heap[k]?) := by
 have hs : (W.alloc o).heap.size = W.heap.size + 1 := by simp
 have hal : ∀ k, k < W.heap.size → (W.alloc o).heap[k]? = W.heap[k]? := fun k hk => (below_new W o).block k hk
 have hnd := List.nodup_append.1 ((foot_permB m F).nodup_iff.1 h.nodup)
 have hmr : ∀ {k}, k ∈ m.restB F → k ∈ m.foot F := fun hk => (foot_permB m F).mem_iff.2 (List.mem_append.2 (.inr hk))
 have hmb : ∀ {k}, m.bv.ownBlock = some k → k ∈ m.foot F := fun hk => (foot_permB m F).mem_iff.2 (List.mem_append.2 (.inl (mem_ownB.2 hk)))
 have hne : ∀ k, k ∈ m.restB F → some k ≠ m.bv.ownBlock := fun k hk e => hnd.2.2 k (mem_ownB.2 e.symm) k hk rfl
 have hst : ∀ k, k < W.heap.size → k ≠ F → some k ≠ m.bv.ownBlock → (w3.setCell ⟨F, 1, none⟩ (.slice (some ⟨g2, 0, none⟩) (m.ns.length + 1) cap2)).heap[k]? = W.heap[k]? := fun k hk h1 h2 => by
  rw [Below.heap_setCell _ _ _ _ (by exact h1)]
  exact (hg.block k (by omega) h2).trans (hal k hk)
 have hgF : g2 ≠ F := by
  rcases hat with h1 | h1
  ·have := (row_lt h.blocks h1).1; omega
  ·have := h.box.lt; omega
 have hFr : F ∈ m.restB F := by unfold FileM.restB; simp
 -- what else the file holds, and is not F
 have hkp : ∀ {g : Nat}, (m.ev.ownBlock = some g ∨ m.tv.ownBlock = some g ∨ (∃ x ∈ m.ns, g ∈ x.foot) ∨ ∃ x ∈ m.ms, g ∈ x.foot) → (w3.setCell ⟨F, 1, none⟩ (.slice (some ⟨g2, 0, none⟩) (m.ns.length + 1) cap2)).heap[g]? = W.heap[g]? := fun {g} hk => by
  have hin : g ∈ m.restB F := by
   unfold FileM.restB
   simp only [List.mem_append, List.mem_cons, mem_ownB, List.mem_flatMap]
   rcases hk with h1 | h1 | h1 | h1
   ·exact .inl h1
   ·exact .inr (.inr (.inl h1))
   ·exact .inr (.inr (.inr (.inl h1)))
   ·exact .inr (.inr (.inr (.inr h1)))
  have hnF : g ≠ F := by
   intro e
   subst e
   have h1 := hnd.2.1
   have h3 := List.nodup_iff_count.1 h1 g
   unfold FileM.restB at h3
   simp only [List.count_append, List.count_cons_self] at h3
   have h4 : 1 ≤ (ownB m.ev).count g + ((ownB m.tv).count g + ((m.ns.flatMap BlM.foot).count g + (m.ms.flatMap ExM.foot).count g)) := by
    rcases hk with h5 | h5 | ⟨y, h5, h6⟩ | ⟨y, h5, h6⟩
    ·have := List.count_pos_iff.2 (mem_ownB.2 h5); omega
    ·have := List.count_pos_iff.2 (mem_ownB.2 h5); omega
    ·have := List.count_pos_iff.2 (List.mem_flatMap.2 ⟨y, h5, h6⟩); omega
    ·have := List.count_pos_iff.2 (List.mem_flatMap.2 ⟨y, h5, h6⟩); omega
   omega
  exact hst g (h.lt g (hmr hin)).1 hnF (hne g hin)
 have hxl := hx.lt
 have hg2x : g2 ∉ x.foot := fun hk => by
  rcases hat with h1 | h1
  ·exact hxf g2 hk (hmb h1)
  ·have := (hxl g2 hk).2; omega
 have ho : ownB (.slice (some ⟨g2, 0, none⟩) (m.ns.length + 1) cap2) = [g2] := rfl
 have hfp : ((({ m with bv := .slice (some ⟨g2, 0, none⟩) (m.ns.length + 1) cap2, ns := m.ns ++ [x] } : FileM)).foot F).Perm ([g2] ++ (m.restB F ++ x.foot)) := List.perm_iff_count.2 fun a => by
  unfold FileM.foot FileM.rest FileM.restB
  simp only [ho, List.count_append, List.count_cons, List.flatMap_append, List.flatMap_cons, List.flatMap_nil, List.append_nil, List.count_nil]
  omega
 refine ⟨⟨?_, row_same h.exprs (fun g hg => hkp (.inl hg)), ?_, row_same h.top (fun g hg => hkp (.inr (.inl hg))), h.es, ?_, fun y hy => (h.eok y hy).keep (fun g hg => hkp (.inr (.inr (.inr ⟨y, hy, hg⟩)))), fun y hy => ?_, ?_⟩, fun k hk => ?_, fun k hk hn => hst k hk (fun e => hn (by rw [e]; exact hmr hFr)) (fun e => hn (hmb e.symm))⟩
 ·have hb : Blk w3 F #[m.ev, m.bv, m.tv] 28 := (hg.block F (by have := h.box.lt; omega) (hne F hFr)).trans ((hal F h.box.lt).trans h.box)
  have := hb.set 1 (.slice (some ⟨g2, 0, none⟩) (m.ns.length + 1) cap2)
  simpa using this
 ·rw [List.length_append, List.flatMap_append]
  simp only [List.flatMap_cons, List.flatMap_nil, List.append_nil, List.length_cons, List.length_nil]
  exact row_same hown (fun g hg => by
   obtain rfl : g2 = g := Option.some.inj hg
   exact Below.heap_setCell _ _ _ _ (by exact hgF))
 ·rw [List.map_append, h.bs]; rfl
 ·rcases List.mem_append.1 hy with hy | hy
  ·exact (h.bok y hy).keep (fun g hg => hkp (.inr (.inr (.inl ⟨y, hy, hg⟩))))
  ·rw [List.mem_singleton] at hy
   subst hy
   exact hx.keep (fun g hg => hst g (hxl g hg).2 (fun e => hxf g hg (by rw [e]; exact hmr hFr)) (fun e => hxf g hg (hmb e.symm)))
 ·refine hfp.nodup_iff.2 ?_
  rw [List.nodup_append]
  refine ⟨by simp, ?_, ?_⟩
  ·rw [List.nodup_append]
   exact ⟨hnd.2.1, hxn, fun a ha b hb e => by subst e; exact hxf a hb (hmr ha)⟩
  ·intro a ha b hb e
   subst e
   rw [List.mem_singleton] at ha
   subst ha
   rcases List.mem_append.1 hb with hb | hb
   ·rcases hat with h1 | h1
    ·exact hne _ hb h1.symm
    ·have := (h.lt _ (hmr hb)).1; omega
   ·exact hg2x hb
 ·have hk' := hfp.mem_iff.1 hk
  rcases List.mem_append.1 hk' with hk | hk
  ·rw [List.mem_singleton] at hk
   subst hk
   rcases hat with h1 | h1
   ·exact .inl (hmb h1)
   ·exact .inr (.inr (by omega))
  ·rcases List.mem_append.1 hk with hk | hk
   ·exact .inl (hmr hk)
   ·exact .inr (.inl hk)
/-- A place more among those of the file. -/
theorem FileOk.addT {w3 : World} {g2 cap2 i n : Nat} {o : Obj} (h : FileOk W F lo m f) (hF : F < lo) (hlo : lo ≤ W.heap.size) (hn : f.top.length = n)
  (hown : w3.ownsRow lo 3 1 (.slice (some ⟨g2, 0, none⟩) (n + 1) cap2) (n + 1) (intsV f.top ++ [.int .i64 (i : Int)])) (hg : (W.alloc o).grownBy w3 m.tv.ownBlock) (hat : m.tv.ownBlock = some g2 ∨ g2 = (W.alloc o).heap.size) :
  FileOk (w3.setCell ⟨F, 2, none⟩ (.slice (some ⟨g2, 0, none⟩) (n + 1) cap2)) F lo { m with tv := .slice (some ⟨g2, 0, none⟩) (n + 1) cap2 } { f with top := f.top ++ [i] } ∧
  (∀ g ∈ ({ m with tv := .slice (some ⟨g2, 0, none⟩) (n + 1) cap2 } : FileM).foot F, g ∈ m.foot F ∨ W.heap.size ≤ g) ∧
  (∀ k, k < W.heap.size → k ∉ m.foot F → (w3.setCell ⟨F, 2, none⟩ (.slice (some ⟨g2, 0, none⟩) (n + 1) cap2)).heap[k]? = W.heap[k]?) := by
 have hs : (W.alloc o).heap.size = W.heap.size + 1 := by simp
 have hal : ∀ k, k < W.heap.size → (W.alloc o).heap[k]? = W.heap[k]? := fun k hk => (below_new W o).block k hk
 have hnd := List.nodup_append.1 ((foot_permT m F).nodup_iff.1 h.nodup)
 have hmr : ∀ {k}, k ∈ m.restT F → k ∈ m.foot F := fun hk => (foot_permT m F).mem_iff.2 (List.mem_append.2 (.inr hk))
 have hmb : ∀ {k}, m.tv.ownBlock = some k → k ∈ m.foot F := fun hk => (foot_permT m F).mem_iff.2 (List.mem_append.2 (.inl (mem_ownB.2 hk)))
 have hne : ∀ k, k ∈ m.restT F → some k ≠ m.tv.ownBlock := fun k hk e => hnd.2.2 k (mem_ownB.2 e.symm) k hk rfl
 have hst : ∀ k, k < W.heap.size → k ≠ F → some k ≠ m.tv.ownBlock → (w3.setCell ⟨F, 2, none⟩ (.slice (some ⟨g2, 0, none⟩) (n + 1) cap2)).heap[k]? = W.heap[k]? := fun k hk h1 h2 => by
  rw [Below.heap_setCell _ _ _ _ (by exact h1)]
  exact (hg.block k (by omega) h2).trans (hal k hk)
 have hgF : g2 ≠ F := by
  rcases hat with h1 | h1
  ·have := (row_lt h.top h1).1; omega
  ·have := h.box.lt; omega
 have hFr : F ∈ m.restT F := by unfold FileM.restT; simp
 have hkp : ∀ {g : Nat}, (m.ev.ownBlock = some g ∨ m.bv.ownBlock = some g ∨ (∃ x ∈ m.ns, g ∈ x.foot) ∨ ∃ x ∈ m.ms, g ∈ x.foot) → (w3.setCell ⟨F, 2, none⟩ (.slice (some ⟨g2, 0, none⟩) (n + 1) cap2)).heap[g]? = W.heap[g]? := fun {g} hk => by
  have hin : g ∈ m.restT F := by
   unfold FileM.restT
   simp only [List.mem_append, List.mem_cons, mem_ownB, List.mem_flatMap]
   rcases hk with h1 | h1 | h1 | h1
   ·exact .inl h1
   ·exact .inr (.inr (.inl h1))
   ·exact .inr (.inr (.inr (.inl h1)))
   ·exact .inr (.inr (.inr (.inr h1)))
  have hnF : g ≠ F := by
   intro e
   subst e
   have h3 := List.nodup_iff_count.1 hnd.2.1 g
   unfold FileM.restT at h3
   simp only [List.count_append, List.count_cons_self] at h3
   have h4 : 1 ≤ (ownB m.ev).count g + ((ownB m.bv).count g + ((m.ns.flatMap BlM.foot).count g + (m.ms.flatMap ExM.foot).count g)) := by
    rcases hk with h5 | h5 | ⟨y, h5, h6⟩ | ⟨y, h5, h6⟩
    ·have := List.count_pos_iff.2 (mem_ownB.2 h5); omega
    ·have := List.count_pos_iff.2 (mem_ownB.2 h5); omega
    ·have := List.count_pos_iff.2 (List.mem_flatMap.2 ⟨y, h5, h6⟩); omega
    ·have := List.count_pos_iff.2 (List.mem_flatMap.2 ⟨y, h5, h6⟩); omega
   omega
  exact hst g (h.lt g (hmr hin)).1 hnF (hne g hin)
 have ho : ownB (.slice (some ⟨g2, 0, none⟩) (n + 1) cap2) = [g2] := rfl
 have hfp : ((({ m with tv := .slice (some ⟨g2, 0, none⟩) (n + 1) cap2 } : FileM)).foot F).Perm ([g2] ++ m.restT F) := List.perm_iff_count.2 fun a => by
  unfold FileM.foot FileM.rest FileM.restT
  simp only [ho, List.count_append, List.count_cons, List.count_nil]
  omega
 refine ⟨⟨?_, row_same h.exprs (fun g hg => hkp (.inl hg)), row_same h.blocks (fun g hg => hkp (.inr (.inl hg))), ?_, h.es, h.bs, fun y hy => (h.eok y hy).keep (fun g hg => hkp (.inr (.inr (.inr ⟨y, hy, hg⟩)))), fun y hy => (h.bok y hy).keep (fun g hg => hkp (.inr (.inr (.inl ⟨y, hy, hg⟩)))), ?_⟩, fun k hk => ?_, fun k hk hn => hst k hk (fun e => hn (by rw [e]; exact hmr hFr)) (fun e => hn (hmb e.symm))⟩
 ·have hb : Blk w3 F #[m.ev, m.bv, m.tv] 28 := (hg.block F (by have := h.box.lt; omega) (hne F hFr)).trans ((hal F h.box.lt).trans h.box)
  have := hb.set 2 (.slice (some ⟨g2, 0, none⟩) (n + 1) cap2)
  simpa using this
 ·have e1 : intsV (f.top ++ [i]) = intsV f.top ++ [.int .i64 (i : Int)] := by simp [intsV]
  show World.ownsRow _ lo 3 1 _ (f.top ++ [i]).length (intsV (f.top ++ [i]))
  rw [e1, show (f.top ++ [i]).length = n + 1 by simp [hn]]
  exact row_same hown (fun g hg => by
   obtain rfl : g2 = g := Option.some.inj hg
   exact Below.heap_setCell _ _ _ _ (by exact hgF))
 ·refine hfp.nodup_iff.2 ?_
  rw [List.nodup_append]
  refine ⟨by simp, hnd.2.1, ?_⟩
  intro a ha b hb e
  subst e
  rw [List.mem_singleton] at ha
  subst ha
  rcases hat with h1 | h1
  ·exact hne _ hb h1.symm
  ·have := (h.lt _ (hmr hb)).1; omega
 ·have hk' := hfp.mem_iff.1 hk
  rcases List.mem_append.1 hk' with hk | hk
  ·rw [List.mem_singleton] at hk
   subst hk
   rcases hat with h1 | h1
   ·exact .inl (hmb h1)
   ·exact .inr (by omega)
  ·exact .inl (hmr hk)
end
end Go.Proofs.YtljgggohjigaoaaGreatDoor
namespace Go.Proofs.YtljgggohjigaoaaGreatDoor
open Go.RowKit Go.Shelf
set_option linter.unusedVariables false
set_option linter.unusedSimpArgs false

/-- What stands in a block's braces, where d levels are left outside. -/
def bodyE (d : Nat) (b : Bl) : PM Bl := itemsM (itemE (exprM (subP (d - 1))) (blockM (d - 1))) b
/-- A block behind its labels. -/
def restB (d : Nat) (t : Tk) (ls : List ByteArray) : PM Nat := bindP (betweenM ⟨#[123]⟩ ⟨#[125]⟩ false (subP d) fun _ => bodyE d ⟨t.x, ls, [], [], t.at_⟩) fun r => addB r.1
theorem block_eq (d : Nat) (t : Tk) (s : Ps) : blockM d t s = bindP (labelsM (s.toks.length + 1) []) (restB d t) s := by
 cases d with
 | zero =>
  unfold blockM
  refine congrArg (fun C => bindP (labelsM (s.toks.length + 1) []) C s) (funext fun ls => funext fun s1 => ?_)
  unfold restB betweenM bindP
  have hw : wantM (wb [123]) s1 = wantM (⟨#[123]⟩ : ByteArray) s1 := rfl
  rw [hw]
  cases wantM (⟨#[123]⟩ : ByteArray) s1 with
  | error e => rfl
  | ok z => rfl
 | succ d =>
  unfold blockM
  refine congrArg (fun C => bindP (labelsM (s.toks.length + 1) []) C s) (funext fun ls => funext fun s1 => ?_)
  have hB : ∀ b : Bl, itemsM (fun (n : Tk) (b : Bl) => bindP (skipM (wb [61])) fun eq =>
     if eq then bindP (exprM (subP d)) fun i s => .ok ({ b with attrs := b.attrs ++ [⟨n.x, i, n.at_⟩] }, s)
     else bindP (blockM d n) fun i s => .ok ({ b with blocks := b.blocks ++ [i] }, s)) b = bodyE (d + 1) b := fun b => rfl
  simp only [hB]
  unfold restB betweenM
  generalize bodyE (d + 1) ⟨t.x, ls, [], [], t.at_⟩ = q
  unfold bindP
  have hw : wantM (wb [123]) s1 = wantM (⟨#[123]⟩ : ByteArray) s1 := rfl
  rw [hw]
  cases wantM (⟨#[123]⟩ : ByteArray) s1 with
  | error e => rfl
  | ok z =>
   obtain ⟨o, s2⟩ := z
   unfold deeperM subP
   simp only
   cases q { s2 with over := false } with
   | error e => rfl
   | ok v =>
    obtain ⟨b, s5⟩ := v
    simp only
    have hw2 : wantM (wb [125]) s5 = wantM (⟨#[125]⟩ : ByteArray) s5 := rfl
    rw [hw2]
    cases wantM (⟨#[125]⟩ : ByteArray) s5 with
    | error e => rfl
    | ok v => rfl
theorem lab_yes {α : Type} {n : Nat} {l : List ByteArray} {C : List ByteArray → PM α} {s : Ps} (h : (next s).k = 3) : bindP (labelsM (n + 1) l) C s = bindP plainM (fun t => bindP (labelsM n (l ++ [t])) C) (peekS s) := by
 unfold bindP
 conv => lhs; unfold labelsM
 rw [if_pos h]
 unfold bindP
 cases plainM (peekS s) with
 | error e => rfl
 | ok y => rfl
theorem lab_no {α : Type} {n : Nat} {l : List ByteArray} {C : List ByteArray → PM α} {s : Ps} (h : (next s).k ≠ 3) : bindP (labelsM (n + 1) l) C s = C l (peekS s) := by
 unfold bindP
 conv => lhs; unfold labelsM
 rw [if_neg h]
theorem plain_lt {s s' : Ps} {t : ByteArray} (hk : (next s).k ≠ 0) (h : plainM s = .ok (t, s')) : s'.toks.length < s.toks.length := by
 unfold plainM at h
 simp only at h
 split at h
 ·cases h
 ·split at h
  ·cases h
  ·split at h
   ·cases h
   ·cases h
    exact take_lt hk
theorem KEnd.conv {α : Type} {W w' : World} {P F T lo dp : Nat} {m : FileM} {X : List Nat} {St St' : α → FileM → World → Prop} {r : PR α} {val : α → Value} {e : Ending} (h : KEnd W P F T lo dp m X St r val e w') (hs : ∀ a m w, St a m w → St' a m w) : KEnd W P F T lo dp m X St' r val e w' := by
 unfold KEnd at h ⊢
 cases r with
 | error bd => exact h
 | ok y =>
  obtain ⟨a, s'⟩ := y
  obtain ⟨h1, m', h2, h3, h4, h5⟩ := h
  exact ⟨h1, m', h2, h3, h4, hs _ _ _ h5⟩
theorem StK.low {W V : World} {X : List Nat} {P F T lo N B Bp : Nat} (hV : V.heap.size ≤ W.heap.size) : ∀ (a : Bl) (m : FileM) (w : World), StK W X P F T lo N B Bp a m w → StK V X P F T lo N B Bp a m w := fun a m w ⟨⟨x, h1, h2, h3⟩, h4⟩ => ⟨⟨x, h1, h2, fun k hk => ⟨(h3 k hk).1, (h3 k hk).2.imp id (Nat.le_trans hV)⟩⟩, h4⟩
theorem body_dec (d : Nat) (b : Bl) : Dec d 0 (bodyE (d + 1) b) := items_dec (fun t x => itemE_dec (exprs_dec d) (block_dec d) t x) b
section
variable {W w w' w3 : World} {P F T lo dp d : Nat} {m m1 m2 : FileM} {s s2 : Ps} {B : Nat} {x : BlM}
/-- A walk within block. -/
structure UnK (W w : World) (P F T lo dp d : Nat) (m : FileM) (s : Ps) (m1 : FileM) (B : Nat) (x : BlM) : Prop where
 un : Un W w P F T lo dp d m [] s m1
 ub : UnB w P F T lo (W.heap.size + 1) m1 B x
 bp : Loc w P F T m1 W.heap.size #[.pointer (some ⟨P, 0, none⟩)] 88
 hB : W.heap.size < B
 h4 : 4 ≤ W.heap.size
 le : W.heap.size + 1 ≤ w.heap.size
theorem UnK.step (h : UnK W w P F T lo dp d m s m1 B x) (k : Stepped W w w' P F T lo dp d m [] m1 s2 m2) : UnK W w' P F T lo dp d m s2 m2 B x := ⟨k.un, h.ub.step k.outs k.later, h.bp.step k.outs k.later, h.hB, h.h4, Nat.le_trans h.le k.outs.size⟩
theorem UnK.below (h : UnK W w P F T lo dp d m s m1 B x) (hb : Below w.heap.size w w') : UnK W w' P F T lo dp d m s m1 B x := ⟨h.un.below hb, h.ub.lc (Lc.of hb []) (by simp) (by simp), h.bp.lc (Lc.of hb []) (by simp), h.hB, h.h4, Nat.le_trans h.le hb.size⟩
theorem UnK.pushL (h : UnK W w P F T lo dp d m s m1 B x) {o : Obj} {g2 cap2 n : Nat} {t : ByteArray} (hn : x.b.labels.length = n)
  (hown : w3.ownsRow lo 9 1 (.slice (some ⟨g2, 0, none⟩) (n + 1) cap2) (n + 1) ((x.b.labels.map Value.string) ++ [.string t])) (hg : (w.alloc o).grownBy w3 x.lv.ownBlock) (hat : x.lv.ownBlock = some g2 ∨ g2 = (w.alloc o).heap.size) :
  UnK W (w3.setCell ⟨B, 1, none⟩ (.slice (some ⟨g2, 0, none⟩) (n + 1) cap2)) P F T lo dp d m s m1 B ⟨{ x.b with labels := x.b.labels ++ [t] }, (.slice (some ⟨g2, 0, none⟩) (n + 1) cap2), x.av, x.bv⟩ := by
 have hp := h.ub.pushL h.un.ps h.le hn hown hg hat
 have h4 := h.h4
 have hB := h.hB
 refine ⟨h.un.lc hp.2 (fun k hk => ?_), hp.1, h.bp.lc hp.2 (fun hk => ?_), h.hB, h.h4, Nat.le_trans h.le hp.2.size⟩
 ·rcases List.mem_cons.1 hk with rfl | hk
  ·exact ⟨h.ub.loc.neP, h.ub.loc.neT, h.ub.loc.out, by omega, .inr (by omega)⟩
  ·have h1 := h.ub.foot k (List.mem_append.2 (.inl hk))
   exact ⟨h1.2.1, h1.2.2.1, h1.1, by omega, .inr (by omega)⟩
 ·rcases List.mem_cons.1 hk with h1 | hk
  ·omega
  ·have h1 := (h.ub.foot _ (List.mem_append.2 (.inl hk))).2.2.2.2
   omega
/-- A file with one block more. -/
theorem PsAt.addBlk {o : Obj} {g2 cap2 : Nat} (h : PsAt w P F T lo dp s m1) (hx : x.Ok lo w) (hxf : ∀ g ∈ x.foot, g ∉ m1.foot F ∧ g ≠ P ∧ g ≠ T) (hxn : x.foot.Nodup)
  (hown : w3.ownsRow lo 41 5 (.slice (some ⟨g2, 0, none⟩) (m1.ns.length + 1) cap2) (m1.ns.length + 1) (m1.ns.flatMap BlM.cells ++ x.cells)) (hg : (w.alloc o).grownBy w3 m1.bv.ownBlock) (hat : m1.bv.ownBlock = some g2 ∨ g2 = (w.alloc o).heap.size) :
  PsAt (w3.setCell ⟨F, 1, none⟩ (.slice (some ⟨g2, 0, none⟩) (m1.ns.length + 1) cap2)) P F T lo dp { s with f := { s.f with blocks := s.f.blocks ++ [x.b] } } { m1 with bv := .slice (some ⟨g2, 0, none⟩) (m1.ns.length + 1) cap2, ns := m1.ns ++ [x] } ∧
  Outs w (w3.setCell ⟨F, 1, none⟩ (.slice (some ⟨g2, 0, none⟩) (m1.ns.length + 1) cap2)) P F m1 ∧ (∀ g ∈ ({ m1 with bv := .slice (some ⟨g2, 0, none⟩) (m1.ns.length + 1) cap2, ns := m1.ns ++ [x] } : FileM).foot F, g ∈ m1.foot F ∨ g ∈ x.foot ∨ w.heap.size ≤ g) ∧
  (∀ k, k < w.heap.size → k ∉ m1.foot F → (w3.setCell ⟨F, 1, none⟩ (.slice (some ⟨g2, 0, none⟩) (m1.ns.length + 1) cap2)).heap[k]? = w.heap[k]?) := by
 obtain ⟨hf4, hft4, hst4⟩ := FileOk.addB h.file h.base.1 h.base.2 hx (fun g hg => (hxf g hg).1) hxn hown hg hat
 have hsz : w.heap.size ≤ (w3.setCell ⟨F, 1, none⟩ (.slice (some ⟨g2, 0, none⟩) (m1.ns.length + 1) cap2)).heap.size := by
  have := hg.size
  simp at this ⊢
  omega
 have hrk := h.tok.ranks
 refine ⟨⟨h.tok.same hsz (hst4 P hrk.1 h.far) (hst4 T hrk.2.1 h.ton), fun hT => ?_, h.good, hf4, fun hP => ?_, h.base.1, Nat.le_trans h.base.2 hsz⟩, ⟨hg.os, hg.tape, hg.output, hsz, fun k hk _ hkf => hst4 k hk hkf⟩, hft4, hst4⟩
 ·rcases hft4 T hT with h2 | h2 | h2
  ·exact h.ton h2
  ·exact (hxf T h2).2.2 rfl
  ·omega
 ·rcases hft4 P hP with h2 | h2 | h2
  ·exact h.far h2
  ·exact (hxf P h2).2.1 rfl
  ·omega
end
end Go.Proofs.YtljgggohjigaoaaGreatDoor
