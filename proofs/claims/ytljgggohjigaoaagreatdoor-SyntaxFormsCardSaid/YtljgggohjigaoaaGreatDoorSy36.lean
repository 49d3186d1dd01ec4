/- The whole file: how it is read, and what stands while it is read -/
import Derived.Test.YtljgggohjigaoaaGreatDoorSy35
namespace Go.Proofs.YtljgggohjigaoaaGreatDoor
open Go.RowKit Go.Shelf
set_option linter.unusedVariables false
set_option linter.unusedSimpArgs false

/-- A block of the file itself; x blocks came before. -/
def topE (t : Tk) (x : Nat) : PM Nat := bindP (blockM 24 t) fun i s => .ok (x + 1, { s with f := { s.f with top := s.f.top ++ [i] } })
def topU (t : Tk) (_ : Unit) : PM Unit := bindP (blockM 24 t) fun i s => .ok ((), { s with f := { s.f with top := s.f.top ++ [i] } })
/-- The count left out. -/
def unU {α : Type} (r : PR α) : PR Unit := match r with
  | .ok (_, s) => .ok ((), s)
  | .error e => .error e
theorem loop_sim : ∀ (n x : Nat) (s : Ps), itemsLoop topU n () s = unU (itemsLoop topE n x s) := by
  intro n
  induction n with
  | zero => intro x s; rfl
  | succ n ih =>
    intro x s
    unfold itemsLoop
    by_cases h : (next s).k = 1
    · rw [if_pos h, if_pos h]
      unfold topU topE bindP
      simp only
      cases blockM 24 (next s) (takeS s) with
      | error e => rfl
      | ok y =>
        obtain ⟨i, s1⟩ := y
        simp only
        cases linesM { s1 with f := { s1.f with top := s1.f.top ++ [i] } } with
        | error e => rfl
        | ok z =>
          obtain ⟨l, s2⟩ := z
          cases l with
          | true => exact ih (x + 1) s2
          | false => rfl
    · rw [if_neg h, if_neg h]
      rfl
theorem whole_eq (s : Ps) : wholeM s = bindP (itemsM topE 0) (fun _ => bindP (kindM 0) fun _ s => .ok ((), s)) s := by
  have h0 : wholeM s = bindP (itemsM topU ()) (fun _ => bindP (kindM 0) fun _ s => .ok ((), s)) s := rfl
  rw [h0]
  have h1 : itemsM topU () s = unU (itemsM topE 0 s) := by
    unfold itemsM bindP
    cases linesM s with
    | error e => rfl
    | ok y =>
      obtain ⟨b, s1⟩ := y
      exact loop_sim _ 0 s1
  conv => lhs; unfold bindP
  conv => rhs; unfold bindP
  rw [h1]
  cases itemsM topE 0 s with
  | error e => rfl
  | ok y => rfl
theorem topE_dec (t : Tk) (x : Nat) : Dec 24 (-1) (topE t x) := Dec.mono (c := 0 + 0) (e := -1) (Dec.bind (c := 0) (e := 0) (block_dec 24 t) fun i s hS => Res.ok (List.suffix_refl _) (by show (pot s : Int) + 0 ≤ pot s; omega)) (by omega)
theorem topE_mu (t : Tk) (x : Nat) (s : Ps) (x' : Nat) (s' : Ps) (h : topE t x s = .ok (x', s')) : x' ≤ x + 1 := by
  unfold topE bindP at h
  cases hb : blockM 24 t s with
  | error e => rw [hb] at h; cases h
  | ok y =>
    rw [hb] at h
    obtain ⟨i, s1⟩ := y
    cases h
    exact Nat.le_refl _
section
variable {w w' w3 : World} {P F T lo dp : Nat} {m m1 m' : FileM} {s : Ps} {X : List Nat}
/-- The mark hangs on nothing. -/
theorem FileOk.mark {f : Fi} (h : FileOk w F lo m f) (b : Bool) : FileOk w F lo { m with lk := b } f := ⟨h.box, h.exprs, h.blocks, h.top, h.es, h.bs, h.eok, h.bok, h.nodup⟩
theorem PsAt.mark (h : PsAt w P F T lo dp s m) (b : Bool) : PsAt w P F T lo dp s { m with lk := b } := ⟨h.tok, h.ton, h.good, h.file.mark b, h.far, h.base⟩
theorem OutsX.mark {b : Bool} (h : OutsX w w' P F { m with lk := b } X) : OutsX w w' P F m X := ⟨h.os, h.tape, h.output, h.size, h.block⟩
theorem Bad.mark {b : Bool} {bd : Bd} {e : Ending} (h : Bad w P F { m with lk := b } X bd e w') : Bad w P F m X bd e w' := by
  obtain ⟨D, h1, h2, h3, h4⟩ := h
  exact ⟨D, h1, h2, h3, h4.mark⟩
/-- A place more among those of the file. -/
theorem PsAt.addT {o : Obj} {g2 cap2 i n : Nat} (h : PsAt w P F T lo dp s m1) (hn : s.f.top.length = n)
    (hown : w3.ownsRow lo 3 1 (.slice (some ⟨g2, 0, none⟩) (n + 1) cap2) (n + 1) (intsV s.f.top ++ [.int .i64 (i : Int)])) (hg : (w.alloc o).grownBy w3 m1.tv.ownBlock) (hat : m1.tv.ownBlock = some g2 ∨ g2 = (w.alloc o).heap.size) :
    PsAt (w3.setCell ⟨F, 2, none⟩ (.slice (some ⟨g2, 0, none⟩) (n + 1) cap2)) P F T lo dp { s with f := { s.f with top := s.f.top ++ [i] } } { m1 with tv := .slice (some ⟨g2, 0, none⟩) (n + 1) cap2 } ∧
    Outs w (w3.setCell ⟨F, 2, none⟩ (.slice (some ⟨g2, 0, none⟩) (n + 1) cap2)) P F m1 ∧ (∀ g ∈ ({ m1 with tv := .slice (some ⟨g2, 0, none⟩) (n + 1) cap2 } : FileM).foot F, g ∈ m1.foot F ∨ w.heap.size ≤ g) ∧
    (∀ k, k < w.heap.size → k ∉ m1.foot F → (w3.setCell ⟨F, 2, none⟩ (.slice (some ⟨g2, 0, none⟩) (n + 1) cap2)).heap[k]? = w.heap[k]?) := by
  obtain ⟨hf4, hft4, hst4⟩ := FileOk.addT h.file h.base.1 h.base.2 hn hown hg hat
  have hsz : w.heap.size ≤ (w3.setCell ⟨F, 2, none⟩ (.slice (some ⟨g2, 0, none⟩) (n + 1) cap2)).heap.size := by
    have := hg.size
    simp at this ⊢
    omega
  have hrk := h.tok.ranks
  refine ⟨⟨h.tok.same hsz (hst4 P hrk.1 h.far) (hst4 T hrk.2.1 h.ton), fun hT => ?_, h.good, hf4, fun hP => ?_, h.base.1, Nat.le_trans h.base.2 hsz⟩, ⟨hg.os, hg.tape, hg.output, hsz, fun k hk _ hkf => hst4 k hk hkf⟩, hft4, hst4⟩
  · rcases hft4 T hT with h2 | h2
    · exact h.ton h2
    · omega
  · rcases hft4 P hP with h2 | h2
    · exact h.far h2
    · omega
/-- What the file's function value says: how many blocks came before, and the parser's place. -/
def StW (P F T Bp : Nat) : Nat → FileM → World → Prop := fun x m w => m.lk = false ∧ (∃ ad cap, m.tv = .slice ad x cap) ∧ Loc w P F T m Bp #[.pointer (some ⟨P, 0, none⟩)] 88
theorem StW.aside {P F T Bp : Nat} : ∀ (x : Nat) (m : FileM) (w w' : World), StW P F T Bp x m w → Aside P w w' → StW P F T Bp x m w' := fun x m w w' h ha => ⟨h.1, h.2.1, h.2.2.aside ha⟩
end
end Go.Proofs.YtljgggohjigaoaaGreatDoor
