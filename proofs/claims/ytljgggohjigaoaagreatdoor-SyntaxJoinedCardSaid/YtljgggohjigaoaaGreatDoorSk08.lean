/- What the parser makes of tokens: plain functions, of no program · The parser in memory: its block, its tokens · The parser's small steps: a token taken, asked for, wanted · The parser's small steps: asked for, skipped, wanted; what can't stand there -/
import Derived.Handy
import Derived.Deep.LoopGhost
import Derived.Deep.DeepCutAuto
import Derived.Test.YtljgggohjigaoaaGreatDoorSk07
namespace Go.Proofs.YtljgggohjigaoaaGreatDoor
set_option linter.unusedVariables false

/-- An expression, an attribute, a block, a file. -/
structure Ex where
 k : Int
 x : ByteArray
 args : List Nat
 keys : List ByteArray
 at_ : Nat
structure AtS where
 n : ByteArray
 e : Nat
 at_ : Nat
structure Bl where
 t : ByteArray
 labels : List ByteArray
 attrs : List AtS
 blocks : List Nat
 at_ : Nat
structure Fi where
 exprs : List Ex
 blocks : List Bl
 top : List Nat
/-- A parser: the tokens ahead, whether lines are passed over, what has ended. -/
structure Ps where
 toks : List Tk
 over : Bool
 f : Fi
/-- What is wrong, and at which byte. -/
abbrev Bd := Int × Nat
abbrev PR (α : Type) := Except Bd (α × Ps)
abbrev PM (α : Type) := Ps → PR α
def bindP {α β : Type} (m : PM α) (k : α → PM β) : PM β := fun s => match m s with
 | .error e => .error e
 | .ok (a, s') => k a s'
def isLine (t : Tk) : Bool := decide (t.k = 5)
def peekL (over : Bool) (l : List Tk) : List Tk := if over then l.dropWhile isLine else l
def peekS (s : Ps) : Ps := { s with toks := peekL s.over s.toks }
def noTk : Tk := ⟨0, ⟨#[]⟩, 0⟩
def headT (l : List Tk) : Tk := l.headD noTk
/-- The token that is next. -/
def next (s : Ps) : Tk := headT (peekL s.over s.toks)
def takeS (s : Ps) : Ps := { s with toks := (peekL s.over s.toks).drop 1 }
def isW (w : ByteArray) (t : Tk) : Bool := decide (t.k ≠ 3) && decide (t.x = w)
def wantM (w : ByteArray) : PM Tk := fun s => if isW w (next s) then .ok (next s, takeS s) else .error (50, (next s).at_)
def kindM (k : Int) : PM Tk := fun s => if (next s).k = k then .ok (next s, takeS s) else .error (50, (next s).at_)
/-- Behind it, if it is next. -/
def skipM (w : ByteArray) : PM Bool := fun s => if isW w (next s) then .ok (true, takeS s) else .ok (false, peekS s)
def linesL : Bool → List Tk → Bool × List Tk
 | over, l => let m := peekL over l
  if isLine (headT m) && !m.isEmpty then (true, m.dropWhile isLine) else (false, m)
/-- Behind all lines that are next. -/
def linesM : PM Bool := fun s => .ok ((linesL s.over s.toks).1, { s with toks := (linesL s.over s.toks).2 })
def addM (e : Ex) : PM Nat := fun s => .ok (s.f.exprs.length, { s with f := { s.f with exprs := s.f.exprs ++ [e] } })
/-- What reads one level deeper: an expression, what stands behind a sign; none: that is too deep. -/
abbrev Sub := Option (PM Nat × PM Nat)
def deeperM {α : Type} (nx : Sub) (at_ : Nat) (f : PM Nat × PM Nat → PM α) : PM α := fun s => match nx with
 | none => .error (7, at_)
 | some p => f p s
def betweenM {α : Type} (b e : ByteArray) (over : Bool) (nx : Sub) (f : PM Nat × PM Nat → PM α) : PM (α × Nat) :=
 bindP (wantM b) fun t => deeperM nx t.at_ fun p s => match f p { s with over := over } with
  | .error e => .error e
  | .ok (a, s2) => match wantM e s2 with
   | .error e => .error e
   | .ok (_, s3) => .ok ((a, t.at_), { s3 with over := s.over })
/-- What a text says. -/
def escapedB (b : UInt8) : UInt8 := if b = 110 then 10 else if b = 116 then 9 else if b = 114 then 13 else b
def saidL : List UInt8 → Option (List UInt8)
 | [] => some []
 | [92] => none
 | c :: r => if c = 92 then match r with
   | [] => none
   | d :: r' => (saidL r').map (escapedB d :: ·)
  else (saidL r).map (c :: ·)
/-- How many bytes stand ahead of the first insertion, if there is one; all, if there is none. -/
def aheadL : List UInt8 → Nat
 | [] => 0
 | c :: r => if c = 92 then match r with
   | [] => 1
   | _ :: r' => 2 + aheadL r'
  else if c = 36 ∧ r.head? = some 123 then 0
  else 1 + aheadL r
mutual
/-- Behind the brace that ends it, behind the quote that ends it. -/
def braceS : Nat → List UInt8 → Option (List UInt8)
 | 0, _ => none
 | n + 1, R => match R with
  | [] => none
  | c :: r => if c = 125 then some r
   else if c = 123 then match braceS n r with | none => none | some r' => braceS n r'
   else if c = 34 then match quoteS n r with | none => none | some r' => braceS n r'
   else braceS n r
def quoteS : Nat → List UInt8 → Option (List UInt8)
 | 0, _ => none
 | n + 1, R => match R with
  | [] => none
  | c :: r => if c = 34 then some r
   else if c = 92 then quoteS n (r.drop 1)
   else if c = 36 ∧ r.head? = some 123 then match braceS n (r.drop 1) with | none => none | some r' => quoteS n r'
   else quoteS n r
end
/-- Where the first insertion begins and ends; both at the end, if there is none. -/
def insL (R : List UInt8) : Option (Nat × Nat) :=
 if aheadL R < R.length then match braceS (R.length + 1) (R.drop (aheadL R + 2)) with
  | none => none
  | some r => some (aheadL R, R.length - r.length)
 else some (R.length, R.length)
def bA (l : List UInt8) : ByteArray := ⟨l.toArray⟩
def noneE {α : Type} : PR α := .error (0, 0)
/-- A text without an insertion. -/
def plainM : PM ByteArray := fun s =>
 let R := (next s).x.data.toList
 match insL R with
 | none => noneE
 | some (b, _) => if b < R.length then .error (50, (next s).at_) else match saidL R with
  | none => noneE
  | some t => .ok (bA t, takeS s)
def endT (n : Nat) : Tk := ⟨0, ⟨#[]⟩, n⟩
def shiftT (d : Nat) (t : Tk) : Tk := ⟨t.k, t.x, t.at_ + d⟩
/-- An expression in an insertion that begins at a byte. -/
def insertedM (nx : Sub) (R : List UInt8) (at_ : Nat) : PM Nat := deeperM nx at_ fun p s =>
 let inside := bA ((R.drop 2).take (R.length - 3))
 match scanL inside with
 | .error (c, q) => .error (c, at_ + 2 + q)
 | .ok l => match bindP p.1 (fun i => bindP (kindM 0) fun _ s' => .ok (i, s')) (⟨((l : List Tk) ++ [endT inside.size]).map (shiftT (at_ + 2)), false, s.f⟩ : Ps) with
  | .error e => .error e
  | .ok (i, s') => .ok (i, { s with f := s'.f })
/-- A text's parts. -/
def partsM (nx : Sub) : Nat → List UInt8 → Nat → List Nat → List ByteArray → PM (List Nat × List ByteArray)
 | 0, _, _, _, _ => fun _ => noneE
 | n + 1, R, at_, args, keys => fun s => if R = [] then .ok ((args, keys), s) else match insL R with
  | none => noneE
  | some (b, e) =>
   match (if 0 < b then match saidL (R.take b) with
     | none => noneE
     | some t => bindP (addM ⟨5, bA t, [], [], at_⟩) (fun i s' => .ok ((args ++ [i], keys ++ [bA [116]]), s')) s
    else .ok ((args, keys), s) : PR (List Nat × List ByteArray)) with
   | .error x => .error x
   | .ok ((args, keys), s) =>
    match (if b < e then bindP (insertedM nx ((R.take e).drop b) (at_ + b)) (fun i s' => .ok ((args ++ [i], keys ++ [bA [101]]), s')) s
     else .ok ((args, keys), s) : PR (List Nat × List ByteArray)) with
    | .error x => .error x
    | .ok ((args, keys), s) => partsM nx n (R.drop e) (at_ + e) args keys s
def textM (nx : Sub) : PM Nat := fun s =>
 let t := next s
 let R := t.x.data.toList
 match insL R with
 | none => noneE
 | some (b, _) => if b = R.length then match saidL R with
   | none => noneE
   | some y => addM ⟨5, bA y, [], [], t.at_⟩ (takeS s)
  else bindP (partsM nx (R.length + 1) R (t.at_ + 1) [] []) (fun r => addM ⟨6, ⟨#[]⟩, r.1, r.2, t.at_⟩) (takeS s)
def wb (l : List UInt8) : ByteArray := ⟨l.toArray⟩
/-- ARGS, behind which the end is to stand. -/
def argsM (e : ByteArray) (ex : PM Nat) : Nat → List Nat → PM (List Nat)
 | 0, _ => fun _ => noneE
 | n + 1, args => fun s => if isW e (next s) then .ok (args, peekS s) else
  bindP ex (fun i => bindP (skipM (wb [44])) fun c s' => if c then argsM e ex n (args ++ [i]) s' else .ok (args ++ [i], s')) (peekS s)
def hasK (l : List ByteArray) (k : ByteArray) : Bool := l.any fun a => decide (a = k)
def keyM (ahead : List ByteArray) : PM ByteArray := fun s =>
 match (if (next s).k = 3 then plainM (peekS s) else bindP (kindM 1) (fun t s' => .ok (t.x, s')) (peekS s) : PR ByteArray) with
 | .error e => .error e
 | .ok (k, s') => if hasK ahead k then .error (2, (next s).at_) else .ok (k, s')
def objM (ex : PM Nat) : Nat → List ByteArray → List Nat → PM (List ByteArray × List Nat)
 | 0, _, _ => fun _ => noneE
 | n + 1, keys, args => fun s => if isW (wb [125]) (next s) then .ok ((keys, args), peekS s) else
  bindP (keyM keys) (fun k => bindP (wantM (wb [61])) fun _ => bindP ex fun i => bindP (skipM (wb [44])) fun c => bindP linesM fun l s' =>
   if !l && !c then .ok ((keys ++ [k], args ++ [i]), s') else objM ex n (keys ++ [k]) (args ++ [i]) s') (peekS s)
def listM (nx : Sub) : PM Nat := bindP (betweenM (wb [91]) (wb [93]) true nx fun p => bindP (skipM (wb [102, 111, 114])) fun fr =>
  if fr then bindP (kindM 1) fun t => bindP (wantM (wb [105, 110])) fun _ => bindP p.1 fun i => bindP (wantM (wb [58])) fun _ => bindP p.1 fun j s => .ok (((29 : Int), t.x, [i, j]), s)
  else fun s => bindP (argsM (wb [93]) p.1 (s.toks.length + 1) []) (fun l s' => .ok (((7 : Int), (⟨#[]⟩ : ByteArray), l), s')) s)
 fun r => addM ⟨r.1.1, r.1.2.1, r.1.2.2, [], r.2⟩
def objectM (nx : Sub) : PM Nat := bindP (betweenM (wb [123]) (wb [125]) false nx fun p => bindP linesM fun _ s => objM p.1 (s.toks.length + 1) [] [] s)
 fun r => addM ⟨8, ⟨#[]⟩, r.1.2, r.1.1, r.2⟩
def namedM (nx : Sub) : PM Nat := fun s =>
 let t := next s
 let s1 := takeS s
 if isW (wb [40]) (next s1) then
  bindP (betweenM (wb [40]) (wb [41]) true nx fun p s => argsM (wb [41]) p.1 (s.toks.length + 1) [] s) (fun r => addM ⟨12, t.x, r.1, [], t.at_⟩) (peekS s1)
 else if t.x = wb [110, 117, 108, 108] then addM ⟨1, ⟨#[]⟩, [], [], t.at_⟩ (peekS s1)
 else if t.x = wb [116, 114, 117, 101] then addM ⟨2, ⟨#[]⟩, [], [], t.at_⟩ (peekS s1)
 else if t.x = wb [102, 97, 108, 115, 101] then addM ⟨3, ⟨#[]⟩, [], [], t.at_⟩ (peekS s1)
 else addM ⟨9, t.x, [], [], t.at_⟩ (peekS s1)
def atomM (nx : Sub) : PM Nat := fun s =>
 let t := next s
 if t.k = 2 then addM ⟨4, t.x, [], [], t.at_⟩ (takeS s)
 else if t.k = 3 then textM nx s
 else if t.k = 1 ∧ t.x ≠ wb [102, 111, 114] then namedM nx s
 else if isW (wb [40]) t then bindP (betweenM (wb [40]) (wb [41]) true nx fun p => p.1) (fun r s' => .ok (r.1, s')) s
 else if isW (wb [91]) t then listM nx s
 else if isW (wb [123]) t then objectM nx s
 else .error (50, t.at_)
def indexedM (nx : Sub) (one : Nat) : PM Nat := bindP (betweenM (wb [91]) (wb [93]) true nx fun p => bindP (skipM (wb [42])) fun st =>
  if st then fun s => .ok ((true, [one]), s) else bindP p.1 fun i s => .ok ((false, [one, i]), s))
 fun r => if r.1.1 then bindP (wantM (wb [46])) fun _ => bindP (kindM 1) fun t => addM ⟨30, t.x, r.1.2, [], r.2⟩ else addM ⟨11, ⟨#[]⟩, r.1.2, [], r.2⟩
def postLoop (nx : Sub) : Nat → Nat → PM Nat
 | 0, _ => fun _ => noneE
 | n + 1, one => fun s => if isW (wb [46]) (next s) then
   bindP (kindM 1) (fun t => bindP (addM ⟨10, t.x, [one], [], (next s).at_⟩) fun i => postLoop nx n i) (takeS s)
  else if isW (wb [91]) (next s) then bindP (indexedM nx one) (fun i => postLoop nx n i) (peekS s)
  else .ok (one, peekS s)
def postedM (nx : Sub) : PM Nat := bindP (atomM nx) fun one s => postLoop nx (s.toks.length + 1) one s
def signedM (nx : Sub) : PM Nat := fun s =>
 let t := next s
 if isW (wb [33]) t then bindP (deeperM nx t.at_ fun p => p.2) (fun i => addM ⟨14, ⟨#[]⟩, [i], [], t.at_⟩) (takeS s)
 else if isW (wb [45]) t then bindP (deeperM nx t.at_ fun p => p.2) (fun i => addM ⟨13, ⟨#[]⟩, [i], [], t.at_⟩) (takeS s)
 else postedM nx (peekS s)
/-- The signs that join: their kinds. -/
def joinsT (t : Tk) : Int := if t.k ≠ 4 then 0
 else if t.x = wb [43] then 15 else if t.x = wb [45] then 16 else if t.x = wb [42] then 17 else if t.x = wb [47] then 18 else if t.x = wb [37] then 19
 else if t.x = wb [61, 61] then 20 else if t.x = wb [33, 61] then 21 else if t.x = wb [60] then 22 else if t.x = wb [62] then 23 else if t.x = wb [60, 61] then 24 else if t.x = wb [62, 61] then 25
 else if t.x = wb [38, 38] then 26 else if t.x = wb [124, 124] then 27 else 0
def lowK : Nat → Int | 0 => 27 | 1 => 26 | 2 => 20 | 3 => 22 | 4 => 15 | _ => 17
def topK : Nat → Int | 0 => 27 | 1 => 26 | 2 => 21 | 3 => 25 | 4 => 16 | _ => 19
def joinLoop (sub : PM Nat) (lv : Nat) : Nat → Nat → PM Nat
 | 0, _ => fun _ => noneE
 | n + 1, left => fun s => if lowK lv ≤ joinsT (next s) ∧ joinsT (next s) ≤ topK lv then
   bindP sub (fun right => bindP (addM ⟨joinsT (next s), ⟨#[]⟩, [left, right], [], (next s).at_⟩) fun i => joinLoop sub lv n i) (takeS s)
  else .ok (left, peekS s)
/-- n: how many levels are below. -/
def joinedM (nx : Sub) : Nat → PM Nat
 | 0 => signedM nx
 | n + 1 => bindP (joinedM nx n) fun left s => joinLoop (joinedM nx n) (5 - n) (s.toks.length + 1) left s
def exprM (nx : Sub) : PM Nat := bindP (joinedM nx 6) fun first s =>
 if isW (wb [63]) (next s) then bindP (deeperM nx (next s).at_ fun p => bindP p.1 fun i => bindP (wantM (wb [58])) fun _ => bindP p.1 fun j s => .ok ([first, i, j], s))
  (fun l => addM ⟨28, ⟨#[]⟩, l, [], (next s).at_⟩) (takeS s)
 else .ok (first, peekS s)
/-- d levels are left. -/
def subP : Nat → Sub
 | 0 => none
 | d + 1 => some (exprM (subP d), signedM (subP d))
/-- What begins with a name, one a line. -/
def itemsLoop {σ : Type} (rd : Tk → σ → PM σ) : Nat → σ → PM σ
 | 0, _ => fun _ => noneE
 | n + 1, x => fun s => if (next s).k = 1 then
   bindP (rd (next s) x) (fun x' => bindP linesM fun l s' => if l then itemsLoop rd n x' s' else .ok (x', s')) (takeS s)
  else .ok (x, peekS s)
def itemsM {σ : Type} (rd : Tk → σ → PM σ) (x : σ) : PM σ := bindP linesM fun _ s => itemsLoop rd (s.toks.length + 1) x s
def labelsM : Nat → List ByteArray → PM (List ByteArray)
 | 0, _ => fun _ => noneE
 | n + 1, l => fun s => if (next s).k = 3 then bindP plainM (fun t => labelsM n (l ++ [t])) (peekS s) else .ok (l, peekS s)
def addB (b : Bl) : PM Nat := fun s => .ok (s.f.blocks.length, { s with f := { s.f with blocks := s.f.blocks ++ [b] } })
/-- A block, from behind its type on: d levels are left. -/
def blockM : Nat → Tk → PM Nat
 | d, t => fun s => bindP (labelsM (s.toks.length + 1) []) (fun ls => bindP (wantM (wb [123])) fun o s1 => match d with
  | 0 => .error (7, o.at_)
  | d + 1 => bindP (itemsM (fun (n : Tk) (b : Bl) => bindP (skipM (wb [61])) fun eq =>
     if eq then bindP (exprM (subP d)) fun i s => .ok ({ b with attrs := b.attrs ++ [⟨n.x, i, n.at_⟩] }, s)
     else bindP (blockM d n) fun i s => .ok ({ b with blocks := b.blocks ++ [i] }, s)) ⟨t.x, ls, [], [], t.at_⟩)
    (fun b => bindP (wantM (wb [125])) fun _ s2 => addB b { s2 with over := s1.over }) { s1 with over := false }) s
def wholeM : PM Unit := bindP (itemsM (fun (n : Tk) (_ : Unit) => bindP (blockM 24 n) fun i s => .ok ((), { s with f := { s.f with top := s.f.top ++ [i] } })) ()) fun _ => bindP (kindM 0) fun _ s => .ok ((), s)
/-- The file of a text. -/
def parseF (t : ByteArray) : Except Bd Fi := match scanL t with
 | .error e => .error e
 | .ok l => match wholeM (⟨l ++ [endT t.size], false, ⟨[], [], []⟩⟩ : Ps) with
  | .error e => .error e
  | .ok (_, s) => .ok s.f
end Go.Proofs.YtljgggohjigaoaaGreatDoor
namespace Go.Proofs.YtljgggohjigaoaaGreatDoor
open Go.RowKit Go.Shelf
set_option linter.unusedVariables false

/-- Tokens, in block g from somewhere on. -/
def ToksAt (W : World) (g : Nat) (tv : Value) (l : List Tk) : Prop := ∃ o cap, tv = .slice (some ⟨g, o, none⟩) l.length cap ∧ l.length ≤ cap ∧ g < W.heap.size ∧ ∀ j u, (tkCells l)[j]? = some u → W.cell? ⟨g, o + j, none⟩ = some u
/-- The parser's own block. -/
def ParAt (W : World) (P F g : Nat) (dp : Nat) (over : Bool) (l : List Tk) : Prop := g ≠ P ∧ ∃ tv, Blk W P #[tv, .bool over, .int .i64 (dp : Int), .pointer (some ⟨F, 0, none⟩)] 64 ∧ ToksAt W g tv l
abbrev tkV (t : Tk) : Value := .agg #[.int .i64 t.k, .string t.x, .int .i64 (t.at_ : Int)]
theorem ToksAt.keep {W W' : World} {g : Nat} {tv : Value} {l : List Tk} (h : ToksAt W g tv l) (hs : W.heap.size ≤ W'.heap.size) (hg : W'.heap[g]? = W.heap[g]?) : ToksAt W' g tv l := by
 obtain ⟨o, cap, h1, h2, h3, h4⟩ := h
 exact ⟨o, cap, h1, h2, by omega, fun j u hu => by rw [← h4 j u hu]; simp [World.cell?, hg]⟩
theorem ParAt.below {W W' : World} {P F g dp : Nat} {over : Bool} {l : List Tk} (h : ParAt W P F g dp over l) (hb : Below W.heap.size W W') : ParAt W' P F g dp over l := by
 obtain ⟨h1, tv, h2, h3⟩ := h
 have hl : g < W.heap.size := by obtain ⟨_, _, _, _, h, _⟩ := h3; exact h
 exact ⟨h1, tv, h2.below hb, h3.keep hb.size (hb.block g hl)⟩
theorem tk_cells (t : Tk) (l : List Tk) : tkCells (t :: l) = [.int .i64 t.k, .string t.x, .int .i64 (t.at_ : Int)] ++ tkCells l := rfl
theorem ToksAt.head {W : World} {g o cap n : Nat} {t : Tk} {l : List Tk} (h : ∀ j u, (tkCells (t :: l))[j]? = some u → W.cell? ⟨g, o + j, none⟩ = some u) : W.cell? ⟨g, o, none⟩ = some (.int .i64 t.k) ∧ W.cell? ⟨g, o + 1, none⟩ = some (.string t.x) ∧ W.cell? ⟨g, o + 2, none⟩ = some (.int .i64 (t.at_ : Int)) :=
 ⟨h 0 _ rfl, h 1 _ rfl, h 2 _ rfl⟩
theorem ToksAt.tail {W : World} {g o : Nat} {t : Tk} {l : List Tk} (h : ∀ j u, (tkCells (t :: l))[j]? = some u → W.cell? ⟨g, o + j, none⟩ = some u) : ∀ j u, (tkCells l)[j]? = some u → W.cell? ⟨g, o + 3 + j, none⟩ = some u := fun j u hu => by
 rw [Nat.add_assoc]
 refine h (3 + j) u ?_
 rw [tk_cells, List.getElem?_append_right (by simp)]
 simpa using hu
theorem ParAt.same {W W' : World} {P F g dp : Nat} {over : Bool} {l : List Tk} (h : ParAt W P F g dp over l) (hs : W.heap.size ≤ W'.heap.size) (hP : W'.heap[P]? = W.heap[P]?) (hg : W'.heap[g]? = W.heap[g]?) : ParAt W' P F g dp over l := by
 obtain ⟨h1, tv, h2, h3⟩ := h
 exact ⟨h1, tv, hP.trans h2, h3.keep hs hg⟩
theorem ParAt.ranks {W : World} {P F g dp : Nat} {over : Bool} {l : List Tk} (h : ParAt W P F g dp over l) : P < W.heap.size ∧ g < W.heap.size ∧ g ≠ P := by
 obtain ⟨h1, tv, h2, _, _, _, _, h3, _⟩ := h
 exact ⟨h2.lt, h3, h1⟩
theorem Aside.setFar {P : Nat} {W w : World} {p : Addr} (h : Aside P W w) (hB : W.heap.size ≤ p.block) (u : Value) : Aside P W (w.setCell p u) :=
 ⟨h.os, h.tape, h.output, by simpa using h.size, fun k hk hr => (Below.heap_setCell w p u k (by omega)).trans (h.block k hk hr)⟩
theorem Blk.put3 {W : World} {B : Nat} {a b c : Value} {t : TypeId} (h : Blk W B #[a, b, c] t) (x y z : Value) : Blk (((W.setCell ⟨B, 0, none⟩ x).setCell ⟨B, 1, none⟩ y).setCell ⟨B, 2, none⟩ z) B #[x, y, z] t := ((h.set 0 x).set 1 y).set 2 z
theorem heap3 (w : World) {k B : Nat} (h : k ≠ B) (x y z : Value) : (((w.setCell ⟨B, 0, none⟩ x).setCell ⟨B, 1, none⟩ y).setCell ⟨B, 2, none⟩ z).heap[k]? = w.heap[k]? := by
 rw [Below.heap_setCell _ _ _ _ (by exact h), Below.heap_setCell _ _ _ _ (by exact h), Below.heap_setCell _ _ _ _ (by exact h)]
theorem peekL_line {t : Tk} {l : List Tk} (h : isLine t = true) : peekL true (t :: l) = peekL true l := by
 unfold peekL
 simp [h]
set_option maxRecDepth 100000 in
set_option maxHeartbeats 4000000 in
theorem peek_any {W : World} {P F g dp : Nat} {over : Bool} {l : List Tk} (h : ParAt W P F g dp over l) (hne : peekL over l ≠ []) : Calls Tryz.prog 52 #[.pointer (some ⟨P, 0, none⟩)] W fun e w' => e = .returned (tkV (headT (peekL over l))) ∧ ParAt w' P F g dp over (peekL over l) ∧ Aside P W w' := by
 have HNE := Lib.hid hne
 obtain ⟨W1, hW1⟩ : ∃ W1, W.alloc (.cells #[.int .i64 0, .string ⟨#[]⟩, .int .i64 0] 75) = W1 := ⟨_, rfl⟩
 have HR : Hid (Blk W1 W.heap.size #[.int .i64 0, .string ⟨#[]⟩, .int .i64 0] 75 ∧ Below W.heap.size W W1) := by rw [← hW1]; exact Lib.hid ⟨Blk.new _ _ _, (Below.refl _ W).alloc (Nat.le_refl _) _⟩
 have HP := Lib.hid (h.below HR.out.2)
 have HPW : Hid (P < W.heap.size ∧ g < W.heap.size) := Lib.hid ⟨h.ranks.1, h.ranks.2.1⟩
 clear h hne
 go_enter Tryz.func52, Tryz.ntmps52
 go_wp2_with fail
 go_loopg [] l.length (fun gf wx => ∃ l' : List Tk, Hid (ParAt wx P F g dp over l' ∧ peekL over l' = peekL over l ∧ Aside P W1 wx) ∧ l'.length ≤ gf)
 case atStart => exact ⟨l, Lib.hid ⟨HP.out, rfl, Aside.refl _ _⟩, Nat.le_refl _⟩
 case round =>
  obtain ⟨l', HL, hlen⟩ := hrel
  clear HP
  have hl0 : peekL over l' ≠ [] := by rw [HL.out.2.1]; exact HNE.out
  obtain ⟨t, l2, rfl⟩ : ∃ t l2, l' = t :: l2 := by
   cases l' with
   | nil => exact absurd (by cases over <;> rfl) hl0
   | cons t l2 => exact ⟨t, l2, rfl⟩
  obtain ⟨hgP, tv, hB, o, cap, rfl, hcap, hg, hc⟩ := HL.out.1
  obtain ⟨n, hn⟩ : ∃ n, l2.length = n := ⟨_, rfl⟩
  have hl1 : (t :: l2).length = n + 1 := by simp [hn]
  rw [hl1] at hB hcap hlen
  have HC := Lib.hid hc
  have HB := Lib.hid hB
  have HN := Lib.hid hn
  have hRS := HR.out.1.lt
  have hRB : Blk wr W.heap.size #[.int .i64 0, .string ⟨#[]⟩, .int .i64 0] 75 := (HL.out.2.2.block _ hRS (by have := HPW.out.1; omega)).trans HR.out.1
  have HRB := Lib.hid hRB
  have z0 := hRB.cell 0
  have z1 := hRB.cell 1
  have z2 := hRB.cell 2
  have y0 := hRB.frozen 0
  have y1 := hRB.frozen 1
  have y2 := hRB.frozen 2
  obtain ⟨c0, c1, c2⟩ := ToksAt.head (n := n) (cap := cap) hc
  have b0 := hB.cell 0
  have b1 := hB.cell 1
  have b2 := hB.cell 2
  have b3 := hB.cell 3
  have i0 : (0 : Int) < ((n : Int) + 1) := by omega
  have i1 : (1 : Int) ≤ ((n : Int) + 1) := by omega
  have i2 : ((n : Int) + 1) ≤ (cap : Int) := by omega
  clear hB hc hl0 hRB hn hl1 hRS
  cases hst : (over && isLine t) with
  | false =>
   have HE : Hid (peekL over (t :: l2) = t :: l2) := Lib.hid (by
    unfold peekL
    cases over with
    | false => rfl
    | true =>
     have : isLine t = false := by simpa using hst
     simp [this])
   have HT : Hid (headT (peekL over l) = t) := Lib.hid (by rw [← HL.out.2.1, HE.out]; rfl)
   cases over with
   | false =>
    clear hst
    go_wp2_with fail
    have hqe := HRB.out.put3 (.int .i64 t.k) (.string t.x) (.int .i64 (t.at_ : Int))
    have r0 := hqe.cell 0
    have r1 := hqe.cell 1
    have r2 := hqe.cell 2
    clear hqe
    refine bodyPost_ret (by simp [results, Tryz.results52, go_sem, r0, r1, r2]; try rfl) rfl ?_
    rw [HT.out]
    have hrk := HL.out.1.ranks
    have hW := HPW.out
    rw [← HL.out.2.1, HE.out]
    exact ⟨rfl, HL.out.1.same (by simp) (heap3 _ (by omega) _ _ _) (heap3 _ (by omega) _ _ _), (((((Aside.of HR.out.2).trans HL.out.2.2).setFar (Nat.le_refl _) _).setFar (Nat.le_refl _) _).setFar (Nat.le_refl _) _)⟩
   | true =>
    have e5 : (t.k == 5) = false := by simp [isLine] at hst; simp [hst]
    clear hst
    go_wp2_with fail
    have hqe := HRB.out.put3 (.int .i64 t.k) (.string t.x) (.int .i64 (t.at_ : Int))
    have r0 := hqe.cell 0
    have r1 := hqe.cell 1
    have r2 := hqe.cell 2
    clear hqe
    refine bodyPost_ret (by simp [results, Tryz.results52, go_sem, r0, r1, r2]; try rfl) rfl ?_
    rw [HT.out]
    have hrk := HL.out.1.ranks
    have hW := HPW.out
    rw [← HL.out.2.1, HE.out]
    exact ⟨rfl, HL.out.1.same (by simp) (heap3 _ (by omega) _ _ _) (heap3 _ (by omega) _ _ _), (((((Aside.of HR.out.2).trans HL.out.2.2).setFar (Nat.le_refl _) _).setFar (Nat.le_refl _) _).setFar (Nat.le_refl _) _)⟩
  | true =>
   obtain ⟨hov, hli⟩ : over = true ∧ isLine t = true := by simpa using hst
   subst hov
   have e5 : (t.k == 5) = true := by simpa [isLine] using hli
   have HLI : Hid (isLine t = true) := Lib.hid hli
   obtain ⟨g', rfl⟩ : ∃ g', gk = g' + 1 := ⟨gk - 1, by omega⟩
   have f0 := HB.out.frozen 0
   have q1 : ¬ cap = 1 := fun e => by
    have h0 : n = 0 := by omega
    have h1 : l2 = [] := List.length_eq_zero_iff.1 (by have := HN.out; omega)
    have h2 := HNE.out
    rw [← HL.out.2.1, peekL_line HLI.out, h1] at h2
    exact h2 rfl
   have HM : Hid (ParAt (wr.setCell ⟨P, 0, none⟩ (.slice (some ⟨g, o + 3, none⟩) n (cap - 1))) P F g dp true l2) := Lib.hid (by
    have hrk := HL.out.1.ranks
    refine ⟨hrk.2.2, _, by have := HB.out.set 0 (.slice (some ⟨g, o + 3, none⟩) n (cap - 1)); simpa using this, o + 3, cap - 1, by rw [HN.out], by have := HN.out; omega, by simpa using hg, fun j u hu => ?_⟩
    rw [World.cell?_setCell_other _ _ _ _ (by intro e; have h1 := congrArg Addr.block e; first | exact hrk.2.2 h1 | exact hrk.2.2 h1.symm)]
    exact ToksAt.tail HC.out j u hu)
   clear hst hli
   go_wp2_with fail
   go_roundg g'
   case measure => omega
   case rel => exact ⟨l2, Lib.hid ⟨HM.out, by rw [← peekL_line HLI.out]; exact HL.out.2.1, HL.out.2.2.set 0 _⟩, by have := HN.out; omega⟩
end Go.Proofs.YtljgggohjigaoaaGreatDoor
namespace Go.Proofs.YtljgggohjigaoaaGreatDoor
open Go.RowKit Go.Shelf
set_option linter.unusedVariables false

abbrev tk0 : Array Value := #[.int .i64 0, .string ⟨#[]⟩, .int .i64 0]
theorem peek_idem (over : Bool) (l : List Tk) : peekL over (peekL over l) = peekL over l := by
 unfold peekL
 cases over with
 | false => rfl
 | true => simp only [if_true]; induction l with
  | nil => rfl
  | cons t l ih =>
   by_cases h : isLine t = true
   ·rw [List.dropWhile_cons_of_pos h]; exact ih
   ·rw [List.dropWhile_cons_of_neg h, List.dropWhile_cons_of_neg h]
theorem ParAt.open {W : World} {P F g dp : Nat} {over : Bool} {t : Tk} {l : List Tk} (h : ParAt W P F g dp over (t :: l)) : g ≠ P ∧ g < W.heap.size ∧ P < W.heap.size ∧ ∃ o cap, l.length + 1 ≤ cap ∧ Blk W P #[.slice (some ⟨g, o, none⟩) (l.length + 1) cap, .bool over, .int .i64 (dp : Int), .pointer (some ⟨F, 0, none⟩)] 64 ∧
  (l ≠ [] → ∀ W' : World, W'.heap[P]? = (W.setCell ⟨P, 0, none⟩ (.slice (some ⟨g, o + 3, none⟩) l.length (cap - 1))).heap[P]? → W'.heap[g]? = W.heap[g]? → W.heap.size ≤ W'.heap.size → ParAt W' P F g dp over l) := by
 obtain ⟨h1, tv, hB, o, cap, rfl, h4, h5, h6⟩ := h
 refine ⟨h1, h5, hB.lt, o, cap, h4, hB, fun hne W' hP hg hs => ⟨h1, .slice (some ⟨g, o + 3, none⟩) l.length (cap - 1), ?_, o + 3, cap - 1, rfl, ?_, by omega, fun j u hu => ?_⟩⟩
 ·have this : Blk (W.setCell ⟨P, 0, none⟩ (.slice (some ⟨g, o + 3, none⟩) l.length (cap - 1))) P #[.slice (some ⟨g, o + 3, none⟩) l.length (cap - 1), .bool over, .int .i64 (dp : Int), .pointer (some ⟨F, 0, none⟩)] 64 := by
   have := hB.set 0 (.slice (some ⟨g, o + 3, none⟩) l.length (cap - 1))
   simpa using this
  exact hP.trans this
 ·have : (t :: l).length = l.length + 1 := rfl
  omega
 ·rw [← ToksAt.tail h6 j u hu]
  simp [World.cell?, hg]
set_option maxRecDepth 100000 in
set_option maxHeartbeats 4000000 in
/-- A token taken, behind which others are. -/
theorem ptake_any {W : World} {P F g dp : Nat} {over : Bool} {l : List Tk} (h : ParAt W P F g dp over l) (hne : (peekL over l).drop 1 ≠ []) : Calls Tryz.prog 53 #[.pointer (some ⟨P, 0, none⟩)] W fun e w' => e = .returned (tkV (headT (peekL over l))) ∧ ParAt w' P F g dp over ((peekL over l).drop 1) ∧ Aside P W w' := by
 have HNE := Lib.hid hne
 have HRK := Lib.hid h.ranks
 have HA : Hid (Blk (W.alloc (.cells tk0 75)) W.heap.size tk0 75 ∧ Below W.heap.size W (W.alloc (.cells tk0 75))) := Lib.hid ⟨Blk.new _ _ _, (Below.refl _ W).alloc (Nat.le_refl _) _⟩
 have HPK := Lib.hid (peek_any (h.below HA.out.2) (fun e => hne (by rw [e]; rfl)))
 obtain ⟨t, l2, htl⟩ : ∃ t l2, peekL over l = t :: l2 := by
  cases hp : peekL over l with
  | nil => rw [hp] at hne; exact absurd rfl hne
  | cons t l2 => exact ⟨t, l2, rfl⟩
 rw [htl] at HPK HNE ⊢
 have HPK : Hid (Calls Tryz.prog 52 #[.pointer (some ⟨P, 0, none⟩)] (W.alloc (.cells #[.int .i64 0, .string ⟨#[]⟩, .int .i64 0] 75)) (fun e w' => e = .returned (tkV t) ∧ ParAt w' P F g dp over (t :: l2) ∧ Aside P (W.alloc (.cells tk0 75)) w')) := HPK
 clear h hne htl
 go_enter Tryz.func53, Tryz.ntmps53
 go_wp2_with fail
 go_at_call 52; refine HPK.out.mono ?_; rintro e w2 ⟨rfl, hp2, ha2⟩
 have hr2 : Blk w2 W.heap.size #[.int .i64 0, .string ⟨#[]⟩, .int .i64 0] 75 := (ha2.block _ HA.out.1.lt (by have := HRK.out.1; omega)).trans HA.out.1
 have hsz2 : W.heap.size < w2.heap.size := hr2.lt
 have hal := below_new w2 (.cells #[.int .i64 t.k, .string t.x, .int .i64 (t.at_ : Int)] 75)
 have HK : Hid (ParAt (w2.alloc (.cells #[.int .i64 t.k, .string t.x, .int .i64 (t.at_ : Int)] 75)) P F g dp over (t :: l2) ∧ Blk (w2.alloc (.cells #[.int .i64 t.k, .string t.x, .int .i64 (t.at_ : Int)] 75)) w2.heap.size #[.int .i64 t.k, .string t.x, .int .i64 (t.at_ : Int)] 75 ∧ Blk (w2.alloc (.cells #[.int .i64 t.k, .string t.x, .int .i64 (t.at_ : Int)] 75)) W.heap.size #[.int .i64 0, .string ⟨#[]⟩, .int .i64 0] 75 ∧ Aside P W (w2.alloc (.cells #[.int .i64 t.k, .string t.x, .int .i64 (t.at_ : Int)] 75))) := Lib.hid ⟨hp2.below hal, Blk.new _ _ _, hr2.below hal, ((Aside.of HA.out.2).trans ha2).trans (Aside.of hal)⟩
 obtain ⟨b, hb⟩ : ∃ b, w2.heap.size = b := ⟨_, rfl⟩
 have hrk2 := hp2.ranks
 clear hp2 ha2 hr2 hal
 go_upto_region 2 with fail
 obtain ⟨w3, hw3⟩ : ∃ w3, w2.alloc (.cells #[.int .i64 t.k, .string t.x, .int .i64 (t.at_ : Int)] 75) = w3 := ⟨_, rfl⟩
 rw [hw3] at HK ⊢
 try rw [hb] at HK
 try rw [hb] at hsz2
 try rw [hb] at hrk2
 try rw [hb]
 clear hw3 hb
 obtain ⟨hgP, hg, hPl, o, cap, hcap, hB, hnext⟩ := HK.out.1.open
 obtain ⟨n, hn⟩ : ∃ n, l2.length = n := ⟨_, rfl⟩
 have hn0 : 1 ≤ n := by
  rw [← hn]
  exact List.length_pos_iff.2 HNE.out
 rw [hn] at hcap hB hnext
 have HNX := Lib.hid hnext
 have b0 := hB.cell 0
 have f0 := hB.frozen 0
 have v0 := HK.out.2.1.cell 0
 have v1 := HK.out.2.1.cell 1
 have v2 := HK.out.2.1.cell 2
 have z0 := HK.out.2.2.1.cell 0
 have z1 := HK.out.2.2.1.cell 1
 have z2 := HK.out.2.2.1.cell 2
 have y0 := HK.out.2.2.1.frozen 0
 have y1 := HK.out.2.2.1.frozen 1
 have y2 := HK.out.2.2.1.frozen 2
 have q1 : ¬ cap = 1 := by omega
 have i1 : (1 : Int) ≤ ((n : Int) + 1) := by omega
 have i2 : ((n : Int) + 1) ≤ (cap : Int) := by omega
 have d1 : ¬ b = P := by omega
 have d2 : ¬ P = b := by omega
 have d3 : ¬ W.heap.size = P := by have := HRK.out.1; omega
 have d4 : ¬ P = W.heap.size := by omega
 have hqe := (HK.out.2.2.1.other (p := ⟨P, 0, none⟩) (by exact d3) (.slice (some ⟨g, o + 3, none⟩) n (cap - 1))).put3 (.int .i64 t.k) (.string t.x) (.int .i64 (t.at_ : Int))
 have r0 := hqe.cell 0
 have r1 := hqe.cell 1
 have r2 := hqe.cell 2
 have HGP := Lib.hid hgP
 clear hqe hB hnext hn hgP
 go_wp2_with fail
 refine bodyPost_ret (by simp [results, Tryz.results53, go_sem, r0, r1, r2]; try rfl) rfl ?_
 have hrk := HRK.out
 refine ⟨rfl, HNX.out HNE.out _ (heap3 _ (by omega) _ _ _) ?_ (by simp), ((((HK.out.2.2.2.set 0 _).setFar (Nat.le_refl _) _).setFar (Nat.le_refl _) _).setFar (Nat.le_refl _) _)⟩
 exact (heap3 _ (by omega) _ _ _).trans (Below.heap_setCell _ _ _ _ HGP.out)
end Go.Proofs.YtljgggohjigaoaaGreatDoor
namespace Go.Proofs.YtljgggohjigaoaaGreatDoor
open Go.RowKit Go.Shelf
set_option linter.unusedVariables false

/-- Tokens with their end: it is the last, and no other is one. -/
def GoodT (l : List Tk) : Prop := ∃ l' e, l = l' ++ [e] ∧ e.k = 0 ∧ e.x = ⟨#[]⟩ ∧ ∀ t ∈ l', t.k ≠ 0
theorem GoodT.peek {l : List Tk} (h : GoodT l) (over : Bool) : GoodT (peekL over l) := by
 obtain ⟨l', e, rfl, h1, h2, h3⟩ := h
 cases over with
 | false => exact ⟨l', e, rfl, h1, h2, h3⟩
 | true =>
  unfold peekL
  simp only [if_true]
  induction l' with
  | nil =>
   have : isLine e = false := by simp [isLine, h1]
   exact ⟨[], e, by simp [this], h1, h2, fun t ht => by cases ht⟩
  | cons t l ih =>
   rw [List.cons_append]
   by_cases hl : isLine t = true
   ·rw [List.dropWhile_cons_of_pos hl]
    exact ih (fun x hx => h3 x (List.mem_cons_of_mem _ hx))
   ·rw [List.dropWhile_cons_of_neg hl]
    exact ⟨t :: l, e, rfl, h1, h2, h3⟩
theorem GoodT.ne {l : List Tk} (h : GoodT l) : l ≠ [] := by obtain ⟨l', e, rfl, -⟩ := h; simp
theorem GoodT.tail {t : Tk} {l : List Tk} (h : GoodT (t :: l)) (hk : t.k ≠ 0) : GoodT l := by
 obtain ⟨l', e, he, h1, h2, h3⟩ := h
 cases l' with
 | nil => simp at he; rw [he.1] at hk; exact absurd h1 hk
 | cons a m =>
  simp at he
  exact ⟨m, e, he.2, h1, h2, fun x hx => h3 x (List.mem_cons_of_mem _ hx)⟩
theorem GoodT.taken {l : List Tk} (h : GoodT l) {over : Bool} (hk : (headT (peekL over l)).k ≠ 0) : GoodT ((peekL over l).drop 1) := by
 have hp := h.peek over
 cases hc : peekL over l with
 | nil => exact absurd hc hp.ne
 | cons t m =>
  rw [hc] at hp hk
  exact hp.tail hk
theorem str_beq (a b : ByteArray) : (a.toList == b.toList) = decide (a = b) := by
 rw [ByteArray.toList_eq, ByteArray.toList_eq]
 by_cases h : a = b
 ·subst h; simp
 ·rw [decide_eq_false h]
  refine beq_eq_false_iff_ne.2 (fun e => h ?_)
  cases a; cases b
  congr 1
  exact Array.toList_inj.1 e
/-- No word is the end's, if it isn't empty. -/
theorem isW_kind {l : List Tk} (h : GoodT l) {over : Bool} {w : ByteArray} (hw : w ≠ ⟨#[]⟩) (hi : isW w (headT (peekL over l)) = true) : (headT (peekL over l)).k ≠ 0 := by
 obtain ⟨l', e, he, h1, h2, h3⟩ := h.peek over
 rw [he] at hi ⊢
 cases l' with
 | nil =>
  have hx : (headT ([] ++ [e])).x = ⟨#[]⟩ := h2
  unfold isW at hi
  simp only [Bool.and_eq_true, decide_eq_true_eq] at hi
  exact absurd (hi.2.symm.trans hx) hw
 | cons t m => exact h3 t List.mem_cons_self
section
variable {W : World} {P F g dp : Nat} {over : Bool} {l : List Tk}
set_option maxRecDepth 100000 in
set_option maxHeartbeats 4000000 in
theorem pis_any (w : ByteArray) (h : ParAt W P F g dp over l) (hg : GoodT l) : Calls Tryz.prog 102 #[.pointer (some ⟨P, 0, none⟩), .string w] W fun e w' => e = .returned (.bool (isW w (headT (peekL over l)))) ∧ ParAt w' P F g dp over (peekL over l) ∧ Aside P W w' := by
 have HPK := Lib.hid (peek_any h (hg.peek over).ne)
 obtain ⟨t, ht⟩ : ∃ t, headT (peekL over l) = t := ⟨_, rfl⟩
 rw [ht] at HPK ⊢
 obtain ⟨b1, hb1⟩ : ∃ b, (t.k != 3) = b := ⟨_, rfl⟩
 obtain ⟨b2, hb2⟩ : ∃ b, (t.x.toList == w.toList) = b := ⟨_, rfl⟩
 have HI : Hid (isW w t = (b1 && b2)) := Lib.hid (by
  rw [← hb1, ← hb2, str_beq]
  unfold isW
  congr 1
  by_cases h : t.k = 3 <;> simp [h])
 clear h hg ht
 go_enter Tryz.func102, Tryz.ntmps102
 go_wp2_with fail
 go_at_call 52; refine HPK.out.mono ?_; rintro e w2 ⟨rfl, hp2, ha2⟩
 have HP2 := Lib.hid hp2
 have HA2 := Lib.hid ha2
 have hk := Blk.new w2 #[.int .i64 t.k, .string t.x, .int .i64 (t.at_ : Int)] 75
 have v0 := hk.cell 0
 have v1 := hk.cell 1
 have v2 := hk.cell 2
 clear hk hp2 ha2
 cases b1 with
 | false =>
  go_wp2_with fail
  go_ret
  rw [HI.out]
  exact ⟨rfl, HP2.out.below (below_new w2 _), HA2.out.trans (Aside.of (below_new w2 _))⟩
 | true =>
  go_wp2_with fail
  go_ret
  rw [HI.out]
  exact ⟨by first | rfl | simp, HP2.out.below (below_new w2 _), HA2.out.trans (Aside.of (below_new w2 _))⟩
theorem diag_any (c p : Int) (w : World) : Calls Tryz.prog 31 #[.int .i64 c, .int .i64 p] w fun e w' => e = .returned (.pointer (some ⟨w.heap.size, 0, none⟩)) ∧ Blk w' w.heap.size #[.int .i64 c, .string ⟨#[]⟩, .int .i64 p] 34 ∧ Below w.heap.size w w' := by
 go_enter Tryz.func31, Tryz.ntmps31
 go_wp2_with fail
 go_ret
 exact ⟨rfl, Blk.new _ _ _, below_new _ _⟩
set_option maxRecDepth 100000 in
set_option maxHeartbeats 4000000 in
theorem refusal_any (h : ParAt W P F g dp over l) (hg : GoodT l) : Calls Tryz.prog 59 #[.pointer (some ⟨P, 0, none⟩)] W fun e w' => ∃ D, e = .returned (.pointer (some ⟨D, 0, none⟩)) ∧ W.heap.size ≤ D ∧ Blk w' D #[.int .i64 50, .string ⟨#[]⟩, .int .i64 ((headT (peekL over l)).at_ : Int)] 34 ∧ Aside P W w' := by
 have HPK := Lib.hid (peek_any h (hg.peek over).ne)
 obtain ⟨t, ht⟩ : ∃ t, headT (peekL over l) = t := ⟨_, rfl⟩
 rw [ht] at HPK ⊢
 clear h hg ht
 go_enter Tryz.func59, Tryz.ntmps59
 go_wp2_with fail
 go_at_call 52; refine HPK.out.mono ?_; rintro e w2 ⟨rfl, hp2, ha2⟩
 have HA2 := Lib.hid ha2
 have HD := Lib.hid (diag_any 50 (t.at_ : Int) w2)
 have hfl : ∀ w : World, (Instr.field 75 (tkV t) 2).run Tryz.prog w = .ok (.int .i64 (t.at_ : Int)) w := fun _ => rfl
 clear hp2 ha2
 go_wp2_with fail
 go_at_call 31; refine HD.out.mono ?_; rintro e w3 ⟨rfl, hd3, hb3⟩
 go_wp2_with fail
 go_ret
 exact ⟨_, rfl, HA2.out.size, hd3, HA2.out.trans (Aside.of hb3)⟩
end
end Go.Proofs.YtljgggohjigaoaaGreatDoor
