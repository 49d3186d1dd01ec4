/- key: one that isn't among those seen · An object's state: ahead of a key, behind it, and behind an item -/
import Derived.Maps.OwnSet
import Derived.Maps.Views
import Derived.Deep.AppendLies
import Derived.Test.YtnmfoedfllmclaaGreatDoorJr16
import Derived.Test.YtnmfoedfllmclaaGreatDoorJr24
namespace Go.Proofs.YtnmfoedfllmclaaGreatDoor
open Go.RowKit Go.Shelf Go.Maps Go.WideMaps
set_option linter.unusedVariables false

def litOf (k : ByteArray) : Lit := .string k.data.toList
def seenD (ks : List ByteArray) : DataW Unit := setOf (.agg []) (ks.map litOf)
/-- Block M is the set of these keys. -/
def SeenAt (W : World) (M : Nat) (ks : List ByteArray) : Prop := W.ownsMap (H := Unit) Tryz.prog 9 unitElem M ks.length (seenD ks)
theorem seenD_snoc (ks : List ByteArray) (k : ByteArray) : seenD (ks ++ [k]) = (seenD ks).put (litOf k) (.agg []) := by
  unfold seenD
  rw [List.map_append]
  exact setOf_snoc _ _ _
theorem has_seen (ks : List ByteArray) (k : ByteArray) : Maps.has (seenD ks) (litOf k) = ks.contains k := by
  unfold seenD
  rw [has_setOf _ _ _ (fun x hx => by obtain ⟨y, -, rfl⟩ := List.mem_map.1 hx; exact trivial)]
  induction ks with
  | nil => rfl
  | cons a l ih =>
    rw [List.map_cons, List.any_cons, ih, List.contains_cons]
    have e : (litOf a).sameKey (litOf k) = (k == a) := by
      show (a.data.toList == k.data.toList) = (k == a)
      cases a with | mk x => cases k with | mk y =>
      show (x.toList == y.toList) = (y == x)
      rw [Bool.eq_iff_iff, beq_iff_eq, beq_iff_eq]
      exact ⟨fun h => (Array.toList_inj.1 h).symm, fun h => by rw [h]⟩
    rw [e]
theorem law_str : Keyed Tryz.prog 9 := string_keyed Tryz.underlying9
/-- All blocks that were there but two are as they were. -/
structure OffM (P M : Nat) (W w' : World) : Prop where
  os : w'.os = W.os
  tape : w'.tape = W.tape
  output : w'.output = W.output
  size : W.heap.size ≤ w'.heap.size
  block : ∀ k, k < W.heap.size → k ≠ P → k ≠ M → w'.heap[k]? = W.heap[k]?
theorem OffM.of {P M : Nat} {W w w' : World} (h : Aside P W w) {row : Option Nat} (hg : w.grownBy w' row) (hr : ∀ k, row = some k → k = M) : OffM P M W w' :=
  ⟨hg.os.trans h.os, hg.tape.trans h.tape, hg.output.trans h.output, Nat.le_trans h.size hg.size, fun k hk h1 h2 => (hg.block k (Nat.lt_of_lt_of_le hk h.size) (fun e => h2 (hr k e.symm))).trans (h.block k hk h1)⟩
theorem SeenAt.aside {P M : Nat} {W w' : World} {ks : List ByteArray} (h : SeenAt W M ks) (ha : Aside P W w') (hne : M ≠ P) : SeenAt w' M ks := by
  obtain ⟨es, clock, h1, h2, h3, h4⟩ := h
  exact ⟨es, clock, (ha.block M (Array.getElem?_eq_some_iff.1 h1).1 hne).trans h1, h2, h3, h4⟩
theorem quotedJ_size {R R' : List UInt8} {s : ByteArray} (h : quotedJ R = .ok (s, R')) : s.size ≤ 16384 := by
  unfold quotedJ at h
  split at h
  · cases h
  · split at h
    · cases h
    · cases h
      show (_ : List UInt8).toArray.size ≤ _
      simp
      omega
/-- How key ends. -/
def KEnds (W : World) (P M : Nat) (t : ByteArray) (n : Nat) (ks : List ByteArray) (r : Except Bad (ByteArray × List UInt8)) (e : Ending) (w' : World) : Prop :=
  match r with
  | .ok (k, R') => e = .returned (.string k) ∧ k.size ≤ 16384 ∧ ∃ a', OffM P M W w' ∧ Rdr w' P t a' n ∧ rest t a' = R' ∧ SeenAt w' M (ks ++ [k])
  | .error b => Thrown W P t b e w'
theorem keyJ_none {ks : List ByteArray} {R : List UInt8} (h : Lib.hasPrefix (skipB R) [34] = false) : keyJ ks R = .error (30, (skipB R).length) := by
  unfold keyJ; rw [if_neg (by rw [h]; decide)]
theorem keyJ_err {ks : List ByteArray} {R : List UInt8} {b : Bad} (h : Lib.hasPrefix (skipB R) [34] = true) (hq : quotedJ (skipB R) = .error b) : keyJ ks R = .error b := by
  unfold keyJ; rw [if_pos h, hq]
theorem keyJ_twice {ks : List ByteArray} {R R' : List UInt8} {k : ByteArray} (h : Lib.hasPrefix (skipB R) [34] = true) (hq : quotedJ (skipB R) = .ok (k, R')) (hc : ks.contains k = true) : keyJ ks R = .error (2, (skipB R).length) := by
  unfold keyJ; rw [if_pos h, hq]; simp only; rw [if_pos hc]
theorem keyJ_ok {ks : List ByteArray} {R R' : List UInt8} {k : ByteArray} (h : Lib.hasPrefix (skipB R) [34] = true) (hq : quotedJ (skipB R) = .ok (k, R')) (hc : ks.contains k = false) : keyJ ks R = .ok (k, R') := by
  unfold keyJ; rw [if_pos h, hq]; simp only; rw [if_neg (by rw [hc]; decide)]
theorem head_pre {R : List UInt8} {q : UInt8} (hq : q ≠ 0) : ((headN R : Int) == (q.toNat : Int)) = Lib.hasPrefix R [q] := by
  cases R with
  | nil =>
    show (((0 : Nat) : Int) == (q.toNat : Int)) = false
    refine beq_eq_false_iff_ne.2 (fun e => hq (UInt8.toNat_inj.1 ?_))
    have : 0 = q.toNat := by omega
    exact this.symm
  | cons c r =>
    show ((c.toNat : Int) == (q.toNat : Int)) = (q == c && true)
    rw [Bool.and_true, Bool.eq_iff_iff, beq_iff_eq, beq_iff_eq]
    constructor
    · intro h; exact UInt8.toNat_inj.1 (by omega)
    · rintro rfl; rfl
theorem zero_unit (w : World) : (zeroValue 123).run Tryz.prog w = .ok (.agg #[]) w := by kernel_rfl
theorem seen_put {W : World} {M : Nat} {ks : List ByteArray} {k : ByteArray} (h : W.ownsMap (H := Unit) Tryz.prog 9 unitElem M (ks.length + 1) ((seenD ks).put (litOf k) (.agg []))) : SeenAt W M (ks ++ [k]) := by
  unfold SeenAt
  rw [List.length_append, List.length_singleton, seenD_snoc]
  exact h
theorem rdr_grown {W W' : World} {P a n : Nat} {t : ByteArray} (h : Rdr W P t a n) {row : Option Nat} (hg : W.grownBy W' row) (hr : ∀ k, row = some k → k ≠ P) : Rdr W' P t a n :=
  ⟨(hg.block P h.1.lt (fun e => hr P e.symm rfl)).trans h.1, h.2⟩
theorem thrown_at {W W1 : World} {P p : Nat} {t : ByteArray} {c : Int} {l : Nat} (ha : Aside P W W1) (hl : t.size - l = p) : Thrown W P t (c, l) (.panicked [{ v := .iface 34 (.pointer (some ⟨W1.heap.size, 0, none⟩)), recovered := false }]) (W1.alloc (.cells #[.int .i64 c, .string ⟨#[]⟩, .int .i64 (p : Int)] 48)) :=
  ⟨W1.heap.size, rfl, ha.size, by subst hl; exact Blk.new _ _ _, ha.trans (Aside.of (below_new0 _ _))⟩
set_option maxRecDepth 100000 in
set_option maxHeartbeats 4000000 in
theorem key_any {W : World} {P M a n : Nat} {t : ByteArray} {ks : List ByteArray} (h : Rdr W P t a n) (hR : ReadyJ W) (hP7 : 7 ≤ P) (hs : SeenAt W M ks) (hMP : M ≠ P) (hks : ks.length ≤ 10000) :
    Calls Tryz.prog 80 #[.pointer (some ⟨P, 0, none⟩), .map (some M)] W (KEnds W P M t n ks (keyJ ks (rest t a))) := by
  have HS := Lib.hid h
  have HR := Lib.hid hR
  have HB := Lib.hid (blanks_any h)
  have HM := Lib.hid hs
  have hh := head_pre (R := skipB (rest t a)) (q := 34) (by decide)
  clear h hR hs
  cases hq : Lib.hasPrefix (skipB (rest t a)) [34]
  · rw [hq] at hh
    have HX := Lib.hid (keyJ_none (ks := ks) hq)
    have hb : ((headN (skipB (rest t a)) : Int) == 34) = false := hh
    have hb2 : ((headN (skipB (rest t a)) : Int) != 34) = true := by simp only [bne, hb]; rfl
    obtain ⟨hd, hhd⟩ : ∃ hd, headN (skipB (rest t a)) = hd := ⟨_, rfl⟩
    rw [hhd] at hb hb2
    clear hq hh
    go_enter Tryz.func80, Tryz.ntmps80
    go_wp2_with fail
    go_at_call 42; refine HB.out.mono ?_; rintro e w1 ⟨rfl, c1, hw1, hc1⟩
    have HP1 := Lib.hid (peek_any hw1.2)
    rw [hc1, hhd] at HP1
    have k1 := hw1.2.1.cell 1
    have HW1 := Lib.hid hw1
    have HC1 := Lib.hid hc1
    clear hw1 hc1 hhd
    go_wp2_with (first | (go_at_call 57; refine HP1.out.mono ?_; rintro e w2 ⟨rfl, hb2⟩) | (go_at_call 40; refine (diag_any _ _ _).mono ?_; rintro e w3 ⟨rfl, rfl⟩))
    refine ⟨rfl, ?_⟩
    rw [HX.out]
    exact thrown_new (c := 30) (HW1.out.trans (HW1.out.2.stays hb2)) (l := (skipB (rest t a)).length) (by rw [← HC1.out]; exact rest_back HW1.out.2.2.1)
  · rw [hq] at hh
    have hb : ((headN (skipB (rest t a)) : Int) == 34) = true := hh
    have hb2 : ((headN (skipB (rest t a)) : Int) != 34) = false := by simp only [bne, hb]; rfl
    obtain ⟨hd, hhd⟩ : ∃ hd, headN (skipB (rest t a)) = hd := ⟨_, rfl⟩
    rw [hhd] at hb hb2
    obtain ⟨X, hX⟩ : ∃ X, quotedJ (skipB (rest t a)) = X := ⟨_, rfl⟩
    have HX := Lib.hid hX
    have HQ := Lib.hid hq
    clear hh hq hX
    go_enter Tryz.func80, Tryz.ntmps80
    go_wp2_with fail
    go_at_call 42; refine HB.out.mono ?_; rintro e w1 ⟨rfl, c1, hw1, hc1⟩
    have HP1 := Lib.hid (peek_any hw1.2)
    rw [hc1, hhd] at HP1
    have k1 := hw1.2.1.cell 1
    have HL : Hid (c1 < t.size) := Lib.hid (by
      have h1 := HQ.out
      rw [← hc1] at h1
      obtain ⟨r, hr⟩ := pre_head.1 h1
      have h2 := rest_length t c1
      rw [hr, List.length_cons] at h2
      omega)
    have HW1 := Lib.hid hw1
    have HC1 := Lib.hid hc1
    clear hw1 hc1 hhd
    go_wp2_with (go_at_call 57; refine HP1.out.mono ?_; rintro e w2 ⟨rfl, hbw⟩)
    have HW2 := Lib.hid (HW1.out.trans (HW1.out.2.stays hbw))
    clear hbw k1
    have hquo := quoted_any HW2.out.2 (HR.out.aside HW2.out.1 hP7) hP7 HL.out
    rw [HC1.out, HX.out] at hquo
    have HU := Lib.hid hquo
    have HP : Hid (t.size - (skipB (rest t a)).length = c1) := Lib.hid (by rw [← HC1.out]; exact rest_back (Nat.le_of_lt HL.out))
    clear hquo HP1 HB HS
    go_at_call 59; refine HU.out.mono ?_; clear HU
    cases X with
    | error b =>
      rintro e w3 ⟨D, rfl, h1, h2, h3⟩
      refine ⟨rfl, ?_⟩
      rw [keyJ_err HQ.out HX.out]
      exact Thrown.after ⟨D, rfl, h1, h2, h3⟩ HW2.out.1
    | ok y =>
      obtain ⟨k, R'⟩ := y
      rintro e w3 ⟨rfl, c3, hw3, hc3⟩
      have hk16 := quotedJ_size HX.out
      have HW3 := Lib.hid (HW2.out.trans hw3)
      have HC3 := Lib.hid hc3
      have HM3 := Lib.hid (HM.out.aside HW3.out.1 hMP)
      have hkey : keyOf Tryz.prog 9 (.string k) = some (litOf k) := keyOf_string_mk Tryz.underlying9 (by unfold maxLen; omega)
      clear hw3 hc3 HW1 HW2 HC1
      cases hc : ks.contains k
      · have hhas : Maps.has (seenD ks) (litOf k) = false := (has_seen ks k).trans hc
        have HH := Lib.hid hc
        clear hc
        go_wp2_with (first
          | (at_lookup; refine wpList_lookup_own_unit _ rfl _ _ 106 rfl 9 123 law_str Tryz.underlying106 (zero_unit _) M ks.length (seenD ks) rfl HM3.out _ (litOf k) rfl hkey ?_; rw [hhas])
          | (at_mapUpdate; refine wpList_mapUpdate_own _ rfl _ _ _ 106 rfl 9 123 law_str Tryz.underlying106 unitElem M ks.length (seenD ks) rfl (HM3.out.alloc _) (by unfold maxLen; omega) _ _ (litOf k) rfl rfl hkey (.agg []) [] unitElem_mk ?_; intro w4 hown4 hgrow4))
        go_ret
        rw [keyJ_ok HQ.out HX.out HH.out]
        have ha := HW3.out.1.trans (Aside.of ((Below.refl _ w3).alloc (Nat.le_refl _) (.cells #[] 123)))
        exact ⟨rfl, hk16, c3, OffM.of ha hgrow4 (fun j hj => by cases hj; rfl), rdr_grown (HW3.out.2.below ((Below.refl _ w3).alloc (Nat.le_refl _) _)) hgrow4 (fun j hj => by cases hj; exact hMP), HC3.out, seen_put hown4⟩
      · have hhas : Maps.has (seenD ks) (litOf k) = true := (has_seen ks k).trans hc
        have HH := Lib.hid hc
        clear hc
        go_wp2_with (first
          | (at_lookup; refine wpList_lookup_own_unit _ rfl _ _ 106 rfl 9 123 law_str Tryz.underlying106 (zero_unit _) M ks.length (seenD ks) rfl HM3.out _ (litOf k) rfl hkey ?_; rw [hhas])
          | (go_at_call 40; refine (diag_any _ _ _).mono ?_; rintro e w4 ⟨rfl, rfl⟩))
        refine ⟨rfl, ?_⟩
        rw [keyJ_twice HQ.out HX.out HH.out]
        have hT := thrown_at (c := 2) (HW3.out.1.trans (Aside.of ((Below.refl _ w3).alloc (Nat.le_refl _) (.cells #[] 123)))) HP.out
        have hs : (w3.alloc (.cells #[] 123)).heap.size = w3.heap.size + 1 := by simp
        rw [hs] at hT
        exact hT
end Go.Proofs.YtnmfoedfllmclaaGreatDoor
namespace Go.Proofs.YtnmfoedfllmclaaGreatDoor
open Go.RowKit Go.Shelf Go.Sort
set_option linter.unusedVariables false

theorem row_same {w w' : World} {B e size n : Nat} {v : Value} {xs : List Value} (h : w.ownsRow B e size v n xs) (hs : ∀ g, B ≤ g → g < w.heap.size → v.ownBlock = some g → w'.heap[g]? = w.heap[g]?) : w'.ownsRow B e size v n xs := by
  obtain ⟨h1, h2⟩ := h
  refine ⟨h1, ?_⟩
  rcases h2 with h2 | ⟨g, cap, cur, rfl, h3, h4, h5⟩
  · exact .inl h2
  · exact .inr ⟨g, cap, cur, rfl, h3, (hs g h3 (Array.getElem?_eq_some_iff.1 h4).1 rfl).trans h4, h5⟩
theorem SeenAt.same {M : Nat} {W W' : World} {ks : List ByteArray} (h : SeenAt W M ks) (e : W'.heap[M]? = W.heap[M]?) : SeenAt W' M ks := by
  obtain ⟨es, clock, h1, h2, h3, h4⟩ := h
  exact ⟨es, clock, e.trans h1, h2, h3, h4⟩
theorem OffM.ofA {P M : Nat} {W W' : World} (h : Aside P W W') : OffM P M W W' := ⟨h.os, h.tape, h.output, h.size, fun k hk h1 _ => h.block k hk h1⟩
theorem OffM.toB {H P M : Nat} {W W' : World} (h : OffM P M W W') (hM : H ≤ M) (hH : H ≤ W.heap.size) : AsideB H P W W' := ⟨h.os, h.tape, h.output, h.size, fun k hk h1 => h.block k (by omega) h1 (by omega)⟩
/-- What an object's closure has: r, depth, the result, keys, items, the set and its variable. -/
structure JObjAt (H P : Nat) (dep : Int) (W : World) (sk ks : List ByteArray) (kv v : Value) (yy : List It) : Prop where
  rp : Blk W H #[.pointer (some ⟨P, 0, none⟩)] 73
  dp : Blk W (H + 1) #[.int .i64 dep] 3
  res : Blk W (H + 2) nil5 26
  kbox : Blk W (H + 3) #[kv] 24
  box : Blk W (H + 4) #[v] 23
  sbox : Blk W (H + 6) #[.map (some (H + 5))] 106
  seen : SeenAt W (H + 5) sk
  krow : W.ownsRow (H + 7) 9 1 kv ks.length (ks.map Value.string)
  row : W.ownsRow (H + 7) 26 5 v yy.length (yy.flatMap It.cells)
  far : ∀ e ∈ yy, FarIt (H + 6) W kv v e
  small : ∀ e ∈ yy, smallT e.T
  apart : ∀ q, kv.ownBlock = some q → v.ownBlock ≠ some q
/-- An item more, not yet written; v is what the variable holds still. -/
structure JObjPre (H P : Nat) (dep : Int) (W : World) (sk ks : List ByteArray) (kv v : Value) (g cap : Nat) (yy : List It) : Prop where
  rp : Blk W H #[.pointer (some ⟨P, 0, none⟩)] 73
  dp : Blk W (H + 1) #[.int .i64 dep] 3
  res : Blk W (H + 2) nil5 26
  kbox : Blk W (H + 3) #[kv] 24
  box : Blk W (H + 4) #[v] 23
  sbox : Blk W (H + 6) #[.map (some (H + 5))] 106
  seen : SeenAt W (H + 5) sk
  krow : W.ownsRow (H + 7) 9 1 kv ks.length (ks.map Value.string)
  row : W.ownsRow (H + 7) 26 5 (.slice (some ⟨g, 0, none⟩) (yy.length + 1) cap) (yy.length + 1) (yy.flatMap It.cells ++ zero5)
  far : ∀ e ∈ yy, FarIt (H + 6) W kv (.slice (some ⟨g, 0, none⟩) (yy.length + 1) cap) e
  small : ∀ e ∈ yy, smallT e.T
  apart : ∀ q, kv.ownBlock = some q → q ≠ g
section
variable {H P : Nat} {dep : Int} {W W' X : World} {sk sk' ks : List ByteArray} {kv v : Value} {g cap : Nat} {yy : List It}
theorem JObjAt.off (h : JObjAt H P dep W sk ks kv v yy) (ha : OffM P (H + 5) W W') (hs : SeenAt W' (H + 5) sk') (hP : P < H) : JObjAt H P dep W' sk' ks kv v yy := by
  have hb : ∀ {B : Nat} {cs : Array Value} {ty : TypeId}, Blk W B cs ty → B ≠ P → B ≠ H + 5 → Blk W' B cs ty := fun hB h1 h2 => (ha.block _ hB.lt h1 h2).trans hB
  exact ⟨hb h.rp (by omega) (by omega), hb h.dp (by omega) (by omega), hb h.res (by omega) (by omega), hb h.kbox (by omega) (by omega), hb h.box (by omega) (by omega), hb h.sbox (by omega) (by omega), hs, row_same h.krow (fun g h1 h2 _ => ha.block g h2 (by omega) (by omega)), row_same h.row (fun g h1 h2 _ => ha.block g h2 (by omega) (by omega)), fun e he => (h.far e he).go ha.size (fun g h1 h2 _ _ => ha.block g h2 (by omega) (by omega)) (fun g e => .inl e) (fun g e => .inl e), h.small, h.apart⟩
theorem JObjAt.aside (h : JObjAt H P dep W sk ks kv v yy) (ha : Aside P W W') (hP : P < H) : JObjAt H P dep W' sk ks kv v yy := h.off (OffM.ofA ha) (h.seen.aside ha (by omega)) hP
/-- Behind an append to the keys, and its store. -/
theorem JObjAt.keyed {k : ByteArray} (h : JObjAt H P dep W sk ks kv v yy) (hb : Below W.heap.size W X) (hown : W'.ownsRow (H + 7) 9 1 (.slice (some ⟨g, 0, none⟩) (ks.length + 1) cap) (ks.length + 1) (ks.map Value.string ++ [.string k])) (hg : X.grownBy W' kv.ownBlock) (hat : kv.ownBlock = some g ∨ g = X.heap.size) :
    JObjAt H P dep (W'.setCell ⟨H + 3, 0, none⟩ (.slice (some ⟨g, 0, none⟩) (ks.length + 1) cap)) sk (ks ++ [k]) (.slice (some ⟨g, 0, none⟩) (ks.length + 1) cap) v yy := by
  have hk : ∀ q, kv.ownBlock = some q → H + 7 ≤ q ∧ q < W.heap.size := fun q e => World.ownsRow.lt h.krow q e
  have hv : ∀ q, v.ownBlock = some q → H + 7 ≤ q ∧ q < W.heap.size := fun q e => World.ownsRow.lt h.row q e
  have hsx := hb.size
  have hsg := hg.size
  have hg7 : H + 7 ≤ g := (World.ownsRow.lt hown g rfl).1
  have hfin : ∀ B, B < W.heap.size → B ≠ H + 3 → some B ≠ kv.ownBlock → (W'.setCell ⟨H + 3, 0, none⟩ (.slice (some ⟨g, 0, none⟩) (ks.length + 1) cap)).heap[B]? = W.heap[B]? := fun B h1 h2 h3 => by
    rw [Below.heap_setCell _ _ _ _ (by show B ≠ H + 3; omega), hg.block B (by omega) h3]
    exact hb.block B h1
  have hne : ∀ B, B < H + 7 → some B ≠ kv.ownBlock := fun B h1 e => by have := hk B e.symm; omega
  have hbk : ∀ {B : Nat} {cs : Array Value} {ty : TypeId}, Blk W B cs ty → B ≠ H + 3 → B < H + 7 → Blk (W'.setCell ⟨H + 3, 0, none⟩ (.slice (some ⟨g, 0, none⟩) (ks.length + 1) cap)) B cs ty := fun hB h1 h2 => (hfin _ hB.lt h1 (hne _ h2)).trans hB
  have hsl : H + 5 < W.heap.size := by have := h.sbox.lt; omega
  refine ⟨hbk h.rp (by omega) (by omega), hbk h.dp (by omega) (by omega), hbk h.res (by omega) (by omega), ?_, hbk h.box (by omega) (by omega), hbk h.sbox (by omega) (by omega), h.seen.same (hfin _ hsl (by omega) (hne _ (by omega))), ?_, row_same h.row (fun q h1 h2 h3 => hfin q h2 (by omega) (fun e => h.apart q e.symm h3)), fun e he => ?_, h.small, fun q e => ?_⟩
  · have hkb : Blk W' (H + 3) #[kv] 24 := ((hg.block _ (by have := h.kbox.lt; omega) (hne _ (by omega))).trans (hb.block _ h.kbox.lt)).trans h.kbox
    have := hkb.set 0 (.slice (some ⟨g, 0, none⟩) (ks.length + 1) cap)
    simpa using this
  · rw [List.length_append, List.map_append]
    exact row_set hown _ _ (by intro e; have e2 : g = H + 3 := Option.some.inj e; omega)
  · refine (h.far e he).go (by simp; omega) (fun q h1 h2 h3 _ => hfin q h2 (by omega) h3) (fun q e => ?_) (fun q e => .inl e)
    obtain rfl : g = q := Option.some.inj e
    rcases hat with h | h
    · exact .inl h
    · exact .inr (by omega)
  · obtain rfl : g = q := Option.some.inj e
    rcases hat with h1 | h1
    · exact h.apart _ h1
    · intro e2
      have := hv _ e2
      omega
theorem JObjPre.base (h : JObjPre H P dep W sk ks kv v g cap yy) : H + 7 ≤ g ∧ g < W.heap.size := World.ownsRow.lt h.row g rfl
/-- Behind an append to the items. -/
theorem JObjAt.append (h : JObjAt H P dep W sk ks kv v yy) (hown : W'.ownsRow (H + 7) 26 5 (.slice (some ⟨g, 0, none⟩) (yy.length + 1) cap) (yy.length + 1) (yy.flatMap It.cells ++ zero5)) (hg : W.grownBy W' v.ownBlock) (hat : v.ownBlock = some g ∨ g = W.heap.size) : JObjPre H P dep W' sk ks kv v g cap yy := by
  have hb : ∀ q, v.ownBlock = some q → H + 7 ≤ q ∧ q < W.heap.size := fun q e => World.ownsRow.lt h.row q e
  have hk : ∀ q, kv.ownBlock = some q → H + 7 ≤ q ∧ q < W.heap.size := fun q e => World.ownsRow.lt h.krow q e
  have hne : ∀ B, B < H + 7 → some B ≠ v.ownBlock := fun B hB e => by have := hb B e.symm; omega
  refine ⟨h.rp.grows hg (hne _ (by omega)), h.dp.grows hg (hne _ (by omega)), h.res.grows hg (hne _ (by omega)), h.kbox.grows hg (hne _ (by omega)), h.box.grows hg (hne _ (by omega)), h.sbox.grows hg (hne _ (by omega)), h.seen.same (hg.block _ (by have := h.sbox.lt; omega) (hne _ (by omega))), row_same h.krow (fun q h1 h2 h3 => hg.block q h2 (fun e => h.apart q h3 e.symm)), hown, fun e he => (h.far e he).go hg.size (fun q h1 h2 _ h3 => hg.block q h2 h3) (fun q e => .inl e) (fun q e => ?_), h.small, fun q e e2 => ?_⟩
  · obtain rfl : g = q := Option.some.inj e
    rcases hat with h | h
    · exact .inl h
    · exact .inr (by omega)
  · subst e2
    rcases hat with h1 | h1
    · exact h.apart _ e h1
    · have := hk _ e
      omega
/-- The item written, then the variable. -/
theorem JObjPre.done {y : It} (h : JObjPre H P dep W sk ks kv v g cap yy) (hy : FarIt (H + 6) W kv (.slice (some ⟨g, 0, none⟩) (yy.length + 1) cap) y) (hs : smallT y.T) :
    JObjAt H P dep ((set5 W g (yy.length * 5) (.int .i64 y.k) (.bool y.b) (.string y.t) y.x y.y).setCell ⟨H + 4, 0, none⟩ (.slice (some ⟨g, 0, none⟩) (yy.length + 1) cap)) sk ks kv (.slice (some ⟨g, 0, none⟩) (yy.length + 1) cap) (yy ++ [y]) := by
  have hb := h.base
  have hk : ∀ q, kv.ownBlock = some q → H + 7 ≤ q ∧ q < W.heap.size := fun q e => World.ownsRow.lt h.krow q e
  have hk5 : ∀ B, B ≠ g → (set5 W g (yy.length * 5) (.int .i64 y.k) (.bool y.b) (.string y.t) y.x y.y).heap[B]? = W.heap[B]? := fun B hB => set5_other W g _ _ _ _ _ _ hB
  have hfin : ∀ q, q ≠ H + 4 → q ≠ g → (((set5 W g (yy.length * 5) (.int .i64 y.k) (.bool y.b) (.string y.t) y.x y.y).setCell ⟨H + 4, 0, none⟩ (.slice (some ⟨g, 0, none⟩) (yy.length + 1) cap))).heap[q]? = W.heap[q]? := fun q h1 h2 => by
    rw [Below.heap_setCell _ _ _ _ (by show q ≠ H + 4; omega)]
    exact hk5 q h2
  have hbk : ∀ {B : Nat} {cs : Array Value} {ty : TypeId}, Blk W B cs ty → B ≠ H + 4 → B < H + 7 → Blk (((set5 W g (yy.length * 5) (.int .i64 y.k) (.bool y.b) (.string y.t) y.x y.y).setCell ⟨H + 4, 0, none⟩ (.slice (some ⟨g, 0, none⟩) (yy.length + 1) cap))) B cs ty := fun hB h1 h2 => (hfin _ h1 (by omega)).trans hB
  have hrow := row_last h.row (by rw [flat5_length]) (.int .i64 y.k) (.bool y.b) (.string y.t) y.x y.y
  have hsz : W.heap.size ≤ ((set5 W g (yy.length * 5) (.int .i64 y.k) (.bool y.b) (.string y.t) y.x y.y).setCell ⟨H + 4, 0, none⟩ (.slice (some ⟨g, 0, none⟩) (yy.length + 1) cap)).heap.size := by simp [set5]
  have hgo : ∀ e, FarIt (H + 6) W kv (.slice (some ⟨g, 0, none⟩) (yy.length + 1) cap) e → FarIt (H + 6) ((set5 W g (yy.length * 5) (.int .i64 y.k) (.bool y.b) (.string y.t) y.x y.y).setCell ⟨H + 4, 0, none⟩ (.slice (some ⟨g, 0, none⟩) (yy.length + 1) cap)) kv (.slice (some ⟨g, 0, none⟩) (yy.length + 1) cap) e := fun e he =>
    he.go hsz (fun q h1 h2 _ h3 => hfin q (by omega) (fun e => h3 (by rw [e]; rfl))) (fun q e => .inl e) (fun q e => .inl e)
  refine ⟨hbk h.rp (by omega) (by omega), hbk h.dp (by omega) (by omega), hbk h.res (by omega) (by omega), hbk h.kbox (by omega) (by omega), ?_, hbk h.sbox (by omega) (by omega), h.seen.same (hfin _ (by omega) (by omega)), row_same h.krow (fun q h1 h2 h3 => hfin q (by omega) (h.apart q h3)), ?_, fun e he => ?_, fun e he => ?_, fun q e e2 => h.apart q e (Option.some.inj e2).symm⟩
  · have hbb : Blk (set5 W g (yy.length * 5) (.int .i64 y.k) (.bool y.b) (.string y.t) y.x y.y) (H + 4) #[v] 23 := (hk5 _ (by omega)).trans h.box
    have := hbb.set 0 (.slice (some ⟨g, 0, none⟩) (yy.length + 1) cap)
    simpa using this
  · rw [List.length_append, List.flatMap_append]
    simp only [List.flatMap_cons, List.flatMap_nil, List.append_nil]
    exact row_set hrow _ _ (by intro e; have e2 : g = H + 4 := Option.some.inj e; omega)
  · rcases List.mem_append.1 he with he | he
    · exact hgo _ (h.far e he)
    · rw [List.mem_singleton] at he
      subst he
      exact hgo _ hy
  · rcases List.mem_append.1 he with he | he
    · exact h.small e he
    · rw [List.mem_singleton] at he
      subst he
      exact hs
theorem obj_cells (h : JObjPre H P dep W sk ks kv v g cap yy) : H + 7 ≤ g ∧ W.cell? ⟨g, yy.length * 5, none⟩ = some (.int .i64 0) ∧ W.cell? ⟨g, yy.length * 5 + 1, none⟩ = some (.bool false) ∧ W.cell? ⟨g, yy.length * 5 + 2, none⟩ = some (.string ⟨#[]⟩) ∧ W.cell? ⟨g, yy.length * 5 + 3, none⟩ = some (.slice none 0 0) ∧ W.cell? ⟨g, yy.length * 5 + 4, none⟩ = some (.slice none 0 0) ∧ W.frozen? ⟨g, yy.length * 5, none⟩ = false ∧ W.frozen? ⟨g, yy.length * 5 + 1, none⟩ = false ∧ W.frozen? ⟨g, yy.length * 5 + 2, none⟩ = false ∧ W.frozen? ⟨g, yy.length * 5 + 3, none⟩ = false ∧ W.frozen? ⟨g, yy.length * 5 + 4, none⟩ = false := by
  have hl : (yy.flatMap It.cells).length = yy.length * 5 := flat5_length yy
  have hc : ∀ i u, zero5[i]? = some u → W.cell? ⟨g, yy.length * 5 + i, none⟩ = some u := fun i u hu => by
    have := World.ownsRow.cells h.row (g := g) rfl (yy.length * 5 + i) u (by rw [List.getElem?_append_right (by omega), hl, Nat.add_sub_cancel_left]; exact hu)
    rwa [Lib.add_plain, Nat.zero_add] at this
  have hf : ∀ i, W.frozen? ⟨g, i, none⟩ = false := fun i => by
    obtain ⟨-, h1 | ⟨g', cap', cur, h1, h2, h3, -⟩⟩ := h.row
    · omega
    · cases h1; exact Blk.frozen h3 i
  exact ⟨h.base.1, hc 0 _ rfl, hc 1 _ rfl, hc 2 _ rfl, hc 3 _ rfl, hc 4 _ rfl, hf _, hf _, hf _, hf _, hf _⟩
end
/-- What is read so far: keys and their trees. -/
def ObjSt2 (H P : Nat) (dep : Int) (W : World) (st : List (ByteArray × VT)) (n : Nat) : Prop := ∃ kv v yy, JObjAt H P dep W (st.map Prod.fst) (st.map Prod.fst) kv v yy ∧ yy.map It.T = st.map Prod.snd ∧ st.length ≤ n ∧ ∀ k ∈ st.map Prod.fst, k.size ≤ 16384
theorem info_str1 : (Tryz.prog.info? 9).map (fun i => (i.zero, i.size, i.bytes)) = some (some (.string ⟨#[]⟩), 1, 16) := by kernel_rfl
theorem app_key {P : Program} (hu : P.underlying 24 = some (.slice 9)) {iV : TypeInfo} {zV : Value} (hiV : P.info? 9 = some iV) (hzV : iV.zero = some zV) (hsV : iV.size = 1) (hbV : iV.bytes = 16) (hzs : zV.cells.size = 1) {ops : Array Oper} {o : Oper} {a : Act} {w : World} {K : Act → World → Prop} {Q : Exit → Act → World → Prop} {E : Prop} {H k B s x : Nat} {kk : ByteArray} {v : Value} {xs : List Value} (hgd : o.guard = none)
    (ho : o.op = .call { callee := .builtin .append, args := #[.tmp s, .tmp x], argTypes := #[24, 24] }) (hs : a.eval (.tmp s) = v) (hown : w.ownsRow H 9 1 v k xs) (hx : a.eval (.tmp x) = .slice (some ⟨B, 0, none⟩) 1 1)
    (hnews : ∀ j u, [Value.string kk][j]? = some u → w.cell? ((⟨B, 0, none⟩ : Addr).add j) = some u) (hk : k ≤ 10000) (hbase : H ≤ w.heap.size)
    (h : ∀ g cap w', w'.ownsRow H 9 1 (.slice (some ⟨g, 0, none⟩) (k + 1) cap) (k + 1) (xs ++ [.string kk]) → w.grownBy w' v.ownBlock → (v.ownBlock = some g ∨ g = w.heap.size) → g < w'.heap.size → K (a.put o.dst (.slice (some ⟨g, 0, none⟩) (k + 1) cap)) w') :
    if Region.wanted o (yielded ops a.tmps) = true then Oper.wp P o a w K Q else E :=
  step_append_lies w hgd (.tmp s) (.tmp x) 24 ho H 9 iV zV 1 16 hu hiV hzV hsV hbV hzs (by decide) v k xs hs hown ⟨B, 0, none⟩ 1 1 [.string kk] hx rfl hnews
    (by intro u hu; simp at hu; subst hu; rfl) (by decide) (by unfold maxLen; omega) (by omega) hbase w.heap.size rfl h
end Go.Proofs.YtnmfoedfllmclaaGreatDoor
