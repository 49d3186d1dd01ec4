/- A list · Where a text's insertions stand: what goes behind a brace, behind a quote · What goes behind a brace, behind a quote: walked -/
import Derived.Test.YtljgggohjigaoaaGreatDoorSy07
import Derived.Test.YtljgggohjigaoaaGreatDoorSy13
import Derived.Test.YtljgggohjigaoaaGreatDoorSy22
namespace Go.Proofs.YtljgggohjigaoaaGreatDoor
open Go.RowKit Go.Shelf
set_option linter.unusedVariables false

theorem listE_dec {d : Nat} {ex : PM Nat} (hD : Dec d 0 ex) : Dec d 0 (listE ex) := by
  refine (Dec.bind (e := 0) Dec.skip fun fr => ?_).mono (by omega)
  cases fr with
  | true => exact (Dec.bind (e := 0) Dec.kind0 fun t => (Dec.bind (e := 0) (Dec.want (by decide)) fun _ => (Dec.bind (e := 0) hD fun i => (Dec.bind (e := 0) (Dec.want (by decide)) fun _ => (Dec.bind (e := 0) hD fun j => Dec.pure).mono (by omega)).mono (by omega)).mono (by omega)).mono (by omega)).mono (by omega)
  | false => exact fun s hS => (Dec.bind (e := 0) (args_dec hD _ _) fun l => Dec.pure).mono (by omega) s hS
section
variable {P F T lo dp d : Nat} {nx : Sub}
set_option maxRecDepth 100000 in
set_option maxHeartbeats 4000000 in
theorem list_any (hs : Subs F lo dp d nx) : Rds P F T lo dp d 162 #[.pointer (some ⟨P, 0, none⟩)] (listM nx) := by
  intro W s m h he hf
  have hB1 := Loc.new h #[.pointer (some ⟨P, 0, none⟩)] 88
  have hU1 := (Un.start (X := []) h he hf).alloc (.cells #[.pointer (some ⟨P, 0, none⟩)] 88)
  obtain ⟨W1, hW1⟩ : ∃ W1, W.alloc (.cells #[.pointer (some ⟨P, 0, none⟩)] 88) = W1 := ⟨_, rfl⟩
  have hs1 : W1.heap.size = W.heap.size + 1 := by rw [← hW1]; simp
  rw [hW1] at hB1 hU1
  have hE3 := UnE.new (N := W.heap.size + 1) hU1.ps 7 ⟨#[]⟩ 0
  have hU3 := hU1.alloc (.cells #[.int .i64 7, .string ⟨#[]⟩, .slice none 0 0, .slice none 0 0, .int .i64 0] 38)
  have hB3 := hB1.alloc (.cells #[.int .i64 7, .string ⟨#[]⟩, .slice none 0 0, .slice none 0 0, .int .i64 0] 38)
  have b3a := hB3.blk.cell 0
  obtain ⟨W3, hW3⟩ : ∃ W3, W1.alloc (.cells #[.int .i64 7, .string ⟨#[]⟩, .slice none 0 0, .slice none 0 0, .int .i64 0] 38) = W3 := ⟨_, rfl⟩
  have hE3 : UnE W3 P F T lo (W.heap.size + 1) m W1.heap.size (⟨⟨7, ⟨#[]⟩, [], [], 0⟩, .slice none 0 0, .slice none 0 0⟩ : ExM) := by rw [← hW3]; exact hE3
  have hs3 : W3.heap.size = W1.heap.size + 1 := by rw [← hW3]; simp
  rw [hW3] at hU3 hB3
  have h4W := he.ready.1
  have hXf : ∀ k, k ∈ W1.heap.size :: (⟨⟨7, ⟨#[]⟩, [], [], 0⟩, .slice none 0 0, .slice none 0 0⟩ : ExM).foot → 4 ≤ k ∧ W.heap.size < k ∧ k < W3.heap.size := fun k hk => by
    rcases List.mem_cons.1 hk with rfl | hk
    · omega
    · cases hk
  have hGR := grouped_any (α := Int × ByteArray × List Nat) hU3.ps hs.left (b := ⟨#[91]⟩) (en := ⟨#[93]⟩) (by decide) (by decide) (enters_of Tryz.func172 (by kernel_rfl) rfl) (lbr := #[.pointer (some ⟨W.heap.size, 0, none⟩), .pointer (some ⟨W1.heap.size, 0, none⟩)]) (X := W1.heap.size :: (⟨⟨7, ⟨#[]⟩, [], [], 0⟩, .slice none 0 0, .slice none 0 0⟩ : ExM).foot) (fun k hk => (hXf k hk).2.2) (f := fun p => listE p.1) (St := StE P F T lo (W.heap.size + 1) W1.heap.size (fun (r : Int × ByteArray × List Nat) => ⟨r.1, r.2.1, r.2.2, [], 0⟩)) StE.aside
    (fun p hp W' s' ha hp' ho ht hff => by
      obtain ⟨d', rfl, hd1, hd2, hr1, hr2⟩ := hs.sub p hp
      exact list1_any (hr1 P T) hd1 (UnS.enter hE3 ha hp' hU3.env (hf.take.down.like ht hff) (by omega) (by omega) (by omega)) (hB3.aside ha) ⟨by omega, by omega⟩)
  obtain ⟨R, hR⟩ : ∃ R, listM nx s = R := ⟨_, rfl⟩
  have HR : Hid (bindP (betweenM ⟨#[91]⟩ ⟨#[93]⟩ true nx fun p => listE p.1) (fun r => addM ⟨r.1.1, r.1.2.1, r.1.2.2, [], r.2⟩) s = R) := Lib.hid hR
  have hDB : Dec d 1 (betweenM ⟨#[91]⟩ ⟨#[93]⟩ true nx fun p => listE p.1) := Dec.between (by decide) (fun p hp => listE_dec (hs.ok.expr p hp))
  rw [hR]
  obtain ⟨RB, hRB⟩ : ∃ RB, betweenM ⟨#[91]⟩ ⟨#[93]⟩ true nx (fun p => listE p.1) s = RB := ⟨_, rfl⟩
  have hGR : Calls Tryz.prog 160 _ W3 (KEnd W3 P F T lo dp m _ _ (betweenM ⟨#[91]⟩ ⟨#[93]⟩ true nx (fun p => listE p.1) s) _) := hGR
  rw [hRB] at hGR
  have HGR := Lib.hid hGR
  have HW3 := Lib.hid hW3
  have HRB := Lib.hid hRB
  have HU3 := Lib.hid hU3
  have HB3 := Lib.hid hB3
  have HE3 := Lib.hid hE3
  have HDB := Lib.hid hDB
  have HXF := Lib.hid hXf
  have HSZ := Lib.hid (And.intro hs1 (And.intro hs3 h4W))
  have b1 := hB1.blk.cell 0
  have b3 := hB3.blk.cell 0
  have hmf : ∀ (fn : Fn) (first cap : Array Value) (w : World), (Instr.makeFunc fn first cap).run Tryz.prog w = .ok (.func fn first cap) w := fun _ _ _ _ => rfl
  clear hW3 h he hf hs hR hGR hRB hU1 hU3 hB1 hB3 hE3 hDB hs1 hs3 h4W hXf
  go_enter Tryz.func162, Tryz.ntmps162
  go_wp2_with fail
  go_at_call 160; rw [HW3.out]; refine HGR.out.mono ?_
  intro e w4 hk
  cases RB with
  | error bd =>
    obtain ⟨D, rfl, hk2⟩ := HU3.out.kbad (fun k hk => .inr (Nat.le_of_lt (HXF.out k hk).2.1)) hk
    refine ⟨rfl, ?_⟩
    rw [bind_err HRB.out HR.out]
    exact Bad.p ⟨D, rfl, hk2⟩
  | ok y =>
    obtain ⟨⟨r, at_⟩, s4⟩ := y
    have hk4 := HU3.out.kend (fun k hk => ⟨(HXF.out k hk).1, .inr (Nat.le_of_lt (HXF.out k hk).2.1)⟩) (HU3.out.fit.dec HDB.out (by decide) HRB.out) hk
    obtain ⟨rfl, m4, hU4, hx4, hl4, x4, he4, hE4⟩ := hk4
    have hR4 := bind_ok HRB.out HR.out
    simp only at hR4 he4
    obtain ⟨⟨k0, t0, l0, kk0, a0⟩, av0, kv0⟩ := x4
    simp only [Ex.mk.injEq] at he4
    obtain ⟨rfl, rfl, rfl, rfl, rfl⟩ := he4
    have hz := HSZ.out
    have hB4 := HB3.out.kstep hx4 hl4 (fun hm => by have := (HXF.out _ hm).2.1; omega)
    have HB4 := Lib.hid hB4
    have hU5 := hU4.set (B := W1.heap.size) ⟨hE4.loc.neP, hE4.loc.neT, hE4.loc.out, by omega, .inr (by omega)⟩ 4 (.int .i64 (at_ : Int))
    have hE5 := hE4.setAt at_
    have hB5 := hB4.lc (Lc.set w4 W1.heap.size 4 (.int .i64 (at_ : Int)) (Y := [W1.heap.size]) (by simp)) (by simp; omega)
    have c4 := hE4.loc.blk.cell 4
    have f4 := hE4.loc.blk.frozen 4
    obtain ⟨W5, hW5⟩ : ∃ W5, w4.setCell ⟨W1.heap.size, 4, none⟩ (.int .i64 (at_ : Int)) = W5 := ⟨_, rfl⟩
    rw [hW5] at hU5 hE5 hB5
    have b5 := hB5.blk.cell 0
    have q0 := hE5.loc.blk.cell 0
    have q1 := hE5.loc.blk.cell 1
    have q2 := hE5.loc.blk.cell 2
    have q3 := hE5.loc.blk.cell 3
    have q4 := hE5.loc.blk.cell 4
    have HADD := Lib.hid (hU5.addE (hE5.mono (by omega)))
    have hend : R = addM ⟨r.1, r.2.1, r.2.2, [], at_⟩ s4 := hR4.symm
    have HEND := Lib.hid hend
    clear hU4 hx4 hl4 hE4 hB4 hU5 hE5 hB5 hR4 hk hend hz
    go_wp2_with fail
    go_at_call 105; refine HADD.out.mono ?_
    rintro e w6 ⟨rfl, m6, hp6, ho6, hl6⟩
    have hnv : natV s4.f.exprs.length = .int .i64 (s4.f.exprs.length : Int) := rfl
    rw [hnv]
    go_wp2_with fail
    go_ret
    rw [HEND.out]
    exact ⟨rfl, m6, hp6, ho6, hl6⟩
end
end Go.Proofs.YtljgggohjigaoaaGreatDoor
namespace Go.Proofs.YtljgggohjigaoaaGreatDoor
open Go.RowKit Go.Shelf
set_option linter.unusedVariables false

theorem brace_sfx : ∀ (n : Nat) (R r : List UInt8), (braceS n R = some r → r <:+ R) ∧ (quoteS n R = some r → r <:+ R) := by
  intro n
  induction n with
  | zero => intro R r; exact ⟨fun h => by simp [braceS] at h, fun h => by simp [quoteS] at h⟩
  | succ n ih =>
    intro R r
    cases R with
    | nil => exact ⟨fun h => by simp [braceS] at h, fun h => by simp [quoteS] at h⟩
    | cons c l =>
      have hc := List.suffix_cons c l
      have hd := (List.drop_suffix 1 l).trans hc
      refine ⟨fun h => ?_, fun h => ?_⟩
      · unfold braceS at h
        simp only at h
        split at h
        · cases h; exact hc
        · split at h
          · cases hb : braceS n l with
            | none => rw [hb] at h; cases h
            | some r' => rw [hb] at h; exact ((ih r' r).1 h).trans (((ih l r').1 hb).trans hc)
          · split at h
            · cases hb : quoteS n l with
              | none => rw [hb] at h; cases h
              | some r' => rw [hb] at h; exact ((ih r' r).1 h).trans (((ih l r').2 hb).trans hc)
            · exact ((ih l r).1 h).trans hc
      · unfold quoteS at h
        simp only at h
        split at h
        · cases h; exact hc
        · split at h
          · exact ((ih (l.drop 1) r).2 h).trans hd
          · split at h
            · cases hb : braceS n (l.drop 1) with
              | none => rw [hb] at h; cases h
              | some r' => rw [hb] at h; exact ((ih r' r).2 h).trans (((ih (l.drop 1) r').1 hb).trans hd)
            · exact ((ih l r).2 h).trans hc
theorem rest_sfx {x : ByteArray} {r : List UInt8} (h : r <:+ x.data.toList) : r.length ≤ x.size ∧ rest x (x.size - r.length) = r := by
  obtain ⟨t, ht⟩ := h
  have hl : t.length + r.length = x.size := by
    have := congrArg List.length ht
    simpa using this
  refine ⟨by omega, ?_⟩
  unfold rest
  rw [← ht, show x.size - r.length = t.length by omega]
  simp
theorem rest_is_sfx (x : ByteArray) (a : Nat) : rest x a <:+ x.data.toList := List.drop_suffix _ _
theorem rest_head {x : ByteArray} {a : Nat} {c : UInt8} {r : List UInt8} (h : rest x a = c :: r) : ∃ ha : a < x.size, x[a]'ha = c ∧ rest x (a + 1) = r := by
  have hl : a < x.size := by
    have := congrArg List.length h
    rw [rest_length] at this
    simp at this
    omega
  have h2 := rest_cons hl
  rw [h] at h2
  cases h2
  exact ⟨hl, rfl, rfl⟩
/-- It answers where what is left begins. -/
def SkipsTo (x : ByteArray) (r : List UInt8) (W : World) (e : Ending) (w' : World) : Prop := e = .returned (.int .i64 ((x.size - r.length : Nat) : Int)) ∧ Below W.heap.size W w'
def BraceAt (n : Nat) : Prop := ∀ (x : ByteArray) (a : Nat) (r : List UInt8) (W : World), x.size ≤ 1000000000 → a ≤ x.size → braceS n (rest x a) = some r → Calls Tryz.prog 97 #[.string x, .int .i64 (a : Int)] W (SkipsTo x r W)
def QuoteAt (n : Nat) : Prop := ∀ (x : ByteArray) (a : Nat) (r : List UInt8) (W : World), x.size ≤ 1000000000 → a ≤ x.size → quoteS n (rest x a) = some r → Calls Tryz.prog 118 #[.string x, .int .i64 (a : Int)] W (SkipsTo x r W)
theorem ne_u8 {c : UInt8} {k : Nat} (hk : k < 256) (h : c ≠ UInt8.ofNat k) : ((c.toNat : Int) == (k : Int)) = false := beq_eq_false_iff_ne.2 (fun e => h (UInt8.toNat_inj.1 (by have := Int.ofNat.inj e; rw [this]; simp; omega)))
end Go.Proofs.YtljgggohjigaoaaGreatDoor
namespace Go.Proofs.YtljgggohjigaoaaGreatDoor
open Go.RowKit Go.Shelf
set_option linter.unusedVariables false

theorem braceS_step {n : Nat} {c : UInt8} {l : List UInt8} : braceS (n + 1) (c :: l) = if c = 125 then some l else if c = 123 then match braceS n l with | none => none | some r' => braceS n r' else if c = 34 then match quoteS n l with | none => none | some r' => braceS n r' else braceS n l := by
  conv => lhs; unfold braceS
  rfl
theorem quoteS_step {n : Nat} {c : UInt8} {l : List UInt8} : quoteS (n + 1) (c :: l) = if c = 34 then some l else if c = 92 then quoteS n (l.drop 1) else if c = 36 ∧ l.head? = some 123 then match braceS n (l.drop 1) with | none => none | some r' => quoteS n r' else quoteS n l := by
  conv => lhs; unfold quoteS
  rfl
theorem has2 {x : ByteArray} {b : Nat} {c : UInt8} {l : List UInt8} (h : rest x b = c :: l) : Lib.hasPrefix (rest x b) [36, 123] = decide (c = 36 ∧ l.head? = some 123) := by
  rw [h]
  cases l with
  | nil => simp [Lib.hasPrefix, List.isPrefixOf]
  | cons d l =>
    have h1 : Lib.hasPrefix (c :: d :: l) [36, 123] = ((36 : UInt8) == c && ((123 : UInt8) == d && true)) := rfl
    rw [h1, Bool.eq_iff_iff, Bool.and_true, Bool.and_eq_true, beq_iff_eq, beq_iff_eq, decide_eq_true_iff, List.head?_cons, Option.some.injEq]
    exact ⟨fun h => ⟨h.1.symm, h.2.symm⟩, fun h => ⟨h.1.symm, h.2.symm⟩⟩
theorem skip_end {x : ByteArray} {b : Nat} {r : List UInt8} (hb : b < x.size) (h : rest x (b + 1) = r) : ((x.size - r.length : Nat) : Int) = (b : Int) + 1 := by
  have h1 := congrArg List.length h
  rw [rest_length] at h1
  omega
set_option maxRecDepth 100000 in
set_option maxHeartbeats 4000000 in
theorem brace_walk {n : Nat} (hB : ∀ k, k < n → BraceAt k) (hQ : ∀ k, k < n → QuoteAt k) : BraceAt n := by
  intro x a r W hsz ha hr
  have HB := Lib.hid hB
  have HQ := Lib.hid hQ
  have HR := Lib.hid hr
  clear hr hB hQ
  go_enter Tryz.func97, Tryz.ntmps97
  go_wp2_with fail
  go_loopg [1] n (fun gf s1 wx => ∃ (b : Nat), s1 = .int .i64 (b : Int) ∧ b ≤ x.size ∧ Hid (braceS gf (rest x b) = some r) ∧ gf ≤ n ∧ Hid (Below W.heap.size W wx))
  case atStart => exact ⟨a, rfl, ha, HR, Nat.le_refl _, Lib.hid (Below.refl _ _)⟩
  case round =>
    obtain ⟨b, rfl, hb, HRb, hgn, HBW⟩ := hrel
    clear ha HR
    obtain ⟨g', rfl⟩ : ∃ g', gk = g' + 1 := by
      cases gk with
      | zero => exact absurd HRb.out (by simp [braceS])
      | succ g' => exact ⟨g', rfl⟩
    obtain ⟨c, l, hcl⟩ : ∃ c l, rest x b = c :: l := by
      cases hh : rest x b with
      | nil => have h1 := HRb.out; rw [hh] at h1; simp [braceS] at h1
      | cons c l => exact ⟨c, l, rfl⟩
    obtain ⟨hlt, hc, hl⟩ := rest_head hcl
    have HL := Lib.hid hl
    have HRc : Hid (braceS (g' + 1) (c :: l) = some r) := Lib.hid (by rw [← hcl]; exact HRb.out)
    have hix := fun W => byte_run hlt hc W
    have j0 : (0 : Int) ≤ (b : Int) := by omega
    have j1 : (b : Int) < (x.size : Int) := by omega
    have hr1 := rest_length x (b + 1)
    clear hcl hc hl HRb
    by_cases h125 : c = 125
    · have e1 : ((c.toNat : Int) == 125) = true := by rw [h125]; rfl
      have e2 : ((c.toNat : Int) != 125) = false := by rw [h125]; rfl
      have HE : Hid (l = r) := Lib.hid (by
        have h1 := HRc.out
        rw [braceS_step, if_pos h125] at h1
        cases h1
        rfl)
      clear h125
      go_wp2_with fail
      go_ret
      refine ⟨?_, HBW.out⟩
      rw [skip_end (x := x) (b := b) hlt (by rw [HL.out, HE.out])]
      rfl
    · have e1 : ((c.toNat : Int) == 125) = false := ne_u8 (k := 125) (by omega) h125
      have e2 : ((c.toNat : Int) != 125) = true := by simp only [bne, e1]; rfl
      by_cases h123 : c = 123
      · have e3 : ((c.toNat : Int) == 123) = true := by rw [h123]; rfl
        have h2 := HRc.out
        rw [braceS_step, if_neg h125, if_pos h123] at h2
        cases hs : braceS g' l with
        | none => rw [hs] at h2; cases h2
        | some r' =>
          rw [hs] at h2
          have hsf := rest_sfx (((brace_sfx g' l r').1 hs).trans (by rw [← HL.out]; exact rest_is_sfx x (b + 1)))
          have HCB : Hid (Calls Tryz.prog 97 #[.string x, .int .i64 ((b : Int) + 1)] wr (SkipsTo x r' wr)) := Lib.hid (HB.out g' (by omega) x (b + 1) r' wr hsz (by omega) (by rw [HL.out]; exact hs))
          have HN : Hid (braceS g' (rest x (x.size - r'.length)) = some r) := Lib.hid (by rw [hsf.2]; exact h2)
          have hsl := hsf.1
          clear h2 hs h123 h125 hsf
          go_wp2_with fail
          go_at_call 97; refine HCB.out.mono ?_; rintro e w2 ⟨rfl, hb2⟩
          have HB2 := Lib.hid (HBW.out.trans (hb2.mono HBW.out.size))
          clear hb2
          go_wp2_with fail
          go_roundg g'
          case measure => omega
          case rel => exact ⟨x.size - r'.length, rfl, by omega, HN, by omega, HB2⟩
      · have e3 : ((c.toNat : Int) == 123) = false := ne_u8 (k := 123) (by omega) h123
        by_cases h34 : c = 34
        · have e4 : ((c.toNat : Int) == 34) = true := by rw [h34]; rfl
          have h2 := HRc.out
          rw [braceS_step, if_neg h125, if_neg h123, if_pos h34] at h2
          cases hs : quoteS g' l with
          | none => rw [hs] at h2; cases h2
          | some r' =>
            rw [hs] at h2
            have hsf := rest_sfx (((brace_sfx g' l r').2 hs).trans (by rw [← HL.out]; exact rest_is_sfx x (b + 1)))
            have HCB : Hid (Calls Tryz.prog 118 #[.string x, .int .i64 ((b : Int) + 1)] wr (SkipsTo x r' wr)) := Lib.hid (HQ.out g' (by omega) x (b + 1) r' wr hsz (by omega) (by rw [HL.out]; exact hs))
            have HN : Hid (braceS g' (rest x (x.size - r'.length)) = some r) := Lib.hid (by rw [hsf.2]; exact h2)
            have hsl := hsf.1
            clear h2 hs h34 h123 h125 hsf
            go_wp2_with fail
            go_at_call 118; refine HCB.out.mono ?_; rintro e w2 ⟨rfl, hb2⟩
            have HB2 := Lib.hid (HBW.out.trans (hb2.mono HBW.out.size))
            clear hb2
            go_wp2_with fail
            go_roundg g'
            case measure => omega
            case rel => exact ⟨x.size - r'.length, rfl, by omega, HN, by omega, HB2⟩
        · have e4 : ((c.toNat : Int) == 34) = false := ne_u8 (k := 34) (by omega) h34
          have HN : Hid (braceS g' (rest x (b + 1)) = some r) := Lib.hid (by
            have h2 := HRc.out
            rw [braceS_step, if_neg h125, if_neg h123, if_neg h34] at h2
            rw [HL.out]
            exact h2)
          clear h34 h123 h125
          go_wp2_with fail
          go_roundg g'
          case measure => omega
          case rel => exact ⟨b + 1, by push_cast; rfl, by omega, HN, by omega, HBW⟩
set_option maxRecDepth 100000 in
set_option maxHeartbeats 4000000 in
theorem quote_walk {n : Nat} (hB : ∀ k, k < n → BraceAt k) : QuoteAt n := by
  intro x a r W hsz ha hr
  have HB := Lib.hid hB
  have HR := Lib.hid hr
  clear hr hB
  go_enter Tryz.func118, Tryz.ntmps118
  go_wp2_with fail
  go_loopg [1] n (fun gf s1 wx => ∃ (b : Nat), s1 = .int .i64 (b : Int) ∧ b ≤ x.size ∧ Hid (quoteS gf (rest x b) = some r) ∧ gf ≤ n ∧ Hid (Below W.heap.size W wx))
  case atStart => exact ⟨a, rfl, ha, HR, Nat.le_refl _, Lib.hid (Below.refl _ _)⟩
  case round =>
    obtain ⟨b, rfl, hb, HRb, hgn, HBW⟩ := hrel
    clear ha HR
    obtain ⟨g', rfl⟩ : ∃ g', gk = g' + 1 := by
      cases gk with
      | zero => exact absurd HRb.out (by simp [quoteS])
      | succ g' => exact ⟨g', rfl⟩
    obtain ⟨c, l, hcl⟩ : ∃ c l, rest x b = c :: l := by
      cases hh : rest x b with
      | nil => have h1 := HRb.out; rw [hh] at h1; simp [quoteS] at h1
      | cons c l => exact ⟨c, l, rfl⟩
    obtain ⟨hlt, hc, hl⟩ := rest_head hcl
    have HL := Lib.hid hl
    have HRc : Hid (quoteS (g' + 1) (c :: l) = some r) := Lib.hid (by rw [← hcl]; exact HRb.out)
    have HHP := Lib.hid (has2 hcl)
    have hix := fun W => byte_run hlt hc W
    have j0 : (0 : Int) ≤ (b : Int) := by omega
    have j1 : (b : Int) < (x.size : Int) := by omega
    have j2 : (b : Int) ≤ (x.size : Int) := by omega
    have hr1 := rest_length x (b + 1)
    have HS := Lib.hid (fun w => Tryz.strings_HasPrefix (x.extract b x.size) ⟨#[36, 123]⟩ w)
    rw [rest_extract] at HS
    clear hcl hc hl HRb
    by_cases h34 : c = 34
    · have e1 : ((c.toNat : Int) == 34) = true := by rw [h34]; rfl
      have e2 : ((c.toNat : Int) != 34) = false := by rw [h34]; rfl
      have HE : Hid (l = r) := Lib.hid (by
        have h1 := HRc.out
        rw [quoteS_step, if_pos h34] at h1
        cases h1
        rfl)
      clear h34
      go_wp2_with fail
      go_ret
      refine ⟨?_, HBW.out⟩
      rw [skip_end (x := x) (b := b) hlt (by rw [HL.out, HE.out])]
      rfl
    · have e1 : ((c.toNat : Int) == 34) = false := ne_u8 (k := 34) (by omega) h34
      have e2 : ((c.toNat : Int) != 34) = true := by simp only [bne, e1]; rfl
      by_cases h92 : c = 92
      · have e3 : ((c.toNat : Int) == 92) = true := by rw [h92]; rfl
        have h2 := HRc.out
        rw [quoteS_step, if_neg h34, if_pos h92] at h2
        have HN : Hid (quoteS g' (rest x (b + 2)) = some r) := Lib.hid (by
          rw [show b + 2 = (b + 1) + 1 by omega, ← rest_add, HL.out]
          exact h2)
        have hb2 : b + 2 ≤ x.size := by
          have h3 := (brace_lt g' (l.drop 1) r).2 h2
          have h4 : l.length = x.size - (b + 1) := by rw [← HL.out]; exact hr1
          simp only [List.length_drop] at h3
          omega
        clear h2 h92 h34
        go_wp2_with fail
        go_roundg g'
        case measure => omega
        case rel => exact ⟨b + 2, by push_cast; rfl, hb2, HN, by omega, HBW⟩
      · have e3 : ((c.toNat : Int) == 92) = false := ne_u8 (k := 92) (by omega) h92
        by_cases h36 : c = 36 ∧ l.head? = some 123
        · have HHT : Hid (Lib.hasPrefix (rest x b) [36, 123] = true) := Lib.hid (by rw [HHP.out]; exact decide_eq_true h36)
          have h2 := HRc.out
          rw [quoteS_step, if_neg h34, if_neg h92, if_pos h36] at h2
          cases hs : braceS g' (l.drop 1) with
          | none => rw [hs] at h2; cases h2
          | some r' =>
            rw [hs] at h2
            have hld : rest x (b + 2) = l.drop 1 := by rw [show b + 2 = (b + 1) + 1 by omega, ← rest_add, HL.out]
            have hsf := rest_sfx (((brace_sfx g' (l.drop 1) r').1 hs).trans (by rw [← hld]; exact rest_is_sfx x (b + 2)))
            have hb2 : b + 2 ≤ x.size := by
              have h3 := (brace_lt g' (l.drop 1) r').1 hs
              have h4 : l.length = x.size - (b + 1) := by rw [← HL.out]; exact hr1
              simp only [List.length_drop] at h3
              omega
            have HCB : Hid (∀ w, Calls Tryz.prog 97 #[.string x, .int .i64 ((b : Int) + 2)] w (SkipsTo x r' w)) := Lib.hid (fun w => HB.out g' (by omega) x (b + 2) r' w hsz hb2 (by rw [hld]; exact hs))
            have HN : Hid (quoteS g' (rest x (x.size - r'.length)) = some r) := Lib.hid (by rw [hsf.2]; exact h2)
            have hsl := hsf.1
            have HS2 : Hid (∀ w, Calls Tryz.prog 67 #[.string (x.extract b x.size), .string ⟨#[36, 123]⟩] w fun e w' => e = .returned (.bool true) ∧ w' = w) := Lib.hid (fun w => by have := HS.out w; rw [show (⟨#[36, 123]⟩ : ByteArray).data.toList = [36, 123] from rfl, HHT.out] at this; exact this)
            clear h2 hs h92 h34 h36 hsf hld HS
            go_wp2_with fail
            go_at_call 67; refine (HS2.out _).mono ?_; rintro e w1 ⟨rfl, rfl⟩
            go_wp2_with fail
            go_at_call 97; refine (HCB.out _).mono ?_; rintro e w2 ⟨rfl, hb2⟩
            have HB2 := Lib.hid (HBW.out.trans (hb2.mono HBW.out.size))
            clear hb2
            go_wp2_with fail
            go_roundg g'
            case measure => omega
            case rel => exact ⟨x.size - r'.length, rfl, by omega, HN, by omega, HB2⟩
        · have HHT : Hid (Lib.hasPrefix (rest x b) [36, 123] = false) := Lib.hid (by rw [HHP.out]; exact decide_eq_false h36)
          have HS2 : Hid (∀ w, Calls Tryz.prog 67 #[.string (x.extract b x.size), .string ⟨#[36, 123]⟩] w fun e w' => e = .returned (.bool false) ∧ w' = w) := Lib.hid (fun w => by have := HS.out w; rw [show (⟨#[36, 123]⟩ : ByteArray).data.toList = [36, 123] from rfl, HHT.out] at this; exact this)
          have HN : Hid (quoteS g' (rest x (b + 1)) = some r) := Lib.hid (by
            have h2 := HRc.out
            rw [quoteS_step, if_neg h34, if_neg h92, if_neg h36] at h2
            rw [HL.out]
            exact h2)
          clear h92 h34 h36 HS
          go_wp2_with fail
          go_at_call 67; refine (HS2.out _).mono ?_; rintro e w1 ⟨rfl, rfl⟩
          go_wp2_with fail
          go_roundg g'
          case measure => omega
          case rel => exact ⟨b + 1, by push_cast; rfl, by omega, HN, by omega, HBW⟩
theorem skips : ∀ n, BraceAt n ∧ QuoteAt n := by
  intro n
  induction n using Nat.strongRecOn with
  | _ n ih => exact ⟨brace_walk (fun k hk => (ih k hk).1) (fun k hk => (ih k hk).2), quote_walk (fun k hk => (ih k hk).1)⟩
end Go.Proofs.YtljgggohjigaoaaGreatDoor
