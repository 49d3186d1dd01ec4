/- What goes behind a brace, behind a quote: walked · Where a text's first insertion stands; what a text says · A text without an insertion; an object's key -/
import Derived.Test.YtljgggohjigaoaaGreatDoorSk06
import Derived.Test.YtljgggohjigaoaaGreatDoorSk19
namespace Go.Proofs.YtljgggohjigaoaaGreatDoor
open Go.RowKit Go.Shelf
set_option linter.unusedVariables false

theorem braceS_step {n : Nat} {c : UInt8} {l : List UInt8} : braceS (n + 1) (c :: l) = if c = 125 then some l else if c = 123 then match braceS n l with | none => none | some r' => braceS n r' else if c = 34 then match quoteS n l with | none => none | some r' => braceS n r' else braceS n l := by
 conv => lhs; unfold braceS
 rfl
theorem quoteS_step {n : Nat} {c : UInt8} {l : List UInt8} : quoteS (n + 1) (c :: l) = if c = 34 then some l else if c = 92 then quoteS n (l.drop 1) else if c = 36 ∧ l.head? = some 123 then match braceS n (l.drop 1) with | none => none | some r' => quoteS n r' else quoteS n l := by
 conv => lhs; unfold quoteS
 rfl
theorem has2 {x : ByteArray} {b : Nat} {c : UInt8} {l : List UInt8} (h : rest x b = c :: l) : Lib.hasPrefix (rest x b) [36, 123] = decide (c = 36 ∧ l.head? = some 123) := by
 rw [h]
 cases l with
 | nil => simp [Lib.hasPrefix, List.isPrefixOf]
 | cons d l =>
  have h1 : Lib.hasPrefix (c :: d :: l) [36, 123] = ((36 : UInt8) == c && ((123 : UInt8) == d && true)) := rfl
  rw [h1, Bool.eq_iff_iff, Bool.and_true, Bool.and_eq_true, beq_iff_eq, beq_iff_eq, decide_eq_true_iff, List.head?_cons, Option.some.injEq]
  exact ⟨fun h => ⟨h.1.symm, h.2.symm⟩, fun h => ⟨h.1.symm, h.2.symm⟩⟩
theorem skip_end {x : ByteArray} {b : Nat} {r : List UInt8} (hb : b < x.size) (h : rest x (b + 1) = r) : ((x.size - r.length : Nat) : Int) = (b : Int) + 1 := by
 have h1 := congrArg List.length h
 rw [rest_length] at h1
 omega
set_option maxRecDepth 100000 in
set_option maxHeartbeats 4000000 in
theorem brace_walk {n : Nat} (hB : ∀ k, k < n → BraceAt k) (hQ : ∀ k, k < n → QuoteAt k) : BraceAt n := by
 intro x a r W hsz ha hr
 have HB := Lib.hid hB
 have HQ := Lib.hid hQ
 have HR := Lib.hid hr
 clear hr hB hQ
 go_enter Tryz.func97, Tryz.ntmps97
 go_wp2_with fail
 go_loopg [1] n (fun gf s1 wx => ∃ (b : Nat), s1 = .int .i64 (b : Int) ∧ b ≤ x.size ∧ Hid (braceS gf (rest x b) = some r) ∧ gf ≤ n ∧ Hid (Below W.heap.size W wx))
 case atStart => exact ⟨a, rfl, ha, HR, Nat.le_refl _, Lib.hid (Below.refl _ _)⟩
 case round =>
  obtain ⟨b, rfl, hb, HRb, hgn, HBW⟩ := hrel
  clear ha HR
  obtain ⟨g', rfl⟩ : ∃ g', gk = g' + 1 := by
   cases gk with
   | zero => exact absurd HRb.out (by simp [braceS])
   | succ g' => exact ⟨g', rfl⟩
  obtain ⟨c, l, hcl⟩ : ∃ c l, rest x b = c :: l := by
   cases hh : rest x b with
   | nil => have h1 := HRb.out; rw [hh] at h1; simp [braceS] at h1
   | cons c l => exact ⟨c, l, rfl⟩
  obtain ⟨hlt, hc, hl⟩ := rest_head hcl
  have HL := Lib.hid hl
  have HRc : Hid (braceS (g' + 1) (c :: l) = some r) := Lib.hid (by rw [← hcl]; exact HRb.out)
  have hix := fun W => byte_run hlt hc W
  have j0 : (0 : Int) ≤ (b : Int) := by omega
  have j1 : (b : Int) < (x.size : Int) := by omega
  have hr1 := rest_length x (b + 1)
  clear hcl hc hl HRb
  by_cases h125 : c = 125
  ·have e1 : ((c.toNat : Int) == 125) = true := by rw [h125]; rfl
   have e2 : ((c.toNat : Int) != 125) = false := by rw [h125]; rfl
   have HE : Hid (l = r) := Lib.hid (by
    have h1 := HRc.out
    rw [braceS_step, if_pos h125] at h1
    cases h1
    rfl)
   clear h125
   go_wp2_with fail
   go_ret
   refine ⟨?_, HBW.out⟩
   rw [skip_end (x := x) (b := b) hlt (by rw [HL.out, HE.out])]
   rfl
  ·have e1 : ((c.toNat : Int) == 125) = false := ne_u8 (k := 125) (by omega) h125
   have e2 : ((c.toNat : Int) != 125) = true := by simp only [bne, e1]; rfl
   by_cases h123 : c = 123
   ·have e3 : ((c.toNat : Int) == 123) = true := by rw [h123]; rfl
    have h2 := HRc.out
    rw [braceS_step, if_neg h125, if_pos h123] at h2
    cases hs : braceS g' l with
    | none => rw [hs] at h2; cases h2
    | some r' =>
     rw [hs] at h2
     have hsf := rest_sfx (((brace_sfx g' l r').1 hs).trans (by rw [← HL.out]; exact rest_is_sfx x (b + 1)))
     have HCB : Hid (Calls Tryz.prog 97 #[.string x, .int .i64 ((b : Int) + 1)] wr (SkipsTo x r' wr)) := Lib.hid (HB.out g' (by omega) x (b + 1) r' wr hsz (by omega) (by rw [HL.out]; exact hs))
     have HN : Hid (braceS g' (rest x (x.size - r'.length)) = some r) := Lib.hid (by rw [hsf.2]; exact h2)
     have hsl := hsf.1
     clear h2 hs h123 h125 hsf
     go_wp2_with fail
     go_at_call 97; refine HCB.out.mono ?_; rintro e w2 ⟨rfl, hb2⟩
     have HB2 := Lib.hid (HBW.out.trans (hb2.mono HBW.out.size))
     clear hb2
     go_wp2_with fail
     go_roundg g'
     case measure => omega
     case rel => exact ⟨x.size - r'.length, rfl, by omega, HN, by omega, HB2⟩
   ·have e3 : ((c.toNat : Int) == 123) = false := ne_u8 (k := 123) (by omega) h123
    by_cases h34 : c = 34
    ·have e4 : ((c.toNat : Int) == 34) = true := by rw [h34]; rfl
     have h2 := HRc.out
     rw [braceS_step, if_neg h125, if_neg h123, if_pos h34] at h2
     cases hs : quoteS g' l with
     | none => rw [hs] at h2; cases h2
     | some r' =>
      rw [hs] at h2
      have hsf := rest_sfx (((brace_sfx g' l r').2 hs).trans (by rw [← HL.out]; exact rest_is_sfx x (b + 1)))
      have HCB : Hid (Calls Tryz.prog 118 #[.string x, .int .i64 ((b : Int) + 1)] wr (SkipsTo x r' wr)) := Lib.hid (HQ.out g' (by omega) x (b + 1) r' wr hsz (by omega) (by rw [HL.out]; exact hs))
      have HN : Hid (braceS g' (rest x (x.size - r'.length)) = some r) := Lib.hid (by rw [hsf.2]; exact h2)
      have hsl := hsf.1
      clear h2 hs h34 h123 h125 hsf
      go_wp2_with fail
      go_at_call 118; refine HCB.out.mono ?_; rintro e w2 ⟨rfl, hb2⟩
      have HB2 := Lib.hid (HBW.out.trans (hb2.mono HBW.out.size))
      clear hb2
      go_wp2_with fail
      go_roundg g'
      case measure => omega
      case rel => exact ⟨x.size - r'.length, rfl, by omega, HN, by omega, HB2⟩
    ·have e4 : ((c.toNat : Int) == 34) = false := ne_u8 (k := 34) (by omega) h34
     have HN : Hid (braceS g' (rest x (b + 1)) = some r) := Lib.hid (by
      have h2 := HRc.out
      rw [braceS_step, if_neg h125, if_neg h123, if_neg h34] at h2
      rw [HL.out]
      exact h2)
     clear h34 h123 h125
     go_wp2_with fail
     go_roundg g'
     case measure => omega
     case rel => exact ⟨b + 1, by push_cast; rfl, by omega, HN, by omega, HBW⟩
set_option maxRecDepth 100000 in
set_option maxHeartbeats 4000000 in
theorem quote_walk {n : Nat} (hB : ∀ k, k < n → BraceAt k) : QuoteAt n := by
 intro x a r W hsz ha hr
 have HB := Lib.hid hB
 have HR := Lib.hid hr
 clear hr hB
 go_enter Tryz.func118, Tryz.ntmps118
 go_wp2_with fail
 go_loopg [1] n (fun gf s1 wx => ∃ (b : Nat), s1 = .int .i64 (b : Int) ∧ b ≤ x.size ∧ Hid (quoteS gf (rest x b) = some r) ∧ gf ≤ n ∧ Hid (Below W.heap.size W wx))
 case atStart => exact ⟨a, rfl, ha, HR, Nat.le_refl _, Lib.hid (Below.refl _ _)⟩
 case round =>
  obtain ⟨b, rfl, hb, HRb, hgn, HBW⟩ := hrel
  clear ha HR
  obtain ⟨g', rfl⟩ : ∃ g', gk = g' + 1 := by
   cases gk with
   | zero => exact absurd HRb.out (by simp [quoteS])
   | succ g' => exact ⟨g', rfl⟩
  obtain ⟨c, l, hcl⟩ : ∃ c l, rest x b = c :: l := by
   cases hh : rest x b with
   | nil => have h1 := HRb.out; rw [hh] at h1; simp [quoteS] at h1
   | cons c l => exact ⟨c, l, rfl⟩
  obtain ⟨hlt, hc, hl⟩ := rest_head hcl
  have HL := Lib.hid hl
  have HRc : Hid (quoteS (g' + 1) (c :: l) = some r) := Lib.hid (by rw [← hcl]; exact HRb.out)
  have HHP := Lib.hid (has2 hcl)
  have hix := fun W => byte_run hlt hc W
  have j0 : (0 : Int) ≤ (b : Int) := by omega
  have j1 : (b : Int) < (x.size : Int) := by omega
  have j2 : (b : Int) ≤ (x.size : Int) := by omega
  have hr1 := rest_length x (b + 1)
  have HS := Lib.hid (fun w => Tryz.strings_HasPrefix (x.extract b x.size) ⟨#[36, 123]⟩ w)
  rw [rest_extract] at HS
  clear hcl hc hl HRb
  by_cases h34 : c = 34
  ·have e1 : ((c.toNat : Int) == 34) = true := by rw [h34]; rfl
   have e2 : ((c.toNat : Int) != 34) = false := by rw [h34]; rfl
   have HE : Hid (l = r) := Lib.hid (by
    have h1 := HRc.out
    rw [quoteS_step, if_pos h34] at h1
    cases h1
    rfl)
   clear h34
   go_wp2_with fail
   go_ret
   refine ⟨?_, HBW.out⟩
   rw [skip_end (x := x) (b := b) hlt (by rw [HL.out, HE.out])]
   rfl
  ·have e1 : ((c.toNat : Int) == 34) = false := ne_u8 (k := 34) (by omega) h34
   have e2 : ((c.toNat : Int) != 34) = true := by simp only [bne, e1]; rfl
   by_cases h92 : c = 92
   ·have e3 : ((c.toNat : Int) == 92) = true := by rw [h92]; rfl
    have h2 := HRc.out
    rw [quoteS_step, if_neg h34, if_pos h92] at h2
    have HN : Hid (quoteS g' (rest x (b + 2)) = some r) := Lib.hid (by
     rw [show b + 2 = (b + 1) + 1 by omega, ← rest_add, HL.out]
     exact h2)
    have hb2 : b + 2 ≤ x.size := by
     have h3 := (brace_lt g' (l.drop 1) r).2 h2
     have h4 : l.length = x.size - (b + 1) := by rw [← HL.out]; exact hr1
     simp only [List.length_drop] at h3
     omega
    clear h2 h92 h34
    go_wp2_with fail
    go_roundg g'
    case measure => omega
    case rel => exact ⟨b + 2, by push_cast; rfl, hb2, HN, by omega, HBW⟩
   ·have e3 : ((c.toNat : Int) == 92) = false := ne_u8 (k := 92) (by omega) h92
    by_cases h36 : c = 36 ∧ l.head? = some 123
    ·have HHT : Hid (Lib.hasPrefix (rest x b) [36, 123] = true) := Lib.hid (by rw [HHP.out]; exact decide_eq_true h36)
     have h2 := HRc.out
     rw [quoteS_step, if_neg h34, if_neg h92, if_pos h36] at h2
     cases hs : braceS g' (l.drop 1) with
     | none => rw [hs] at h2; cases h2
     | some r' =>
      rw [hs] at h2
      have hld : rest x (b + 2) = l.drop 1 := by rw [show b + 2 = (b + 1) + 1 by omega, ← rest_add, HL.out]
      have hsf := rest_sfx (((brace_sfx g' (l.drop 1) r').1 hs).trans (by rw [← hld]; exact rest_is_sfx x (b + 2)))
      have hb2 : b + 2 ≤ x.size := by
       have h3 := (brace_lt g' (l.drop 1) r').1 hs
       have h4 : l.length = x.size - (b + 1) := by rw [← HL.out]; exact hr1
       simp only [List.length_drop] at h3
       omega
      have HCB : Hid (∀ w, Calls Tryz.prog 97 #[.string x, .int .i64 ((b : Int) + 2)] w (SkipsTo x r' w)) := Lib.hid (fun w => HB.out g' (by omega) x (b + 2) r' w hsz hb2 (by rw [hld]; exact hs))
      have HN : Hid (quoteS g' (rest x (x.size - r'.length)) = some r) := Lib.hid (by rw [hsf.2]; exact h2)
      have hsl := hsf.1
      have HS2 : Hid (∀ w, Calls Tryz.prog 67 #[.string (x.extract b x.size), .string ⟨#[36, 123]⟩] w fun e w' => e = .returned (.bool true) ∧ w' = w) := Lib.hid (fun w => by have := HS.out w; rw [show (⟨#[36, 123]⟩ : ByteArray).data.toList = [36, 123] from rfl, HHT.out] at this; exact this)
      clear h2 hs h92 h34 h36 hsf hld HS
      go_wp2_with fail
      go_at_call 67; refine (HS2.out _).mono ?_; rintro e w1 ⟨rfl, rfl⟩
      go_wp2_with fail
      go_at_call 97; refine (HCB.out _).mono ?_; rintro e w2 ⟨rfl, hb2⟩
      have HB2 := Lib.hid (HBW.out.trans (hb2.mono HBW.out.size))
      clear hb2
      go_wp2_with fail
      go_roundg g'
      case measure => omega
      case rel => exact ⟨x.size - r'.length, rfl, by omega, HN, by omega, HB2⟩
    ·have HHT : Hid (Lib.hasPrefix (rest x b) [36, 123] = false) := Lib.hid (by rw [HHP.out]; exact decide_eq_false h36)
     have HS2 : Hid (∀ w, Calls Tryz.prog 67 #[.string (x.extract b x.size), .string ⟨#[36, 123]⟩] w fun e w' => e = .returned (.bool false) ∧ w' = w) := Lib.hid (fun w => by have := HS.out w; rw [show (⟨#[36, 123]⟩ : ByteArray).data.toList = [36, 123] from rfl, HHT.out] at this; exact this)
     have HN : Hid (quoteS g' (rest x (b + 1)) = some r) := Lib.hid (by
      have h2 := HRc.out
      rw [quoteS_step, if_neg h34, if_neg h92, if_neg h36] at h2
      rw [HL.out]
      exact h2)
     clear h92 h34 h36 HS
     go_wp2_with fail
     go_at_call 67; refine (HS2.out _).mono ?_; rintro e w1 ⟨rfl, rfl⟩
     go_wp2_with fail
     go_roundg g'
     case measure => omega
     case rel => exact ⟨b + 1, by push_cast; rfl, by omega, HN, by omega, HBW⟩
theorem skips : ∀ n, BraceAt n ∧ QuoteAt n := by
 intro n
 induction n using Nat.strongRecOn with
 | _ n ih => exact ⟨brace_walk (fun k hk => (ih k hk).1) (fun k hk => (ih k hk).2), quote_walk (fun k hk => (ih k hk).1)⟩
end Go.Proofs.YtljgggohjigaoaaGreatDoor
namespace Go.Proofs.YtljgggohjigaoaaGreatDoor
open Go.RowKit Go.Shelf
set_option linter.unusedVariables false

theorem ahead_step {c : UInt8} {l : List UInt8} : aheadL (c :: l) = if c = 92 then match l with | [] => 1 | _ :: r' => 2 + aheadL r' else if c = 36 ∧ l.head? = some 123 then 0 else 1 + aheadL l := by
 conv => lhs; unfold aheadL
 rfl
/-- How far the search has come. -/
def InsAt (x : ByteArray) (b : Nat) : Prop := (b ≤ x.size ∧ b + aheadL (rest x b) = aheadL x.data.toList) ∨ (b = x.size + 1 ∧ aheadL x.data.toList = x.size)
set_option maxRecDepth 100000 in
set_option maxHeartbeats 4000000 in
theorem insertion_any {x : ByteArray} {p q : Nat} (hsz : x.size ≤ 1000000000) (h : insL x.data.toList = some (p, q)) (W : World) : Calls Tryz.prog 71 #[.string x] W fun e w' => e = .returned (.tuple #[.int .i64 (p : Int), .int .i64 (q : Int)]) ∧ Below W.heap.size W w' := by
 have HI := Lib.hid h
 have hls : x.data.toList.length = x.size := by simp
 have HLS := Lib.hid hls
 clear h hls
 go_enter Tryz.func71, Tryz.ntmps71
 go_wp2_with fail
 go_loopg [4] (x.size + 2) (fun gf s4 wx => ∃ (b : Nat), s4 = .int .i64 (b : Int) ∧ Hid (InsAt x b) ∧ b + gf = x.size + 2 ∧ Hid (Below W.heap.size W wx))
 case atStart => exact ⟨0, rfl, Lib.hid (.inl ⟨Nat.zero_le _, by rw [Nat.zero_add]; rfl⟩), by omega, Lib.hid (Below.refl _ _)⟩
 case round =>
  obtain ⟨b, rfl, HA, hgf, HBW⟩ := hrel
  by_cases hlt : b < x.size
  ·obtain ⟨g', rfl⟩ : ∃ g', gk = g' + 1 := ⟨gk - 1, by omega⟩
   have hA : b + aheadL (rest x b) = aheadL x.data.toList := by
    rcases HA.out with h1 | h1
    ·exact h1.2
    ·omega
   obtain ⟨c, hc⟩ : ∃ c, x[b]'hlt = c := ⟨_, rfl⟩
   have hcl := rest_cons hlt
   rw [hc] at hcl
   obtain ⟨l, hl⟩ : ∃ l, rest x (b + 1) = l := ⟨_, rfl⟩
   rw [hl] at hcl
   have HL := Lib.hid hl
   rw [hcl, ahead_step] at hA
   have HA2 := Lib.hid hA
   have HHP := Lib.hid (has2 hcl)
   have hix := fun W => byte_run hlt hc W
   have j0 : (0 : Int) ≤ (b : Int) := by omega
   have j1 : (b : Int) < (x.size : Int) := by omega
   have j2 : (b : Int) ≤ (x.size : Int) := by omega
   have hr1 := rest_length x (b + 1)
   have HS := Lib.hid (fun w => Tryz.strings_HasPrefix (x.extract b x.size) ⟨#[36, 123]⟩ w)
   rw [rest_extract] at HS
   clear hcl hc hl hA HA
   by_cases h92 : c = 92
   ·have e1 : ((c.toNat : Int) == 92) = true := by rw [h92]; rfl
    have HN : Hid (InsAt x (b + 2)) := Lib.hid (by
     have h1 := HA2.out
     rw [if_pos h92] at h1
     have h4 : l.length = x.size - (b + 1) := by rw [← HL.out]; exact hr1
     cases l with
     | nil =>
      simp only at h1
      simp only [List.length_nil] at h4
      exact .inr ⟨by omega, by omega⟩
     | cons d l' =>
      simp only at h1
      simp only [List.length_cons] at h4
      refine .inl ⟨by omega, ?_⟩
      have h5 : rest x (b + 2) = l' := by rw [show b + 2 = (b + 1) + 1 by omega, ← rest_add, HL.out]; rfl
      rw [h5]
      omega)
    clear h92 HS
    go_wp2_with fail
    by_cases hg : g' = 0
    ·exfalso; omega
    ·obtain ⟨g2, rfl⟩ : ∃ g2, g' = g2 + 1 := ⟨g' - 1, by omega⟩
     go_roundg g2
     case measure => omega
     case rel => exact ⟨b + 2, by push_cast; first | rfl | (congr 1; omega), HN, by omega, HBW⟩
   ·have e1 : ((c.toNat : Int) == 92) = false := ne_u8 (k := 92) (by omega) h92
    by_cases h36 : c = 36 ∧ l.head? = some 123
    ·have HHT : Hid (Lib.hasPrefix (rest x b) [36, 123] = true) := Lib.hid (by rw [HHP.out]; exact decide_eq_true h36)
     have hA := HA2.out
     rw [if_neg h92, if_pos h36] at hA
     have hi := HI.out
     unfold insL at hi
     rw [if_pos (by rw [HLS.out]; omega)] at hi
     have hdr : x.data.toList.drop (aheadL x.data.toList + 2) = rest x (b + 2) := by unfold rest; rw [← hA, Nat.add_zero]
     rw [hdr] at hi
     cases hs : braceS (x.data.toList.length + 1) (rest x (b + 2)) with
     | none => rw [hs] at hi; cases hi
     | some r =>
      rw [hs] at hi
      have hb2 : b + 2 ≤ x.size := by
       have h3 := (brace_lt _ _ r).1 hs
       rw [rest_length] at h3
       omega
      have hpq : p = b ∧ q = x.size - r.length := by
       simp only [Option.some.injEq, Prod.mk.injEq] at hi
       rw [HLS.out] at hi
       omega
      have HPQ : Hid (((p : Nat) : Int) = (b : Int) ∧ (q : Int) = ((x.size - r.length : Nat) : Int)) := Lib.hid ⟨by rw [hpq.1], by rw [hpq.2]⟩
      have HCB : Hid (∀ w, Calls Tryz.prog 97 #[.string x, .int .i64 ((b : Int) + 2)] w (SkipsTo x r w)) := Lib.hid (fun w => (skips _).1 x (b + 2) r w hsz hb2 hs)
      have HS2 : Hid (∀ w, Calls Tryz.prog 67 #[.string (x.extract b x.size), .string ⟨#[36, 123]⟩] w fun e w' => e = .returned (.bool true) ∧ w' = w) := Lib.hid (fun w => by have := HS.out w; rw [show (⟨#[36, 123]⟩ : ByteArray).data.toList = [36, 123] from rfl, HHT.out] at this; exact this)
      clear hs hi h92 h36 hA hdr hpq HS
      go_wp2_with fail
      go_at_call 67; refine (HS2.out _).mono ?_; rintro e w1 ⟨rfl, rfl⟩
      go_wp2_with fail
      go_at_call 97; refine (HCB.out _).mono ?_; rintro e w2 ⟨rfl, hb2⟩
      have HB2 := Lib.hid (HBW.out.trans (hb2.mono HBW.out.size))
      clear hb2
      go_wp2_with fail
      go_ret2
      rw [HPQ.out.1, HPQ.out.2]
      exact ⟨rfl, HB2.out⟩
    ·have HHT : Hid (Lib.hasPrefix (rest x b) [36, 123] = false) := Lib.hid (by rw [HHP.out]; exact decide_eq_false h36)
     have HS2 : Hid (∀ w, Calls Tryz.prog 67 #[.string (x.extract b x.size), .string ⟨#[36, 123]⟩] w fun e w' => e = .returned (.bool false) ∧ w' = w) := Lib.hid (fun w => by have := HS.out w; rw [show (⟨#[36, 123]⟩ : ByteArray).data.toList = [36, 123] from rfl, HHT.out] at this; exact this)
     have HN : Hid (InsAt x (b + 1)) := Lib.hid (by
      have h1 := HA2.out
      rw [if_neg h92, if_neg h36] at h1
      refine .inl ⟨by omega, ?_⟩
      rw [HL.out]
      omega)
     clear h92 h36 HS
     go_wp2_with fail
     go_at_call 67; refine (HS2.out _).mono ?_; rintro e w1 ⟨rfl, rfl⟩
     go_wp2_with fail
     go_roundg g'
     case measure => omega
     case rel => exact ⟨b + 1, by push_cast; rfl, HN, by omega, HBW⟩
  ·have HPQ : Hid ((p : Int) = (x.size : Int) ∧ (q : Int) = (x.size : Int)) := Lib.hid (by
    have hi := HI.out
    have hA : aheadL x.data.toList = x.size := by
     rcases HA.out with h1 | h1
     ·have h2 : rest x b = [] := List.length_eq_zero_iff.1 (by rw [rest_length]; omega)
      rw [h2] at h1
      have h3 : aheadL [] = 0 := by unfold aheadL; rfl
      omega
     ·exact h1.2
    unfold insL at hi
    rw [if_neg (by rw [HLS.out, hA]; omega)] at hi
    simp only [Option.some.injEq, Prod.mk.injEq] at hi
    rw [HLS.out] at hi
    omega)
   have j1 : ¬ (b : Int) < (x.size : Int) := by omega
   go_wp2_with fail
   go_ret2
   rw [HPQ.out.1, HPQ.out.2]
   exact ⟨rfl, HBW.out⟩
set_option maxRecDepth 100000 in
set_option maxHeartbeats 4000000 in
theorem escaped_any (c : UInt8) (W : World) : Calls Tryz.prog 98 #[.int .u8 (c.toNat : Int)] W fun e w' => e = .returned (.int .u8 ((escapedB c).toNat : Int)) ∧ w' = W := by
 by_cases h1 : c = 110
 ·have e1 : ((c.toNat : Int) == 110) = true := by rw [h1]; rfl
  have HE : Hid ((escapedB c).toNat = 10) := Lib.hid (by unfold escapedB; rw [if_pos h1]; rfl)
  rw [HE.out]
  clear h1
  go_enter Tryz.func98, Tryz.ntmps98
  go_wp2_with fail
  go_ret
  exact ⟨rfl, rfl⟩
 ·have e1 : ((c.toNat : Int) == 110) = false := ne_u8 (k := 110) (by omega) h1
  by_cases h2 : c = 116
  ·have e2 : ((c.toNat : Int) == 116) = true := by rw [h2]; rfl
   have HE : Hid ((escapedB c).toNat = 9) := Lib.hid (by unfold escapedB; rw [if_neg h1, if_pos h2]; rfl)
   rw [HE.out]
   clear h1 h2
   go_enter Tryz.func98, Tryz.ntmps98
   go_wp2_with fail
   go_ret
   exact ⟨rfl, rfl⟩
  ·have e2 : ((c.toNat : Int) == 116) = false := ne_u8 (k := 116) (by omega) h2
   by_cases h3 : c = 114
   ·have e3 : ((c.toNat : Int) == 114) = true := by rw [h3]; rfl
    have HE : Hid ((escapedB c).toNat = 13) := Lib.hid (by unfold escapedB; rw [if_neg h1, if_neg h2, if_pos h3]; rfl)
    rw [HE.out]
    clear h1 h2 h3
    go_enter Tryz.func98, Tryz.ntmps98
    go_wp2_with fail
    go_ret
    exact ⟨rfl, rfl⟩
   ·have e3 : ((c.toNat : Int) == 114) = false := ne_u8 (k := 114) (by omega) h3
    have HE : Hid (escapedB c = c) := Lib.hid (by unfold escapedB; rw [if_neg h1, if_neg h2, if_neg h3])
    rw [HE.out]
    clear h1 h2 h3
    go_enter Tryz.func98, Tryz.ntmps98
    go_wp2_with fail
    go_ret
    exact ⟨rfl, rfl⟩
theorem said_step {c : UInt8} {l : List UInt8} : saidL (c :: l) = if c = 92 then match l with | [] => none | d :: r' => (saidL r').map (escapedB d :: ·) else (saidL l).map (c :: ·) := by
 cases l with
 | nil =>
  by_cases h : c = 92
  ·subst h; simp [saidL]
  ·rw [if_neg h]
   simp [saidL, h]
 | cons d r =>
  by_cases h : c = 92
  ·subst h; simp [saidL]
  ·rw [if_neg h]
   simp [saidL, h]
theorem cell1 (w : World) (x : Value) (t : TypeId) : ∀ j u, [x][j]? = some u → (w.alloc (.cells #[x] t)).cell? ((⟨w.heap.size, 0, none⟩ : Addr).add j) = some u := by
 intro j u hj
 match j, hj with
 | 0, hj => simp at hj; subst hj; simp [Addr.add]
 | (j + 1), hj => simp at hj
theorem conv_bytes {w : World} {B : Nat} {v : Value} {acc : List UInt8} (h : w.ownsRow B 5 1 v acc.length (Lib.byteCells acc)) : (convert 56 9 v).run Tryz.prog w = .ok (.string ⟨acc.toArray⟩) w := by
 rcases id h.2 with ⟨rfl, h2⟩ | ⟨g, cap, cur, rfl, h3, h4, h5, h6, h7, h8⟩
 ·obtain rfl : acc = [] := List.length_eq_zero_iff.1 h2
  exact run_convert_bytes_nil (P := Tryz.prog) w 56 5 Tryz.underlying56 Tryz.underlying5 0 0 9 Tryz.underlying9
 ·refine run_convert_bytes_back (P := Tryz.prog) w 56 9 5 ⟨g, 0, none⟩ cap acc Tryz.underlying56 Tryz.underlying5 Tryz.underlying9 (fun j hj => ?_)
  exact World.ownsRow.cells h (g := g) rfl j (.int .u8 (acc[j].toNat : Int)) (by simp [Lib.byteCells, hj])
set_option maxRecDepth 100000 in
set_option maxHeartbeats 4000000 in
theorem said_any {x : ByteArray} {Y : List UInt8} (hsz : x.size ≤ 1000000000) (h : saidL x.data.toList = some Y) (W : World) : Calls Tryz.prog 72 #[.string x] W fun e w' => e = .returned (.string (bA Y)) ∧ Below W.heap.size W w' := by
 obtain ⟨i0, hi, hz0, hz1, hz2⟩ := info_parts infoU8
 have HI := Lib.hid h
 clear h
 go_enter Tryz.func72, Tryz.ntmps72
 go_wp2_with fail
 go_loopg [3, 4] (x.size + 1) (fun gf s3 s4 wx => ∃ (b : Nat) (acc : List UInt8), s4 = .int .i64 (b : Int) ∧ Hid (Below W.heap.size W wx) ∧ Hid (wx.ownsRow W.heap.size 5 1 s3 acc.length (Lib.byteCells acc)) ∧ Hid ((saidL (rest x b)).map (acc ++ ·) = some Y) ∧ b ≤ x.size ∧ x.size - b < gf ∧ acc.length ≤ b)
 case atStart => exact ⟨0, [], rfl, Lib.hid (Below.refl _ _), Lib.hid ⟨rfl, .inl ⟨rfl, rfl⟩⟩, Lib.hid (by have h1 := HI.out; rw [show rest x 0 = x.data.toList from rfl, h1]; simp), by omega, by omega, by simp⟩
 case round =>
  obtain ⟨b, acc, rfl, HB, HO, HE, hbx, hgf, hal⟩ := hrel
  clear HI
  by_cases hlt : b < x.size
  ·obtain ⟨g', rfl⟩ : ∃ g', gk = g' + 1 := ⟨gk - 1, by omega⟩
   obtain ⟨c, hc⟩ : ∃ c, x[b]'hlt = c := ⟨_, rfl⟩
   have hcl := rest_cons hlt
   rw [hc] at hcl
   obtain ⟨l, hl⟩ : ∃ l, rest x (b + 1) = l := ⟨_, rfl⟩
   rw [hl] at hcl
   have HL := Lib.hid hl
   have hE := HE.out
   rw [hcl, said_step] at hE
   have hix := fun W => byte_run hlt hc W
   have j0 : (0 : Int) ≤ (b : Int) := by omega
   have j1 : (b : Int) < (x.size : Int) := by omega
   have hr1 := rest_length x (b + 1)
   have hrow0 := HO.out
   have hwr := HB.out.size
   by_cases h92 : c = 92
   ·have e1 : ((c.toNat : Int) == 92) = true := by rw [h92]; rfl
    rw [if_pos h92] at hE
    cases l with
    | nil => simp only [Option.map_none] at hE; cases hE
    | cons d r =>
     simp only at hE
     have hlt1 : b + 1 < x.size := by
      have h4 : (d :: r).length = x.size - (b + 1) := by rw [← HL.out]; exact hr1
      simp only [List.length_cons] at h4
      omega
     have hcl1 := rest_cons hlt1
     rw [HL.out] at hcl1
     obtain ⟨hd, hr⟩ := List.cons.inj hcl1
     have hix1 : ∀ W, (Instr.index 9 (.string x) (.int .i64 ((b : Int) + 1))).run Tryz.prog W = .ok (.int .u8 (d.toNat : Int)) W := fun W => byte_run (a := b + 1) hlt1 hd.symm W
     have HES := Lib.hid (fun w => escaped_any d w)
     have HN : Hid ((saidL (rest x (b + 2))).map ((acc ++ [escapedB d]) ++ ·) = some Y) := Lib.hid (by
      rw [show rest x (b + 2) = r from hr.symm]
      rw [Option.map_map] at hE
      rw [← hE]
      congr 1
      funext z
      simp)
     obtain ⟨ed, hed⟩ : ∃ ed, escapedB d = ed := ⟨_, rfl⟩
     rw [hed] at HN
     simp only [hed] at HES
     have hrow1 := hrow0.alloc (.cells #[.int .u8 (ed.toNat : Int)] 5)
     have j3 : (b : Int) + 1 < (x.size : Int) := by omega
     have j4 : (0 : Int) ≤ (b : Int) + 1 := by omega
     clear hcl hc hl hE hcl1 hd hr hed h92
     go_wp2_with (first
      | (go_at_call 98; refine (HES.out _).mono ?_; rintro e w1 ⟨rfl, rfl⟩)
      | (at_builtin; refine wpList_append_own _ rfl _ _ 56 rfl W.heap.size 5 i0 (.int .u8 0) 1 1 Tryz.underlying56 hi hz0 hz1 hz2 rfl (by decide) _ _ _ rfl hrow1 ⟨w1.heap.size, 0, none⟩ 1 1 [.int .u8 (ed.toNat : Int)] rfl rfl (cell1 _ _ _) (by intro u hu; simp at hu; subst hu; rfl) (by unfold maxLen; omega) (by omega) (by simp; omega) ?_; intro v' w2 hown' hgrow _))
     have HRow := Lib.hid hown'
     have HB3 := Lib.hid ((HB.out.alloc (by omega) (.cells #[.int .u8 (ed.toNat : Int)] 5)).grown hgrow (by simp; omega) (fun q hq => by have := own_base hrow1 q hq; omega))
     clear hown' hgrow hrow1
     go_roundg g'
     case measure => omega
     case rel => exact ⟨b + 2, acc ++ [ed], by push_cast; first | rfl | (congr 1; omega), HB3, Lib.hid (by
      have := HRow.out
      rw [byteCells_app, List.length_append]
      exact this), HN, by omega, by omega, by simp; omega⟩
   ·have e1 : ((c.toNat : Int) == 92) = false := ne_u8 (k := 92) (by omega) h92
    rw [if_neg h92] at hE
    have HN : Hid ((saidL (rest x (b + 1))).map ((acc ++ [c]) ++ ·) = some Y) := Lib.hid (by
     rw [HL.out]
     rw [Option.map_map] at hE
     rw [← hE]
     congr 1
     funext z
     simp)
    have hrow1 := hrow0.alloc (.cells #[.int .u8 (c.toNat : Int)] 5)
    clear hcl hc hl hE h92
    go_wp2_with (at_builtin; refine wpList_append_own _ rfl _ _ 56 rfl W.heap.size 5 i0 (.int .u8 0) 1 1 Tryz.underlying56 hi hz0 hz1 hz2 rfl (by decide) _ _ _ rfl hrow1 ⟨wr.heap.size, 0, none⟩ 1 1 [.int .u8 (c.toNat : Int)] rfl rfl (cell1 _ _ _) (by intro u hu; simp at hu; subst hu; rfl) (by unfold maxLen; omega) (by omega) (by simp; omega) ?_; intro v' w2 hown' hgrow _)
    have HRow := Lib.hid hown'
    have HB3 := Lib.hid ((HB.out.alloc (by omega) (.cells #[.int .u8 (c.toNat : Int)] 5)).grown hgrow (by simp; omega) (fun q hq => by have := own_base hrow1 q hq; omega))
    clear hown' hgrow hrow1
    go_roundg g'
    case measure => omega
    case rel => exact ⟨b + 1, acc ++ [c], by push_cast; rfl, HB3, Lib.hid (by
     have := HRow.out
     rw [byteCells_app, List.length_append]
     exact this), HN, by omega, by omega, by simp; omega⟩
  ·have hend : acc = Y := by
    have h1 := HE.out
    have h2 : rest x b = [] := List.length_eq_zero_iff.1 (by rw [rest_length]; omega)
    rw [h2] at h1
    have h3 : saidL [] = some [] := by unfold saidL; rfl
    rw [h3] at h1
    simpa using h1
   have hcv := conv_bytes HO.out
   have HEND := Lib.hid hend
   have j1 : ¬ (b : Int) < (x.size : Int) := by omega
   clear hend
   go_wp2_with fail
   go_ret
   rw [← HEND.out]
   exact ⟨rfl, HB.out⟩
end Go.Proofs.YtljgggohjigaoaaGreatDoor
namespace Go.Proofs.YtljgggohjigaoaaGreatDoor
open Go.RowKit Go.Shelf
set_option linter.unusedVariables false

theorem next_txt {d : Nat} {s : Ps} (h : Fit d s) (hk : (next s).k = 3) : TextC (next s).x.data.toList ∧ (next s).x.size ≤ 65536 := by
 rcases next_mem s with h1 | h1
 ·exact h.txt _ h1 hk
 ·rw [h1] at hk; cases hk
section
variable {W w w' : World} {P F T lo dp d N : Nat} {m m1 m2 : FileM} {X : List Nat} {s s2 : Ps}
theorem Un.refuse (h : Un W w P F T lo dp d m X s m1) : Calls Tryz.prog 59 #[.pointer (some ⟨P, 0, none⟩)] w fun e w' => ∃ D, e = .returned (.pointer (some ⟨D, 0, none⟩)) ∧ (∀ e', e' = Ending.panicked [{ v := .iface 29 (.pointer (some ⟨D, 0, none⟩)), recovered := false }] → Bad W P F m X (50, (next s).at_) e' w') := by
 refine (refusal_any h.ps.tok h.ps.good).mono ?_
 rintro e w' ⟨D, rfl, hD, hdb, ha⟩
 exact ⟨D, rfl, fun e' he => ⟨D, he, Nat.le_trans h.outs.size hD, hdb, h.outs.trans h.later (OutsX.of ha X)⟩⟩
set_option maxRecDepth 100000 in
set_option maxHeartbeats 4000000 in
theorem Un.plain (h : Un W w P F T lo dp d m X s m1) (hk : (next s).k = 3) : Calls Tryz.prog 54 #[.pointer (some ⟨P, 0, none⟩)] w (Stp W w P F T lo dp d m X m1 Value.string (plainM s)) := by
 obtain ⟨hC, hsz⟩ := next_txt h.fit hk
 have HU := Lib.hid h
 have hD : ∀ t s', plainM s = .ok (t, s') → Fit d s' := fun t s' hm => h.fit.dec Dec.plain (by decide) hm
 have HD := Lib.hid hD
 obtain ⟨tx, htx⟩ : ∃ tx, (next s).x = tx := ⟨_, rfl⟩
 rw [htx] at hC hsz
 have HTX := Lib.hid htx
 have HPK := Lib.hid h.peek
 obtain ⟨R, hR⟩ : ∃ R, plainM s = R := ⟨_, rfl⟩
 have HR := Lib.hid hR
 have hk0 : (next (peekS s)).k ≠ 0 := by rw [next_peek, hk]; decide
 have HK0 := Lib.hid hk0
 have hfl : ∀ w : World, (Instr.field 75 (tkV (next s)) 1).run Tryz.prog w = .ok (.string tx) w := fun _ => by rw [← htx]; rfl
 have hls : tx.data.toList.length = tx.size := by simp
 rcases text_ins hC with ⟨hi, y, hy⟩ | ⟨p, y, z, hx, hz, hi, w2, hw2⟩
 ·have hres : R = .ok (bA y, takeS s) := by
   rw [← hR]
   unfold plainM
   simp only
   rw [htx, hi]
   simp only
   rw [if_neg (by omega), hy]
  rw [hls] at hi
  have HIN := Lib.hid (fun w => insertion_any (x := tx) (by omega) hi w)
  have HSD := Lib.hid (fun w => said_any (x := tx) (by omega) hy w)
  have HRES := Lib.hid hres
  rw [hR]
  have i1 : ¬ (tx.size : Int) < (tx.size : Int) := by omega
  clear h hk hC hsz hD htx hR hk0 hls hi hy hres
  go_enter Tryz.func54, Tryz.ntmps54
  go_wp2_with fail
  go_at_call 52; refine HPK.out.mono ?_
  rintro e w3 ⟨rfl, hs3⟩
  have H3 := Lib.hid hs3
  clear hs3
  go_wp2_with fail
  go_at_call 71; refine (HIN.out _).mono ?_
  rintro e w4 ⟨rfl, hb4⟩
  have HU4 := Lib.hid (H3.out.un.below hb4)
  have hTK := HU4.out.take HK0.out
  rw [next_peek, take_peek] at hTK
  have HTK := Lib.hid hTK
  have HB4 := Lib.hid hb4
  clear hb4 hTK
  go_wp2_with fail
  go_at_call 53; refine HTK.out.mono ?_
  rintro e w5 ⟨rfl, hs5⟩
  have H5 := Lib.hid hs5
  clear hs5
  go_wp2_with fail
  go_at_call 72; refine (HSD.out _).mono ?_
  rintro e w6 ⟨rfl, hb6⟩
  have HU6 := Lib.hid (H5.out.un.below hb6)
  have HO6 : Hid (Outs w w6 P F m1) := Lib.hid (H3.out.outs.trans H3.out.later (((⟨HB4.out.os, HB4.out.tape, HB4.out.output, HB4.out.size, fun k hk _ _ => HB4.out.block k hk⟩ : Outs w3 w4 P F m1).trans (Later.refl _ _ _) H5.out.outs).trans (Later.refl _ _ _) ⟨hb6.os, hb6.tape, hb6.output, hb6.size, fun k hk _ _ => hb6.block k hk⟩))
  clear hb6
  go_wp2_with fail
  go_ret
  rw [HRES.out]
  exact ⟨rfl, m1, HU6.out, HO6.out, Later.refl _ _ _⟩
 ·have hlt : p.length < tx.size := by
   have h1 := congrArg List.length hx
   rw [hls] at h1
   simp only [List.length_append, List.length_cons] at h1
   omega
  have hres : R = .error (50, (next s).at_) := by
   rw [← hR]
   unfold plainM
   simp only
   rw [htx, hi]
   simp only
   rw [if_pos (by omega)]
  have HIN := Lib.hid (fun w => insertion_any (x := tx) (by omega) hi w)
  have HRES := Lib.hid hres
  rw [hR]
  have i1 : (p.length : Int) < (tx.size : Int) := by omega
  clear h hk hC hsz hD htx hR hk0 hls hi hx hz hw2 hres hlt
  go_enter Tryz.func54, Tryz.ntmps54
  go_wp2_with fail
  go_at_call 52; refine HPK.out.mono ?_
  rintro e w3 ⟨rfl, hs3⟩
  have H3 := Lib.hid hs3
  clear hs3
  go_wp2_with fail
  go_at_call 71; refine (HIN.out _).mono ?_
  rintro e w4 ⟨rfl, hb4⟩
  have hRF := (H3.out.un.below hb4).refuse
  rw [next_peek] at hRF
  have HRF := Lib.hid hRF
  clear hb4 hRF
  go_wp2_with fail
  go_at_call 59; refine HRF.out.mono ?_
  rintro e w5 ⟨D, rfl, hbad⟩
  have HBAD := Lib.hid hbad
  clear hbad
  go_wp2_with fail
  rw [HRES.out]
  exact ⟨rfl, HBAD.out _ rfl⟩
end
end Go.Proofs.YtljgggohjigaoaaGreatDoor
