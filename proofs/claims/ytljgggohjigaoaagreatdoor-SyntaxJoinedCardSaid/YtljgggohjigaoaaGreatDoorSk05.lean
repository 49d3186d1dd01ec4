/- skipBraces and quoted, whole · A line's end, a sign · Plain mathematics for package num: numbers as limbs of nine digits, the lowest first, and as decimal texts. It speaks of no program · Plain mathematics: decimal texts and their values; what is a number's text. It speaks of no program · num.Good · A name, a number -/
import Derived.Lib.ItoaNum
import Derived.Lib.ItoaMem
import Derived.Lib.Strings
import Derived.Test.YtljgggohjigaoaaGreatDoorSk04
namespace Go.Proofs.YtljgggohjigaoaaGreatDoor
open Go.RowKit Go.Shelf
set_option linter.unusedVariables false

set_option maxRecDepth 100000 in
set_option maxHeartbeats 4000000 in
theorem brace_deep {W : World} {P a : Nat} {t : ByteArray} (h : Scn W P t a) : Calls Tryz.prog 128 #[.pointer (some ⟨P, 0, none⟩), .int .i64 25] W (REnds W P t (braceL 0 (rest t a))) := by
 have HS0 := Lib.hid (h.stays (caught_new h 25).1)
 go_enter Tryz.func128, Tryz.ntmps128
 go_wp2
 go_ret
 exact ⟨a, HS0.out, .inr ⟨7, rfl, rfl⟩⟩
set_option maxRecDepth 100000 in
set_option maxHeartbeats 4000000 in
theorem brace_step {W : World} {P a n : Nat} {t : ByteArray} {d : Int} (h : Scn W P t a) (h1 : Lib.hasPrefix (rest t a) [123] = true) (hd : 0 ≤ d ∧ d ≤ 24)
  (hb : ∀ W c, Scn W P t c → Lib.hasPrefix (rest t c) [123] = true → Calls Tryz.prog 128 #[.pointer (some ⟨P, 0, none⟩), .int .i64 (d + 1)] W (REnds W P t (braceL n (rest t c)))) :
  Calls Tryz.prog 128 #[.pointer (some ⟨P, 0, none⟩), .int .i64 d] W (REnds W P t (braceL (n + 1) (rest t a))) := by
 have hmf := hmf
 obtain ⟨hb0, hc0⟩ := caught_new h d
 have HB0 := Lib.hid hb0
 have HC0 := Lib.hid hc0
 have HK := Lib.hid (fun (w : World) (hs : Scn w P t a) => skip_yes hs ⟨#[123]⟩ h1)
 have hon := braceL_on n
 have HT := Lib.hid (fun (w : World) (hs : Scn w P t (a + 1)) (hc : Caught w P W.heap.size (W.heap.size + 1) d) => skipTo_any (lb := #[.pointer (some ⟨W.heap.size, 0, none⟩), .pointer (some ⟨W.heap.size + 1, 0, none⟩)]) (part := bracePart (braceL n) (textL (braceL n))) hs ⟨enters_of Tryz.func144 (by kernel_rfl) rfl, fun w' c ha hs' => brace_part hs' (hc.aside ha) hd hb (fun w2 c2 hs2 h2 => text_read hs2 h2 hd hon hb)⟩ (bracePart_on hon (textL_on hon)) 125)
 have e0 : braceL (n + 1) (rest t a) = toEndA (bracePart (braceL n) (textL (braceL n))) 125 (rest t (a + 1)) := by rw [← rest_add]; rfl
 rw [e0]
 have HS := Lib.hid (h.below hb0)
 have HS0 := Lib.hid (h.stays hb0)
 have k0 := hc0.one.cell 0
 have k9 := hc0.two.cell 0
 obtain ⟨d0, d1⟩ := hd
 have d2 : ¬ 24 < d := by omega
 clear h h1 hb hb0 hc0 e0 hon
 go_enter Tryz.func128, Tryz.ntmps128
 go_wp2_with fail
 go_at_call 112; refine (HK.out _ HS.out).mono ?_; rintro e w1 ⟨rfl, hw1⟩
 have HW1 := Lib.hid (HS0.out.trans hw1)
 have HC1 := Lib.hid (HC0.out.aside hw1.1)
 have k1 := HC1.out.one.cell 0
 clear hw1 k0 k9 HK
 go_wp2_with fail
 go_at_call 125; refine (HT.out _ HW1.out.2 HC1.out).mono ?_; rintro e w4 ⟨b2, hw4, hx⟩
 have HW4 := Lib.hid (HW1.out.trans hw4)
 clear hw4
 rcases hx with ⟨R', he, rfl, hr⟩ | ⟨c, he, rfl⟩
 ·have HX := Lib.hid he
  have HY := Lib.hid hr
  clear he hr
  go_wp2
  go_ret
  exact ⟨b2, HW4.out, .inl ⟨R', HX.out, rfl, HY.out⟩⟩
 ·have HX := Lib.hid he
  clear he
  go_wp2
  go_ret
  exact ⟨b2, HW4.out, .inr ⟨c, HX.out, rfl⟩⟩
theorem brace_read {P : Nat} {t : ByteArray} : ∀ (n : Nat) (d : Int), d + (n : Int) = 25 → 0 ≤ d → ∀ W a, Scn W P t a → Lib.hasPrefix (rest t a) [123] = true → Calls Tryz.prog 128 #[.pointer (some ⟨P, 0, none⟩), .int .i64 d] W (REnds W P t (braceL n (rest t a)))
 | 0, d, hd, h0, W, a, hs, h1 => by
  obtain rfl : d = 25 := by omega
  exact brace_deep hs
 | n + 1, d, hd, h0, W, a, hs, h1 => brace_step hs h1 ⟨h0, by omega⟩ (brace_read n (d + 1) (by omega) (by omega))

/-- A text in quotes: what stands between, and what is left. -/
def quotedL (R : List UInt8) : Except Int (List UInt8 × List UInt8) := match textL (braceL 24) R with
 | .ok R' => .ok ((R.drop 1).take (R.length - R'.length - 2), R')
 | .error c => .error c
/-- How a token's reader ends. -/
def TEnds (W : World) (P : Nat) (t : ByteArray) (r : Except Int (List UInt8 × List UInt8)) (e : Ending) (w' : World) : Prop :=
 ∃ b, Went W w' P t b ∧ ((∃ x R' s, r = .ok (x, R') ∧ e = .returned (.tuple #[.string s, .int .i64 0]) ∧ s.data.toList = x ∧ rest t b = R') ∨ (∃ c, r = .error c ∧ e = .returned (.tuple #[.string ⟨#[]⟩, .int .i64 c])))
set_option maxRecDepth 100000 in
set_option maxHeartbeats 4000000 in
theorem quoted_any {W : World} {P a : Nat} {t : ByteArray} (h : Scn W P t a) (h1 : Lib.hasPrefix (rest t a) [34] = true) : Calls Tryz.prog 88 #[.pointer (some ⟨P, 0, none⟩)] W (TEnds W P t (quotedL (rest t a))) := by
 have hon := braceL_on 24
 have HT := Lib.hid (text_read (d := 0) h h1 (by decide) hon (fun w c hs hp => brace_read 24 1 (by decide) (by decide) w c hs hp))
 have HS := Lib.hid h
 have hsz := h.2
 have hle := prefix_drop h1
 rw [rest_length] at hle
 simp only [List.length_cons, List.length_nil] at hle
 have hlo := textL_on hon (rest t a)
 unfold quotedL
 have c1 := h.1.cell 1
 cases hr : textL (braceL 24) (rest t a) with
 | error c =>
  have hc := hlo.2 c hr
  rw [hr] at HT
  have hc0 : (c == 0) = false := beq_eq_false_iff_ne.2 (by omega)
  have hc1 : (c != 0) = true := by simp only [bne, hc0]; rfl
  clear hr h hlo h1 hon
  replace HT := Lib.hid (HT.out.mono fun _ _ h => h.isErr)
  go_enter Tryz.func88, Tryz.ntmps88
  go_wp2_with (go_at_call 113; refine HT.out.mono ?_; rintro e w1 ⟨rfl, b, hw1⟩)
  go_ret2
  exact ⟨b, hw1, .inr ⟨c, rfl, rfl⟩⟩
 | ok R' =>
  have hless := (toEnd_on (textPart_on hon) (q := 34) (((rest t a).drop 1).length + 1) ((rest t a).drop 1)).1 R' hr
  rw [hr] at HT
  rw [List.length_drop, rest_length] at hless
  clear hr h hlo h1 hon
  replace HT := Lib.hid (HT.out.mono fun _ _ h => h.isOk)
  go_enter Tryz.func88, Tryz.ntmps88
  go_wp2_with fail
  go_at_call 113; refine HT.out.mono ?_; rintro e w1 ⟨rfl, b, hw1, hrb⟩
  have HS1 := Lib.hid hw1.2
  have HW1 := Lib.hid hw1
  have hbl : t.size - b = R'.length := by rw [← hrb, rest_length]
  have hbs := hw1.2.2.1
  have HRB := Lib.hid hrb
  have hab : a + 2 ≤ b := by omega
  have HBL := Lib.hid hbl
  clear hw1 hrb c1 HT hless hle hbl
  have c0 := HS1.out.1.cell 0
  have c1 := HS1.out.1.cell 1
  have i0 : IntKind.i64.wrap ((a : Int) + 1) = (a : Int) + 1 := IntWalk.i64_in _ (by omega)
  have i1 : IntKind.i64.wrap ((b : Int) - 1) = (b : Int) - 1 := IntWalk.i64_in _ (by omega)
  have i2 : (0 : Int) ≤ (a : Int) + 1 := by omega
  have i3 : (a : Int) + 1 ≤ (b : Int) - 1 := by omega
  have i4 : (b : Int) - 1 ≤ (t.size : Int) := by omega
  have i5 : ((a : Int) + 1).toNat = a + 1 := by omega
  have i6 : ((b : Int) - 1).toNat = b - 1 := by omega
  have i7 : (1 : Int) ≤ (b : Int) := by omega
  go_wp2_with fail
  go_quiet (fail)
  clear i0 i1 i2 i3 i4 i5 i6 i7
  go_wp2
  go_ret2
  refine ⟨b, HW1.out.trans (HS1.out.stays (below_drewN _ _)), .inl ⟨_, R', _, rfl, rfl, ?_, HRB.out⟩⟩
  rw [Lib.extract_data]
  have h2 : ∀ n, (t.data.toList.drop (a + 1)).take n = ((rest t a).drop 1).take n := fun n => by rw [rest_add]; rfl
  rw [h2, rest_length]
  congr 1
  have := HBL.out
  omega
end Go.Proofs.YtljgggohjigaoaaGreatDoor
namespace Go.Proofs.YtljgggohjigaoaaGreatDoor
open Go.RowKit Go.Shelf
set_option linter.unusedVariables false

theorem TEnds.okAt {W w' : World} {P b : Nat} {t : ByteArray} {x R' : List UInt8} {s : ByteArray} (hw : Went W w' P t b) (hs : s.data.toList = x) (hr : rest t b = R') : TEnds W P t (.ok (x, R')) (.returned (.tuple #[.string s, .int .i64 0])) w' := ⟨b, hw, .inl ⟨x, R', s, rfl, rfl, hs, hr⟩⟩
theorem TEnds.errAt {W w' : World} {P b : Nat} {t : ByteArray} {c : Int} (hw : Went W w' P t b) : TEnds W P t (.error c) (.returned (.tuple #[.string ⟨#[]⟩, .int .i64 c])) w' := ⟨b, hw, .inr ⟨c, rfl, rfl⟩⟩

set_option maxRecDepth 100000 in
set_option maxHeartbeats 1000000 in
theorem line_any {W : World} {P a : Nat} {t : ByteArray} (h : Scn W P t a) (h1 : Lib.hasPrefix (rest t a) [10] = true) : Calls Tryz.prog 87 #[.pointer (some ⟨P, 0, none⟩)] W (TEnds W P t (.ok ([10], (rest t a).drop 1))) := by
 have HK := Lib.hid (skip_yes h ⟨#[10]⟩ h1)
 clear h h1
 go_enter Tryz.func87, Tryz.ntmps87
 go_wp2_with (go_at_call 112; refine HK.out.mono ?_; rintro e w1 ⟨rfl, hw1⟩)
 go_ret2
 exact TEnds.okAt hw1 rfl (rest_add t a 1).symm

/-! ### signs -/
def signsB : List ByteArray := [⟨#[61, 61]⟩, ⟨#[33, 61]⟩, ⟨#[60, 61]⟩, ⟨#[62, 61]⟩, ⟨#[38, 38]⟩, ⟨#[124, 124]⟩, ⟨#[123]⟩, ⟨#[125]⟩, ⟨#[91]⟩, ⟨#[93]⟩, ⟨#[40]⟩, ⟨#[41]⟩, ⟨#[61]⟩, ⟨#[43]⟩, ⟨#[45]⟩, ⟨#[42]⟩, ⟨#[47]⟩, ⟨#[37]⟩, ⟨#[60]⟩, ⟨#[62]⟩, ⟨#[33]⟩, ⟨#[63]⟩, ⟨#[58]⟩, ⟨#[44]⟩, ⟨#[46]⟩]
/-- The table of signs stands. -/
def Signs (W : World) : Prop := ∃ t fr, W.heap[ 0 ]? = some (.cells (signsB.map Value.string).toArray t fr)
/-- The first of some signs that stands here. -/
def firstSign (R : List UInt8) : List ByteArray → Option ByteArray
 | [] => none
 | s :: l => if Lib.hasPrefix R s.data.toList then some s else firstSign R l
def signL (R : List UInt8) : Except Int (List UInt8 × List UInt8) :=
 if Lib.hasPrefix R [47, 42] then .error 40 else match firstSign R signsB with
  | some s => .ok (s.data.toList, R.drop s.size)
  | none => .error 40
theorem sign_run (j : Nat) (h : j < 25) (W : World) : (Instr.index 147 (.agg (signsB.map Value.string).toArray) (.int .i64 (j : Int))).run Tryz.prog W = .ok (.string (signsB[j]'h)) W := by
 have hu := Tryz.underlying147
 have h1 : (0 : Int) ≤ (j : Int) := by omega
 simp [Instr.index, run_underlying hu, asIntOf, go_sem, h1]
 rw [if_pos h, List.getElem?_eq_getElem h]
 rfl
theorem firstSign_hit {R : List UInt8} : ∀ {l : List ByteArray} {j : Nat} (h : j < l.length), (∀ i (hi : i < l.length), i < j → Lib.hasPrefix R (l[i]'hi).data.toList = false) → Lib.hasPrefix R (l[j]'h).data.toList = true → firstSign R l = some (l[j]'h)
 | s :: l, 0, _, _, hp => by
  unfold firstSign
  rw [if_pos (by simpa using hp)]
  rfl
 | s :: l, j + 1, h, hn, hp => by
  have h0 := hn 0 (by simp) (by omega)
  unfold firstSign
  rw [if_neg (by simpa using h0)]
  have := firstSign_hit (l := l) (j := j) (by simpa using h) (fun i hi hij => by
   have := hn (i + 1) (by simpa using hi) (by omega)
   simpa using this) (by simpa using hp)
  simpa using this
theorem firstSign_none {R : List UInt8} : ∀ {l : List ByteArray}, (∀ i (hi : i < l.length), Lib.hasPrefix R (l[i]'hi).data.toList = false) → firstSign R l = none
 | [], _ => rfl
 | s :: l, hn => by
  have h0 := hn 0 (by simp)
  unfold firstSign
  rw [if_neg (by simpa using h0)]
  exact firstSign_none (fun i hi => by
   have := hn (i + 1) (by simpa using hi)
   simpa using this)
set_option maxRecDepth 100000 in
set_option maxHeartbeats 4000000 in
theorem sign_any {W : World} {P a : Nat} {t : ByteArray} (h : Scn W P t a) (hP : 4 ≤ P) (hg : Signs W) : Calls Tryz.prog 95 #[.pointer (some ⟨P, 0, none⟩)] W (TEnds W P t (signL (rest t a))) := by
 have HS := Lib.hid h
 cases h1 : Lib.hasPrefix (rest t a) [47, 42]
 ·have HA := Lib.hid (has_any h ⟨#[47, 42]⟩)
  simp only [h1] at HA
  obtain ⟨tg, fr, hg0⟩ := hg
  have hlen : signsB.length = 25 := rfl
  obtain ⟨sb, hsb⟩ : ∃ sb, signsB = sb := ⟨_, rfl⟩
  have hidx : ∀ (j : Nat) (h : j < sb.length) (W : World), (Instr.index 147 (.agg (sb.map Value.string).toArray) (.int .i64 (j : Int))).run Tryz.prog W = .ok (.string (sb[j]'h)) W := by
   subst hsb; exact fun j h W => sign_run j h W
  have HS1 : Hid (∀ s, firstSign (rest t a) sb = some s → signL (rest t a) = .ok (s.data.toList, (rest t a).drop s.size)) := Lib.hid (fun s h => by unfold signL; rw [h1, if_neg Bool.false_ne_true, hsb, h])
  have HS2 : Hid (firstSign (rest t a) sb = none → signL (rest t a) = .error 40) := Lib.hid (fun h => by unfold signL; rw [h1, if_neg Bool.false_ne_true, hsb, h])
  rw [hsb] at hg0 hlen
  have hsz25 : (sb.map Value.string).toArray.size = 25 := by simp [hlen]
  obtain ⟨A, hA⟩ : ∃ A, (sb.map Value.string).toArray = A := ⟨_, rfl⟩
  rw [hA] at hg0 hsz25
  simp only [hA] at hidx
  have HL := Lib.hid hlen
  have HIX := Lib.hid hidx
  have HG := Lib.hid hg0
  have HZ := Lib.hid hsz25
  clear h h1 hg0 hlen hsb hidx hsz25 hA
  go_enter Tryz.func95, Tryz.ntmps95
  go_wp2_with fail
  go_at_call 89; refine HA.out.mono ?_; rintro e w1 ⟨rfl, hb1⟩
  have HB1 := Lib.hid hb1
  have hg1 := (hb1.block 0 (Array.getElem?_eq_some_iff.1 HG.out).1).trans HG.out
  have HG1 := Lib.hid hg1
  clear hb1 hg1
  go_wp2_with (refine wpList_load_row rfl 147 _ rfl 0 rfl tg _ fr _ HG1.out Tryz.underlying147 rfl (by rw [HZ.out]; kernel_rfl) ?_)
  go_loopg [9] 25 (fun gf s9 wx => ∃ j : Nat, s9 = .int .i64 (j : Int) ∧ Hid (Below W.heap.size W wx) ∧ Hid (∀ i (hi : i < sb.length), i < j → Lib.hasPrefix (rest t a) (sb[i]'hi).data.toList = false) ∧ 25 ≤ j + gf ∧ j ≤ 25)
  case atStart => exact ⟨0, rfl, HB1, Lib.hid (fun i hi h => absurd h (by omega)), by omega, by omega⟩
  case round =>
   obtain ⟨j, rfl, HB, HN, hfu, hj25⟩ := hrel
   by_cases hlt : j < 25
   ·obtain ⟨g', rfl⟩ : ∃ g', gk = g' + 1 := ⟨gk - 1, by omega⟩
    have hjl : j < sb.length := by rw [HL.out]; exact hlt
    have hix := fun W => HIX.out j hjl W
    have HNX : ∀ v, Lib.hasPrefix (rest t a) (sb[j]'hjl).data.toList = v → v = false → ∀ i (h : i < sb.length), i < j + 1 → Lib.hasPrefix (rest t a) (sb[i]'h).data.toList = false := fun v hv hf i h hi => by
     rcases Nat.lt_or_ge i j with h1 | h1
     ·exact HN.out i h h1
     ·obtain rfl : i = j := by omega
      rw [hv]; exact hf
    have HHIT : Lib.hasPrefix (rest t a) (sb[j]'hjl).data.toList = true → firstSign (rest t a) sb = some (sb[j]'hjl) := fun hv => firstSign_hit hjl (fun i hi hij => HN.out i hi hij) hv
    obtain ⟨s, hs⟩ : ∃ s, sb[j]'hjl = s := ⟨_, rfl⟩
    rw [hs] at HNX HHIT
    simp only [hs] at hix
    have HNN := Lib.hid HNX
    have HHT := Lib.hid HHIT
    have HSX := Lib.hid (HS.out.below HB.out)
    clear hs HNX HHIT
    cases hv : Lib.hasPrefix (rest t a) s.data.toList
    ·have HK := Lib.hid (skip_no HSX.out s hv)
     have HV := Lib.hid hv
     clear hv
     go_wp2_with (go_at_call 112; refine HK.out.mono ?_; rintro e w2 ⟨rfl, hb2⟩)
     go_roundg g'
     case measure => omega
     case rel => exact ⟨j + 1, by go_num, Lib.hid (HB.out.trans (hb2.mono HB.out.size)), Lib.hid (HNN.out _ HV.out rfl), by omega, by omega⟩
    ·have HK := Lib.hid (skip_yes HSX.out s hv)
     have HV := Lib.hid hv
     clear hv
     go_wp2_with (go_at_call 112; refine HK.out.mono ?_; rintro e w2 ⟨rfl, hw2⟩)
     go_ret2
     rw [HS1.out s (HHT.out HV.out)]
     exact TEnds.okAt ((HS.out.stays HB.out).trans hw2) rfl (rest_add t a s.size).symm
   ·obtain rfl : j = 25 := by omega
    go_wp2
    go_ret2
    rw [HS2.out (firstSign_none (fun i hi => HN.out i hi (by rw [HL.out] at hi; exact hi)))]
    exact TEnds.errAt (HS.out.stays HB.out)
 ·have HA := Lib.hid (has_any h ⟨#[47, 42]⟩)
  simp only [h1] at HA
  have HS1 : Hid (signL (rest t a) = .error 40) := Lib.hid (by unfold signL; rw [h1, if_pos rfl])
  clear h h1 hg
  go_enter Tryz.func95, Tryz.ntmps95
  go_wp2_with (go_at_call 89; refine HA.out.mono ?_; rintro e w1 ⟨rfl, hb1⟩)
  go_ret2
  rw [HS1.out]
  exact TEnds.errAt (HS.out.stays hb1)
end Go.Proofs.YtljgggohjigaoaaGreatDoor
namespace Go.Proofs.YtljgggohjigaoaaGreatDoor
open Go.Lib

theorem getD_in {l : List Nat} {i : Nat} (h : i < l.length) : l.getD i 0 = l[i] := by simp [List.getD, h]
theorem getD_out {l : List Nat} {i : Nat} (h : l.length ≤ i) : l.getD i 0 = 0 := by simp [List.getD, h]
/-- No limb is too great. -/
def Low (l : List Nat) : Prop := ∀ x ∈ l, x < 1000000000
theorem Low.tail {x : Nat} {l : List Nat} (h : Low (x :: l)) : Low l := fun y hy => h y (List.mem_cons_of_mem _ hy)
theorem Low.head {x : Nat} {l : List Nat} (h : Low (x :: l)) : x < 1000000000 := h x List.mem_cons_self
theorem Low.take {l : List Nat} (h : Low l) (k : Nat) : Low (l.take k) := fun x hx => h x (List.mem_of_mem_take hx)
theorem Low.drop {l : List Nat} (h : Low l) (k : Nat) : Low (l.drop k) := fun x hx => h x (List.mem_of_mem_drop hx)
theorem Low.snoc {l : List Nat} (h : Low l) {x : Nat} (hx : x < 1000000000) : Low (l ++ [x]) := fun y hy => by
 rcases List.mem_append.1 hy with hy | hy
 ·exact h y hy
 ·simp at hy; omega
theorem Low.getD {l : List Nat} (h : Low l) (i : Nat) : l.getD i 0 < 1000000000 := by
 by_cases hi : i < l.length
 ·rw [getD_in hi]; exact h _ (List.getElem_mem hi)
 ·rw [getD_out (by omega)]; omega
end Go.Proofs.YtljgggohjigaoaaGreatDoor
namespace Go.Proofs.YtljgggohjigaoaaGreatDoor
open Go.Lib

/-- Digits alone. -/
def Digs (l : List UInt8) : Prop := ∀ c ∈ l, 48 ≤ c.toNat ∧ c.toNat ≤ 57

theorem Digs.left {a b : List UInt8} (h : Digs (a ++ b)) : Digs a := fun c hc => h c (List.mem_append_left _ hc)
theorem Digs.right {a b : List UInt8} (h : Digs (a ++ b)) : Digs b := fun c hc => h c (List.mem_append_right _ hc)
theorem Digs.append {a b : List UInt8} (ha : Digs a) (hb : Digs b) : Digs (a ++ b) := fun c hc => by
 rcases List.mem_append.1 hc with h | h
 ·exact ha c h
 ·exact hb c h
theorem Digs.take {l : List UInt8} (h : Digs l) (k : Nat) : Digs (l.take k) := fun c hc => h c (List.mem_of_mem_take hc)
theorem Digs.drop {l : List UInt8} (h : Digs l) (k : Nat) : Digs (l.drop k) := fun c hc => h c (List.mem_of_mem_drop hc)

theorem bytes_len (s : ByteArray) : s.data.toList.length = s.size := by rw [Array.length_toList]; rfl
theorem bytes_at (s : ByteArray) (k : Nat) (h : k < s.size) : s.data.toList[k]'(by rw [bytes_len]; exact h) = s[k] := rfl
theorem bytes_mem (s : ByteArray) (k : Nat) (h : k < s.size) : s[k] ∈ s.data.toList := by rw [← bytes_at s k h]; exact List.getElem_mem _

/-- The test of num.Good. -/
def goodB (l : List UInt8) : Bool :=
 let d := trimPrefix l [45]
 decide (d ≠ []) && decide (d.length ≤ 100) && (if d.head? = some 48 then decide (l = [48]) else d.all fun c => decide (48 ≤ c.toNat) && decide (c.toNat ≤ 57))

end Go.Proofs.YtljgggohjigaoaaGreatDoor
namespace Go.Proofs.YtljgggohjigaoaaGreatDoor
open Go.RowKit

/-- The text without its sign. -/
def bare (s : ByteArray) : ByteArray := ⟨(Lib.trimPrefix s.data.toList [45]).toArray⟩

theorem trim_any (s : ByteArray) (w : World) : Calls Tryz.prog 135 #[.string s, .string ⟨#[45]⟩] w fun e w' => e = .returned (.string (bare s)) ∧ w = w' :=
 (Tryz.strings_TrimPrefix _ _ _).mono fun _ _ ⟨h1, h2⟩ => ⟨h1, h2.symm⟩

theorem bare_list (s : ByteArray) : (bare s).data.toList = Lib.trimPrefix s.data.toList [45] := by unfold bare; rfl

/-- goodB, told of the text without its sign. -/
theorem good_bare {s D : ByteArray} (h : bare s = D) : goodB s.data.toList = (decide (D.data.toList ≠ []) && decide (D.data.toList.length ≤ 100) && (if D.data.toList.head? = some 48 then decide (s.data.toList = [48]) else D.data.toList.all digB)) := by
 subst h
 rw [bare_list]
 rfl
theorem head_byte {D : ByteArray} (h : 0 < D.size) : D.data.toList.head? = some D[0] := by
 rw [List.head?_eq_getElem?, List.getElem?_eq_getElem (by rw [bytes_len]; exact h)]
 rfl

set_option maxHeartbeats 400000 in
theorem Good_any (s : ByteArray) (w : World) :
  Calls Tryz.prog 117 #[.string s] w fun e w' => e = .returned (.bool (goodB s.data.toList)) ∧ w = w' := by
 obtain ⟨D, hD⟩ : ∃ D, bare s = D := ⟨_, rfl⟩
 have HG := Lib.hid (good_bare hD)
 have HT : Calls Tryz.prog 135 #[.string s, .string ⟨#[45]⟩] w fun e w' => e = .returned (.string D) ∧ w = w' := by rw [← hD]; exact trim_any s w
 have HL := Lib.hid (bytes_len D)
 clear hD
 rcases Nat.eq_zero_or_pos D.size with h0 | h0
 ·have e1 : ((D.size : Int) == 0) = true := beq_iff_eq.2 (by omega)
  have HF : Hid (goodB s.data.toList = false) := Lib.hid (by
   rw [HG.out]
   have : D.data.toList = [] := List.length_eq_zero_iff.1 (by rw [HL.out]; exact h0)
   rw [this]; rfl)
  clear h0
  go_enter Tryz.func117, Tryz.ntmps117
  go_wp2_with (go_at_call 135; refine HT.mono ?_; rintro e w' ⟨rfl, rfl⟩)
  go_ret
  exact ⟨by rw [HF.out]; rfl, rfl⟩
 ·have e1 : ((D.size : Int) == 0) = false := beq_eq_false_iff_ne.2 (by omega)
  by_cases h1 : 100 < D.size
  ·have HF : Hid (goodB s.data.toList = false) := Lib.hid (by
    rw [HG.out, HL.out]
    have : decide (D.size ≤ 100) = false := by simp; omega
    rw [this]; simp)

   go_enter Tryz.func117, Tryz.ntmps117
   go_wp2_with (go_at_call 135; refine HT.mono ?_; rintro e w' ⟨rfl, rfl⟩)
   go_ret
   exact ⟨by rw [HF.out]; rfl, rfl⟩
  ·have h2 : D.size ≤ 100 := by omega
   have hn : decide (D.data.toList ≠ []) = true := by
    simp only [decide_eq_true_eq]; intro h; have := HL.out; rw [h] at this; simp at this; omega
   have hl : decide (D.data.toList.length ≤ 100) = true := by simp only [decide_eq_true_eq]; rw [HL.out]; exact h2
   have hh := head_byte h0
   by_cases h3 : D[0].toNat = 48
   ·have e3 : ((D[0].toNat : Int) == 48) = true := beq_iff_eq.2 (by omega)
    have HF : Hid (goodB s.data.toList = (s.toList == [48])) := Lib.hid (by
     rw [HG.out, hn, hl, hh]
     have : D[0] = 48 := UInt8.toNat_inj.1 h3
     rw [this]
     rw [ByteArray.toList_eq]
     simp
     rw [Bool.eq_iff_iff]
     simp)
    clear hn hl hh h1 h3
    go_enter Tryz.func117, Tryz.ntmps117
    go_wp2_with (go_at_call 135; refine HT.mono ?_; rintro e w' ⟨rfl, rfl⟩)
    go_ret
    exact ⟨by rw [HF.out]; rfl, rfl⟩
   ·have e3 : ((D[0].toNat : Int) == 48) = false := beq_eq_false_iff_ne.2 (by omega)
    have HF : Hid (goodB s.data.toList = D.data.toList.all digB) := Lib.hid (by
     rw [HG.out, hn, hl, hh, if_neg (by intro h; simp at h; rw [h] at h3; exact h3 rfl)]
     rfl)
    clear hn hl hh h1 h3
    go_enter Tryz.func117, Tryz.ntmps117
    go_wp2_with (go_at_call 135; refine HT.mono ?_; rintro e w' ⟨rfl, rfl⟩)
    go_loop [22] (fun i => ∃ k : Nat, k ≤ D.size ∧ i = .int .i64 k ∧ Hid ((D.data.toList.take k).all digB = true)) (fun i => D.size - (intOf i).toNat)
    case atStart => exact ⟨0, Nat.zero_le _, rfl, Lib.hid rfl⟩
    case round =>
     obtain ⟨k, hk, rfl, HK⟩ := hrel
     by_cases hlt : k < D.size
     ·have HS : Hid ((D.data.toList.take (k + 1)).all digB = digB D[k]) := Lib.hid (by
       rw [List.take_succ_eq_append_getElem (by rw [HL.out]; exact hlt), List.all_append, HK.out]
       simp
       rfl)
      by_cases hd : 48 ≤ D[k].toNat ∧ D[k].toNat ≤ 57
      ·obtain ⟨hd1, hd2⟩ := hd
       have HS2 : Hid (digB D[k] = true) := Lib.hid (by unfold digB; simp [hd1, hd2])
       go_wp2
       go_round
       case rel => exact ⟨k + 1, by omega, by go_num, Lib.hid (by rw [HS.out, HS2.out])⟩
       case measure => simp [intOf]; omega
      ·have HF2 : Hid (D.data.toList.all digB = false) := Lib.hid (by
        rw [List.all_eq_false]
        refine ⟨D[k], ?_, ?_⟩
        ·exact bytes_mem D k hlt
        ·unfold digB; simp; omega)
       rcases (show D[k].toNat < 48 ∨ (48 ≤ D[k].toNat ∧ 57 < D[k].toNat) by omega) with h | ⟨h, h'⟩
       all_goals
        clear hd
        go_wp2
        go_ret
        exact ⟨by rw [HF.out, HF2.out]; rfl, rfl⟩
     ·go_wp2
      go_ret
      exact ⟨by rw [HF.out]; have := HK.out; rw [List.take_of_length_le (by rw [HL.out]; omega)] at this; rw [this]; rfl, rfl⟩

end Go.Proofs.YtljgggohjigaoaaGreatDoor
namespace Go.Proofs.YtljgggohjigaoaaGreatDoor
open Go.RowKit Go.Shelf
set_option linter.unusedVariables false

theorem wordL_le : ∀ R : List UInt8, (wordL R).length ≤ R.length
 | [] => by simp [wordL]
 | c :: r => by
  rw [wordL_cons]
  split
  ·have := dropWhile_le (q := wordB) r
   simp; omega
  ·simp
def tookL (R R' : List UInt8) : List UInt8 := R.take (R.length - R'.length)
def nameL (R : List UInt8) : Except Int (List UInt8 × List UInt8) := if 32 < R.length - (wordL R).length then .error 3 else .ok (tookL R (wordL R), wordL R)
def numberL (R : List UInt8) : Except Int (List UInt8 × List UInt8) :=
 if (wordL (R.dropWhile digB)).length < (R.dropWhile digB).length then .error 40
 else if goodB (tookL R (R.dropWhile digB)) then .ok (tookL R (R.dropWhile digB), R.dropWhile digB)
 else if R.head? = some 48 then .error 40 else .error 3
theorem took_list {t : ByteArray} {a b : Nat} {R' : List UInt8} (ha : a ≤ t.size) (hab : a ≤ b) (hb : b ≤ t.size) (h : rest t b = R') : (t.extract a b).data.toList = tookL (rest t a) R' := by
 unfold tookL
 rw [Lib.extract_data, ← h, rest_length, rest_length, show t.size - a - (t.size - b) = b - a by omega]
 rfl
set_option maxRecDepth 100000 in
set_option maxHeartbeats 1000000 in
theorem name_any {W : World} {P a : Nat} {t : ByteArray} (h : Scn W P t a) : Calls Tryz.prog 94 #[.pointer (some ⟨P, 0, none⟩)] W (TEnds W P t (nameL (rest t a))) := by
 have hw := wordTo_bytes h.2.1
 have HW := Lib.hid (word_any h rfl)
 have ha := h.2.1
 obtain ⟨b, hb⟩ : ∃ b, wordTo letP wordP t a = b := ⟨_, rfl⟩
 rw [hb] at HW hw
 have hl := took_list ha hw.2.1 hw.2.2 hw.1
 have hsz : (t.extract a b).size = b - a := by simp; have := hw.2.2; omega
 have hrl : (rest t a).length - (wordL (rest t a)).length = b - a := by rw [← hw.1, rest_length, rest_length]; have := hw.2.2; omega
 obtain ⟨s, hs⟩ : ∃ s, t.extract a b = s := ⟨_, rfl⟩
 rw [hs] at HW hl hsz
 by_cases hlt : 32 < b - a
 ·have HE : Hid (nameL (rest t a) = .error 3) := Lib.hid (by unfold nameL; rw [hrl, if_pos hlt])
  have i0 : (32 : Int) < (s.size : Int) := by omega
  clear h hw hb hl hrl hs hlt
  go_enter Tryz.func94, Tryz.ntmps94
  go_wp2_with (go_at_call 114; refine HW.out.mono ?_; rintro e w1 ⟨rfl, hw1⟩)
  go_ret2
  rw [HE.out]
  exact TEnds.errAt hw1
 ·have HE : Hid (nameL (rest t a) = .ok (tookL (rest t a) (wordL (rest t a)), wordL (rest t a))) := Lib.hid (by unfold nameL; rw [hrl, if_neg hlt])
  have HL := Lib.hid hl
  have HR := Lib.hid hw.1
  have i0 : ¬ (32 : Int) < (s.size : Int) := by omega
  clear h hw hb hl hrl hs hlt
  go_enter Tryz.func94, Tryz.ntmps94
  go_wp2_with (go_at_call 114; refine HW.out.mono ?_; rintro e w1 ⟨rfl, hw1⟩)
  go_ret2
  rw [HE.out]
  exact TEnds.okAt hw1 HL.out HR.out
theorem extract_empty {t : ByteArray} {a b : Nat} (hb : b ≤ t.size) : (t.extract a b).toList.isEmpty = decide (b ≤ a) := by
 rw [ByteArray.toList_eq]
 have hsz : (t.extract a b).data.toList.length = b - a := by rw [Lib.extract_data]; simp; omega
 generalize (t.extract a b).data.toList = l at hsz
 cases l with
 | nil => simp at hsz ⊢; omega
 | cons c l => simp at hsz ⊢; omega
set_option maxRecDepth 100000 in
set_option maxHeartbeats 4000000 in
theorem number_any {W : World} {P a : Nat} {t : ByteArray} (h : Scn W P t a) (h1 : ((rest t a).dropWhile digB).length < (rest t a).length) : Calls Tryz.prog 92 #[.pointer (some ⟨P, 0, none⟩)] W (TEnds W P t (numberL (rest t a))) := by
 have ha := h.2.1
 have hd := digP_bytes ha
 obtain ⟨b, hb⟩ : ∃ b, takeTo digP t a = b := ⟨_, rfl⟩
 rw [hb] at hd
 have HT := Lib.hid (take_any h (isDigit_says W) hb hd.2.2 hd.2.1)
 have hw := wordTo_bytes hd.2.2
 obtain ⟨c, hc⟩ : ∃ c, wordTo letP wordP t b = c := ⟨_, rfl⟩
 rw [hc] at hw
 have HW := Lib.hid (fun (w : World) (hs : Scn w P t b) => word_any hs hc)
 have hl := took_list ha hd.2.1 hd.2.2 hd.1
 have hab : a < b := by rw [← hd.1, rest_length, rest_length] at h1; omega
 have hsz : (t.extract a b).size = b - a := by simp; have := hd.2.2; omega
 have hemp := extract_empty (t := t) (a := b) hw.2.2
 have hwl : (wordL ((rest t a).dropWhile digB)).length < ((rest t a).dropWhile digB).length ↔ b < c := by
  rw [← hd.1, ← hw.1, rest_length, rest_length]
  have := hw.2.2
  omega
 have hhd : (rest t a).head? = (t.extract a b).data.toList.head? := by
  rw [hl]
  unfold tookL
  rw [← hd.1, rest_length, rest_length, rest_cons (by omega)]
  rw [show t.size - a - (t.size - b) = (b - a - 1) + 1 by have := hd.2.2; omega]
  rfl
 obtain ⟨s, hs⟩ : ∃ s, t.extract a b = s := ⟨_, rfl⟩
 rw [hs] at HT hl hsz hhd
 obtain ⟨y, hy⟩ : ∃ y, t.extract b c = y := ⟨_, rfl⟩
 rw [hy] at HW hemp
 have hbc := hw.2.1
 have hs0 : 0 < s.size := by omega
 have hh := head_byte hs0
 rw [hh] at hhd
 have i0 : (0 : Int) < (s.size : Int) := by omega
 have HG := Lib.hid (fun w => Good_any s w)
 rw [hl] at HG
 by_cases hlt : b < c
 ·have HE : Hid (numberL (rest t a) = .error 40) := Lib.hid (by unfold numberL; rw [if_pos (hwl.2 hlt)])
  have hye : y.toList.isEmpty = false := by rw [hemp]; simp; omega
  clear h h1 ha hd hb hw hc hl hab hsz hemp hwl hhd hs hy hbc hs0 hh HG hlt
  go_enter Tryz.func92, Tryz.ntmps92
  go_wp2_with fail
  go_at_call 84; refine HT.out.mono ?_; rintro e w1 ⟨rfl, hw1⟩
  have HW1 := Lib.hid hw1
  clear hw1
  go_wp2_with fail
  go_at_call 114; refine (HW.out _ HW1.out.2).mono ?_; rintro e w2 ⟨rfl, hw2⟩
  go_wp2
  go_ret2
  rw [HE.out]
  exact TEnds.errAt (HW1.out.trans hw2)
 ·obtain rfl : c = b := by omega
  have hye : y.toList.isEmpty = true := by rw [hemp]; simp
  have HRB := Lib.hid hd.1
  have HLL := Lib.hid hl
  have hnl : numberL (rest t a) = if goodB (tookL (rest t a) ((rest t a).dropWhile digB)) then .ok (tookL (rest t a) ((rest t a).dropWhile digB), (rest t a).dropWhile digB) else if s[0] = 48 then .error 40 else .error 3 := by
   unfold numberL
   rw [if_neg (fun hx => hlt (hwl.1 hx)), hhd]
   simp only [Option.some.injEq]
  obtain ⟨g, hg⟩ : ∃ g, goodB (tookL (rest t a) ((rest t a).dropWhile digB)) = g := ⟨_, rfl⟩
  rw [hg] at HG hnl
  have HE := Lib.hid hnl
  by_cases h48 : s[0] = 48
  ·have e48 : (((s[0]'hs0).toNat : Int) == 48) = true := by rw [h48]; rfl
   have HE48 := Lib.hid h48
   clear h h1 ha hd hb hw hc hl hab hsz hemp hwl hhd hs hy hbc hh hlt hnl hg h48
   cases g
   all_goals
    go_enter Tryz.func92, Tryz.ntmps92
    go_wp2_with fail
    go_at_call 84; refine HT.out.mono ?_; rintro e w1 ⟨rfl, hw1⟩
    have HW1 := Lib.hid hw1
    clear hw1
    go_wp2_with fail
    go_at_call 114; refine (HW.out _ HW1.out.2).mono ?_; rintro e w2 ⟨rfl, hw2⟩
    have HW2 := Lib.hid (HW1.out.trans hw2)
    clear hw2
    go_wp2_with fail
    go_at_call 117; refine (HG.out _).mono ?_; rintro e w3 ⟨rfl, rfl⟩
    go_wp2
    go_ret2
    rw [HE.out]
    first
     | exact TEnds.okAt HW2.out HLL.out HRB.out
     | (rw [if_neg Bool.false_ne_true, if_pos HE48.out]; exact TEnds.errAt HW2.out)
     | (rw [if_pos trivial]; exact TEnds.okAt HW2.out HLL.out HRB.out)
  ·have e48 : (((s[0]'hs0).toNat : Int) == 48) = false := beq_eq_false_iff_ne.2 (fun e => h48 (UInt8.toNat_inj.1 (by simpa using Int.ofNat.inj e)))
   have HE48 := Lib.hid h48
   clear h h1 ha hd hb hw hc hl hab hsz hemp hwl hhd hs hy hbc hh hlt hnl hg h48
   cases g
   all_goals
    go_enter Tryz.func92, Tryz.ntmps92
    go_wp2_with fail
    go_at_call 84; refine HT.out.mono ?_; rintro e w1 ⟨rfl, hw1⟩
    have HW1 := Lib.hid hw1
    clear hw1
    go_wp2_with fail
    go_at_call 114; refine (HW.out _ HW1.out.2).mono ?_; rintro e w2 ⟨rfl, hw2⟩
    have HW2 := Lib.hid (HW1.out.trans hw2)
    clear hw2
    go_wp2_with fail
    go_at_call 117; refine (HG.out _).mono ?_; rintro e w3 ⟨rfl, rfl⟩
    go_wp2
    go_ret2
    rw [HE.out]
    first
     | (rw [if_neg Bool.false_ne_true, if_neg HE48.out]; exact TEnds.errAt HW2.out)
     | (rw [if_pos trivial]; exact TEnds.okAt HW2.out HLL.out HRB.out)
end Go.Proofs.YtljgggohjigaoaaGreatDoor
