/- Encode: any value · What the document reads of a JSON text: it looks at what stands behind a number at once; the same errors at the same bytes · digits -/
import Derived.Test.YtcbcjeabpjjhbaaGreatDoorJb13
import Derived.Test.YtcbcjeabpjjhbaaGreatDoorJb14
import Derived.Test.YtcbcjeabpjjhbaaGreatDoorJb21
import Derived.Test.YtcbcjeabpjjhbaaGreatDoorJb22
namespace Go.Proofs.YtcbcjeabpjjhbaaGreatDoor
open Go.RowKit Go.Shelf
set_option linter.unusedVariables false

open Classical in
noncomputable def encR (T : VT) : ByteArray × Int := if within 24 1999 T then (if knownT T = true then (if utfT T = true then (if 65536 < (appV T []).length then (⟨#[]⟩, 3) else (⟨(appV T []).toArray⟩, 0)) else (⟨#[]⟩, 31)) else (⟨#[]⟩, 20)) else (⟨#[]⟩, 1)
def EncE (W : World) (r : ByteArray × Int) (e : Ending) (w' : World) : Prop := e = .returned (.tuple #[.string r.1, .int .i64 r.2]) ∧ Below W.heap.size W w'
theorem row_nil (B : Nat) (w : World) : Row B w (.slice none 0 0) [] := ⟨rfl, .inl ⟨rfl, rfl⟩⟩
theorem conv_row {B : Nat} {w : World} {ad : Option Addr} {cap : Nat} {L : List UInt8} (h : Row B w (.slice ad L.length cap) L) : (convert 44 9 (.slice ad L.length cap)).run Tryz.prog w = .ok (.string ⟨L.toArray⟩) w := by
  rcases h.2 with ⟨h1, h2⟩ | ⟨g, cap', cur, h1, h3, h4, h5, h6, h7, h8⟩
  · obtain rfl : L = [] := List.length_eq_zero_iff.1 h2
    cases h1
    exact run_convert_bytes_nil (P := Tryz.prog) w 44 5 Tryz.underlying44 Tryz.underlying5 0 0 9 Tryz.underlying9
  · cases h1
    refine run_convert_bytes_back (P := Tryz.prog) w 44 9 5 ⟨g, 0, none⟩ cap L Tryz.underlying44 Tryz.underlying5 Tryz.underlying9 (fun j hj => ?_)
    exact World.ownsRow.cells h (g := g) rfl j (.int .u8 (L[j].toNat : Int)) (by simp [Lib.byteCells, hj])
set_option maxRecDepth 100000 in
set_option maxHeartbeats 4000000 in
theorem encode_any {B : Nat} {w W : World} {v : Value} {T : VT} (h : Is B w v T) (hb : Below B w W) (hBW : B ≤ W.heap.size) (hR : ReadyJ W) : Calls Tryz.prog 8 #[v] W (EncE W (encR T)) := by
  obtain ⟨k, b, t, ad, n, cap, adk, nk, capk, rfl⟩ := h.shape
  obtain ⟨Wz, hWz⟩ : ∃ Wz, W.alloc (.cells #[.int .i64 k, .bool b, .string t, .slice ad n cap, .slice adk nk capk] 26) = Wz := ⟨_, rfl⟩
  have hk0 : Blk Wz W.heap.size #[.int .i64 k, .bool b, .string t, .slice ad n cap, .slice adk nk capk] 26 := by rw [← hWz]; exact Blk.new _ _ _
  have HZ : Hid (Below W.heap.size W Wz) := by rw [← hWz]; exact Lib.hid (below_new0 _ _)
  have HI := Lib.hid h
  have HBW := Lib.hid hb
  have HR := Lib.hid (hR.below HZ.out)
  have HK := Lib.hid hk0
  have c0 := hk0.cell 0
  have c1 := hk0.cell 1
  have c2 := hk0.cell 2
  have c3 := hk0.cell 3
  have c4 := hk0.cell 4
  have HG := Lib.hid (vGood_any h Wz (hb.trans (HZ.out.mono hBW)) (Nat.le_trans hBW HZ.out.size))
  clear h hb hR hk0
  by_cases hw : within 24 1999 T
  · rw [decide_eq_true hw] at HG
    have HW := Lib.hid hw
    clear hw
    go_enter Tryz.func8, Tryz.ntmps8
    go_wp2_with (go_at_call 15; refine HG.out.mono ?_; rintro e w1 ⟨rfl, hb1⟩; have d0 := (HK.out.below hb1).cell 0; have d1 := (HK.out.below hb1).cell 1; have d2 := (HK.out.below hb1).cell 2; have d3 := (HK.out.below hb1).cell 3; have d4 := (HK.out.below hb1).cell 4; refine Hid.out ?_)
    refine Lib.hid ?_
    have HB1 : Hid (Below W.heap.size W w1) := Lib.hid (HZ.out.trans (hb1.mono HZ.out.size))
    have HK1 := Lib.hid (HK.out.below hb1)
    have HR1 := Lib.hid (HR.out.below hb1)
    have HN := Lib.hid (vKnown_any HI.out w1 (HBW.out.trans (HB1.out.mono hBW)) (Nat.le_trans hBW HB1.out.size))
    clear hb1 c0 c1 c2 c3 c4
    cases hkn : knownT T
    · rw [hkn] at HN
      have HX : Hid (encR T = (⟨#[]⟩, 20)) := Lib.hid (by unfold encR; rw [if_pos HW.out, if_neg (by rw [hkn]; decide)])
      clear hkn
      go_wp2_with (go_at_call 16; refine HN.out.mono ?_; rintro e w2 ⟨rfl, hb2⟩)
      refine bodyPost_ret (v := .tuple #[.string ⟨#[]⟩, .int .i64 20]) (by simp [results, Tryz.results8, go_sem]) rfl ?_
      rw [HX.out]
      exact ⟨rfl, HB1.out.trans (hb2.mono HB1.out.size)⟩
    · rw [hkn] at HN
      have HKN := Lib.hid hkn
      clear hkn
      go_wp2_with (go_at_call 16; refine HN.out.mono ?_; rintro e w2 ⟨rfl, hb2⟩; have e0 := (HK1.out.below hb2).cell 0; have e1 := (HK1.out.below hb2).cell 1; have e2 := (HK1.out.below hb2).cell 2; have e3 := (HK1.out.below hb2).cell 3; have e4 := (HK1.out.below hb2).cell 4; refine Hid.out ?_)
      refine Lib.hid ?_
      have HB2 : Hid (Below W.heap.size W w2) := Lib.hid (HB1.out.trans (hb2.mono HB1.out.size))
      have HK2 := Lib.hid (HK1.out.below hb2)
      have HR2 := Lib.hid (HR1.out.below hb2)
      have HU := Lib.hid (allUTF8_any HI.out (plain_short T HW.out.2.2) w2 (HBW.out.trans (HB2.out.mono hBW)) (Nat.le_trans hBW HB2.out.size) HR2.out)
      clear hb2 d0 d1 d2 d3 d4
      cases hut : utfT T
      · rw [hut] at HU
        have HX : Hid (encR T = (⟨#[]⟩, 31)) := Lib.hid (by unfold encR; rw [if_pos HW.out, if_pos HKN.out, if_neg (by rw [hut]; decide)])
        clear hut
        go_wp2_with (go_at_call 17; refine HU.out.mono ?_; rintro e w3 ⟨rfl, hb3⟩)
        refine bodyPost_ret (v := .tuple #[.string ⟨#[]⟩, .int .i64 31]) (by simp [results, Tryz.results8, go_sem]) rfl ?_
        rw [HX.out]
        exact ⟨rfl, HB2.out.trans (hb3.mono HB2.out.size)⟩
      · rw [hut] at HU
        have HUT := Lib.hid hut
        clear hut
        go_wp2_with (go_at_call 17; refine HU.out.mono ?_; rintro e w3 ⟨rfl, hb3⟩; have q0 := (HK2.out.below hb3).cell 0; have q1 := (HK2.out.below hb3).cell 1; have q2 := (HK2.out.below hb3).cell 2; have q3 := (HK2.out.below hb3).cell 3; have q4 := (HK2.out.below hb3).cell 4; refine Hid.out ?_)
        refine Lib.hid ?_
        have HB3 : Hid (Below W.heap.size W w3) := Lib.hid (HB2.out.trans (hb3.mono HB2.out.size))
        have hlen := appV_len T [] HW.out.2.2
        have hsz := HW.out.2.1
        simp only [List.length_nil] at hlen
        have HA := Lib.hid (appValue_any HI.out (plain_even T HW.out.2.2) w3.heap.size w3 (.slice none 0 0) [] (HBW.out.trans (HB3.out.mono hBW)) (Nat.le_trans hBW HB3.out.size) (Nat.le_refl _) (row_nil _ _) (by omega))
        clear hb3 e0 e1 e2 e3 e4
        obtain ⟨X, hX⟩ : ∃ X, appV T [] = X := ⟨_, rfl⟩
        rw [hX] at HA hlen
        have HX := Lib.hid hX
        clear hX
        go_wp2_with fail
        go_at_call 18; refine HA.out.mono ?_; rintro e w4 ⟨v4, rfl, hr4, hb4, ho4⟩
        obtain ⟨ad4, cap4, hv4⟩ := row_shape hr4
        subst hv4
        have hcv := conv_row hr4
        have HB4 : Hid (Below W.heap.size W w4) := Lib.hid (HB3.out.trans (hb4.mono HB3.out.size))
        clear hr4 hb4 ho4
        by_cases hl : 65536 < X.length
        · have HE : Hid (encR T = (⟨#[]⟩, 3)) := Lib.hid (by unfold encR; rw [if_pos HW.out, if_pos HKN.out, if_pos HUT.out, HX.out, if_pos hl])
          have i0 : (65536 : Int) < (X.length : Int) := by omega
          clear hl
          go_wp2
          refine bodyPost_ret (v := .tuple #[.string ⟨#[]⟩, .int .i64 3]) (by simp [results, Tryz.results8, go_sem]) rfl ?_
          rw [HE.out]
          exact ⟨rfl, HB4.out⟩
        · have HE : Hid (encR T = (⟨X.toArray⟩, 0)) := Lib.hid (by unfold encR; rw [if_pos HW.out, if_pos HKN.out, if_pos HUT.out, HX.out, if_neg hl])
          have i0 : ¬ (65536 : Int) < (X.length : Int) := by omega
          clear hl
          go_wp2
          refine bodyPost_ret (v := .tuple #[.string ⟨X.toArray⟩, .int .i64 0]) (by simp [results, Tryz.results8, go_sem]) rfl ?_
          rw [HE.out]
          exact ⟨rfl, HB4.out⟩
  · rw [decide_eq_false hw] at HG
    have HX : Hid (encR T = (⟨#[]⟩, 1)) := Lib.hid (by unfold encR; rw [if_neg hw])
    clear hw
    go_enter Tryz.func8, Tryz.ntmps8
    go_wp2_with (go_at_call 15; refine HG.out.mono ?_; rintro e w1 ⟨rfl, hb1⟩)
    refine bodyPost_ret (v := .tuple #[.string ⟨#[]⟩, .int .i64 1]) (by simp [results, Tryz.results8, go_sem]) rfl ?_
    rw [HX.out]
    exact ⟨rfl, HZ.out.trans (hb1.mono HZ.out.size)⟩
end Go.Proofs.YtcbcjeabpjjhbaaGreatDoor
namespace Go.Proofs.YtcbcjeabpjjhbaaGreatDoor
set_option linter.unusedVariables false

/-- What may not stand behind a number. -/
def badH : List UInt8 → Bool
  | c :: _ => digJ c || c == 46 || c == 101 || c == 69
  | [] => false
def numD (R : List UInt8) : Except Bad (ByteArray × List UInt8) := match numJ R with
  | .error e => .error e
  | .ok (t, R') => if badH R' then .error (30, R'.length) else .ok (t, R')
def valD : Nat → RdJ VT
  | 0 => fun R n => .error (7, (skipB R).length)
  | d + 1 => fun R n => if n = 2000 then .error (3, (skipB R).length) else match skipB R with
    | [] => .error (30, 0)
    | c :: r => if c = 34 then match quotedJ (c :: r) with
          | .error e => .error e
          | .ok (t, R') => .ok (textT t, R', n + 1)
      else if c = 91 then match eachJ (itemJ (valD d)) 93 [] (c :: r) (n + 1) with
          | .error e => .error e
          | .ok (l, R', n') => .ok (listT l, R', n')
      else if c = 123 then match eachJ (pairJ (valD d)) 125 [] (c :: r) (n + 1) with
          | .error e => .error e
          | .ok (l, R', n') => .ok (madeT l, R', n')
      else if c = 45 ∨ digJ c = true then match numD (c :: r) with
          | .error e => .error e
          | .ok (t, R') => .ok (intT t, R', n + 1)
      else match wordJ (c :: r) with
          | .error e => .error e
          | .ok (T, R') => .ok (T, R', n + 1)
def wholeD (t : ByteArray) : Except Bad VT :=
  if 65536 < t.size then .error (3, t.size) else match valD 24 t.data.toList 0 with
    | .error e => .error e
    | .ok (T, R, _) => if skipB R = [] then .ok T else .error (30, (skipB R).length)
def SimJ {α : Type} (x y : Except Bad (α × List UInt8 × Nat)) : Prop := x = y ∨ ∃ T R' n', x = .ok (T, R', n') ∧ badH R' = true ∧ y = .error (30, R'.length)
theorem bad_skip {R : List UInt8} (h : badH R = true) : skipB R = R := by
  cases R with
  | nil => cases h
  | cons c r =>
    unfold skipB
    rw [List.dropWhile_cons, if_neg]
    intro hb
    unfold blankB at hb
    unfold badH digJ at h
    simp at hb
    rcases hb with ((rfl | rfl) | rfl) | rfl <;> simp at h
theorem bad_pre {R : List UInt8} {q : UInt8} (h : badH R = true) (hq : q = 93 ∨ q = 125 ∨ q = 44) : Lib.hasPrefix R [q] = false := by
  cases R with
  | nil => cases h
  | cons c r =>
    have hne : ¬ q = c := by
      rintro rfl
      unfold badH digJ at h
      rcases hq with rfl | rfl | rfl <;> simp at h
    simp [Lib.hasPrefix, List.isPrefixOf, hne]
theorem seq_sim {σ : Type} {rd rd' : σ → RdJ σ} {q : UInt8} (hq : q = 93 ∨ q = 125) (h : ∀ st R n, SimJ (rd st R n) (rd' st R n)) : ∀ (f : Nat) (st : σ) (R : List UInt8) (n : Nat), seqJ rd q f st R n = seqJ rd' q f st R n
  | 0, st, R, n => by unfold seqJ; rfl
  | f + 1, st, R, n => by
    have ih := seq_sim hq h f
    unfold seqJ
    rcases h st R n with e | ⟨st', R', n', e1, hb, e2⟩
    · rw [e]
      cases rd' st R n with
      | error b => rfl
      | ok y =>
        obtain ⟨st', R', n'⟩ := y
        simp only [ih]
    · rw [e1, e2]
      simp only
      rw [bad_skip hb, if_neg (by rw [bad_pre hb (by rcases hq with h | h <;> simp [h])]; decide), if_neg (by rw [bad_pre hb (by simp)]; decide)]
theorem each_sim {σ : Type} {rd rd' : σ → RdJ σ} {q : UInt8} (hq : q = 93 ∨ q = 125) (h : ∀ st R n, SimJ (rd st R n) (rd' st R n)) (st : σ) (R : List UInt8) (n : Nat) : eachJ rd q st R n = eachJ rd' q st R n := by
  unfold eachJ
  rw [seq_sim hq h]
theorem item_sim {rd rd' : RdJ VT} (h : ∀ R n, SimJ (rd R n) (rd' R n)) (st : List VT) (R : List UInt8) (n : Nat) : SimJ (itemJ rd st R n) (itemJ rd' st R n) := by
  unfold itemJ
  rcases h R n with e | ⟨T, R', n', e1, hb, e2⟩
  · exact .inl (by rw [e])
  · exact .inr ⟨st ++ [T], R', n', by rw [e1], hb, by rw [e2]⟩
theorem pair_sim {rd rd' : RdJ VT} (h : ∀ R n, SimJ (rd R n) (rd' R n)) (st : List (ByteArray × VT)) (R : List UInt8) (n : Nat) : SimJ (pairJ rd st R n) (pairJ rd' st R n) := by
  unfold pairJ
  cases keyJ (st.map Prod.fst) R with
  | error b => exact .inl rfl
  | ok y =>
    obtain ⟨k, R1⟩ := y
    simp only
    split
    · rcases h ((skipB R1).drop 1) n with e | ⟨T, R', n', e1, hb, e2⟩
      · exact .inl (by rw [e])
      · exact .inr ⟨st ++ [(k, T)], R', n', by rw [e1], hb, by rw [e2]⟩
    · exact .inl rfl
theorem val_sim : ∀ (d : Nat) (R : List UInt8) (n : Nat), SimJ (valJ d R n) (valD d R n)
  | 0, R, n => .inl (by unfold valJ valD; rfl)
  | d + 1, R, n => by
    have ih := val_sim d
    unfold valJ valD
    split
    · exact .inl rfl
    · cases skipB R with
      | nil => exact .inl rfl
      | cons c r =>
        simp only
        split
        · exact .inl rfl
        · split
          · exact .inl (by rw [each_sim (.inl rfl) (item_sim ih)]; generalize eachJ (itemJ (valD d)) 93 [] (c :: r) (n + 1) = z; cases z <;> rfl)
          · split
            · exact .inl (by rw [each_sim (.inr rfl) (pair_sim ih)]; generalize eachJ (pairJ (valD d)) 125 [] (c :: r) (n + 1) = z; cases z <;> rfl)
            · split
              · unfold numD
                cases hn : numJ (c :: r) with
                | error b => exact .inl rfl
                | ok y =>
                  obtain ⟨t, R'⟩ := y
                  simp only
                  cases hb : badH R' with
                  | true => exact .inr ⟨intT t, R', n + 1, rfl, hb, by rw [if_pos rfl]⟩
                  | false => exact .inl (by rw [if_neg (by decide)])
              · exact .inl rfl
/-- They read alike. -/
theorem whole_sim (t : ByteArray) : wholeJ t = wholeD t := by
  unfold wholeJ wholeD
  split
  · rfl
  · rcases val_sim 24 t.data.toList 0 with e | ⟨T, R', n', e1, hb, e2⟩
    · rw [e]
      generalize valD 24 t.data.toList 0 = z
      cases z <;> rfl
    · rw [e1, e2]
      simp only
      rw [bad_skip hb, if_neg]
      rintro rfl
      cases hb
end Go.Proofs.YtcbcjeabpjjhbaaGreatDoor
namespace Go.Proofs.YtcbcjeabpjjhbaaGreatDoor
open Go.RowKit
set_option linter.unusedVariables false

def digN (x : Nat) : Bool := decide (48 ≤ x) && decide (x ≤ 57)
theorem digJ_nat (c : UInt8) : digJ c = digN c.toNat := by
  unfold digJ digN
  rw [Bool.eq_iff_iff]
  simp [UInt8.le_iff_toNat_le]
set_option maxHeartbeats 1000000 in
theorem isDigit_b (x : Nat) {b : Bool} (hb : digN x = b) (w : World) : Calls Tryz.prog 62 #[.int .u8 (x : Int)] w fun e w' => e = .returned (.bool b) ∧ w = w' := by
  unfold digN at hb
  by_cases h1 : 48 ≤ x
  · have i1 : (48 : Int) ≤ (x : Int) := by omega
    by_cases h2 : x ≤ 57
    · have i2 : (x : Int) ≤ 57 := by omega
      obtain rfl : b = true := by rw [← hb]; simp [h1, h2]
      clear hb
      go_enter Tryz.func62, Tryz.ntmps62
      go_wp2
      go_ret
      exact ⟨rfl, rfl⟩
    · have i2 : ¬ (x : Int) ≤ 57 := by omega
      obtain rfl : b = false := by rw [← hb]; simp [h2]
      clear hb
      go_enter Tryz.func62, Tryz.ntmps62
      go_wp2
      go_ret
      exact ⟨rfl, rfl⟩
  · have i1 : ¬ (48 : Int) ≤ (x : Int) := by omega
    obtain rfl : b = false := by rw [← hb]; simp [h1]
    clear hb
    go_enter Tryz.func62, Tryz.ntmps62
    go_wp2
    go_ret
    exact ⟨rfl, rfl⟩
theorem headN_any (R : List UInt8) : R.head?.any digJ = digN (headN R) := by
  cases R with
  | nil => rfl
  | cons c r => exact digJ_nat c
theorem digsJ_len (D : List UInt8) : (digsJ D).length ≤ D.length := by
  unfold digsJ
  split
  · rename_i h
    obtain ⟨r, rfl⟩ := pre_head.1 h
    simp
  · exact (List.takeWhile_prefix _).length_le
theorem digsJ_take (D : List UInt8) : digsJ D = D.take (digsJ D).length := by
  unfold digsJ
  split
  · rename_i h
    obtain ⟨r, rfl⟩ := pre_head.1 h
    rfl
  · exact (List.prefix_iff_eq_take.1 (List.takeWhile_prefix _))
theorem extract_len {t : ByteArray} {a b : Nat} (h1 : a ≤ b) : (t.extract a b).data.toList = (rest t a).take (b - a) := by
  obtain ⟨m, rfl⟩ : ∃ m, b = a + m := ⟨b - a, by omega⟩
  unfold rest
  rw [ByteArray.data_extract, Array.toList_extract, List.extract_eq_take_drop]
set_option maxRecDepth 100000 in
set_option maxHeartbeats 2000000 in
theorem digits_no {W : World} {P a n : Nat} {t : ByteArray} (h : Rdr W P t a n) (hd : (rest t a).head?.any digJ = false) : Calls Tryz.prog 83 #[.pointer (some ⟨P, 0, none⟩)] W fun e w' => Thrown W P t (30, (rest t a).length) e w' := by
  have HP := Lib.hid (peek_any h)
  have HD := Lib.hid (fun w => isDigit_b (headN (rest t a)) ((headN_any _).symm.trans hd) w)
  have k1 := h.1.cell 1
  have HS := Lib.hid h
  clear h hd
  go_enter Tryz.func83, Tryz.ntmps83
  go_wp2_with fail
  go_at_call 57; refine HP.out.mono ?_; rintro e w1 ⟨rfl, hb1⟩
  have HW := Lib.hid (HS.out.stays hb1)
  clear hb1 k1
  go_wp2_with (first | (go_at_call 62; refine (HD.out _).mono ?_; rintro e w2 ⟨rfl, rfl⟩) | (go_at_call 40; refine (diag_any _ _ _).mono ?_; rintro e w2 ⟨rfl, rfl⟩))
  exact ⟨rfl, thrown_new (c := 30) HW.out (l := (rest t a).length) (rest_back HW.out.2.2.1)⟩
/-- digits ends behind them. -/
def DigsEnd (W : World) (P : Nat) (t : ByteArray) (a n : Nat) (e : Ending) (w' : World) : Prop := ∃ b, e = .returned (.string (t.extract a b)) ∧ b = a + (digsJ (rest t a)).length ∧ Went W w' P t b n
set_option maxRecDepth 100000 in
set_option maxHeartbeats 4000000 in
theorem digits_yes {W : World} {P a n : Nat} {t : ByteArray} (h : Rdr W P t a n) (hd : (rest t a).head?.any digJ = true) : Calls Tryz.prog 83 #[.pointer (some ⟨P, 0, none⟩)] W (DigsEnd W P t a n) := by
  have HP := Lib.hid (peek_any h)
  have HD := Lib.hid (fun w => isDigit_b (headN (rest t a)) ((headN_any _).symm.trans hd) w)
  have k1 := h.1.cell 1
  have HS := Lib.hid h
  have hsz := h.2
  cases h48 : Lib.hasPrefix (rest t a) [48]
  · have HE0 := Lib.hid (show digsJ (rest t a) = (rest t a).takeWhile digJ by unfold digsJ; rw [if_neg (by rw [h48]; decide)])
    have H48 := Lib.hid h48
    clear h hd h48
    go_enter Tryz.func83, Tryz.ntmps83
    go_wp2_with fail
    go_at_call 57; refine HP.out.mono ?_; rintro e w1 ⟨rfl, hb1⟩
    have HW := Lib.hid (HS.out.stays hb1)
    clear hb1 k1
    go_wp2_with (go_at_call 62; refine (HD.out _).mono ?_; rintro e w2 ⟨rfl, rfl⟩)
    go_at_call 65; refine (skip_b HW.out.2 ⟨#[48]⟩ H48.out).mono ?_; rintro e w2 ⟨rfl, hw2⟩
    have HW2 := Lib.hid (HW.out.trans hw2)
    clear hw2
    go_wp2_with fail
    go_loopg [] t.size (fun gf wx => ∃ c : Nat, Hid (Went W wx P t c n) ∧ Hid (a ≤ c ∧ (rest t a).takeWhile digJ = (rest t a).take (c - a) ++ (rest t c).takeWhile digJ) ∧ t.size - c ≤ gf)
    case atStart => exact ⟨a, HW2, Lib.hid ⟨Nat.le_refl _, by simp⟩, by omega⟩
    case round =>
      obtain ⟨c, HX, HT, hc⟩ := hrel
      have HPc := Lib.hid (peek_any HX.out.2)
      have hcs := HX.out.2.2.1
      have hac := HT.out.1
      by_cases hlt : digN (headN (rest t c)) = true
      · have hcl : c < t.size := by
          rcases Nat.lt_or_ge c t.size with h | h
          · exact h
          · rw [rest_nil h] at hlt; cases hlt
        have HDc := Lib.hid (fun w => isDigit_b (headN (rest t c)) hlt w)
        obtain ⟨g', rfl⟩ : ∃ g', gk = g' + 1 := ⟨gk - 1, by omega⟩
        have hrc := rest_cons hcl
        have hdc : digJ (t[c]'hcl) = true := by rw [digJ_nat]; rw [hrc] at hlt; exact hlt
        have HN := Lib.hid (show a ≤ c + 1 ∧ (rest t a).takeWhile digJ = (rest t a).take (c + 1 - a) ++ (rest t (c + 1)).takeWhile digJ from ⟨by omega, by
          have h1 := HT.out.2
          rw [hrc, List.takeWhile_cons_of_pos hdc] at h1
          have h2 : (rest t a).take (c + 1 - a) = (rest t a).take (c - a) ++ [t[c]'hcl] := by
            rw [show c + 1 - a = (c - a) + 1 by omega, List.take_succ_eq_append_getElem (by rw [rest_length]; omega)]
            congr 1
            have : rest t c = (rest t a).drop (c - a) := by rw [← rest_add, show a + (c - a) = c by omega]
            rw [hrc, List.drop_eq_getElem_cons (by rw [rest_length]; omega)] at this
            rw [(List.cons.inj this).1]
          rw [h2, List.append_assoc]
          exact h1⟩)
        clear hrc hdc hlt
        have i0 : (0 : Int) ≤ (c : Int) := by omega
        have i1 : (c : Int) < (t.size : Int) := by omega
        go_wp2_with fail
        go_at_call 57; refine HPc.out.mono ?_; rintro e w3 ⟨rfl, hb3⟩
        have HX3 := Lib.hid (HX.out.trans (HX.out.2.stays hb3))
        have q1 := HX3.out.2.1.cell 1
        have f1 := HX3.out.2.1.frozen 1
        clear hb3
        go_wp2_with (go_at_call 62; refine (HDc.out _).mono ?_; rintro e w4 ⟨rfl, rfl⟩)
        have HX4 := Lib.hid (HX3.out.trans (HX3.out.2.moves (b := c + 1) (by omega)))
        go_roundg g'
        case measure => omega
        case rel => exact ⟨c + 1, by simpa using HX4, HN, by omega⟩
      · have hlt : digN (headN (rest t c)) = false := by simpa using hlt
        have HDc := Lib.hid (fun w => isDigit_b (headN (rest t c)) hlt w)
        have HE := Lib.hid (show c = a + (digsJ (rest t a)).length by
          have h1 := HT.out.2
          have h2 : (rest t c).takeWhile digJ = [] := by
            cases hr : rest t c with
            | nil => rfl
            | cons x r =>
              rw [hr] at hlt
              rw [List.takeWhile_cons_of_neg (by rw [digJ_nat]; show ¬ digN x.toNat = true; rw [show digN x.toNat = false from hlt]; decide)]
          rw [HE0.out, h1, h2, List.append_nil, List.length_take, rest_length]
          omega)
        clear hlt
        have i0 : (0 : Int) ≤ (a : Int) := by omega
        have i1 : (a : Int) ≤ (c : Int) := by omega
        have i2 : (c : Int) ≤ (t.size : Int) := by omega
        go_wp2_with fail
        go_at_call 57; refine HPc.out.mono ?_; rintro e w3 ⟨rfl, hb3⟩
        have HX3 := Lib.hid (HX.out.trans (HX.out.2.stays hb3))
        have q0 := HX3.out.2.1.cell 0
        have q1 := HX3.out.2.1.cell 1
        clear hb3
        go_wp2_with (go_at_call 62; refine (HDc.out _).mono ?_; rintro e w4 ⟨rfl, rfl⟩)
        go_quiet (fail)
        go_wp2
        go_ret
        exact ⟨c, rfl, HE.out, HX3.out.trans (HX3.out.2.stays (below_drewN _ _))⟩
  · have HE0 := Lib.hid (show (digsJ (rest t a)).length = 1 by unfold digsJ; rw [if_pos h48]; rfl)
    have H48 := Lib.hid h48
    have hlen := pre_le (p := ⟨#[48]⟩) h48
    have hl1 : a + 1 ≤ t.size := by
      have : (⟨#[48]⟩ : ByteArray).size = 1 := rfl
      omega
    clear h hd h48 hlen
    have i0 : (0 : Int) ≤ (a : Int) := by omega
    have i2 : (a : Int) + 1 ≤ (t.size : Int) := by omega
    go_enter Tryz.func83, Tryz.ntmps83
    go_wp2_with fail
    go_at_call 57; refine HP.out.mono ?_; rintro e w1 ⟨rfl, hb1⟩
    have HW := Lib.hid (HS.out.stays hb1)
    clear hb1 k1
    go_wp2_with (go_at_call 62; refine (HD.out _).mono ?_; rintro e w2 ⟨rfl, rfl⟩)
    go_at_call 65; refine (skip_b HW.out.2 ⟨#[48]⟩ H48.out).mono ?_; rintro e w2 ⟨rfl, hw2⟩
    have HW2 := Lib.hid (show Went W w2 P t (a + 1) n from HW.out.trans hw2)
    clear hw2
    have q0 := HW2.out.2.1.cell 0
    have q1 := HW2.out.2.1.cell 1
    go_wp2_with fail
    go_quiet (fail)
    go_wp2
    go_ret
    exact ⟨a + 1, rfl, by rw [HE0.out], HW2.out.trans (HW2.out.2.stays (below_drewN _ _))⟩
end Go.Proofs.YtcbcjeabpjjhbaaGreatDoor
