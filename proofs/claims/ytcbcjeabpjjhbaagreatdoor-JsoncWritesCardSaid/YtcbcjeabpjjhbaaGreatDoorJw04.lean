/- The document's own writer: a text between its quotes -/
import Derived.Test.YtcbcjeabpjjhbaaGreatDoorJb39
import Derived.Test.YtcbcjeabpjjhbaaGreatDoorJw03
namespace Go.Proofs.YtcbcjeabpjjhbaaGreatDoor
open Go.RowKit Go.Shelf
set_option linter.unusedVariables false

/-- A byte's JSON within a text. -/
def byteQ (c : UInt8) : List UInt8 := if c = 34 then [92, 34] else if c = 92 then [92, 92] else if c = 8 then [92, 98] else if c = 12 then [92, 102] else if c = 10 then [92, 110] else if c = 13 then [92, 114] else if c = 9 then [92, 116] else if c.toNat < 32 then [92, 117, 48, 48, hexB (c.toNat / 16), hexB (c.toNat % 16)] else [c]
theorem byteQ_high {c : UInt8} (h : 128 ≤ c.toNat) : byteQ c = [c] := by
  have hn : ∀ n : Nat, n < 128 → ∀ q : UInt8, q.toNat = n → c ≠ q := by
    intro n hn q hq e
    rw [e] at h
    omega
  unfold byteQ
  rw [if_neg (hn 34 (by decide) 34 rfl), if_neg (hn 92 (by decide) 92 rfl), if_neg (hn 8 (by decide) 8 rfl), if_neg (hn 12 (by decide) 12 rfl), if_neg (hn 10 (by decide) 10 rfl), if_neg (hn 13 (by decide) 13 rfl), if_neg (hn 9 (by decide) 9 rfl), if_neg (by omega)]
theorem enc_high {r : Int} (hv : Utf8.valid r = true) (h : 128 ≤ r) : ∀ c ∈ Lib.encodeRune r, 128 ≤ c.toNat := by
  have hv2 : (0 ≤ r ∧ r < 55296) ∨ (57344 ≤ r ∧ r ≤ 1114111) := by
    unfold Utf8.valid at hv
    simpa using hv
  have key : ∀ z : Int, 128 ≤ z → z < 256 → 128 ≤ (z.toNat.toUInt8).toNat := by
    intro z h0 h1
    rw [byte_nat (by omega) h1]
    omega
  intro c hc
  unfold Lib.encodeRune at hc
  obtain ⟨z, hz, rfl⟩ := List.mem_map.1 hc
  unfold Lib.encodeRuneZ at hz
  rw [if_neg (by omega)] at hz
  split at hz
  · rcases List.mem_cons.1 hz with rfl | hz
    · exact key _ (by omega) (by omega)
    · obtain rfl : z = 128 + r % 64 := by simpa using hz
      exact key _ (by omega) (by omega)
  · split at hz
    · rcases List.mem_cons.1 hz with rfl | hz
      · exact key _ (by omega) (by omega)
      · rcases List.mem_cons.1 hz with rfl | hz
        · exact key _ (by omega) (by omega)
        · obtain rfl : z = 128 + r % 64 := by simpa using hz
          exact key _ (by omega) (by omega)
    · rw [if_pos (by omega)] at hz
      rcases List.mem_cons.1 hz with rfl | hz
      · exact key _ (by omega) (by omega)
      · rcases List.mem_cons.1 hz with rfl | hz
        · exact key _ (by omega) (by omega)
        · rcases List.mem_cons.1 hz with rfl | hz
          · exact key _ (by omega) (by omega)
          · obtain rfl : z = 128 + r % 64 := by simpa using hz
            exact key _ (by omega) (by omega)
theorem flat_high : ∀ {l : List UInt8}, (∀ c ∈ l, 128 ≤ c.toNat) → l.flatMap byteQ = l
  | [], _ => rfl
  | c :: l, h => by
    rw [List.flatMap_cons, byteQ_high (h c (by simp)), flat_high (fun x hx => h x (List.mem_cons_of_mem _ hx))]
    rfl
theorem runeQ_low : ∀ n : Fin 128, runeQ ((n.val : Nat) : Int) = byteQ (UInt8.ofNat n.val) ∧ Lib.encodeRune ((n.val : Nat) : Int) = [UInt8.ofNat n.val] := by decide +kernel
theorem rune_bytes {r : Int} (hv : Utf8.valid r = true) : runeQ r = (Lib.encodeRune r).flatMap byteQ := by
  have hv2 : (0 ≤ r ∧ r < 55296) ∨ (57344 ≤ r ∧ r ≤ 1114111) := by
    unfold Utf8.valid at hv
    simpa using hv
  by_cases h : r < 128
  · have h2 := runeQ_low ⟨r.toNat, by omega⟩
    have hr : ((r.toNat : Nat) : Int) = r := Int.toNat_of_nonneg (by omega)
    simp only [hr] at h2
    rw [h2.1, h2.2]
    simp
  · rw [flat_high (enc_high hv (by omega))]
    unfold runeQ
    rw [if_neg (by omega), if_neg (by omega), if_neg (by omega), if_neg (by omega), if_neg (by omega), if_neg (by omega), if_neg (by omega), if_neg (by omega)]
theorem text_bytes : ∀ (g : Nat) (X : List UInt8), Lib.validD X = true → X.length ≤ g → textQ g X = X.flatMap byteQ
  | 0, X, hv, hl => by
    obtain rfl : X = [] := List.length_eq_zero_iff.1 (by omega)
    rfl
  | g + 1, X, hv, hl => by
    unfold textQ
    by_cases hX : X = []
    · rw [if_pos hX, hX]; rfl
    · rw [if_neg hX]
      rw [Lib.validD_step X hX] at hv
      split at hv
      · cases hv
      · rename_i hne
        have hw := decodeL_pos hX
        rw [text_bytes g _ hv (by rw [List.length_drop]; omega), rune_bytes (decodeL_valid X).2.2, Lib.encode_decode X hX hne, ← List.flatMap_append, List.take_append_drop]
def quoteD (t : ByteArray) : List UInt8 := 34 :: (t.data.toList.flatMap byteQ ++ [34])
theorem quote_bytes {t : ByteArray} (hv : utfS t = true) : quoteD t = jsQ t := by
  unfold quoteD jsQ
  rw [text_bytes t.size t.data.toList hv (by simp)]
theorem byteQ_len (c : UInt8) : (byteQ c).length ≤ 6 := by
  unfold byteQ
  repeat (split; · simp)
  simp
theorem flat_len : ∀ l : List UInt8, (l.flatMap byteQ).length ≤ 6 * l.length
  | [] => by simp
  | c :: l => by
    have h1 := byteQ_len c
    have h2 := flat_len l
    rw [List.flatMap_cons, List.length_append, List.length_cons]
    omega
theorem not_byteQ {c q : UInt8} {n : Nat} (hq : q.toNat = n) (h : c ≠ q) : ((c.toNat : Int) == (n : Int)) = false := by
  rw [beq_eq_false_iff_ne]
  intro e
  apply h
  apply UInt8.toNat_inj.1
  omega
def hexD16 : ByteArray := ⟨#[48, 49, 50, 51, 52, 53, 54, 55, 56, 57, 97, 98, 99, 100, 101, 102]⟩
theorem hexD16_at : ∀ i : Fin 16, hexD16.data.toList.getD i.val 0 = hexB i.val := by decide
theorem hex_run {i : Nat} (hi : i < 16) (W : World) : (Instr.index 9 (.string ⟨#[48, 49, 50, 51, 52, 53, 54, 55, 56, 57, 97, 98, 99, 100, 101, 102]⟩) (.int .u8 (i : Int))).run Tryz.prog W = .ok (.int .u8 ((hexB i).toNat : Int)) W := by
  have hb := byte_run (t := hexD16) (a := i) (by show i < 16; exact hi) W
  have hg : hexD16[i]'(by show i < 16; exact hi) = hexB i := by
    have hl : i < hexD16.data.toList.length := by show i < 16; exact hi
    rw [← hexD16_at ⟨i, hi⟩]
    simp only [List.getD, List.getElem?_eq_getElem hl, Option.getD_some]
    rfl
  rw [hg] at hb
  exact hb
theorem hexB_low {n : Nat} (h : n < 32) : ((hexB (n / 16)).toNat : Int) = 48 + (n : Int) / 16 := by
  rcases (show n / 16 = 0 ∨ n / 16 = 1 by omega) with e | e
  · rw [e]
    have : (n : Int) / 16 = 0 := by omega
    rw [this]
    rfl
  · rw [e]
    have : (n : Int) / 16 = 1 := by omega
    rw [this]
    rfl
theorem row_new (W : World) : Row W.heap.size (W.alloc (.cells #[.int .u8 34] 5)) (.slice (some ⟨W.heap.size, 0, none⟩) 1 1) [34] := by
  refine ⟨by simp [Lib.byteCells], .inr ⟨W.heap.size, 1, #[.int .u8 34], rfl, Nat.le_refl _, ?_, ?_⟩⟩
  · exact Blk.new W #[.int .u8 34] 5
  · exact ⟨by simp, by decide, by simp, by simp [Lib.byteCells]⟩
set_option maxRecDepth 100000 in
set_option maxHeartbeats 8000000 in
theorem rquote_any {t : ByteArray} (hs : t.size ≤ 1000000) (W : World) : Calls Tryz.prog 39 #[.string t] W fun e w' => e = .returned (.string ⟨(quoteD t).toArray⟩) ∧ Below W.heap.size W w' := by
  obtain ⟨X, hX⟩ : ∃ X, (34 : UInt8) :: t.data.toList.flatMap byteQ = X := ⟨_, rfl⟩
  have HX : Hid ([34] ++ (rest t 0).flatMap byteQ = X) := Lib.hid (by rw [← hX]; rfl)
  have HQ : Hid (quoteD t = X ++ [34]) := Lib.hid (by unfold quoteD; rw [← hX]; rfl)
  have hXl : X.length ≤ 6000001 := by
    have := flat_len t.data.toList
    have hz : t.data.toList.length = t.size := by simp
    rw [← hX, List.length_cons]
    omega
  clear hX
  have HB0 := Lib.hid (below_new0 W (.cells #[.int .u8 34] 5))
  have HR0 := Lib.hid (row_new W)
  go_enter Tryz.func39, Tryz.ntmps39
  go_wp2_with fail
  go_loopg [3, 4] (t.size + 1) (fun gf s3 s4 wx => ∃ (i : Nat) (acc : List UInt8), s4 = .int .i64 (i : Int) ∧ i ≤ t.size ∧ Hid (Row W.heap.size wx s3 acc) ∧ Hid (Below W.heap.size W wx) ∧ Hid (acc ++ (rest t i).flatMap byteQ = X) ∧ t.size < i + gf)
  case atStart => exact ⟨0, [34], rfl, by omega, HR0, HB0, HX, by omega⟩
  case round =>
    obtain ⟨i, acc, rfl, hi, HR, HB, HE, hg⟩ := hrel
    have hal : acc.length ≤ 6000001 := by
      have h1 := congrArg List.length HE.out
      rw [List.length_append] at h1
      omega
    by_cases hlt : i < t.size
    · have hix := byte_run hlt
      have HC := Lib.hid (rest_cons hlt)
      obtain ⟨c, hc⟩ : ∃ c, t[i]'hlt = c := ⟨_, rfl⟩
      rw [hc] at hix HC
      have HS : Hid ((acc ++ byteQ c) ++ (rest t (i + 1)).flatMap byteQ = X) := Lib.hid (by rw [← HE.out, HC.out, List.flatMap_cons, List.append_assoc])
      obtain ⟨g', rfl⟩ : ∃ g', gk = g' + 1 := ⟨gk - 1, by omega⟩
      have j0 : (i : Int) < (t.size : Int) := by omega
      have jn : (0 : Int) ≤ (i : Int) := by omega
      have hszr := HB.out.size
      have hcb := UInt8.toNat_lt c
      clear hc HC HE HX hlt
      by_cases c0 : c = 34
      · subst c0
        have HBN := Lib.hid (below_new0 wr (.cells #[.int .u8 92, .int .u8 34] 5))
        have hrow := HR.out.below HBN.out
        have hsz : W.heap.size ≤ (wr.alloc (.cells #[.int .u8 92, .int .u8 34] 5)).heap.size := by simp; omega
        go_wp2_with (at_builtin; refine app_u8 (N := [92, 34]) rfl rfl rfl rfl hrow (Blk.new _ _ _) rfl (by simp) (by simp; omega) hsz ?_; intro v4 w4 ho4 hb4 hq4; refine Hid.out ?_)
        refine Lib.hid ?_
        have HB4 : Hid (Below W.heap.size W w4) := Lib.hid ((HB.out.trans (HBN.out.mono hszr)).trans hb4)
        have HR4 := Lib.hid ho4
        clear ho4 hb4 hq4 hrow hsz
        go_wp2_with fail
        go_roundg g'
        case measure => omega
        case rel => exact ⟨i + 1, acc ++ [92, 34], by go_num, by omega, HR4, HB4, HS, by omega⟩
      by_cases c1 : c = 92
      · subst c1
        have HBN := Lib.hid (below_new0 wr (.cells #[.int .u8 92, .int .u8 92] 5))
        have hrow := HR.out.below HBN.out
        have hsz : W.heap.size ≤ (wr.alloc (.cells #[.int .u8 92, .int .u8 92] 5)).heap.size := by simp; omega
        go_wp2_with (at_builtin; refine app_u8 (N := [92, 92]) rfl rfl rfl rfl hrow (Blk.new _ _ _) rfl (by simp) (by simp; omega) hsz ?_; intro v4 w4 ho4 hb4 hq4; refine Hid.out ?_)
        refine Lib.hid ?_
        have HB4 : Hid (Below W.heap.size W w4) := Lib.hid ((HB.out.trans (HBN.out.mono hszr)).trans hb4)
        have HR4 := Lib.hid ho4
        clear ho4 hb4 hq4 hrow hsz
        go_wp2_with fail
        go_roundg g'
        case measure => omega
        case rel => exact ⟨i + 1, acc ++ [92, 92], by go_num, by omega, HR4, HB4, HS, by omega⟩
      by_cases c2 : c = 8
      · subst c2
        have HBN := Lib.hid (below_new0 wr (.cells #[.int .u8 92, .int .u8 98] 5))
        have hrow := HR.out.below HBN.out
        have hsz : W.heap.size ≤ (wr.alloc (.cells #[.int .u8 92, .int .u8 98] 5)).heap.size := by simp; omega
        go_wp2_with (at_builtin; refine app_u8 (N := [92, 98]) rfl rfl rfl rfl hrow (Blk.new _ _ _) rfl (by simp) (by simp; omega) hsz ?_; intro v4 w4 ho4 hb4 hq4; refine Hid.out ?_)
        refine Lib.hid ?_
        have HB4 : Hid (Below W.heap.size W w4) := Lib.hid ((HB.out.trans (HBN.out.mono hszr)).trans hb4)
        have HR4 := Lib.hid ho4
        clear ho4 hb4 hq4 hrow hsz
        go_wp2_with fail
        go_roundg g'
        case measure => omega
        case rel => exact ⟨i + 1, acc ++ [92, 98], by go_num, by omega, HR4, HB4, HS, by omega⟩
      by_cases c3 : c = 12
      · subst c3
        have HBN := Lib.hid (below_new0 wr (.cells #[.int .u8 92, .int .u8 102] 5))
        have hrow := HR.out.below HBN.out
        have hsz : W.heap.size ≤ (wr.alloc (.cells #[.int .u8 92, .int .u8 102] 5)).heap.size := by simp; omega
        go_wp2_with (at_builtin; refine app_u8 (N := [92, 102]) rfl rfl rfl rfl hrow (Blk.new _ _ _) rfl (by simp) (by simp; omega) hsz ?_; intro v4 w4 ho4 hb4 hq4; refine Hid.out ?_)
        refine Lib.hid ?_
        have HB4 : Hid (Below W.heap.size W w4) := Lib.hid ((HB.out.trans (HBN.out.mono hszr)).trans hb4)
        have HR4 := Lib.hid ho4
        clear ho4 hb4 hq4 hrow hsz
        go_wp2_with fail
        go_roundg g'
        case measure => omega
        case rel => exact ⟨i + 1, acc ++ [92, 102], by go_num, by omega, HR4, HB4, HS, by omega⟩
      by_cases c4 : c = 10
      · subst c4
        have HBN := Lib.hid (below_new0 wr (.cells #[.int .u8 92, .int .u8 110] 5))
        have hrow := HR.out.below HBN.out
        have hsz : W.heap.size ≤ (wr.alloc (.cells #[.int .u8 92, .int .u8 110] 5)).heap.size := by simp; omega
        go_wp2_with (at_builtin; refine app_u8 (N := [92, 110]) rfl rfl rfl rfl hrow (Blk.new _ _ _) rfl (by simp) (by simp; omega) hsz ?_; intro v4 w4 ho4 hb4 hq4; refine Hid.out ?_)
        refine Lib.hid ?_
        have HB4 : Hid (Below W.heap.size W w4) := Lib.hid ((HB.out.trans (HBN.out.mono hszr)).trans hb4)
        have HR4 := Lib.hid ho4
        clear ho4 hb4 hq4 hrow hsz
        go_wp2_with fail
        go_roundg g'
        case measure => omega
        case rel => exact ⟨i + 1, acc ++ [92, 110], by go_num, by omega, HR4, HB4, HS, by omega⟩
      by_cases c5 : c = 13
      · subst c5
        have HBN := Lib.hid (below_new0 wr (.cells #[.int .u8 92, .int .u8 114] 5))
        have hrow := HR.out.below HBN.out
        have hsz : W.heap.size ≤ (wr.alloc (.cells #[.int .u8 92, .int .u8 114] 5)).heap.size := by simp; omega
        go_wp2_with (at_builtin; refine app_u8 (N := [92, 114]) rfl rfl rfl rfl hrow (Blk.new _ _ _) rfl (by simp) (by simp; omega) hsz ?_; intro v4 w4 ho4 hb4 hq4; refine Hid.out ?_)
        refine Lib.hid ?_
        have HB4 : Hid (Below W.heap.size W w4) := Lib.hid ((HB.out.trans (HBN.out.mono hszr)).trans hb4)
        have HR4 := Lib.hid ho4
        clear ho4 hb4 hq4 hrow hsz
        go_wp2_with fail
        go_roundg g'
        case measure => omega
        case rel => exact ⟨i + 1, acc ++ [92, 114], by go_num, by omega, HR4, HB4, HS, by omega⟩
      by_cases c6 : c = 9
      · subst c6
        have HBN := Lib.hid (below_new0 wr (.cells #[.int .u8 92, .int .u8 116] 5))
        have hrow := HR.out.below HBN.out
        have hsz : W.heap.size ≤ (wr.alloc (.cells #[.int .u8 92, .int .u8 116] 5)).heap.size := by simp; omega
        go_wp2_with (at_builtin; refine app_u8 (N := [92, 116]) rfl rfl rfl rfl hrow (Blk.new _ _ _) rfl (by simp) (by simp; omega) hsz ?_; intro v4 w4 ho4 hb4 hq4; refine Hid.out ?_)
        refine Lib.hid ?_
        have HB4 : Hid (Below W.heap.size W w4) := Lib.hid ((HB.out.trans (HBN.out.mono hszr)).trans hb4)
        have HR4 := Lib.hid ho4
        clear ho4 hb4 hq4 hrow hsz
        go_wp2_with fail
        go_roundg g'
        case measure => omega
        case rel => exact ⟨i + 1, acc ++ [92, 116], by go_num, by omega, HR4, HB4, HS, by omega⟩
      have e0 := not_byteQ (q := 34) (n := 34) rfl c0
      have e1 := not_byteQ (q := 92) (n := 92) rfl c1
      have e2 := not_byteQ (q := 8) (n := 8) rfl c2
      have e3 := not_byteQ (q := 12) (n := 12) rfl c3
      have e4 := not_byteQ (q := 10) (n := 10) rfl c4
      have e5 := not_byteQ (q := 13) (n := 13) rfl c5
      have e6 := not_byteQ (q := 9) (n := 9) rfl c6
      by_cases h32 : c.toNat < 32
      · have hN : byteQ c = [92, 117, 48, 48, hexB (c.toNat / 16), hexB (c.toNat % 16)] := by unfold byteQ; rw [if_neg c0, if_neg c1, if_neg c2, if_neg c3, if_neg c4, if_neg c5, if_neg c6, if_pos h32]
        rw [hN] at HS
        have q0 : (c.toNat : Int) < 32 := by omega
        have hhx : ∀ W : World, (Instr.index 9 (.string ⟨#[48, 49, 50, 51, 52, 53, 54, 55, 56, 57, 97, 98, 99, 100, 101, 102]⟩) (.int .u8 ((c.toNat : Int) % 16))).run Tryz.prog W = .ok (.int .u8 ((hexB (c.toNat % 16)).toNat : Int)) W := by
          intro W
          have h := hex_run (i := c.toNat % 16) (by omega) W
          rw [show ((c.toNat % 16 : Nat) : Int) = (c.toNat : Int) % 16 by omega] at h
          exact h
        have hh1 : ((hexB (c.toNat / 16)).toNat : Int) = 48 + (c.toNat : Int) / 16 := hexB_low h32
        clear c0 c1 c2 c3 c4 c5 c6 hN
        have HBN := Lib.hid (below_new0 wr (.cells #[.int .u8 92, .int .u8 117, .int .u8 48, .int .u8 48, .int .u8 (48 + (c.toNat : Int) / 16), .int .u8 ((hexB (c.toNat % 16)).toNat : Int)] 5))
        have hrow := HR.out.below HBN.out
        have hsz : W.heap.size ≤ (wr.alloc (.cells #[.int .u8 92, .int .u8 117, .int .u8 48, .int .u8 48, .int .u8 (48 + (c.toNat : Int) / 16), .int .u8 ((hexB (c.toNat % 16)).toNat : Int)] 5)).heap.size := by simp; omega
        go_wp2_with (at_builtin; refine app_u8 (N := [92, 117, 48, 48, hexB (c.toNat / 16), hexB (c.toNat % 16)]) rfl rfl rfl rfl hrow (Blk.new _ _ _) (by simp [Lib.byteCells, hh1]) (by simp) (by simp; omega) hsz ?_; intro v4 w4 ho4 hb4 hq4; refine Hid.out ?_)
        refine Lib.hid ?_
        have HB4 : Hid (Below W.heap.size W w4) := Lib.hid ((HB.out.trans (HBN.out.mono hszr)).trans hb4)
        have HR4 := Lib.hid ho4
        clear ho4 hb4 hq4 hrow hsz
        go_wp2_with fail
        go_roundg g'
        case measure => omega
        case rel => exact ⟨i + 1, acc ++ [92, 117, 48, 48, hexB (c.toNat / 16), hexB (c.toNat % 16)], by go_num, by omega, HR4, HB4, HS, by omega⟩
      · have hN : byteQ c = [c] := by unfold byteQ; rw [if_neg c0, if_neg c1, if_neg c2, if_neg c3, if_neg c4, if_neg c5, if_neg c6, if_neg h32]
        rw [hN] at HS
        have q0 : ¬ (c.toNat : Int) < 32 := by omega
        clear c0 c1 c2 c3 c4 c5 c6 hN h32
        have HBN := Lib.hid (below_new0 wr (.cells #[.int .u8 (c.toNat : Int)] 5))
        have hrow := HR.out.below HBN.out
        have hsz : W.heap.size ≤ (wr.alloc (.cells #[.int .u8 (c.toNat : Int)] 5)).heap.size := by simp; omega
        go_wp2_with (at_builtin; refine app_u8 (N := [c]) rfl rfl rfl rfl hrow (Blk.new _ _ _) rfl (by simp) (by simp; omega) hsz ?_; intro v4 w4 ho4 hb4 hq4; refine Hid.out ?_)
        refine Lib.hid ?_
        have HB4 : Hid (Below W.heap.size W w4) := Lib.hid ((HB.out.trans (HBN.out.mono hszr)).trans hb4)
        have HR4 := Lib.hid ho4
        clear ho4 hb4 hq4 hrow hsz
        go_wp2_with fail
        go_roundg g'
        case measure => omega
        case rel => exact ⟨i + 1, acc ++ [c], by go_num, by omega, HR4, HB4, HS, by omega⟩
    · have hnil : rest t i = [] := rest_nil (by omega)
      have hXa : acc = X := by
        rw [← HE.out, hnil]
        simp
      have j0 : ¬ (i : Int) < (t.size : Int) := by omega
      have HBN := Lib.hid (below_new0 wr (.cells #[.int .u8 34] 5))
      have hrow := HR.out.below HBN.out
      have hszr := HB.out.size
      have hsz : W.heap.size ≤ (wr.alloc (.cells #[.int .u8 34] 5)).heap.size := by simp; omega
      clear HE hnil HX
      go_wp2_with (at_builtin; refine app_u8 (N := [34]) rfl rfl rfl rfl hrow (Blk.new _ _ _) rfl (by simp) (by simp; omega) hsz ?_; intro v4 w4 ho4 hb4 hq4; obtain ⟨Y, hY⟩ : ∃ Y, acc ++ [34] = Y := ⟨_, rfl⟩; rw [hY] at ho4; obtain ⟨ad4, cap4, hv4⟩ := row_shape ho4; subst hv4; have hcv := conv_row ho4; refine Hid.out ?_)
      refine Lib.hid ?_
      have HB4 : Hid (Below W.heap.size W w4) := Lib.hid ((HB.out.trans (HBN.out.mono hszr)).trans hb4)
      have HY := Lib.hid hY
      clear ho4 hb4 hq4 hrow hsz hY
      go_wp2_with fail
      go_ret
      rw [HQ.out, ← hXa, HY.out]
      exact ⟨rfl, HB4.out⟩
end Go.Proofs.YtcbcjeabpjjhbaaGreatDoor
