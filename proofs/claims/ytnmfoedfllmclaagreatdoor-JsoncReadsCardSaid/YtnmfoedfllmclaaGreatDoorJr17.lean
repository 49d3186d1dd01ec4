/- appendText: a text between its quotes · A value's JSON, as the program makes it -/
import Derived.Lib.MapLaws
import Derived.Lib.RuneCountTail
import Derived.Test.YtnmfoedfllmclaaGreatDoorJr03
import Derived.Test.YtnmfoedfllmclaaGreatDoorJr16
namespace Go.Proofs.YtnmfoedfllmclaaGreatDoor
open Go.RowKit Go.Shelf
set_option linter.unusedVariables false

def textQ : Nat → List UInt8 → List UInt8
  | 0, _ => []
  | f + 1, R => if R = [] then [] else runeQ ((Lib.decodeL R).1 : Int) ++ textQ f (R.drop (Lib.decodeL R).2)
/-- A text's JSON behind what stands there: nothing, if that is too long. -/
def quoteL (L : List UInt8) (t : ByteArray) : List UInt8 := if 65536 < L.length then L else L ++ 34 :: (textQ t.size t.data.toList ++ [34])
theorem decode_rest (t : ByteArray) (p : Nat) : Utf8.decode t p = Lib.decodeL (rest t p) := by
  have h := Lib.tail_decode t p 0
  rw [Nat.add_zero] at h
  rw [← h, str_eq (rest_extract t p)]
  rfl
theorem decodeL_valid (R : List UInt8) : 0 ≤ ((Lib.decodeL R).1 : Int) ∧ ((Lib.decodeL R).1 : Int) ≤ 1114111 ∧ Utf8.valid ((Lib.decodeL R).1 : Int) = true := by
  have h := Lib.rune_valid ⟨R.toArray⟩
  refine ⟨by omega, ?_, (valid_lib _).trans h⟩
  have h2 : Lib.validRune ((Lib.decodeL R).1 : Int) = true := h
  unfold Lib.validRune at h2
  simp at h2
  omega
theorem runeQ_len (r : Int) : (runeQ r).length ≤ 6 := by
  unfold runeQ
  repeat (split; · simp)
  have := (Lib.encodeRuneZ_length r).2
  unfold Lib.encodeRune
  simp
  omega
theorem textQ_len : ∀ (f : Nat) (R : List UInt8), (textQ f R).length ≤ 6 * f
  | 0, R => by unfold textQ; simp
  | f + 1, R => by
    unfold textQ
    split
    · simp
    · have h1 := runeQ_len ((Lib.decodeL R).1 : Int)
      have h2 := textQ_len f (R.drop (Lib.decodeL R).2)
      rw [List.length_append]
      omega
theorem Row.iter {B k : Nat} {w : World} {v : Value} {L : List UInt8} {s : ByteArray} {p : Nat} (h : Row B w v L) (hk : w.heap[k]? = some (.stringIter s p)) (p' : Nat) : Row B (w.iterAt k s p') v L := by
  obtain ⟨h1, h2⟩ := h
  refine ⟨h1, ?_⟩
  rcases h2 with h2 | ⟨g, cap, cur, rfl, h3, h4, h5⟩
  · exact .inl h2
  · have hne : k ≠ g := by
      rintro rfl
      rw [hk] at h4
      cases h4
    refine .inr ⟨g, cap, cur, rfl, h3, ?_, h5⟩
    rw [← h4]
    simp only [World.iterAt]
    rw [Array.getElem?_setIfInBounds_ne hne]
theorem Oth.iter {k : Nat} {W w : World} (h : Oth W w) (hk : W.heap.size ≤ k) (s : ByteArray) (p : Nat) : Oth W (w.iterAt k s p) := by
  intro j o hj hn ho
  have hlt := (Array.getElem?_eq_some_iff.1 hj).1
  rw [← h j o hj hn ho]
  simp only [World.iterAt]
  rw [Array.getElem?_setIfInBounds_ne (by omega)]
theorem Oth.keeps {k : Nat} {w w' : World} {s : ByteArray} {p : Nat} (h : Oth w w') (hk : w.heap[k]? = some (.stringIter s p)) : w'.heap[k]? = some (.stringIter s p) := h k _ hk (by simp) (fun c fz e => by cases e)
set_option maxRecDepth 100000 in
set_option maxHeartbeats 2000000 in
theorem appText_long {B : Nat} {W : World} {v : Value} {L : List UInt8} {t : ByteArray} (h : Row B W v L) (hl : 65536 < L.length) : Calls Tryz.prog 35 #[v, .string t] W (AppE B W (quoteL L t)) := by
  have hq : quoteL L t = L := by unfold quoteL; rw [if_pos hl]
  rw [hq]
  have HO := Lib.hid h
  obtain ⟨ad, cap, rfl⟩ := row_shape h
  have i0 : (65536 : Int) < (L.length : Int) := by omega
  clear h hq
  go_enter Tryz.func35, Tryz.ntmps35
  go_wp2
  go_ret
  exact ⟨_, rfl, HO.out, Below.refl _ _, Lib.OthersKept.refl _ _ _⟩
set_option maxRecDepth 100000 in
set_option maxHeartbeats 4000000 in
theorem appText_short {B : Nat} {W : World} {v : Value} {L : List UInt8} {t : ByteArray} (h : Row B W v L) (hB : B ≤ W.heap.size) (hl : ¬ 65536 < L.length) (hbd : (quoteL L t).length ≤ 10000000000) : Calls Tryz.prog 35 #[v, .string t] W (AppE B W (quoteL L t)) := by
  obtain ⟨X, hX⟩ : ∃ X, (L ++ [34]) ++ textQ t.size (rest t 0) = X := ⟨_, rfl⟩
  have hq : quoteL L t = X ++ [34] := by unfold quoteL; rw [if_neg hl, ← hX]; simp [rest]
  rw [hq] at hbd ⊢
  rw [List.length_append, List.length_singleton] at hbd
  have HX := Lib.hid hX
  have hrow2 := h.below (below_new0 W (.cells #[.int .u8 34] 5))
  have hsz : B ≤ (W.alloc (.cells #[.int .u8 34] 5)).heap.size := by simp; omega
  have HB0 := Lib.hid (below_new0 W (.cells #[.int .u8 34] 5))
  obtain ⟨ad, cap, hv⟩ := row_shape h
  have hlen : v = .slice ad L.length cap := hv
  have i0 : ¬ (65536 : Int) < (L.length : Int) := by omega
  subst hlen
  clear h hq hX
  go_enter Tryz.func35, Tryz.ntmps35
  go_wp2_with (at_builtin; refine app_u8 (N := [34]) rfl rfl rfl rfl hrow2 (Blk.new _ _ _) rfl (by simp) (by simp; omega) hsz ?_; intro v1 w1 hown1 hb1 ho1)
  have HB1 : Hid (Below B W w1) := Lib.hid ((HB0.out.mono hB).trans hb1)
  have HO1 : Hid (Oth W w1) := Lib.hid ((Oth.of HB0.out).trans ho1)
  have HR1 := Lib.hid hown1
  have hs1 : W.heap.size ≤ w1.heap.size := Nat.le_trans HB0.out.size hb1.size
  clear hb1 ho1 hown1 hrow2 hsz
  go_wp2_with fail
  have HAR := Lib.hid (fun (v : Value) (acc : List UInt8) (R : List UInt8) (w : World) (hr : Row B w v acc) (hBw : B ≤ w.heap.size) (hacc : acc.length ≤ 10000000000) => appRune_any hr hBw hacc (decodeL_valid R).1 (decodeL_valid R).2.1 (decodeL_valid R).2.2)
  go_loopg [0] (t.size + 1) (fun gf s0 wx => ∃ (pos : Nat) (acc : List UInt8), Hid (wx.heap[w1.heap.size]? = some (.stringIter t pos)) ∧ Hid (Below B W wx) ∧ Hid (Oth W wx) ∧ Hid (Row B wx s0 acc) ∧ Hid (acc ++ textQ (gf - 1) (rest t pos) = X) ∧ t.size - pos < gf)
  case atStart =>
    refine ⟨0, L ++ [34], Lib.hid (World.iter_heap _ _ _), Lib.hid ?_, Lib.hid ?_, Lib.hid ?_, HX, by omega⟩
    · exact HB1.out.trans ((below_new0 w1 _).mono (by omega))
    · exact HO1.out.trans (Oth.of (below_new0 w1 _))
    · exact HR1.out.below (below_new0 w1 _)
  case round =>
    obtain ⟨pos, acc, HI, HB, HO, HR, HE, hf⟩ := hrel
    have hal : acc.length ≤ 10000000000 := by
      have := congrArg List.length HE.out
      rw [List.length_append] at this
      omega
    obtain ⟨g', rfl⟩ : ∃ g', gk = g' + 1 := ⟨gk - 1, by omega⟩
    rw [Nat.add_sub_cancel] at HE
    have hrl := rest_length t pos
    by_cases hlt : pos < t.size
    · have hnx := fun ty => Lib.run_next_any_at (P := Tryz.prog) wr w1.heap.size t pos ty HI.out hlt
      rw [decode_rest] at hnx
      obtain ⟨g2, rfl⟩ : ∃ g2, g' = g2 + 1 := ⟨g' - 1, by omega⟩
      have hne : rest t pos ≠ [] := fun e => by rw [e] at hrl; simp at hrl; omega
      have hw1 : 1 ≤ (Lib.decodeL (rest t pos)).2 := by rw [← decode_rest]; exact Lib.decode_width_pos t pos hlt
      have HE2 : Hid ((acc ++ runeQ ((Lib.decodeL (rest t pos)).1 : Int)) ++ textQ g2 (rest t (pos + (Lib.decodeL (rest t pos)).2)) = X) := Lib.hid (by
        rw [← HE.out, List.append_assoc, rest_add]
        conv => rhs; unfold textQ
        rw [if_neg hne])
      have hql := runeQ_len ((Lib.decodeL (rest t pos)).1 : Int)
      have HC := Lib.hid (HAR.out)
      obtain ⟨x, hx⟩ : ∃ x : Nat, (Lib.decodeL (rest t pos)).1 = x := ⟨_, rfl⟩
      obtain ⟨wd, hwd⟩ : ∃ x : Nat, (Lib.decodeL (rest t pos)).2 = x := ⟨_, rfl⟩
      have HCR := Lib.hid (fun (w : World) (hr : Row B w u0 acc) (hBw : B ≤ w.heap.size) => HAR.out u0 acc (rest t pos) w hr hBw (by omega))
      rw [hx] at hnx HCR HE2 hql
      rw [hwd] at hnx HE2 hw1
      have HI2 := Lib.hid (Lib.iterAt_heap wr w1.heap.size t pos (pos + wd) HI.out)
      have HB2 := Lib.hid (below_iterAt HB.out (by omega : B ≤ w1.heap.size) t (pos + wd))
      have HO2 := Lib.hid (HO.out.iter hs1 t (pos + wd))
      have HR2 := Lib.hid (HR.out.iter HI.out (pos + wd))
      clear hx hwd HC
      go_wp2_with (go_at_call 55; refine (HCR.out _ HR2.out (Nat.le_trans hB (by have := HB2.out.size; omega))).mono ?_; rintro e w3 ⟨v3, rfl, hr3, hb3, ho3⟩; refine Hid.out ?_)
      refine Lib.hid ?_
      have HI3 := Lib.hid (ho3.keeps HI2.out)
      have HB3 := Lib.hid (HB2.out.trans hb3)
      have HO3 := Lib.hid (HO2.out.trans ho3)
      have HR3 := Lib.hid hr3
      clear hr3 hb3 ho3
      go_wp2_with fail
      go_roundg (g2 + 1)
      case measure => omega
      case rel => exact ⟨pos + wd, acc ++ runeQ (x : Int), HI3, HB3, HO3, HR3, HE2, by omega⟩
    · have hnx := fun ty => Lib.run_next_end_at (P := Tryz.prog) wr w1.heap.size t pos ty HI.out hlt
      have hnil : rest t pos = [] := List.length_eq_zero_iff.1 (by omega)
      have hXa : acc = X := by
        rw [← HE.out, hnil]
        cases g' <;> simp [textQ]
      have hrow2 := HR.out.below (below_new0 wr (.cells #[.int .u8 34] 5))
      have hsz : B ≤ (wr.alloc (.cells #[.int .u8 34] 5)).heap.size := by have := HB.out.size; simp; omega
      go_wp2_with (at_builtin; refine app_u8 (N := [34]) rfl rfl rfl rfl hrow2 (Blk.new _ _ _) rfl (by simp) (by simp; omega) hsz ?_; intro v4 w4 hown4 hb4 ho4)
      go_ret
      have hbn := below_new0 wr (.cells #[.int .u8 34] 5)
      rw [← hXa]
      exact ⟨v4, rfl, hown4, (HB.out.trans (hbn.mono (by have := HB.out.size; omega))).trans hb4, (HO.out.trans (Oth.of hbn)).trans ho4⟩
theorem appText_any {B : Nat} {W : World} {v : Value} {L : List UInt8} {t : ByteArray} (h : Row B W v L) (hB : B ≤ W.heap.size) (hbd : (quoteL L t).length ≤ 10000000000) : Calls Tryz.prog 35 #[v, .string t] W (AppE B W (quoteL L t)) := by
  by_cases hl : 65536 < L.length
  · exact appText_long h hl
  · exact appText_short h hB hl hbd
end Go.Proofs.YtnmfoedfllmclaaGreatDoor
namespace Go.Proofs.YtnmfoedfllmclaaGreatDoor
open Go.RowKit Go.Shelf
set_option linter.unusedVariables false

mutual
/-- Behind what stands there. -/
def appV : VT → List UInt8 → List UInt8
  | .node k b t its ks, L => if k = 2 then L ++ (if b then [116, 114, 117, 101] else [102, 97, 108, 115, 101]) else if k = 3 then L ++ t.data.toList else if k = 4 then quoteL L t
    else if k = 5 then appI its true (L ++ [91]) ++ [93] else if k = 6 then appP ks its true (L ++ [123]) ++ [125] else L ++ [110, 117, 108, 108]
def appI : List VT → Bool → List UInt8 → List UInt8
  | [], _, L => L
  | x :: l, first, L => appI l false (appV x (if first then L else L ++ [44]))
def appP : List ByteArray → List VT → Bool → List UInt8 → List UInt8
  | k :: ks, x :: l, first, L => appP ks l false (appV x (quoteL (if first then L else L ++ [44]) k ++ [58]))
  | _, _, _, L => L
end
theorem quoteL_le (L : List UInt8) (t : ByteArray) : L.length ≤ (quoteL L t).length := by
  unfold quoteL; split <;> simp
mutual
theorem appV_le : ∀ (T : VT) (L : List UInt8), L.length ≤ (appV T L).length
  | .node k b t its ks, L => by
    unfold appV
    have h1 := appI_le its true (L ++ [91])
    have h2 := appP_le ks its true (L ++ [123])
    simp only [List.length_append, List.length_singleton] at h1 h2
    repeat (split; · (first | exact quoteL_le L t | (simp only [List.length_append, List.length_singleton]; omega)))
    simp
theorem appI_le : ∀ (l : List VT) (f : Bool) (L : List UInt8), L.length ≤ (appI l f L).length
  | [], f, L => by unfold appI; exact Nat.le_refl _
  | x :: l, f, L => by
    unfold appI
    have h1 := appI_le l false (appV x (if f then L else L ++ [44]))
    have h2 := appV_le x (if f then L else L ++ [44])
    have h3 : L.length ≤ (if f then L else L ++ [44]).length := by split <;> simp
    omega
theorem appP_le : ∀ (ks : List ByteArray) (l : List VT) (f : Bool) (L : List UInt8), L.length ≤ (appP ks l f L).length
  | k :: ks, x :: l, f, L => by
    unfold appP
    have h1 := appP_le ks l false (appV x (quoteL (if f then L else L ++ [44]) k ++ [58]))
    have h2 := appV_le x (quoteL (if f then L else L ++ [44]) k ++ [58])
    have h4 := quoteL_le (if f then L else L ++ [44]) k
    have h3 : L.length ≤ (if f then L else L ++ [44]).length := by split <;> simp
    simp only [List.length_append, List.length_singleton] at h2
    omega
  | [], l, f, L => by unfold appP; exact Nat.le_refl _
  | k :: ks, [], f, L => by unfold appP; exact Nat.le_refl _
end
theorem Oth.blk {w w' : World} {k : Nat} {cs : Array Value} {ty : TypeId} (h : Oth w w') (hb : Blk w k cs ty) (ht : ty ≠ 5) : Blk w' k cs ty := h k _ hb (by simp) (fun c fz e => by cases e; exact ht rfl)
set_option maxRecDepth 100000 in
theorem appBool_any {B : Nat} {W : World} {v : Value} {L : List UInt8} {b : Bool} (h : Row B W v L) (hB : B ≤ W.heap.size) (hL : L.length ≤ 10000000000) : Calls Tryz.prog 54 #[v, .bool b] W (AppE B W (L ++ (if b then [116, 114, 117, 101] else [102, 97, 108, 115, 101]))) := by
  have HO := Lib.hid h
  clear h
  cases b
  · go_enter Tryz.func54, Tryz.ntmps54
    go_wp2_with (at_builtin; refine app_str (t := ⟨#[102, 97, 108, 115, 101]⟩) rfl rfl rfl rfl HO.out (show L.length + 5 ≤ _ by omega) hB ?_; intro v' w2 hown2 hb2 ho2)
    go_ret
    exact ⟨v', rfl, hown2, hb2, ho2⟩
  · go_enter Tryz.func54, Tryz.ntmps54
    go_wp2_with (at_builtin; refine app_str (t := ⟨#[116, 114, 117, 101]⟩) rfl rfl rfl rfl HO.out (show L.length + 4 ≤ _ by omega) hB ?_; intro v' w2 hown2 hb2 ho2)
    go_ret
    exact ⟨v', rfl, hown2, hb2, ho2⟩
set_option maxRecDepth 100000 in
theorem appBool2_any {B : Nat} {W : World} {v : Value} {L : List UInt8} {b : Bool} (h : Row B W v L) (hB : B ≤ W.heap.size) (hL : L.length ≤ 10000000000) : Calls Tryz.prog 34 #[v, .bool b] W (AppE B W (L ++ (if b then [116, 114, 117, 101] else [102, 97, 108, 115, 101]))) := by
  have HA := Lib.hid (appBool_any (b := b) h hB hL)
  generalize (if b then ([116, 114, 117, 101] : List UInt8) else [102, 97, 108, 115, 101]) = N at *
  clear h
  go_enter Tryz.func34, Tryz.ntmps34
  go_wp2_with (go_at_call 54; refine HA.out.mono ?_; rintro e w2 ⟨v', rfl, h1, h2, h3⟩)
  go_ret
  exact ⟨v', rfl, h1, h2, h3⟩
/-- What a call of appendValue does with one tree. -/
def AppC (B0 B : Nat) (w : World) (v : Value) (T : VT) : Prop := ∀ (W : World) (jv : Value) (L : List UInt8), Below B0 w W → B0 ≤ B → B ≤ W.heap.size → Row B W jv L → (appV T L).length ≤ 10000000000 → Calls Tryz.prog 18 #[jv, v] W (AppE B W (appV T L))
theorem appI_drop {its : List VT} {j : Nat} (hj : j < its.length) (f : Bool) (L : List UInt8) : appI (its.drop j) f L = appI (its.drop (j + 1)) false (appV its[j] (if f then L else L ++ [44])) := by
  rw [List.drop_eq_getElem_cons hj]
  conv => lhs; unfold appI
set_option maxRecDepth 100000 in
set_option maxHeartbeats 4000000 in
theorem appList_any {B0 B : Nat} {w W : World} {its : List VT} {ad : Option Addr} {cap g o : Nat} {ik : Nat → Int} {ib : Nat → Bool} {it : Nat → ByteArray} {ii iv : Nat → Value} {jv : Value} {L : List UInt8}
    (ha : 0 < its.length → ad = some ⟨g, o, none⟩ ∧ g < B0) (hcell : ∀ j, j < its.length → Five w g (o + j * 5) (.int .i64 (ik j)) (.bool (ib j)) (.string (it j)) (ii j) (iv j)) (hsh : ∀ j, j < its.length → ∃ ad n cap adk nk capk, ii j = .slice ad n cap ∧ iv j = .slice adk nk capk) (hrec : ∀ j (hj : j < its.length), AppC B0 B w (.agg #[.int .i64 (ik j), .bool (ib j), .string (it j), ii j, iv j]) its[j])
    (hb : Below B0 w W) (hB0 : B0 ≤ B) (hB : B ≤ W.heap.size) (h : Row B W jv L) (hbd : (appI its true (L ++ [91])).length ≤ 10000000000) (hn : its.length ≤ 140737488355328) :
    Calls Tryz.prog 36 #[jv, .slice ad its.length cap] W (AppE B W (appI its true (L ++ [91]) ++ [93])) := by
  obtain ⟨X, hX⟩ : ∃ X, appI its true (L ++ [91]) = X := ⟨_, rfl⟩
  rw [hX] at hbd ⊢
  have hXd : appI (its.drop 0) true (L ++ [91]) = X := hX
  have HX := Lib.hid hXd
  have hL91 := appI_le its true (L ++ [91])
  rw [hX, List.length_append, List.length_singleton] at hL91
  have hrow2 := h.below (below_new0 W (.cells #[.int .u8 91] 5))
  have hsz : B ≤ (W.alloc (.cells #[.int .u8 91] 5)).heap.size := by simp; omega
  have HB0 := Lib.hid (below_new0 W (.cells #[.int .u8 91] 5))
  have HA := Lib.hid ha
  have HC := Lib.hid hcell
  have HREC := Lib.hid hrec
  have HSH := Lib.hid hsh
  have HBW := Lib.hid hb
  obtain ⟨len, hlen⟩ : ∃ len, its.length = len := ⟨_, rfl⟩
  have HL := Lib.hid hlen
  rw [hlen] at hn ⊢
  clear h hX hXd ha hcell hrec hsh hb hlen
  go_enter Tryz.func36, Tryz.ntmps36
  go_wp2_with (at_builtin; refine app_u8 (N := [91]) rfl rfl rfl rfl hrow2 (Blk.new _ _ _) rfl (by simp) (by simp; omega) hsz ?_; intro v1 w1 hown1 hb1 ho1)
  have HB1 : Hid (Below B W w1) := Lib.hid ((HB0.out.mono hB).trans hb1)
  have HO1 : Hid (Oth W w1) := Lib.hid ((Oth.of HB0.out).trans ho1)
  have HR1 := Lib.hid hown1
  clear hb1 ho1 hown1 hrow2 hsz
  go_wp2_with fail
  go_loopg [0, 12] (len + 1) (fun gf s0 s12 wx => ∃ (j : Nat) (acc : List UInt8), s12 = .int .i64 (j : Int) ∧ j ≤ len ∧ Hid (Below B W wx) ∧ Hid (Oth W wx) ∧ Hid (Row B wx s0 acc) ∧ Hid (appI (its.drop j) (j == 0) acc = X) ∧ len - j < gf)
  case atStart => exact ⟨0, L ++ [91], rfl, Nat.zero_le _, HB1, HO1, HR1, HX, by omega⟩
  case round =>
    obtain ⟨j, acc, rfl, hj, HB, HO, HR, HE, hf⟩ := hrel
    obtain ⟨g', rfl⟩ : ∃ g', gk = g' + 1 := ⟨gk - 1, by omega⟩
    have hacc := appI_le (its.drop j) (j == 0) acc
    rw [HE.out] at hacc
    have hBr := HB.out.size
    by_cases hlt : j < len
    · have hjl : j < its.length := by have := HL.out; omega
      obtain ⟨rfl, hg⟩ := HA.out (by omega)
      have hBw : Below B0 w wr := HBW.out.trans (HB.out.mono hB0)
      have h5 := (HC.out j hjl).below hg hBw
      have e0 := h5.1
      have e1 := h5.2.1
      have e2 := h5.2.2.1
      have e3 := h5.2.2.2.1
      have e4 := h5.2.2.2.2
      have i1 : (0 : Int) ≤ (j : Int) := by omega
      have i2 : (j : Int) < (len : Int) := by omega
      have hw : IntKind.i64.wrap ((j : Int) + 1) = (j : Int) + 1 := IntWalk.i64_in _ (by omega)
      have HE2 := Lib.hid ((appI_drop hjl (j == 0) acc).symm.trans HE.out)
      have HCj := Lib.hid (HREC.out j hjl)
      obtain ⟨adj, nj, capj, adkj, nkj, capkj, hii, hiv⟩ := HSH.out j hjl
      rw [hii, hiv] at HCj
      rw [hii] at e3
      rw [hiv] at e4
      obtain ⟨T, hT⟩ : ∃ T, its[j] = T := ⟨_, rfl⟩
      rw [hT] at HE2 HCj
      generalize ik j = kj at *
      generalize ib j = bj at *
      generalize it j = tj at *
      have HZ := Lib.hid (below_new0 wr (.cells #[.int .i64 kj, .bool bj, .string tj, .slice adj nj capj, .slice adkj nkj capkj] 26))
      have HV := Lib.hid (Blk.new wr #[.int .i64 kj, .bool bj, .string tj, .slice adj nj capj, .slice adkj nkj capkj] 26)
      clear h5 hii hiv hT
      by_cases h0 : j = 0
      · subst h0
        simp only [Nat.zero_mul, Nat.add_zero] at e0 e1 e2 e3 e4
        have HE3 : Hid (appI (its.drop 1) false (appV T acc) = X) := HE2
        have hbv := appI_le (its.drop 1) false (appV T acc)
        rw [HE3.out] at hbv
        have hv := HV.out
        have q0 := hv.cell 0
        have q1 := hv.cell 1
        have q2 := hv.cell 2
        have q3 := hv.cell 3
        have q4 := hv.cell 4
        have HK := Lib.hid (HCj.out (wr.alloc (.cells #[.int .i64 kj, .bool bj, .string tj, .slice adj nj capj, .slice adkj nkj capkj] 26)) u0 acc (hBw.trans (HZ.out.mono (by omega))) hB0 (by simp; omega) (HR.out.below HZ.out) (by omega))
        clear hv
        go_wp2_with (go_at_call 18; refine HK.out.mono ?_; rintro e w3 ⟨v3, rfl, hr3, hb3, ho3⟩; refine Hid.out ?_)
        refine Lib.hid ?_
        go_wp2_with fail
        go_roundg g'
        case measure => omega
        case rel => exact ⟨1, appV T acc, by go_num, by omega, Lib.hid ((HB.out.trans (HZ.out.mono (by omega))).trans hb3), Lib.hid ((HO.out.trans (Oth.of HZ.out)).trans ho3), Lib.hid hr3, HE3, by omega⟩
      · have hj0 : (j == 0) = false := beq_eq_false_iff_ne.2 h0
        have HE3 : Hid (appI (its.drop (j + 1)) false (appV T (acc ++ [44])) = X) := Lib.hid (by have := HE2.out; rw [hj0] at this; exact this)
        have hbv := appI_le (its.drop (j + 1)) false (appV T (acc ++ [44]))
        rw [HE3.out] at hbv
        have i3 : (0 : Int) < (j : Int) := by omega
        have hrow2 : Row B ((wr.alloc (.cells #[.int .i64 kj, .bool bj, .string tj, .slice adj nj capj, .slice adkj nkj capkj] 26)).alloc (.cells #[.int .u8 44] 5)) u0 acc := (HR.out.below HZ.out).below (below_new0 _ _)
        have hsz : B ≤ ((wr.alloc (.cells #[.int .i64 kj, .bool bj, .string tj, .slice adj nj capj, .slice adkj nkj capkj] 26)).alloc (.cells #[.int .u8 44] 5)).heap.size := by simp; omega
        have HZ2 : Hid (Below wr.heap.size wr ((wr.alloc (.cells #[.int .i64 kj, .bool bj, .string tj, .slice adj nj capj, .slice adkj nkj capkj] 26)).alloc (.cells #[.int .u8 44] 5))) := Lib.hid (HZ.out.trans ((below_new0 _ _).mono (by simp)))
        have HV2 : Hid (Blk ((wr.alloc (.cells #[.int .i64 kj, .bool bj, .string tj, .slice adj nj capj, .slice adkj nkj capkj] 26)).alloc (.cells #[.int .u8 44] 5)) wr.heap.size #[.int .i64 kj, .bool bj, .string tj, .slice adj nj capj, .slice adkj nkj capkj] 26) := Lib.hid (HV.out.below (below_new0 _ _))
        have HC44 : Hid (Blk ((wr.alloc (.cells #[.int .i64 kj, .bool bj, .string tj, .slice adj nj capj, .slice adkj nkj capkj] 26)).alloc (.cells #[.int .u8 44] 5)) (wr.heap.size + 1) #[.int .u8 44] 5) := Lib.hid (by
          have := Blk.new (wr.alloc (.cells #[.int .i64 kj, .bool bj, .string tj, .slice adj nj capj, .slice adkj nkj capkj] 26)) #[.int .u8 44] 5
          simpa using this)
        clear hj0
        go_wp2_with (at_builtin; refine app_u8 (N := [44]) rfl rfl rfl rfl hrow2 HC44.out rfl (by simp) (by simp; omega) hsz ?_; intro v2 w2 hown2 hb2 ho2; refine Hid.out ?_)
        refine Lib.hid ?_
        have hv := ho2.blk HV2.out (by decide)
        have q0 := hv.cell 0
        have q1 := hv.cell 1
        have q2 := hv.cell 2
        have q3 := hv.cell 3
        have q4 := hv.cell 4
        have hBw2 := hBw.trans ((HZ2.out.mono (by omega)).trans (hb2.mono hB0))
        have HK := Lib.hid (HCj.out w2 v2 (acc ++ [44]) hBw2 hB0 (Nat.le_trans hsz hb2.size) hown2 (by omega))
        have HB2 : Hid (Below B W w2) := Lib.hid ((HB.out.trans (HZ2.out.mono (by omega))).trans hb2)
        have HO2 : Hid (Oth W w2) := Lib.hid ((HO.out.trans (Oth.of HZ2.out)).trans ho2)
        clear hv hb2 ho2 hown2 hrow2 hsz
        go_wp2_with (go_at_call 18; refine HK.out.mono ?_; rintro e w3 ⟨v3, rfl, hr3, hb3, ho3⟩; refine Hid.out ?_)
        refine Lib.hid ?_
        go_wp2_with fail
        go_roundg g'
        case measure => omega
        case rel => exact ⟨j + 1, appV T (acc ++ [44]), by go_num, by omega, Lib.hid (HB2.out.trans hb3), Lib.hid (HO2.out.trans ho3), Lib.hid hr3, Lib.hid (by have : (j + 1 == 0) = false := rfl; rw [this]; exact HE3.out), by omega⟩
    · have hdn : its.drop j = [] := List.drop_of_length_le (by have := HL.out; omega)
      have hXa : acc = X := by
        rw [← HE.out, hdn]
        cases (j == 0) <;> simp [appI]
      have i2 : ¬ (j : Int) < (len : Int) := by omega
      have hrow2 := HR.out.below (below_new0 wr (.cells #[.int .u8 93] 5))
      have hsz : B ≤ (wr.alloc (.cells #[.int .u8 93] 5)).heap.size := by simp; omega
      go_wp2_with (at_builtin; refine app_u8 (N := [93]) rfl rfl rfl rfl hrow2 (Blk.new _ _ _) rfl (by simp) (by simp; omega) hsz ?_; intro v4 w4 hown4 hb4 ho4)
      go_ret
      have hbn := below_new0 wr (.cells #[.int .u8 93] 5)
      rw [← hXa]
      exact ⟨v4, rfl, hown4, (HB.out.trans (hbn.mono (by omega))).trans hb4, (HO.out.trans (Oth.of hbn)).trans ho4⟩
end Go.Proofs.YtnmfoedfllmclaaGreatDoor
