/- A value's JSON, as the program makes it · A value's JSON, as the program makes it: objects -/
import Derived.Test.YtcbcjeabpjjhbaaGreatDoorJb04
import Derived.Test.YtcbcjeabpjjhbaaGreatDoorJb18
namespace Go.Proofs.YtcbcjeabpjjhbaaGreatDoor
open Go.RowKit Go.Shelf
set_option linter.unusedVariables false

mutual
/-- Behind what stands there. -/
def appV : VT → List UInt8 → List UInt8
  | .node k b t its ks, L => if k = 2 then L ++ (if b then [116, 114, 117, 101] else [102, 97, 108, 115, 101]) else if k = 3 then L ++ t.data.toList else if k = 4 then quoteL L t
    else if k = 5 then appI its true (L ++ [91]) ++ [93] else if k = 6 then appP ks its true (L ++ [123]) ++ [125] else L ++ [110, 117, 108, 108]
def appI : List VT → Bool → List UInt8 → List UInt8
  | [], _, L => L
  | x :: l, first, L => appI l false (appV x (if first then L else L ++ [44]))
def appP : List ByteArray → List VT → Bool → List UInt8 → List UInt8
  | k :: ks, x :: l, first, L => appP ks l false (appV x (quoteL (if first then L else L ++ [44]) k ++ [58]))
  | _, _, _, L => L
end
theorem quoteL_le (L : List UInt8) (t : ByteArray) : L.length ≤ (quoteL L t).length := by
  unfold quoteL; split <;> simp
mutual
theorem appV_le : ∀ (T : VT) (L : List UInt8), L.length ≤ (appV T L).length
  | .node k b t its ks, L => by
    unfold appV
    have h1 := appI_le its true (L ++ [91])
    have h2 := appP_le ks its true (L ++ [123])
    simp only [List.length_append, List.length_singleton] at h1 h2
    repeat (split; · (first | exact quoteL_le L t | (simp only [List.length_append, List.length_singleton]; omega)))
    simp
theorem appI_le : ∀ (l : List VT) (f : Bool) (L : List UInt8), L.length ≤ (appI l f L).length
  | [], f, L => by unfold appI; exact Nat.le_refl _
  | x :: l, f, L => by
    unfold appI
    have h1 := appI_le l false (appV x (if f then L else L ++ [44]))
    have h2 := appV_le x (if f then L else L ++ [44])
    have h3 : L.length ≤ (if f then L else L ++ [44]).length := by split <;> simp
    omega
theorem appP_le : ∀ (ks : List ByteArray) (l : List VT) (f : Bool) (L : List UInt8), L.length ≤ (appP ks l f L).length
  | k :: ks, x :: l, f, L => by
    unfold appP
    have h1 := appP_le ks l false (appV x (quoteL (if f then L else L ++ [44]) k ++ [58]))
    have h2 := appV_le x (quoteL (if f then L else L ++ [44]) k ++ [58])
    have h4 := quoteL_le (if f then L else L ++ [44]) k
    have h3 : L.length ≤ (if f then L else L ++ [44]).length := by split <;> simp
    simp only [List.length_append, List.length_singleton] at h2
    omega
  | [], l, f, L => by unfold appP; exact Nat.le_refl _
  | k :: ks, [], f, L => by unfold appP; exact Nat.le_refl _
end
theorem Oth.blk {w w' : World} {k : Nat} {cs : Array Value} {ty : TypeId} (h : Oth w w') (hb : Blk w k cs ty) (ht : ty ≠ 5) : Blk w' k cs ty := h k _ hb (by simp) (fun c fz e => by cases e; exact ht rfl)
set_option maxRecDepth 100000 in
theorem appBool_any {B : Nat} {W : World} {v : Value} {L : List UInt8} {b : Bool} (h : Row B W v L) (hB : B ≤ W.heap.size) (hL : L.length ≤ 10000000000) : Calls Tryz.prog 54 #[v, .bool b] W (AppE B W (L ++ (if b then [116, 114, 117, 101] else [102, 97, 108, 115, 101]))) := by
  have HO := Lib.hid h
  clear h
  cases b
  · go_enter Tryz.func54, Tryz.ntmps54
    go_wp2_with (at_builtin; refine app_str (t := ⟨#[102, 97, 108, 115, 101]⟩) rfl rfl rfl rfl HO.out (show L.length + 5 ≤ _ by omega) hB ?_; intro v' w2 hown2 hb2 ho2)
    go_ret
    exact ⟨v', rfl, hown2, hb2, ho2⟩
  · go_enter Tryz.func54, Tryz.ntmps54
    go_wp2_with (at_builtin; refine app_str (t := ⟨#[116, 114, 117, 101]⟩) rfl rfl rfl rfl HO.out (show L.length + 4 ≤ _ by omega) hB ?_; intro v' w2 hown2 hb2 ho2)
    go_ret
    exact ⟨v', rfl, hown2, hb2, ho2⟩
set_option maxRecDepth 100000 in
theorem appBool2_any {B : Nat} {W : World} {v : Value} {L : List UInt8} {b : Bool} (h : Row B W v L) (hB : B ≤ W.heap.size) (hL : L.length ≤ 10000000000) : Calls Tryz.prog 34 #[v, .bool b] W (AppE B W (L ++ (if b then [116, 114, 117, 101] else [102, 97, 108, 115, 101]))) := by
  have HA := Lib.hid (appBool_any (b := b) h hB hL)
  generalize (if b then ([116, 114, 117, 101] : List UInt8) else [102, 97, 108, 115, 101]) = N at *
  clear h
  go_enter Tryz.func34, Tryz.ntmps34
  go_wp2_with (go_at_call 54; refine HA.out.mono ?_; rintro e w2 ⟨v', rfl, h1, h2, h3⟩)
  go_ret
  exact ⟨v', rfl, h1, h2, h3⟩
/-- What a call of appendValue does with one tree. -/
def AppC (B0 B : Nat) (w : World) (v : Value) (T : VT) : Prop := ∀ (W : World) (jv : Value) (L : List UInt8), Below B0 w W → B0 ≤ B → B ≤ W.heap.size → Row B W jv L → (appV T L).length ≤ 10000000000 → Calls Tryz.prog 18 #[jv, v] W (AppE B W (appV T L))
theorem appI_drop {its : List VT} {j : Nat} (hj : j < its.length) (f : Bool) (L : List UInt8) : appI (its.drop j) f L = appI (its.drop (j + 1)) false (appV its[j] (if f then L else L ++ [44])) := by
  rw [List.drop_eq_getElem_cons hj]
  conv => lhs; unfold appI
set_option maxRecDepth 100000 in
set_option maxHeartbeats 4000000 in
theorem appList_any {B0 B : Nat} {w W : World} {its : List VT} {ad : Option Addr} {cap g o : Nat} {ik : Nat → Int} {ib : Nat → Bool} {it : Nat → ByteArray} {ii iv : Nat → Value} {jv : Value} {L : List UInt8}
    (ha : 0 < its.length → ad = some ⟨g, o, none⟩ ∧ g < B0) (hcell : ∀ j, j < its.length → Five w g (o + j * 5) (.int .i64 (ik j)) (.bool (ib j)) (.string (it j)) (ii j) (iv j)) (hsh : ∀ j, j < its.length → ∃ ad n cap adk nk capk, ii j = .slice ad n cap ∧ iv j = .slice adk nk capk) (hrec : ∀ j (hj : j < its.length), AppC B0 B w (.agg #[.int .i64 (ik j), .bool (ib j), .string (it j), ii j, iv j]) its[j])
    (hb : Below B0 w W) (hB0 : B0 ≤ B) (hB : B ≤ W.heap.size) (h : Row B W jv L) (hbd : (appI its true (L ++ [91])).length ≤ 10000000000) (hn : its.length ≤ 140737488355328) :
    Calls Tryz.prog 36 #[jv, .slice ad its.length cap] W (AppE B W (appI its true (L ++ [91]) ++ [93])) := by
  obtain ⟨X, hX⟩ : ∃ X, appI its true (L ++ [91]) = X := ⟨_, rfl⟩
  rw [hX] at hbd ⊢
  have hXd : appI (its.drop 0) true (L ++ [91]) = X := hX
  have HX := Lib.hid hXd
  have hL91 := appI_le its true (L ++ [91])
  rw [hX, List.length_append, List.length_singleton] at hL91
  have hrow2 := h.below (below_new0 W (.cells #[.int .u8 91] 5))
  have hsz : B ≤ (W.alloc (.cells #[.int .u8 91] 5)).heap.size := by simp; omega
  have HB0 := Lib.hid (below_new0 W (.cells #[.int .u8 91] 5))
  have HA := Lib.hid ha
  have HC := Lib.hid hcell
  have HREC := Lib.hid hrec
  have HSH := Lib.hid hsh
  have HBW := Lib.hid hb
  obtain ⟨len, hlen⟩ : ∃ len, its.length = len := ⟨_, rfl⟩
  have HL := Lib.hid hlen
  rw [hlen] at hn ⊢
  clear h hX hXd ha hcell hrec hsh hb hlen
  go_enter Tryz.func36, Tryz.ntmps36
  go_wp2_with (at_builtin; refine app_u8 (N := [91]) rfl rfl rfl rfl hrow2 (Blk.new _ _ _) rfl (by simp) (by simp; omega) hsz ?_; intro v1 w1 hown1 hb1 ho1)
  have HB1 : Hid (Below B W w1) := Lib.hid ((HB0.out.mono hB).trans hb1)
  have HO1 : Hid (Oth W w1) := Lib.hid ((Oth.of HB0.out).trans ho1)
  have HR1 := Lib.hid hown1
  clear hb1 ho1 hown1 hrow2 hsz
  go_wp2_with fail
  go_loopg [0, 12] (len + 1) (fun gf s0 s12 wx => ∃ (j : Nat) (acc : List UInt8), s12 = .int .i64 (j : Int) ∧ j ≤ len ∧ Hid (Below B W wx) ∧ Hid (Oth W wx) ∧ Hid (Row B wx s0 acc) ∧ Hid (appI (its.drop j) (j == 0) acc = X) ∧ len - j < gf)
  case atStart => exact ⟨0, L ++ [91], rfl, Nat.zero_le _, HB1, HO1, HR1, HX, by omega⟩
  case round =>
    obtain ⟨j, acc, rfl, hj, HB, HO, HR, HE, hf⟩ := hrel
    obtain ⟨g', rfl⟩ : ∃ g', gk = g' + 1 := ⟨gk - 1, by omega⟩
    have hacc := appI_le (its.drop j) (j == 0) acc
    rw [HE.out] at hacc
    have hBr := HB.out.size
    by_cases hlt : j < len
    · have hjl : j < its.length := by have := HL.out; omega
      obtain ⟨rfl, hg⟩ := HA.out (by omega)
      have hBw : Below B0 w wr := HBW.out.trans (HB.out.mono hB0)
      have h5 := (HC.out j hjl).below hg hBw
      have e0 := h5.1
      have e1 := h5.2.1
      have e2 := h5.2.2.1
      have e3 := h5.2.2.2.1
      have e4 := h5.2.2.2.2
      have i1 : (0 : Int) ≤ (j : Int) := by omega
      have i2 : (j : Int) < (len : Int) := by omega
      have hw : IntKind.i64.wrap ((j : Int) + 1) = (j : Int) + 1 := IntWalk.i64_in _ (by omega)
      have HE2 := Lib.hid ((appI_drop hjl (j == 0) acc).symm.trans HE.out)
      have HCj := Lib.hid (HREC.out j hjl)
      obtain ⟨adj, nj, capj, adkj, nkj, capkj, hii, hiv⟩ := HSH.out j hjl
      rw [hii, hiv] at HCj
      rw [hii] at e3
      rw [hiv] at e4
      obtain ⟨T, hT⟩ : ∃ T, its[j] = T := ⟨_, rfl⟩
      rw [hT] at HE2 HCj
      generalize ik j = kj at *
      generalize ib j = bj at *
      generalize it j = tj at *
      have HZ := Lib.hid (below_new0 wr (.cells #[.int .i64 kj, .bool bj, .string tj, .slice adj nj capj, .slice adkj nkj capkj] 26))
      have HV := Lib.hid (Blk.new wr #[.int .i64 kj, .bool bj, .string tj, .slice adj nj capj, .slice adkj nkj capkj] 26)
      clear h5 hii hiv hT
      by_cases h0 : j = 0
      · subst h0
        simp only [Nat.zero_mul, Nat.add_zero] at e0 e1 e2 e3 e4
        have HE3 : Hid (appI (its.drop 1) false (appV T acc) = X) := HE2
        have hbv := appI_le (its.drop 1) false (appV T acc)
        rw [HE3.out] at hbv
        have hv := HV.out
        have q0 := hv.cell 0
        have q1 := hv.cell 1
        have q2 := hv.cell 2
        have q3 := hv.cell 3
        have q4 := hv.cell 4
        have HK := Lib.hid (HCj.out (wr.alloc (.cells #[.int .i64 kj, .bool bj, .string tj, .slice adj nj capj, .slice adkj nkj capkj] 26)) u0 acc (hBw.trans (HZ.out.mono (by omega))) hB0 (by simp; omega) (HR.out.below HZ.out) (by omega))
        clear hv
        go_wp2_with (go_at_call 18; refine HK.out.mono ?_; rintro e w3 ⟨v3, rfl, hr3, hb3, ho3⟩; refine Hid.out ?_)
        refine Lib.hid ?_
        go_wp2_with fail
        go_roundg g'
        case measure => omega
        case rel => exact ⟨1, appV T acc, by go_num, by omega, Lib.hid ((HB.out.trans (HZ.out.mono (by omega))).trans hb3), Lib.hid ((HO.out.trans (Oth.of HZ.out)).trans ho3), Lib.hid hr3, HE3, by omega⟩
      · have hj0 : (j == 0) = false := beq_eq_false_iff_ne.2 h0
        have HE3 : Hid (appI (its.drop (j + 1)) false (appV T (acc ++ [44])) = X) := Lib.hid (by have := HE2.out; rw [hj0] at this; exact this)
        have hbv := appI_le (its.drop (j + 1)) false (appV T (acc ++ [44]))
        rw [HE3.out] at hbv
        have i3 : (0 : Int) < (j : Int) := by omega
        have hrow2 : Row B ((wr.alloc (.cells #[.int .i64 kj, .bool bj, .string tj, .slice adj nj capj, .slice adkj nkj capkj] 26)).alloc (.cells #[.int .u8 44] 5)) u0 acc := (HR.out.below HZ.out).below (below_new0 _ _)
        have hsz : B ≤ ((wr.alloc (.cells #[.int .i64 kj, .bool bj, .string tj, .slice adj nj capj, .slice adkj nkj capkj] 26)).alloc (.cells #[.int .u8 44] 5)).heap.size := by simp; omega
        have HZ2 : Hid (Below wr.heap.size wr ((wr.alloc (.cells #[.int .i64 kj, .bool bj, .string tj, .slice adj nj capj, .slice adkj nkj capkj] 26)).alloc (.cells #[.int .u8 44] 5))) := Lib.hid (HZ.out.trans ((below_new0 _ _).mono (by simp)))
        have HV2 : Hid (Blk ((wr.alloc (.cells #[.int .i64 kj, .bool bj, .string tj, .slice adj nj capj, .slice adkj nkj capkj] 26)).alloc (.cells #[.int .u8 44] 5)) wr.heap.size #[.int .i64 kj, .bool bj, .string tj, .slice adj nj capj, .slice adkj nkj capkj] 26) := Lib.hid (HV.out.below (below_new0 _ _))
        have HC44 : Hid (Blk ((wr.alloc (.cells #[.int .i64 kj, .bool bj, .string tj, .slice adj nj capj, .slice adkj nkj capkj] 26)).alloc (.cells #[.int .u8 44] 5)) (wr.heap.size + 1) #[.int .u8 44] 5) := Lib.hid (by
          have := Blk.new (wr.alloc (.cells #[.int .i64 kj, .bool bj, .string tj, .slice adj nj capj, .slice adkj nkj capkj] 26)) #[.int .u8 44] 5
          simpa using this)
        clear hj0
        go_wp2_with (at_builtin; refine app_u8 (N := [44]) rfl rfl rfl rfl hrow2 HC44.out rfl (by simp) (by simp; omega) hsz ?_; intro v2 w2 hown2 hb2 ho2; refine Hid.out ?_)
        refine Lib.hid ?_
        have hv := ho2.blk HV2.out (by decide)
        have q0 := hv.cell 0
        have q1 := hv.cell 1
        have q2 := hv.cell 2
        have q3 := hv.cell 3
        have q4 := hv.cell 4
        have hBw2 := hBw.trans ((HZ2.out.mono (by omega)).trans (hb2.mono hB0))
        have HK := Lib.hid (HCj.out w2 v2 (acc ++ [44]) hBw2 hB0 (Nat.le_trans hsz hb2.size) hown2 (by omega))
        have HB2 : Hid (Below B W w2) := Lib.hid ((HB.out.trans (HZ2.out.mono (by omega))).trans hb2)
        have HO2 : Hid (Oth W w2) := Lib.hid ((HO.out.trans (Oth.of HZ2.out)).trans ho2)
        clear hv hb2 ho2 hown2 hrow2 hsz
        go_wp2_with (go_at_call 18; refine HK.out.mono ?_; rintro e w3 ⟨v3, rfl, hr3, hb3, ho3⟩; refine Hid.out ?_)
        refine Lib.hid ?_
        go_wp2_with fail
        go_roundg g'
        case measure => omega
        case rel => exact ⟨j + 1, appV T (acc ++ [44]), by go_num, by omega, Lib.hid (HB2.out.trans hb3), Lib.hid (HO2.out.trans ho3), Lib.hid hr3, Lib.hid (by have : (j + 1 == 0) = false := rfl; rw [this]; exact HE3.out), by omega⟩
    · have hdn : its.drop j = [] := List.drop_of_length_le (by have := HL.out; omega)
      have hXa : acc = X := by
        rw [← HE.out, hdn]
        cases (j == 0) <;> simp [appI]
      have i2 : ¬ (j : Int) < (len : Int) := by omega
      have hrow2 := HR.out.below (below_new0 wr (.cells #[.int .u8 93] 5))
      have hsz : B ≤ (wr.alloc (.cells #[.int .u8 93] 5)).heap.size := by simp; omega
      go_wp2_with (at_builtin; refine app_u8 (N := [93]) rfl rfl rfl rfl hrow2 (Blk.new _ _ _) rfl (by simp) (by simp; omega) hsz ?_; intro v4 w4 hown4 hb4 ho4)
      go_ret
      have hbn := below_new0 wr (.cells #[.int .u8 93] 5)
      rw [← hXa]
      exact ⟨v4, rfl, hown4, (HB.out.trans (hbn.mono (by omega))).trans hb4, (HO.out.trans (Oth.of hbn)).trans ho4⟩
end Go.Proofs.YtcbcjeabpjjhbaaGreatDoor
namespace Go.Proofs.YtcbcjeabpjjhbaaGreatDoor
open Go.RowKit Go.Shelf
set_option linter.unusedVariables false

theorem appP_drop {ks : List ByteArray} {its : List VT} {j : Nat} (hk : j < ks.length) (hj : j < its.length) (f : Bool) (L : List UInt8) : appP (ks.drop j) (its.drop j) f L = appP (ks.drop (j + 1)) (its.drop (j + 1)) false (appV its[j] (quoteL (if f then L else L ++ [44]) ks[j] ++ [58])) := by
  rw [List.drop_eq_getElem_cons hj, List.drop_eq_getElem_cons hk]
  conv => lhs; unfold appP
set_option maxRecDepth 100000 in
set_option maxHeartbeats 4000000 in
theorem appObj_any {B0 B : Nat} {w W : World} {its : List VT} {ks : List ByteArray} {kv : Value} {ad : Option Addr} {cap g o : Nat} {ik : Nat → Int} {ib : Nat → Bool} {it : Nat → ByteArray} {ii iv : Nat → Value} {jv : Value} {L : List UInt8}
    (hk : StrsAt B0 w kv ks) (hkl : ks.length = its.length) (ha : 0 < its.length → ad = some ⟨g, o, none⟩ ∧ g < B0) (hcell : ∀ j, j < its.length → Five w g (o + j * 5) (.int .i64 (ik j)) (.bool (ib j)) (.string (it j)) (ii j) (iv j)) (hsh : ∀ j, j < its.length → ∃ ad n cap adk nk capk, ii j = .slice ad n cap ∧ iv j = .slice adk nk capk) (hrec : ∀ j (hj : j < its.length), AppC B0 B w (.agg #[.int .i64 (ik j), .bool (ib j), .string (it j), ii j, iv j]) its[j])
    (hb : Below B0 w W) (hB0 : B0 ≤ B) (hB : B ≤ W.heap.size) (h : Row B W jv L) (hbd : (appP ks its true (L ++ [123])).length ≤ 10000000000) (hn : its.length ≤ 140737488355328) :
    Calls Tryz.prog 37 #[jv, kv, .slice ad its.length cap] W (AppE B W (appP ks its true (L ++ [123]) ++ [125])) := by
  obtain ⟨X, hX⟩ : ∃ X, appP ks its true (L ++ [123]) = X := ⟨_, rfl⟩
  rw [hX] at hbd ⊢
  have hXd : appP (ks.drop 0) (its.drop 0) true (L ++ [123]) = X := hX
  have HX := Lib.hid hXd
  have hL91 := appP_le ks its true (L ++ [123])
  rw [hX, List.length_append, List.length_singleton] at hL91
  have hrow2 := h.below (below_new0 W (.cells #[.int .u8 123] 5))
  have hsz : B ≤ (W.alloc (.cells #[.int .u8 123] 5)).heap.size := by simp; omega
  have HB0 := Lib.hid (below_new0 W (.cells #[.int .u8 123] 5))
  obtain ⟨adk, capk, rfl, -, -, hkp⟩ := hk
  have HKP := Lib.hid hkp
  have HA := Lib.hid ha
  have HC := Lib.hid hcell
  have HREC := Lib.hid hrec
  have HSH := Lib.hid hsh
  have HBW := Lib.hid hb
  obtain ⟨len, hlen⟩ : ∃ len, its.length = len := ⟨_, rfl⟩
  have HL := Lib.hid hlen
  have HKL := Lib.hid (hkl.trans hlen)
  rw [hkl]
  rw [hlen] at hn ⊢
  clear h hX hXd ha hcell hrec hsh hb hlen hkl hkp
  go_enter Tryz.func37, Tryz.ntmps37
  go_wp2_with (at_builtin; refine app_u8 (N := [123]) rfl rfl rfl rfl hrow2 (Blk.new _ _ _) rfl (by simp) (by simp; omega) hsz ?_; intro v1 w1 hown1 hb1 ho1)
  have HB1 : Hid (Below B W w1) := Lib.hid ((HB0.out.mono hB).trans hb1)
  have HO1 : Hid (Oth W w1) := Lib.hid ((Oth.of HB0.out).trans ho1)
  have HR1 := Lib.hid hown1
  clear hb1 ho1 hown1 hrow2 hsz
  go_wp2_with fail
  go_loopg [0, 14] (len + 1) (fun gf s0 s14 wx => ∃ (j : Nat) (acc : List UInt8), s14 = .int .i64 (j : Int) ∧ j ≤ len ∧ Hid (Below B W wx) ∧ Hid (Oth W wx) ∧ Hid (Row B wx s0 acc) ∧ Hid (appP (ks.drop j) (its.drop j) (j == 0) acc = X) ∧ len - j < gf)
  case atStart => exact ⟨0, L ++ [123], rfl, Nat.zero_le _, HB1, HO1, HR1, HX, by omega⟩
  case round =>
    obtain ⟨j, acc, rfl, hj, HB, HO, HR, HE, hf⟩ := hrel
    obtain ⟨g', rfl⟩ : ∃ g', gk = g' + 1 := ⟨gk - 1, by omega⟩
    have hacc := appP_le (ks.drop j) (its.drop j) (j == 0) acc
    rw [HE.out] at hacc
    have hBr := HB.out.size
    by_cases hlt : j < len
    · have hjl : j < its.length := by have := HL.out; omega
      have hjk : j < ks.length := by have := HKL.out; omega
      obtain ⟨rfl, hg⟩ := HA.out (by omega)
      obtain ⟨gk2, ok2, rfl, hgk, hkc⟩ := HKP.out (by omega)
      have hBw : Below B0 w wr := HBW.out.trans (HB.out.mono hB0)
      have k0 : wr.cell? ⟨gk2, ok2 + j, none⟩ = some (.string ks[j]) := (Below.cell hBw (by show gk2 < B0; exact hgk)).trans (hkc j hjk)
      have i1 : (0 : Int) ≤ (j : Int) := by omega
      have i2 : (j : Int) < (len : Int) := by omega
      have hw : IntKind.i64.wrap ((j : Int) + 1) = (j : Int) + 1 := IntWalk.i64_in _ (by omega)
      have HE2 := Lib.hid ((appP_drop hjk hjl (j == 0) acc).symm.trans HE.out)
      have HCj := Lib.hid (HREC.out j hjl)
      obtain ⟨adj, nj, capj, adkj, nkj, capkj, hii, hiv⟩ := HSH.out j hjl
      rw [hii, hiv] at HCj
      obtain ⟨T, hT⟩ : ∃ T, its[j] = T := ⟨_, rfl⟩
      obtain ⟨key, hkey⟩ : ∃ key, ks[j] = key := ⟨_, rfl⟩
      rw [hT, hkey] at HE2
      rw [hT] at HCj
      rw [hkey] at k0
      clear hT hkey hkc
      by_cases h0 : j = 0
      · subst h0
        simp only [Nat.add_zero] at k0
        have HE3 : Hid (appP (ks.drop 1) (its.drop 1) false (appV T (quoteL acc key ++ [58])) = X) := HE2
        have hbv := appP_le (ks.drop 1) (its.drop 1) false (appV T (quoteL acc key ++ [58]))
        rw [HE3.out] at hbv
        have hbv2 := appV_le T (quoteL acc key ++ [58])
        rw [List.length_append, List.length_singleton] at hbv2
        have HT := Lib.hid (appText_any (t := key) HR.out (Nat.le_trans hB hBr) (by omega))

        go_wp2_with (go_at_call 35; refine HT.out.mono ?_; rintro e w3 ⟨v3, rfl, hr3, hb3, ho3⟩; refine Hid.out ?_)
        refine Lib.hid ?_
        have HB3 : Hid (Below B W w3) := Lib.hid (HB.out.trans hb3)
        have HO3 : Hid (Oth W w3) := Lib.hid (HO.out.trans ho3)
        have hrow4 := hr3.below (below_new0 w3 (.cells #[.int .u8 58] 5))
        have hsz4 : B ≤ (w3.alloc (.cells #[.int .u8 58] 5)).heap.size := by have := HB3.out.size; simp; omega
        have HC58 := Lib.hid (Blk.new w3 #[.int .u8 58] 5)
        have HZ4 := Lib.hid (below_new0 w3 (.cells #[.int .u8 58] 5))
        clear hr3 hb3 ho3
        go_wp2_with (at_builtin; refine app_u8 (N := [58]) rfl rfl rfl rfl hrow4 HC58.out rfl (by simp) (by simp; omega) hsz4 ?_; intro v4 w4 hown4 hb4 ho4; refine Hid.out ?_)
        refine Lib.hid ?_
        have HB4 : Hid (Below B W w4) := Lib.hid ((HB3.out.trans (HZ4.out.mono (by have := HB3.out.size; omega))).trans hb4)
        have HO4 : Hid (Oth W w4) := Lib.hid ((HO3.out.trans (Oth.of HZ4.out)).trans ho4)
        have hBw4 : Below B0 w w4 := HBW.out.trans (HB4.out.mono hB0)
        have h5 := (HC.out 0 hjl).below hg hBw4
        rw [hii, hiv] at h5
        have e0 := h5.1
        have e1 := h5.2.1
        have e2 := h5.2.2.1
        have e3 := h5.2.2.2.1
        have e4 := h5.2.2.2.2
        have HK := Lib.hid (HCj.out w4 v4 (quoteL acc key ++ [58]) hBw4 hB0 (Nat.le_trans hsz4 hb4.size) hown4 (by omega))
        clear h5 hb4 ho4 hown4 hrow4 hsz4
        simp only [Nat.zero_mul, Nat.add_zero] at e0 e1 e2 e3 e4
        go_wp2_with (go_at_call 18; refine HK.out.mono ?_; rintro e w5 ⟨v5, rfl, hr5, hb5, ho5⟩; refine Hid.out ?_)
        refine Lib.hid ?_
        go_wp2_with fail
        go_roundg g'
        case measure => omega
        case rel => exact ⟨1, appV T (quoteL acc key ++ [58]), by go_num, by omega, Lib.hid (HB4.out.trans hb5), Lib.hid (HO4.out.trans ho5), Lib.hid hr5, Lib.hid (by exact HE3.out), by omega⟩
      · have hj0 : (j == 0) = false := beq_eq_false_iff_ne.2 h0
        have HE3 : Hid (appP (ks.drop (j + 1)) (its.drop (j + 1)) false (appV T (quoteL (acc ++ [44]) key ++ [58])) = X) := Lib.hid (by have := HE2.out; rw [hj0] at this; exact this)
        have hbv := appP_le (ks.drop (j + 1)) (its.drop (j + 1)) false (appV T (quoteL (acc ++ [44]) key ++ [58]))
        rw [HE3.out] at hbv
        have hbv2 := appV_le T (quoteL (acc ++ [44]) key ++ [58])
        rw [List.length_append, List.length_singleton] at hbv2
        have hbv3 := quoteL_le (acc ++ [44]) key
        rw [List.length_append, List.length_singleton] at hbv3
        have i3 : (0 : Int) < (j : Int) := by omega
        have hrow2 : Row B (wr.alloc (.cells #[.int .u8 44] 5)) u0 acc := HR.out.below (below_new0 _ _)
        have hsz : B ≤ (wr.alloc (.cells #[.int .u8 44] 5)).heap.size := by simp; omega
        have HZ2 := Lib.hid (below_new0 wr (.cells #[.int .u8 44] 5))
        clear hj0
        go_wp2_with (at_builtin; refine app_u8 (N := [44]) rfl rfl rfl rfl hrow2 (Blk.new _ _ _) rfl (by simp) (by simp; omega) hsz ?_; intro v2 w2 hown2 hb2 ho2; refine Hid.out ?_)
        refine Lib.hid ?_
        have HB2 : Hid (Below B W w2) := Lib.hid ((HB.out.trans (HZ2.out.mono (by omega))).trans hb2)
        have HO2 : Hid (Oth W w2) := Lib.hid ((HO.out.trans (Oth.of HZ2.out)).trans ho2)
        have HT := Lib.hid (appText_any (t := key) hown2 (Nat.le_trans hsz hb2.size) (by omega))
        clear hb2 ho2 hown2 hrow2 hsz
        go_wp2_with (go_at_call 35; refine HT.out.mono ?_; rintro e w3 ⟨v3, rfl, hr3, hb3, ho3⟩; refine Hid.out ?_)
        refine Lib.hid ?_
        have HB3 : Hid (Below B W w3) := Lib.hid (HB2.out.trans hb3)
        have HO3 : Hid (Oth W w3) := Lib.hid (HO2.out.trans ho3)
        have hrow4 := hr3.below (below_new0 w3 (.cells #[.int .u8 58] 5))
        have hsz4 : B ≤ (w3.alloc (.cells #[.int .u8 58] 5)).heap.size := by have := HB3.out.size; simp; omega
        have HC58 := Lib.hid (Blk.new w3 #[.int .u8 58] 5)
        have HZ4 := Lib.hid (below_new0 w3 (.cells #[.int .u8 58] 5))
        clear hr3 hb3 ho3
        go_wp2_with (at_builtin; refine app_u8 (N := [58]) rfl rfl rfl rfl hrow4 HC58.out rfl (by simp) (by simp; omega) hsz4 ?_; intro v4 w4 hown4 hb4 ho4; refine Hid.out ?_)
        refine Lib.hid ?_
        have HB4 : Hid (Below B W w4) := Lib.hid ((HB3.out.trans (HZ4.out.mono (by have := HB3.out.size; omega))).trans hb4)
        have HO4 : Hid (Oth W w4) := Lib.hid ((HO3.out.trans (Oth.of HZ4.out)).trans ho4)
        have hBw4 : Below B0 w w4 := HBW.out.trans (HB4.out.mono hB0)
        have h5 := (HC.out j hjl).below hg hBw4
        rw [hii, hiv] at h5
        have e0 := h5.1
        have e1 := h5.2.1
        have e2 := h5.2.2.1
        have e3 := h5.2.2.2.1
        have e4 := h5.2.2.2.2
        have HK := Lib.hid (HCj.out w4 v4 (quoteL (acc ++ [44]) key ++ [58]) hBw4 hB0 (Nat.le_trans hsz4 hb4.size) hown4 (by omega))
        clear h5 hb4 ho4 hown4 hrow4 hsz4
        go_wp2_with (go_at_call 18; refine HK.out.mono ?_; rintro e w5 ⟨v5, rfl, hr5, hb5, ho5⟩; refine Hid.out ?_)
        refine Lib.hid ?_
        go_wp2_with fail
        go_roundg g'
        case measure => omega
        case rel => exact ⟨j + 1, appV T (quoteL (acc ++ [44]) key ++ [58]), by go_num, by omega, Lib.hid (HB4.out.trans hb5), Lib.hid (HO4.out.trans ho5), Lib.hid hr5, Lib.hid (by have : (j + 1 == 0) = false := rfl; rw [this]; exact HE3.out), by omega⟩
    · have hdn : its.drop j = [] := List.drop_of_length_le (by have := HL.out; omega)
      have hdk : ks.drop j = [] := List.drop_of_length_le (by have := HKL.out; omega)
      have hXa : acc = X := by
        rw [← HE.out, hdn, hdk]
        cases (j == 0) <;> simp [appP]
      have i2 : ¬ (j : Int) < (len : Int) := by omega
      have hrow2 := HR.out.below (below_new0 wr (.cells #[.int .u8 125] 5))
      have hsz : B ≤ (wr.alloc (.cells #[.int .u8 125] 5)).heap.size := by simp; omega
      go_wp2_with (at_builtin; refine app_u8 (N := [125]) rfl rfl rfl rfl hrow2 (Blk.new _ _ _) rfl (by simp) (by simp; omega) hsz ?_; intro v4 w4 hown4 hb4 ho4)
      go_ret
      have hbn := below_new0 wr (.cells #[.int .u8 125] 5)
      rw [← hXa]
      exact ⟨v4, rfl, hown4, (HB.out.trans (hbn.mono (by omega))).trans hb4, (HO.out.trans (Oth.of hbn)).trans ho4⟩
end Go.Proofs.YtcbcjeabpjjhbaaGreatDoor
