/- A value's JSON, as the program makes it: objects · appendValue: any value · DERIVED: the shelf's contracts at this dump (tools/lay-plain.mjs): ValidString · allUTF8: any value -/
import Derived.Test.YtnmfoedfllmclaaGreatDoorProg
import Derived.Shelf.Unicode.ValidAny
import Derived.Lib.ValidU
import Derived.Test.YtnmfoedfllmclaaGreatDoorJr04
import Derived.Test.YtnmfoedfllmclaaGreatDoorJr17
namespace Go.Proofs.YtnmfoedfllmclaaGreatDoor
open Go.RowKit Go.Shelf
set_option linter.unusedVariables false

theorem appP_drop {ks : List ByteArray} {its : List VT} {j : Nat} (hk : j < ks.length) (hj : j < its.length) (f : Bool) (L : List UInt8) : appP (ks.drop j) (its.drop j) f L = appP (ks.drop (j + 1)) (its.drop (j + 1)) false (appV its[j] (quoteL (if f then L else L ++ [44]) ks[j] ++ [58])) := by
  rw [List.drop_eq_getElem_cons hj, List.drop_eq_getElem_cons hk]
  conv => lhs; unfold appP
set_option maxRecDepth 100000 in
set_option maxHeartbeats 4000000 in
theorem appObj_any {B0 B : Nat} {w W : World} {its : List VT} {ks : List ByteArray} {kv : Value} {ad : Option Addr} {cap g o : Nat} {ik : Nat → Int} {ib : Nat → Bool} {it : Nat → ByteArray} {ii iv : Nat → Value} {jv : Value} {L : List UInt8}
    (hk : StrsAt B0 w kv ks) (hkl : ks.length = its.length) (ha : 0 < its.length → ad = some ⟨g, o, none⟩ ∧ g < B0) (hcell : ∀ j, j < its.length → Five w g (o + j * 5) (.int .i64 (ik j)) (.bool (ib j)) (.string (it j)) (ii j) (iv j)) (hsh : ∀ j, j < its.length → ∃ ad n cap adk nk capk, ii j = .slice ad n cap ∧ iv j = .slice adk nk capk) (hrec : ∀ j (hj : j < its.length), AppC B0 B w (.agg #[.int .i64 (ik j), .bool (ib j), .string (it j), ii j, iv j]) its[j])
    (hb : Below B0 w W) (hB0 : B0 ≤ B) (hB : B ≤ W.heap.size) (h : Row B W jv L) (hbd : (appP ks its true (L ++ [123])).length ≤ 10000000000) (hn : its.length ≤ 140737488355328) :
    Calls Tryz.prog 37 #[jv, kv, .slice ad its.length cap] W (AppE B W (appP ks its true (L ++ [123]) ++ [125])) := by
  obtain ⟨X, hX⟩ : ∃ X, appP ks its true (L ++ [123]) = X := ⟨_, rfl⟩
  rw [hX] at hbd ⊢
  have hXd : appP (ks.drop 0) (its.drop 0) true (L ++ [123]) = X := hX
  have HX := Lib.hid hXd
  have hL91 := appP_le ks its true (L ++ [123])
  rw [hX, List.length_append, List.length_singleton] at hL91
  have hrow2 := h.below (below_new0 W (.cells #[.int .u8 123] 5))
  have hsz : B ≤ (W.alloc (.cells #[.int .u8 123] 5)).heap.size := by simp; omega
  have HB0 := Lib.hid (below_new0 W (.cells #[.int .u8 123] 5))
  obtain ⟨adk, capk, rfl, -, -, hkp⟩ := hk
  have HKP := Lib.hid hkp
  have HA := Lib.hid ha
  have HC := Lib.hid hcell
  have HREC := Lib.hid hrec
  have HSH := Lib.hid hsh
  have HBW := Lib.hid hb
  obtain ⟨len, hlen⟩ : ∃ len, its.length = len := ⟨_, rfl⟩
  have HL := Lib.hid hlen
  have HKL := Lib.hid (hkl.trans hlen)
  rw [hkl]
  rw [hlen] at hn ⊢
  clear h hX hXd ha hcell hrec hsh hb hlen hkl hkp
  go_enter Tryz.func37, Tryz.ntmps37
  go_wp2_with (at_builtin; refine app_u8 (N := [123]) rfl rfl rfl rfl hrow2 (Blk.new _ _ _) rfl (by simp) (by simp; omega) hsz ?_; intro v1 w1 hown1 hb1 ho1)
  have HB1 : Hid (Below B W w1) := Lib.hid ((HB0.out.mono hB).trans hb1)
  have HO1 : Hid (Oth W w1) := Lib.hid ((Oth.of HB0.out).trans ho1)
  have HR1 := Lib.hid hown1
  clear hb1 ho1 hown1 hrow2 hsz
  go_wp2_with fail
  go_loopg [0, 14] (len + 1) (fun gf s0 s14 wx => ∃ (j : Nat) (acc : List UInt8), s14 = .int .i64 (j : Int) ∧ j ≤ len ∧ Hid (Below B W wx) ∧ Hid (Oth W wx) ∧ Hid (Row B wx s0 acc) ∧ Hid (appP (ks.drop j) (its.drop j) (j == 0) acc = X) ∧ len - j < gf)
  case atStart => exact ⟨0, L ++ [123], rfl, Nat.zero_le _, HB1, HO1, HR1, HX, by omega⟩
  case round =>
    obtain ⟨j, acc, rfl, hj, HB, HO, HR, HE, hf⟩ := hrel
    obtain ⟨g', rfl⟩ : ∃ g', gk = g' + 1 := ⟨gk - 1, by omega⟩
    have hacc := appP_le (ks.drop j) (its.drop j) (j == 0) acc
    rw [HE.out] at hacc
    have hBr := HB.out.size
    by_cases hlt : j < len
    · have hjl : j < its.length := by have := HL.out; omega
      have hjk : j < ks.length := by have := HKL.out; omega
      obtain ⟨rfl, hg⟩ := HA.out (by omega)
      obtain ⟨gk2, ok2, rfl, hgk, hkc⟩ := HKP.out (by omega)
      have hBw : Below B0 w wr := HBW.out.trans (HB.out.mono hB0)
      have k0 : wr.cell? ⟨gk2, ok2 + j, none⟩ = some (.string ks[j]) := (Below.cell hBw (by show gk2 < B0; exact hgk)).trans (hkc j hjk)
      have i1 : (0 : Int) ≤ (j : Int) := by omega
      have i2 : (j : Int) < (len : Int) := by omega
      have hw : IntKind.i64.wrap ((j : Int) + 1) = (j : Int) + 1 := IntWalk.i64_in _ (by omega)
      have HE2 := Lib.hid ((appP_drop hjk hjl (j == 0) acc).symm.trans HE.out)
      have HCj := Lib.hid (HREC.out j hjl)
      obtain ⟨adj, nj, capj, adkj, nkj, capkj, hii, hiv⟩ := HSH.out j hjl
      rw [hii, hiv] at HCj
      obtain ⟨T, hT⟩ : ∃ T, its[j] = T := ⟨_, rfl⟩
      obtain ⟨key, hkey⟩ : ∃ key, ks[j] = key := ⟨_, rfl⟩
      rw [hT, hkey] at HE2
      rw [hT] at HCj
      rw [hkey] at k0
      clear hT hkey hkc
      by_cases h0 : j = 0
      · subst h0
        simp only [Nat.add_zero] at k0
        have HE3 : Hid (appP (ks.drop 1) (its.drop 1) false (appV T (quoteL acc key ++ [58])) = X) := HE2
        have hbv := appP_le (ks.drop 1) (its.drop 1) false (appV T (quoteL acc key ++ [58]))
        rw [HE3.out] at hbv
        have hbv2 := appV_le T (quoteL acc key ++ [58])
        rw [List.length_append, List.length_singleton] at hbv2
        have HT := Lib.hid (appText_any (t := key) HR.out (Nat.le_trans hB hBr) (by omega))

        go_wp2_with (go_at_call 35; refine HT.out.mono ?_; rintro e w3 ⟨v3, rfl, hr3, hb3, ho3⟩; refine Hid.out ?_)
        refine Lib.hid ?_
        have HB3 : Hid (Below B W w3) := Lib.hid (HB.out.trans hb3)
        have HO3 : Hid (Oth W w3) := Lib.hid (HO.out.trans ho3)
        have hrow4 := hr3.below (below_new0 w3 (.cells #[.int .u8 58] 5))
        have hsz4 : B ≤ (w3.alloc (.cells #[.int .u8 58] 5)).heap.size := by have := HB3.out.size; simp; omega
        have HC58 := Lib.hid (Blk.new w3 #[.int .u8 58] 5)
        have HZ4 := Lib.hid (below_new0 w3 (.cells #[.int .u8 58] 5))
        clear hr3 hb3 ho3
        go_wp2_with (at_builtin; refine app_u8 (N := [58]) rfl rfl rfl rfl hrow4 HC58.out rfl (by simp) (by simp; omega) hsz4 ?_; intro v4 w4 hown4 hb4 ho4; refine Hid.out ?_)
        refine Lib.hid ?_
        have HB4 : Hid (Below B W w4) := Lib.hid ((HB3.out.trans (HZ4.out.mono (by have := HB3.out.size; omega))).trans hb4)
        have HO4 : Hid (Oth W w4) := Lib.hid ((HO3.out.trans (Oth.of HZ4.out)).trans ho4)
        have hBw4 : Below B0 w w4 := HBW.out.trans (HB4.out.mono hB0)
        have h5 := (HC.out 0 hjl).below hg hBw4
        rw [hii, hiv] at h5
        have e0 := h5.1
        have e1 := h5.2.1
        have e2 := h5.2.2.1
        have e3 := h5.2.2.2.1
        have e4 := h5.2.2.2.2
        have HK := Lib.hid (HCj.out w4 v4 (quoteL acc key ++ [58]) hBw4 hB0 (Nat.le_trans hsz4 hb4.size) hown4 (by omega))
        clear h5 hb4 ho4 hown4 hrow4 hsz4
        simp only [Nat.zero_mul, Nat.add_zero] at e0 e1 e2 e3 e4
        go_wp2_with (go_at_call 18; refine HK.out.mono ?_; rintro e w5 ⟨v5, rfl, hr5, hb5, ho5⟩; refine Hid.out ?_)
        refine Lib.hid ?_
        go_wp2_with fail
        go_roundg g'
        case measure => omega
        case rel => exact ⟨1, appV T (quoteL acc key ++ [58]), by go_num, by omega, Lib.hid (HB4.out.trans hb5), Lib.hid (HO4.out.trans ho5), Lib.hid hr5, Lib.hid (by exact HE3.out), by omega⟩
      · have hj0 : (j == 0) = false := beq_eq_false_iff_ne.2 h0
        have HE3 : Hid (appP (ks.drop (j + 1)) (its.drop (j + 1)) false (appV T (quoteL (acc ++ [44]) key ++ [58])) = X) := Lib.hid (by have := HE2.out; rw [hj0] at this; exact this)
        have hbv := appP_le (ks.drop (j + 1)) (its.drop (j + 1)) false (appV T (quoteL (acc ++ [44]) key ++ [58]))
        rw [HE3.out] at hbv
        have hbv2 := appV_le T (quoteL (acc ++ [44]) key ++ [58])
        rw [List.length_append, List.length_singleton] at hbv2
        have hbv3 := quoteL_le (acc ++ [44]) key
        rw [List.length_append, List.length_singleton] at hbv3
        have i3 : (0 : Int) < (j : Int) := by omega
        have hrow2 : Row B (wr.alloc (.cells #[.int .u8 44] 5)) u0 acc := HR.out.below (below_new0 _ _)
        have hsz : B ≤ (wr.alloc (.cells #[.int .u8 44] 5)).heap.size := by simp; omega
        have HZ2 := Lib.hid (below_new0 wr (.cells #[.int .u8 44] 5))
        clear hj0
        go_wp2_with (at_builtin; refine app_u8 (N := [44]) rfl rfl rfl rfl hrow2 (Blk.new _ _ _) rfl (by simp) (by simp; omega) hsz ?_; intro v2 w2 hown2 hb2 ho2; refine Hid.out ?_)
        refine Lib.hid ?_
        have HB2 : Hid (Below B W w2) := Lib.hid ((HB.out.trans (HZ2.out.mono (by omega))).trans hb2)
        have HO2 : Hid (Oth W w2) := Lib.hid ((HO.out.trans (Oth.of HZ2.out)).trans ho2)
        have HT := Lib.hid (appText_any (t := key) hown2 (Nat.le_trans hsz hb2.size) (by omega))
        clear hb2 ho2 hown2 hrow2 hsz
        go_wp2_with (go_at_call 35; refine HT.out.mono ?_; rintro e w3 ⟨v3, rfl, hr3, hb3, ho3⟩; refine Hid.out ?_)
        refine Lib.hid ?_
        have HB3 : Hid (Below B W w3) := Lib.hid (HB2.out.trans hb3)
        have HO3 : Hid (Oth W w3) := Lib.hid (HO2.out.trans ho3)
        have hrow4 := hr3.below (below_new0 w3 (.cells #[.int .u8 58] 5))
        have hsz4 : B ≤ (w3.alloc (.cells #[.int .u8 58] 5)).heap.size := by have := HB3.out.size; simp; omega
        have HC58 := Lib.hid (Blk.new w3 #[.int .u8 58] 5)
        have HZ4 := Lib.hid (below_new0 w3 (.cells #[.int .u8 58] 5))
        clear hr3 hb3 ho3
        go_wp2_with (at_builtin; refine app_u8 (N := [58]) rfl rfl rfl rfl hrow4 HC58.out rfl (by simp) (by simp; omega) hsz4 ?_; intro v4 w4 hown4 hb4 ho4; refine Hid.out ?_)
        refine Lib.hid ?_
        have HB4 : Hid (Below B W w4) := Lib.hid ((HB3.out.trans (HZ4.out.mono (by have := HB3.out.size; omega))).trans hb4)
        have HO4 : Hid (Oth W w4) := Lib.hid ((HO3.out.trans (Oth.of HZ4.out)).trans ho4)
        have hBw4 : Below B0 w w4 := HBW.out.trans (HB4.out.mono hB0)
        have h5 := (HC.out j hjl).below hg hBw4
        rw [hii, hiv] at h5
        have e0 := h5.1
        have e1 := h5.2.1
        have e2 := h5.2.2.1
        have e3 := h5.2.2.2.1
        have e4 := h5.2.2.2.2
        have HK := Lib.hid (HCj.out w4 v4 (quoteL (acc ++ [44]) key ++ [58]) hBw4 hB0 (Nat.le_trans hsz4 hb4.size) hown4 (by omega))
        clear h5 hb4 ho4 hown4 hrow4 hsz4
        go_wp2_with (go_at_call 18; refine HK.out.mono ?_; rintro e w5 ⟨v5, rfl, hr5, hb5, ho5⟩; refine Hid.out ?_)
        refine Lib.hid ?_
        go_wp2_with fail
        go_roundg g'
        case measure => omega
        case rel => exact ⟨j + 1, appV T (quoteL (acc ++ [44]) key ++ [58]), by go_num, by omega, Lib.hid (HB4.out.trans hb5), Lib.hid (HO4.out.trans ho5), Lib.hid hr5, Lib.hid (by have : (j + 1 == 0) = false := rfl; rw [this]; exact HE3.out), by omega⟩
    · have hdn : its.drop j = [] := List.drop_of_length_le (by have := HL.out; omega)
      have hdk : ks.drop j = [] := List.drop_of_length_le (by have := HKL.out; omega)
      have hXa : acc = X := by
        rw [← HE.out, hdn, hdk]
        cases (j == 0) <;> simp [appP]
      have i2 : ¬ (j : Int) < (len : Int) := by omega
      have hrow2 := HR.out.below (below_new0 wr (.cells #[.int .u8 125] 5))
      have hsz : B ≤ (wr.alloc (.cells #[.int .u8 125] 5)).heap.size := by simp; omega
      go_wp2_with (at_builtin; refine app_u8 (N := [125]) rfl rfl rfl rfl hrow2 (Blk.new _ _ _) rfl (by simp) (by simp; omega) hsz ?_; intro v4 w4 hown4 hb4 ho4)
      go_ret
      have hbn := below_new0 wr (.cells #[.int .u8 125] 5)
      rw [← hXa]
      exact ⟨v4, rfl, hown4, (HB.out.trans (hbn.mono (by omega))).trans hb4, (HO.out.trans (Oth.of hbn)).trans ho4⟩
end Go.Proofs.YtnmfoedfllmclaaGreatDoor
namespace Go.Proofs.YtnmfoedfllmclaaGreatDoor
open Go.RowKit Go.Shelf
set_option linter.unusedVariables false

/-- An object has as many keys as items. -/
def evenT : VT → Prop
  | .node k _ _ its ks => (k = 6 → ks.length = its.length) ∧ ∀ x ∈ its, evenT x
theorem evenT_node {k : Int} {b : Bool} {t : ByteArray} {its : List VT} {ks : List ByteArray} : evenT (.node k b t its ks) ↔ (k = 6 → ks.length = its.length) ∧ ∀ x ∈ its, evenT x := by
  conv => lhs; unfold evenT
theorem shape_five {B : Nat} {w : World} {k : Int} {b : Bool} {t : ByteArray} {x y : Value} {T : VT} (h : Is B w (.agg #[.int .i64 k, .bool b, .string t, x, y]) T) : ∃ ad n cap adk nk capk, x = .slice ad n cap ∧ y = .slice adk nk capk := by
  obtain ⟨k', b', t', ad, n, cap, adk, nk, capk, he⟩ := h.shape
  cases he
  exact ⟨ad, n, cap, adk, nk, capk, rfl, rfl⟩
set_option maxRecDepth 100000 in
set_option maxHeartbeats 4000000 in
theorem appValue_any {B0 : Nat} {w : World} {v : Value} {T : VT} (h : Is B0 w v T) : evenT T → ∀ B, AppC B0 B w v T := by
  induction h with
  | mk k b t its ks ad cap kv g o ik ib it ii iv hk hc hnl ha hcell hrec ih =>
    intro hev B W jv L hb hB0 hB hrow hbd
    obtain ⟨hev1, hev2⟩ := evenT_node.1 hev
    have HRC := Lib.hid (fun j (hj : j < its.length) => ih j hj (hev2 _ (List.getElem_mem hj)) B)
    have HSH := Lib.hid (fun j (hj : j < its.length) => shape_five (hrec j hj))
    have HCE := Lib.hid hcell
    have HA := Lib.hid ha
    have HEV := Lib.hid hev1
    have HKS := Lib.hid hk
    obtain ⟨adk, capk, hkv, -⟩ := id hk
    obtain ⟨nk, hnk⟩ : ∃ nk, ks.length = nk := ⟨_, rfl⟩
    rw [hnk] at hkv
    subst hkv
    obtain ⟨len, hlen⟩ : ∃ len, its.length = len := ⟨_, rfl⟩
    have HL := Lib.hid hlen
    have hlenb : its.length ≤ 140737488355328 := hnl
    rw [hlen]
    have HZ := Lib.hid (below_new0 W (.cells #[.int .i64 k, .bool b, .string t, .slice ad len cap, .slice adk nk capk] 26))
    obtain ⟨Wz, hWz⟩ : ∃ Wz, W.alloc (.cells #[.int .i64 k, .bool b, .string t, .slice ad len cap, .slice adk nk capk] 26) = Wz := ⟨_, rfl⟩
    rw [hWz] at HZ
    have HV : Blk Wz W.heap.size #[.int .i64 k, .bool b, .string t, .slice ad len cap, .slice adk nk capk] 26 := by rw [← hWz]; exact Blk.new _ _ _
    have c0 := HV.cell 0
    have c1 := HV.cell 1
    have c2 := HV.cell 2
    have c3 := HV.cell 3
    have c4 := HV.cell 4
    have hrz := Lib.hid (hrow.below HZ.out)
    have hBz : B ≤ Wz.heap.size := Nat.le_trans hB HZ.out.size
    have HBB : Hid (Below B W Wz) := Lib.hid (HZ.out.mono hB)
    have HOO : Hid (Oth W Wz) := Lib.hid (Oth.of HZ.out)
    have hLX := appV_le (.node k b t its ks) L
    have HBw : Hid (Below B0 w Wz) := Lib.hid (hb.trans (HZ.out.mono (by omega)))
    have hL : L.length ≤ 10000000000 := by omega
    clear hcell hrec ih ha hk HV hrow hc hnl hev hev1 hev2 hlen hb
    by_cases h2 : k = 2
    · subst h2
      have hX : appV (.node 2 b t its ks) L = L ++ (if b then [116, 114, 117, 101] else [102, 97, 108, 115, 101]) := by unfold appV; rfl
      rw [hX] at hLX hbd ⊢
      have HK := Lib.hid (appBool2_any (b := b) hrz.out hBz hL)
      generalize L ++ (if b then ([116, 114, 117, 101] : List UInt8) else [102, 97, 108, 115, 101]) = X at *
      go_enter Tryz.func18, Tryz.ntmps18
      go_wp2_with (go_at_call 34; refine HK.out.mono ?_; rintro e w3 hE; obtain ⟨v3, rfl, hr3, hb3, ho3⟩ := AppE.after HBB.out HOO.out hE)
      go_ret
      exact ⟨v3, rfl, hr3, hb3, ho3⟩
    by_cases h3 : k = 3
    · subst h3
      have hX : appV (.node 3 b t its ks) L = L ++ t.data.toList := by unfold appV; rfl
      rw [hX] at hLX hbd ⊢
      go_enter Tryz.func18, Tryz.ntmps18
      go_wp2_with (at_builtin; refine app_str (t := t) rfl rfl rfl rfl hrz.out (by rw [List.length_append, ← Lib.size_eq] at hbd; omega) hBz ?_; intro v3 w3 hr3 hb3 ho3)
      go_ret
      exact ⟨v3, rfl, hr3, HBB.out.trans hb3, HOO.out.trans ho3⟩
    by_cases h4 : k = 4
    · subst h4
      have hX : appV (.node 4 b t its ks) L = quoteL L t := by unfold appV; rfl
      rw [hX] at hLX hbd ⊢
      have HK := Lib.hid (appText_any (t := t) hrz.out hBz hbd)
      generalize quoteL L t = X at *
      go_enter Tryz.func18, Tryz.ntmps18
      go_wp2_with (go_at_call 35; refine HK.out.mono ?_; rintro e w3 hE; obtain ⟨v3, rfl, hr3, hb3, ho3⟩ := AppE.after HBB.out HOO.out hE)
      go_ret
      exact ⟨v3, rfl, hr3, hb3, ho3⟩
    by_cases h5 : k = 5
    · subst h5
      have hX : appV (.node 5 b t its ks) L = appI its true (L ++ [91]) ++ [93] := by unfold appV; rfl
      rw [hX] at hLX hbd ⊢
      have HK := Lib.hid (appList_any (cap := cap) HA.out HCE.out HSH.out HRC.out HBw.out hB0 hBz hrz.out (by rw [List.length_append] at hbd; omega) (by omega))
      rw [HL.out] at HK
      generalize appI its true (L ++ [91]) ++ [93] = X at *
      go_enter Tryz.func18, Tryz.ntmps18
      go_wp2_with (go_at_call 36; refine HK.out.mono ?_; rintro e w3 hE; obtain ⟨v3, rfl, hr3, hb3, ho3⟩ := AppE.after HBB.out HOO.out hE)
      go_ret
      exact ⟨v3, rfl, hr3, hb3, ho3⟩
    by_cases h6 : k = 6
    · subst h6
      have hX : appV (.node 6 b t its ks) L = appP ks its true (L ++ [123]) ++ [125] := by unfold appV; rfl
      rw [hX] at hLX hbd ⊢
      have HK := Lib.hid (appObj_any (cap := cap) HKS.out (HEV.out rfl) HA.out HCE.out HSH.out HRC.out HBw.out hB0 hBz hrz.out (by rw [List.length_append] at hbd; omega) (by omega))
      rw [HL.out] at HK
      generalize appP ks its true (L ++ [123]) ++ [125] = X at *
      go_enter Tryz.func18, Tryz.ntmps18
      go_wp2_with (go_at_call 37; refine HK.out.mono ?_; rintro e w3 hE; obtain ⟨v3, rfl, hr3, hb3, ho3⟩ := AppE.after HBB.out HOO.out hE)
      go_ret
      exact ⟨v3, rfl, hr3, hb3, ho3⟩
    have hX : appV (.node k b t its ks) L = L ++ [110, 117, 108, 108] := by unfold appV; rw [if_neg h2, if_neg h3, if_neg h4, if_neg h5, if_neg h6]
    rw [hX] at hLX hbd ⊢
    have b2 : (k == 2) = false := beq_eq_false_iff_ne.2 h2
    have b3 : (k == 3) = false := beq_eq_false_iff_ne.2 h3
    have b4 : (k == 4) = false := beq_eq_false_iff_ne.2 h4
    have b5 : (k == 5) = false := beq_eq_false_iff_ne.2 h5
    have b6 : (k == 6) = false := beq_eq_false_iff_ne.2 h6
    clear h2 h3 h4 h5 h6
    go_enter Tryz.func18, Tryz.ntmps18
    go_wp2_with (at_builtin; refine app_str (t := ⟨#[110, 117, 108, 108]⟩) rfl rfl rfl rfl hrz.out (show L.length + 4 ≤ _ by omega) hBz ?_; intro v3 w3 hr3 hb3 ho3)
    go_ret
    exact ⟨v3, rfl, hr3, HBB.out.trans hb3, HOO.out.trans ho3⟩
end Go.Proofs.YtnmfoedfllmclaaGreatDoor
namespace Go.Proofs
open Go.Shelf
def Tryz.lays196_ren : Go.Shelf.Ren := ⟨fun | 196 => 33 | 259 => 53 | n => n, fun | 9 => 9 | 4 => 4 | 3 => 3 | 5 => 5 | 12 => 12 | 119 => 87 | 0 => 0 | 46 => 45 | 139 => 90 | 138 => 89 | 53 => 100 | n => n, fun | 3 => 0 | 4 => 1 | n => n⟩
theorem Tryz.lays196 : Go.Proofs.Lays.n196 Tryz.prog Tryz.lays196_ren := {
  mixed := by kernel_rfl
  f196 := Tryz.func33.trans (congrArg some (by kernel_rfl))
  f259 := Tryz.func53.trans (congrArg some (by kernel_rfl))
  t0 := Tryz.underlying0
  a0 := Tryz.isAgg0
  z0 := Tryz.sizeOf0
  v0 := Tryz.zeroValue0
  t3 := Tryz.underlying3
  a3 := Tryz.isAgg3
  z3 := Tryz.sizeOf3
  v3 := Tryz.zeroValue3
  t4 := Tryz.underlying4
  a4 := Tryz.isAgg4
  z4 := Tryz.sizeOf4
  v4 := Tryz.zeroValue4
  t5 := Tryz.underlying5
  a5 := Tryz.isAgg5
  z5 := Tryz.sizeOf5
  v5 := Tryz.zeroValue5
  t9 := Tryz.underlying9
  a9 := Tryz.isAgg9
  z9 := Tryz.sizeOf9
  v9 := Tryz.zeroValue9
  t12 := Tryz.underlying12
  a12 := Tryz.isAgg12
  z12 := Tryz.sizeOf12
  v12 := Tryz.zeroValue12
  t46 := Tryz.underlying45
  a46 := Tryz.isAgg45
  z46 := Tryz.sizeOf45
  v46 := Tryz.zeroValue45
  t53 := Tryz.underlying100
  a53 := Tryz.isAgg100
  z53 := Tryz.sizeOf100
  v53 := Tryz.zeroValue100
  t119 := Tryz.underlying87
  a119 := Tryz.isAgg87
  z119 := Tryz.sizeOf87
  t138 := Tryz.underlying89
  a138 := Tryz.isAgg89
  z138 := Tryz.sizeOf89
  v138 := Tryz.zeroValue89
  t139 := Tryz.underlying90
  a139 := Tryz.isAgg90
  z139 := Tryz.sizeOf90
  v139 := Tryz.zeroValue90
  g3 := by kernel_rfl
  g4 := by kernel_rfl }
end Go.Proofs
namespace Go.Proofs.YtnmfoedfllmclaaGreatDoor
open Go.RowKit Go.Shelf
set_option linter.unusedVariables false

def utfS (t : ByteArray) : Bool := Lib.validD t.data.toList
mutual
def utfT : VT → Bool
  | .node _ _ t its ks => utfS t && (ks.all utfS && utfL its)
def utfL : List VT → Bool
  | [] => true
  | x :: l => utfT x && utfL l
end
theorem utfL_all {l : List VT} (h : ∀ i (h : i < l.length), utfT l[i] = true) : utfL l = true := by
  induction l with
  | nil => rfl
  | cons a l ih =>
    unfold utfL
    rw [show utfT a = true from h 0 (by simp), ih (fun i hi => h (i + 1) (by simpa using hi))]
    rfl
theorem utfL_not {l : List VT} {j : Nat} (hj : j < l.length) (h : utfT l[j] = false) : utfL l = false := by
  induction l generalizing j with
  | nil => simp at hj
  | cons a l ih =>
    unfold utfL
    cases j with
    | zero => rw [show utfT a = false from h]; rfl
    | succ j =>
      rw [ih (j := j) (by simpa using hj) (by simpa using h)]
      simp
theorem all_not {l : List ByteArray} {j : Nat} (hj : j < l.length) (h : utfS l[j] = false) : l.all utfS = false := by
  rw [List.all_eq_false]
  exact ⟨l[j], List.getElem_mem hj, by rw [h]; simp⟩
theorem all_all {l : List ByteArray} (h : ∀ i (h : i < l.length), utfS l[i] = true) : l.all utfS = true := by
  rw [List.all_eq_true]
  intro x hx
  obtain ⟨i, hi, rfl⟩ := List.mem_iff_getElem.1 hx
  exact h i hi
theorem valid_str (s : ByteArray) (hs : s.size ≤ 9223372036854775807) {w : World} (hR : ReadyJ w) : Calls Tryz.prog 33 #[.string s] w fun e w' => e = .returned (.bool (utfS s)) ∧ Below w.heap.size w w' := Any.utf8_ValidString Tryz.lays196 s w hs hR.tabs
/-- Nothing in the tree is longer than a string may be. -/
def shortT : VT → Prop
  | .node _ _ t its ks => t.size ≤ 9223372036854775807 ∧ (∀ k ∈ ks, k.size ≤ 9223372036854775807) ∧ ∀ x ∈ its, shortT x
theorem shortT_node {k : Int} {b : Bool} {t : ByteArray} {its : List VT} {ks : List ByteArray} : shortT (.node k b t its ks) ↔ t.size ≤ 9223372036854775807 ∧ (∀ k ∈ ks, k.size ≤ 9223372036854775807) ∧ ∀ x ∈ its, shortT x := by
  conv => lhs; unfold shortT
set_option maxRecDepth 100000 in
set_option maxHeartbeats 4000000 in
theorem allUTF8_any {B : Nat} {w : World} {v : Value} {T : VT} (h : Is B w v T) : shortT T → ∀ (W : World), Below B w W → B ≤ W.heap.size → ReadyJ W → Calls Tryz.prog 17 #[v] W fun e w' => e = .returned (.bool (utfT T)) ∧ Below W.heap.size W w' := by
  induction h with
  | mk k b t its ks ad cap kv g o ik ib it ii iv hk hc hnl ha hcell hrec ih =>
    intro hsh W hb hBW hR
    obtain ⟨hs1, hs2, hs3⟩ := shortT_node.1 hsh
    obtain ⟨adk, capk, rfl, -, hknl, hkp⟩ := hk
    have HA := Lib.hid ha
    have HC := Lib.hid hcell
    have HIS := Lib.hid hrec
    have IH := Lib.hid (fun j (hj : j < its.length) => ih j hj (hs3 _ (List.getElem_mem hj)))
    have HKP := Lib.hid hkp
    have HS2 := Lib.hid hs2
    have HR := Lib.hid hR
    have HBW := Lib.hid hb
    obtain ⟨len, hlen⟩ : ∃ len, its.length = len := ⟨_, rfl⟩
    obtain ⟨nk, hnk⟩ : ∃ nk, ks.length = nk := ⟨_, rfl⟩
    have HL := Lib.hid hlen
    have HK := Lib.hid hnk
    rw [hlen] at hc hnl ⊢
    rw [hnk] at hknl ⊢
    obtain ⟨Wz, hWz⟩ : ∃ Wz, W.alloc (.cells #[.int .i64 k, .bool b, .string t, .slice ad len cap, .slice adk nk capk] 26) = Wz := ⟨_, rfl⟩
    have hk0 : Blk Wz W.heap.size #[.int .i64 k, .bool b, .string t, .slice ad len cap, .slice adk nk capk] 26 := by rw [← hWz]; exact Blk.new _ _ _
    have HZ : Hid (Below W.heap.size W Wz) := by rw [← hWz]; exact Lib.hid (below_new0 _ _)
    have c2 := hk0.cell 2
    have HK0 := Lib.hid hk0
    have HRZ := Lib.hid (hR.below HZ.out)
    clear ha hcell hrec ih hlen hnk hk0 hR hb hkp hs2 hs3 hsh
    cases hv : utfS t
    · have HT : Hid (utfT (.node k b t its ks) = false) := Lib.hid (by unfold utfT; rw [hv]; rfl)
      have HV := Lib.hid (valid_str t hs1 HRZ.out)
      rw [hv] at HV
      clear hv
      go_enter Tryz.func17, Tryz.ntmps17
      go_wp2_with (go_at_call 33; refine HV.out.mono ?_; rintro e w2 ⟨rfl, hb2⟩)
      go_ret
      rw [HT.out]
      exact ⟨rfl, HZ.out.trans (hb2.mono HZ.out.size)⟩
    · have HT : Hid (utfT (.node k b t its ks) = (ks.all utfS && utfL its)) := Lib.hid (by unfold utfT; rw [hv]; rfl)
      rw [HT.out]
      have HV := Lib.hid (valid_str t hs1 HRZ.out)
      rw [hv] at HV
      clear hv HT
      go_enter Tryz.func17, Tryz.ntmps17
      go_wp2_with (go_at_call 33; refine HV.out.mono ?_; rintro e w2 ⟨rfl, hb2⟩; have c4 := (HK0.out.below hb2).cell 4; refine Hid.out ?_)
      refine Lib.hid ?_
      have HB2 : Hid (Below W.heap.size W w2) := Lib.hid (HZ.out.trans (hb2.mono HZ.out.size))
      have HK2 := Lib.hid (HK0.out.below hb2)
      have HR2 := Lib.hid (HRZ.out.below hb2)
      clear hb2
      go_wp2_with fail
      go_loopg [14] (nk + 1) (fun gf s14 wx => ∃ j : Nat, s14 = .int .i64 (j : Int) ∧ j ≤ nk ∧ Hid (∀ i (h : i < ks.length), i < j → utfS ks[i] = true) ∧ Hid (Below W.heap.size W wx) ∧ Hid (Blk wx W.heap.size #[.int .i64 k, .bool b, .string t, .slice ad len cap, .slice adk nk capk] 26) ∧ Hid (ReadyJ wx) ∧ nk - j < gf)
      case atStart => exact ⟨0, rfl, by omega, Lib.hid (fun i _ h => by omega), HB2, HK2, HR2, by omega⟩
      case round =>
        obtain ⟨j, rfl, hj, HI, HB, HBK, HRR, hf⟩ := hrel
        obtain ⟨g', rfl⟩ : ∃ g', gk = g' + 1 := ⟨gk - 1, by omega⟩
        by_cases hlt : j < nk
        · have hjk : j < ks.length := by have := HK.out; omega
          obtain ⟨gk2, ok2, rfl, hgk, hkc⟩ := HKP.out (by omega)
          have hBw : Below B w wr := HBW.out.trans (HB.out.mono hBW)
          have k0 : wr.cell? ⟨gk2, ok2 + j, none⟩ = some (.string ks[j]) := (Below.cell hBw (by show gk2 < B; exact hgk)).trans (hkc j hjk)
          have i1 : (0 : Int) ≤ (j : Int) := by omega
          have i2 : (j : Int) < (nk : Int) := by omega
          have hw : IntKind.i64.wrap ((j : Int) + 1) = (j : Int) + 1 := IntWalk.i64_in _ (by omega)
          have HV2 := Lib.hid (valid_str ks[j] (HS2.out _ (List.getElem_mem hjk)) HRR.out)
          obtain ⟨d, hd⟩ : ∃ d, utfS ks[j] = d := ⟨_, rfl⟩
          rw [hd] at HV2
          have HD := Lib.hid hd
          obtain ⟨key, hkey⟩ : ∃ key, ks[j] = key := ⟨_, rfl⟩
          rw [hkey] at k0 HV2
          clear hd hkey hkc
          cases d
          · go_wp2_with (go_at_call 33; refine HV2.out.mono ?_; rintro e w3 ⟨rfl, hb3⟩)
            go_ret
            rw [all_not hjk HD.out]
            exact ⟨rfl, HB.out.trans (hb3.mono HB.out.size)⟩
          · go_wp2_with (go_at_call 33; refine HV2.out.mono ?_; rintro e w3 ⟨rfl, hb3⟩)
            go_roundg g'
            case measure => omega
            case rel =>
              refine ⟨j + 1, by go_num, by omega, Lib.hid (fun i hi hij => ?_), Lib.hid (HB.out.trans (hb3.mono HB.out.size)), Lib.hid (HBK.out.below hb3), Lib.hid (HRR.out.below hb3), by omega⟩
              rcases Nat.eq_or_lt_of_le (show i ≤ j by omega) with h | h
              · subst h; exact HD.out
              · exact HI.out i hi h
        · have HKA : Hid (ks.all utfS = true) := Lib.hid (all_all (fun i hi => HI.out i hi (by have := HK.out; omega)))
          have i2 : ¬ (j : Int) < (nk : Int) := by omega
          have c3 := HBK.out.cell 3
          go_wp2_with fail
          go_loopg [25] (len + 1) (fun gf s25 wx => ∃ j : Nat, s25 = .int .i64 (j : Int) ∧ j ≤ len ∧ Hid (∀ i (h : i < its.length), i < j → utfT its[i] = true) ∧ Hid (Below W.heap.size W wx) ∧ Hid (ReadyJ wx) ∧ len - j < gf)
          case atStart => exact ⟨0, rfl, by omega, Lib.hid (fun i _ h => by omega), HB, HRR, by omega⟩
          case round =>
            obtain ⟨j2, rfl, hj2, HI2, HB4, HR4, hf2⟩ := hrel
            obtain ⟨g2', rfl⟩ : ∃ g2', gk = g2' + 1 := ⟨gk - 1, by omega⟩
            by_cases hlt2 : j2 < len
            · have hjl : j2 < its.length := by have := HL.out; omega
              obtain ⟨rfl, hg⟩ := HA.out (by omega)
              have hBw : Below B w wr := HBW.out.trans (HB4.out.mono hBW)
              obtain ⟨adj, nj, capj, adkj, nkj, capkj, hii, hiv⟩ := shape_five (HIS.out j2 hjl)
              have h5 := (HC.out j2 hjl).below hg hBw
              have hIH := IH.out j2 hjl
              rw [hii, hiv] at h5 hIH
              have e0 := h5.1
              have e1 := h5.2.1
              have e2 := h5.2.2.1
              have e3 := h5.2.2.2.1
              have e4 := h5.2.2.2.2
              have i1 : (0 : Int) ≤ (j2 : Int) := by omega
              have i2 : (j2 : Int) < (len : Int) := by omega
              have hw : IntKind.i64.wrap ((j2 : Int) + 1) = (j2 : Int) + 1 := IntWalk.i64_in _ (by omega)
              obtain ⟨d, hd⟩ : ∃ d, utfT its[j2] = d := ⟨_, rfl⟩
              rw [hd] at hIH
              have HD := Lib.hid hd
              generalize ik j2 = kj at *
              generalize ib j2 = bj at *
              generalize it j2 = tj at *
              have HN := Lib.hid (below_new0 wr (.cells #[.int .i64 kj, .bool bj, .string tj, .slice adj nj capj, .slice adkj nkj capkj] 26))
              have hbv := Blk.new wr #[.int .i64 kj, .bool bj, .string tj, .slice adj nj capj, .slice adkj nkj capkj] 26
              have q0 := hbv.cell 0
              have q1 := hbv.cell 1
              have q2 := hbv.cell 2
              have q3 := hbv.cell 3
              have q4 := hbv.cell 4
              have HU := Lib.hid (hIH _ (hBw.trans (HN.out.mono (by have := HB4.out.size; omega))) (by have := HB4.out.size; simp; omega) (HR4.out.below HN.out))
              clear hd h5 hii hiv hIH hbv
              cases d
              · go_wp2_with (go_at_call 17; refine HU.out.mono ?_; rintro e w5 ⟨rfl, hb5⟩)
                go_ret
                rw [HKA.out, utfL_not hjl HD.out]
                exact ⟨rfl, HB4.out.trans ((HN.out.trans (hb5.mono HN.out.size)).mono HB4.out.size)⟩
              · go_wp2_with (go_at_call 17; refine HU.out.mono ?_; rintro e w5 ⟨rfl, hb5⟩)
                have HX := Lib.hid (HN.out.trans (hb5.mono HN.out.size))
                go_roundg g2'
                case measure => omega
                case rel =>
                  refine ⟨j2 + 1, by go_num, by omega, Lib.hid (fun i hi hij => ?_), Lib.hid (HB4.out.trans (HX.out.mono HB4.out.size)), Lib.hid (HR4.out.below HX.out), by omega⟩
                  rcases Nat.eq_or_lt_of_le (show i ≤ j2 by omega) with h | h
                  · subst h; exact HD.out
                  · exact HI2.out i hi h
            · have hT : utfL its = true := utfL_all (fun i hi => HI2.out i hi (by have := HL.out; omega))
              have i2 : ¬ (j2 : Int) < (len : Int) := by omega
              go_wp2
              go_ret
              rw [HKA.out]
              exact ⟨rfl, HB4.out⟩
end Go.Proofs.YtnmfoedfllmclaaGreatDoor
