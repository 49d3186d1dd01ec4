/- ValueMakes: its walk -/
import Derived.Deep.RegionHeld3
import Derived.Deep.DrawnRows
import Derived.Deep.DeepCutAuto
import Derived.Deep.QuietTactic
import Derived.BigQuiet
import Derived.Test.YtjgbhnbfojkhoaaDoorMk33
import Derived.Test.YtjgbhnbfojkhoaaDoorMk34
import Derived.Test.YtjgbhnbfojkhoaaDoorMk36
import Derived.Test.YtjgbhnbfojkhoaaDoorMk37
namespace Go.Proofs.YtjgbhnbfojkhoaaDoor
open Go.RowKit
set_option linter.unusedVariables false
attribute [local go_sem ↓] Go.wp_at_zero Go.wp_at_succ

theorem keepE {w9 w' : World} {a0 a1 a2 a3 a4 a5 a6 a7 a8 a9 a10 a11 a12 a13 a14 : Addr} {v0 v1 v2 v3 v4 v5 v6 v7 v8 v9 v10 v11 v12 v13 v14 : Value} (h : Hid (w9.cell? a0 = some v0 ∧ w9.cell? a1 = some v1 ∧ w9.cell? a2 = some v2 ∧ w9.cell? a3 = some v3 ∧ w9.cell? a4 = some v4 ∧ w9.cell? a5 = some v5 ∧ w9.cell? a6 = some v6 ∧ w9.cell? a7 = some v7 ∧ w9.cell? a8 = some v8 ∧ w9.cell? a9 = some v9 ∧ w9.cell? a10 = some v10 ∧ w9.cell? a11 = some v11 ∧ w9.cell? a12 = some v12 ∧ w9.cell? a13 = some v13 ∧ w9.cell? a14 = some v14)) (hb : Below w9.heap.size w9 w') :
    Hid (Below w9.heap.size w9 w') ∧ w'.cell? a0 = some v0 ∧ w'.cell? a1 = some v1 ∧ w'.cell? a2 = some v2 ∧ w'.cell? a3 = some v3 ∧ w'.cell? a4 = some v4 ∧ w'.cell? a5 = some v5 ∧ w'.cell? a6 = some v6 ∧ w'.cell? a7 = some v7 ∧ w'.cell? a8 = some v8 ∧ w'.cell? a9 = some v9 ∧ w'.cell? a10 = some v10 ∧ w'.cell? a11 = some v11 ∧ w'.cell? a12 = some v12 ∧ w'.cell? a13 = some v13 ∧ w'.cell? a14 = some v14 := by
  obtain ⟨q0, q1, q2, q3, q4, q5, q6, q7, q8, q9, q10, q11, q12, q13, q14⟩ := h.out
  exact ⟨Lib.hid hb, cells_keep hb q0, cells_keep hb q1, cells_keep hb q2, cells_keep hb q3, cells_keep hb q4, cells_keep hb q5, cells_keep hb q6, cells_keep hb q7, cells_keep hb q8, cells_keep hb q9, cells_keep hb q10, cells_keep hb q11, cells_keep hb q12, cells_keep hb q13, cells_keep hb q14⟩
theorem keepF {w9 w1 w2 : World} {a : Addr} {v : Value} (h : Hid (Below w9.heap.size w9 w1) ∧ w1.cell? a = some v) (hb : Below w1.heap.size w1 w2) : Hid (Below w9.heap.size w9 w2) ∧ w2.cell? a = some v := ⟨Lib.hid (h.1.out.trans (hb.mono h.1.out.size)), cells_keep hb h.2⟩
theorem scal_is (B : Nat) (W : World) (k : Int) (b : Bool) (t : ByteArray) : Is B W (.agg #[.int .i64 k, .bool b, .string t, .slice none 0 0, .slice none 0 0]) (.node k b t [] []) :=
  Is.mk k b t [] [] none 0 (.slice none 0 0) 0 0 (fun _ => 0) (fun _ => false) (fun _ => ⟨#[]⟩) (fun _ => undef) (fun _ => undef) (strs_nil0 B W) (by simp) (by simp) (fun h => absurd h (by simp)) (fun j h => absurd h (by simp)) (fun j h => absurd h (by simp))
theorem known_unknown (W : World) : Calls Tryd.prog 16 #[.agg #[.int .i64 1, .bool false, .string ⟨#[]⟩, .slice none 0 0, .slice none 0 0] ] W fun e w' => e = .returned (.bool false) ∧ Below W.heap.size W w' := by
  have := vKnown_any (scal_is W.heap.size W 1 false ⟨#[]⟩) W (Below.refl _ _) (Nat.le_refl _)
  have e : knownT (.node 1 false ⟨#[]⟩ [] []) = false := by simp [knownT]
  rwa [e] at this
theorem known_int (sn : ByteArray) (W : World) : Calls Tryd.prog 16 #[.agg #[.int .i64 3, .bool false, .string sn, .slice none 0 0, .slice none 0 0] ] W fun e w' => e = .returned (.bool true) ∧ Below W.heap.size W w' := by
  have := vKnown_any (scal_is W.heap.size W 3 false sn) W (Below.refl _ _) (Nat.le_refl _)
  have e : knownT (.node 3 false sn [] []) = true := by simp [knownT, knownL]
  rwa [e] at this
theorem vUnknown_any (w : World) : Calls Tryd.prog 13 #[] w fun e w' => e = .returned (scal 1 false ⟨#[]⟩) ∧ Below w.heap.size w w' := by
  go_enter Tryd.func13, Tryd.ntmps13
  go_wp2
  refine bodyPost_ret (v := scal 1 false ⟨#[]⟩) ?_ rfl ⟨rfl, below_new _ _⟩
  simp [results, Tryd.results13, go_sem, scal]
theorem sameTT {W : World} {a b : Value} {T : VT} (ha : Is W.heap.size W a T) (hb : Is W.heap.size W b T) : Calls Tryd.prog 11 #[a, b] W fun e w' => e = .returned (.bool true) ∧ Below W.heap.size W w' := by
  have := same_any ha b T W hb (Below.refl _ _) (Nat.le_refl _)
  rw [sameT_refl] at this
  exact this
set_option maxRecDepth 100000 in
set_option maxHeartbeats 4000000 in
theorem makesLaw_any {W : World} {kv iv : Value} {ks : List ByteArray} {xs : List It} {n : Int} (hk : StrsAt W.heap.size W kv ks) (hx : ItemsAt W.heap.size W iv xs) (hn1 : -9223372036854775808 ≤ n) (hn2 : n ≤ 9223372036854775807) (ht : Tab W.heap.size W) :
    Calls Tryd.prog 4 #[kv, iv, .int .i64 n] W fun e w' => e = .returned (.bool true) ∧ Below W.heap.size W w' := by
  have HAW := Lib.hid (fun W' => awake_any W')
  have HK := Lib.hid hk
  have HX := Lib.hid hx
  have HT := Lib.hid ht
  have hk0 := hk
  have hx0 := hx
  obtain ⟨ad, cap, rfl, hnc, hcap, hks⟩ := hk0
  obtain ⟨adx, capx, rfl, hncx, hcapx, hxs, hok⟩ := hx0
  have HXS := Lib.hid hxs
  have HOK := Lib.hid hok
  have HKS := Lib.hid hks
  obtain ⟨nk, hnk⟩ : ∃ nk, ks.length = nk := ⟨_, rfl⟩
  obtain ⟨ni, hni⟩ : ∃ ni, xs.length = ni := ⟨_, rfl⟩
  have HNK := Lib.hid hnk
  have HNI := Lib.hid hni
  rw [hnk] at hcap hnc HK ⊢
  rw [hni] at hcapx hncx HX ⊢
  clear hk hx ht hks hxs hok hnk hni
  by_cases hbig : 200 < nk
  · have j1 : (200 : Int) < (nk : Int) := by omega
    go_enter Tryd.func4, Tryd.ntmps4
    go_wp2_with fail
    go_at_call 6; refine (HAW.out _).mono ?_; rintro e w1 ⟨rfl, hb1⟩
    go_wp2_with fail
    go_at_call 6; refine (HAW.out _).mono ?_; rintro e w2 ⟨rfl, hb2⟩
    go_wp2_with fail
    go_ret
    exact ⟨rfl, hb1.trans (hb2.mono hb1.size)⟩
  by_cases hbig2 : 200 < ni
  · have j1 : (nk : Int) ≤ (200 : Int) := by omega
    have j2 : (200 : Int) < (ni : Int) := by omega
    go_enter Tryd.func4, Tryd.ntmps4
    go_wp2_with fail
    go_at_call 6; refine (HAW.out _).mono ?_; rintro e w1 ⟨rfl, hb1⟩
    go_wp2_with fail
    go_at_call 6; refine (HAW.out _).mono ?_; rintro e w2 ⟨rfl, hb2⟩
    go_wp2_with fail
    go_ret
    exact ⟨rfl, hb1.trans (hb2.mono hb1.size)⟩
  have j1 : (nk : Int) ≤ (200 : Int) := by omega
  have j2 : (ni : Int) ≤ (200 : Int) := by omega
  go_enter Tryd.func4, Tryd.ntmps4
  go_wp2_with fail
  go_at_call 6; refine (HAW.out _).mono ?_; rintro e w1 ⟨rfl, hb1⟩
  have HB1 := Lib.hid hb1
  clear hb1
  go_wp2_with fail
  go_loopw [7, 30] (fun _ jv wl => ∃ i : Nat, jv = .int .i64 i ∧ i ≤ ni ∧ Hid (Below W.heap.size W wl) ∧ Hid (∀ j (h : j < xs.length), j < i → goodT xs[j].T = true)) (fun _ jv _ => ni - (intOf jv).toNat)
  case atStart => exact ⟨0, rfl, by omega, HB1, Lib.hid (fun j h hj => by omega)⟩
  case round =>
    obtain ⟨i, rfl, hi, HB, HG⟩ := hrel
    clear HB1 HAW
    by_cases hlt : i < ni
    · have hix : i < xs.length := by rw [HNI.out]; exact hlt
      obtain ⟨g, o, rfl, hg, hc⟩ := HXS.out (by omega)
      have hF := (hc i hix).below hg HB.out
      have hoke := HOK.out xs[i] (List.getElem_mem hix)
      have HGd := Lib.hid (rGood_any hoke wr HB.out HB.out.size)
      obtain ⟨ex, hex⟩ : ∃ ex, xs[i] = ex := ⟨_, rfl⟩
      have HEX := Lib.hid hex
      rw [hex] at hF hoke HGd
      obtain ⟨sa, sn, sc, sk, sm, sd, sh1, sh2⟩ := hoke.shape
      obtain ⟨x1, x2, x3, x4, x5, xT⟩ := ex
      simp only at sh1 sh2 hF
      subst sh1
      subst sh2
      unfold It.val at HGd
      simp only at HGd
      obtain ⟨e0, e1, e2, e3, e4⟩ := hF
      have i1 : (0 : Int) ≤ (i : Int) := by omega
      have i2 : (i : Int) < (ni : Int) := by omega
      clear hc hoke hex
      cases hgt : goodT xT
      · rw [hgt] at HGd
        go_wp2_with fail
        go_at_call 8; refine HGd.out.mono ?_; rintro e w2 ⟨rfl, hb2⟩
        go_wp2_with fail
        go_ret
        exact ⟨rfl, HB.out.trans (hb2.mono HB.out.size)⟩
      · rw [hgt] at HGd
        have HG2 : Hid (∀ j (h : j < xs.length), j < i + 1 → goodT xs[j].T = true) := Lib.hid (fun j h hj => by
          rcases Nat.lt_or_ge j i with h1 | h1
          · exact HG.out j h h1
          · obtain rfl : j = i := by omega
            rw [HEX.out]; exact hgt)
        clear hgt
        go_wp2_with fail
        go_at_call 8; refine HGd.out.mono ?_; rintro e w2 ⟨rfl, hb2⟩
        have HB2 := Lib.hid (HB.out.trans (hb2.mono HB.out.size))
        clear e0 e1 e2 e3 e4 hb2
        go_wp2_with fail
        go_roundw
        case rel => exact ⟨i + 1, by go_num, by omega, HB2, HG2⟩
        case measure => simp [intOf]; omega
    · obtain rfl : i = ni := by omega
      have HSM : Hid (∀ e ∈ xs, smallT e.T) := Lib.hid (fun e he => by
        obtain ⟨j, hj, rfl⟩ := List.getElem_of_mem he
        exact goodT_small (HG.out j hj (by have := HNI.out; omega)))
      obtain ⟨TT, c, hv, hr⟩ := makes_fix HK.out HX.out HSM.out (by have := HNK.out; omega)
      have HV := Lib.hid hv
      have HR := Lib.hid hr
      obtain ⟨adk', capk', w3, hrun, hsf, hbE, hltE⟩ := run_append_keys HK.out (HB.out.trans ((below_new wr (.cells #[] 9)).mono HB.out.size)) (by have := HNK.out; omega) wr.heap.size (Blk.new wr #[] 9) 24
      rw [HNK.out] at hrun hsf
      have HRUN := Lib.hid hrun
      have HB3 := Lib.hid ((HB.out.trans ((below_new wr (.cells #[] 9)).mono HB.out.size)).trans (hbE.mono HB.out.size))
      have HST := Lib.hid (hsf.at)
      clear hv hr hrun hsf hbE hltE HG HSM
      go_wp2_with (at_builtin; refine wpList_append_run rfl (.tmp 41) (.tmp 42) 24 rfl rfl rfl HRUN.out ?_)
      go_at_call 9; refine (HV.out _ _ HB3.out HST.out).mono ?_; rintro e w4 ⟨v4, rfl, hi4, hb4⟩
      obtain ⟨k4, b4, t4, ad4, n4, cap4, adk4, nk4, capk4, rfl⟩ := hi4.shape
      have hbn := below_new w4 (.cells #[.int .i64 k4, .bool b4, .string t4, .slice ad4 n4 cap4, .slice adk4 nk4 capk4] 26)
      have HB5 := Lib.hid ((HB3.out.trans (hb4.mono HB3.out.size)).trans (hbn.mono (Nat.le_trans HB3.out.size hb4.size)))
      have HI5 := Lib.hid ((hi4.later hbn).wide hbn.size)
      have HX5 := Lib.hid (Blk.new w4 #[.int .i64 k4, .bool b4, .string t4, .slice ad4 n4 cap4, .slice adk4 nk4 capk4] 26)
      clear hi4 hb4 hbn HST HRUN HV
      go_wp2_with fail
      go_at_call 10; refine (HR.out _ HB5.out).mono ?_; rintro e w6 ⟨v6, rfl, hi6, hb6⟩
      obtain ⟨k6, b6, t6, ad6, n6, cap6, adk6, nk6, capk6, rfl⟩ := hi6.shape
      have hbn := below_new w6 (.cells #[.int .i64 k6, .bool b6, .string t6, .slice ad6 n6 cap6, .slice adk6 nk6 capk6] 26)
      have hb67 := hb6.trans (hbn.mono hb6.size)
      have HB7 := Lib.hid (HB5.out.trans (hb67.mono HB5.out.size))
      have HI7 := Lib.hid ((HI5.out.later hb67).wide hb67.size)
      have HJ7 := Lib.hid ((hi6.later hbn).wide hbn.size)
      have hx5 := HX5.out.below hb67
      have hx7 := Blk.new w6 #[.int .i64 k6, .bool b6, .string t6, .slice ad6 n6 cap6, .slice adk6 nk6 capk6] 26
      have p0 := hx5.cell 0
      have p1 := hx5.cell 1
      have p2 := hx5.cell 2
      have p3 := hx5.cell 3
      have p4 := hx5.cell 4
      have q0 := hx7.cell 0
      have q1 := hx7.cell 1
      have q2 := hx7.cell 2
      have q3 := hx7.cell 3
      have q4 := hx7.cell 4
      have hcc : (c != c) = false := by simp
      clear hi6 hb6 hbn hb67 HR HX5 hx5 hx7
      go_wp2_with fail
      go_at_call 11; refine (sameTT HI7.out HJ7.out).mono ?_; rintro e w8 ⟨rfl, hb8⟩
      have HB8 := Lib.hid (HB7.out.trans (hb8.mono HB7.out.size))
      have HIN := Lib.hid (vInt_any hn1 hn2 (HT.out.on HB8.out))
      have HDG := Lib.hid (fun W' => refDigits_any hn1 hn2 W')
      generalize str n = sn at HIN HDG
      obtain ⟨bo, hbo⟩ : ∃ bo, decide (0 < n) = bo := ⟨_, rfl⟩
      clear p0 p1 p2 p3 p4 q0 q1 q2 q3 q4 hcc hb8 HI7 HJ7
      unfold scal at HIN
      go_wp2_with fail
      go_at_call 12; refine HIN.out.mono ?_; rintro e w9 ⟨rfl, hb9⟩
      have HB9 := Lib.hid (HB8.out.trans (hb9.mono HB8.out.size))
      have HUN := Lib.hid (vUnknown_any w9)
      unfold scal at HUN
      clear hb9
      go_wp2_with fail
      go_at_call 13; refine HUN.out.mono ?_; rintro e w10 ⟨rfl, hb10⟩
      have HB10 := Lib.hid (HB9.out.trans (hb10.mono HB9.out.size))
      have HBO := Lib.hid (vBool_any bo w10)
      unfold scal at HBO
      clear hb10
      go_wp2_with fail
      go_at_call 14; refine HBO.out.mono ?_; rintro e w11 ⟨rfl, hb11⟩
      have HB11 := Lib.hid (HB10.out.trans (hb11.mono HB10.out.size))
      clear hb11
      have hx := ((Blk.new w11 #[.int .i64 3, .bool false, .string sn, .slice none 0 0, .slice none 0 0] 26).alloc (.cells #[.int .i64 1, .bool false, .string ⟨#[]⟩, .slice none 0 0, .slice none 0 0] 26)).alloc (.cells #[.int .i64 2, .bool bo, .string ⟨#[]⟩, .slice none 0 0, .slice none 0 0] 26)
      have hy := (Blk.new (w11.alloc (.cells #[.int .i64 3, .bool false, .string sn, .slice none 0 0, .slice none 0 0] 26)) #[.int .i64 1, .bool false, .string ⟨#[]⟩, .slice none 0 0, .slice none 0 0] 26).alloc (.cells #[.int .i64 2, .bool bo, .string ⟨#[]⟩, .slice none 0 0, .slice none 0 0] 26)
      have hz := Blk.new ((w11.alloc (.cells #[.int .i64 3, .bool false, .string sn, .slice none 0 0, .slice none 0 0] 26)).alloc (.cells #[.int .i64 1, .bool false, .string ⟨#[]⟩, .slice none 0 0, .slice none 0 0] 26)) #[.int .i64 2, .bool bo, .string ⟨#[]⟩, .slice none 0 0, .slice none 0 0] 26
      rw [show (w11.alloc (.cells #[.int .i64 3, .bool false, .string sn, .slice none 0 0, .slice none 0 0] 26)).heap.size = w11.heap.size + 1 by simp] at hy
      rw [show ((w11.alloc (.cells #[.int .i64 3, .bool false, .string sn, .slice none 0 0, .slice none 0 0] 26)).alloc (.cells #[.int .i64 1, .bool false, .string ⟨#[]⟩, .slice none 0 0, .slice none 0 0] 26)).heap.size = w11.heap.size + 2 by simp] at hz
      have hb12 := ((below_new w11 (.cells #[.int .i64 3, .bool false, .string sn, .slice none 0 0, .slice none 0 0] 26)).alloc (below_new w11 (.cells #[.int .i64 3, .bool false, .string sn, .slice none 0 0, .slice none 0 0] 26)).size (.cells #[.int .i64 1, .bool false, .string ⟨#[]⟩, .slice none 0 0, .slice none 0 0] 26))
      have hb13 := hb12.alloc hb12.size (.cells #[.int .i64 2, .bool bo, .string ⟨#[]⟩, .slice none 0 0, .slice none 0 0] 26)
      have HB12 := Lib.hid (HB11.out.trans (hb13.mono HB11.out.size))
      clear hb12 hb13 HB11 HB10 HB9 HB8 HIN HUN HBO
      go_upto_region 14 with fail
      generalize (((w11.alloc (.cells #[.int .i64 3, .bool false, .string sn, .slice none 0 0, .slice none 0 0] 26)).alloc (.cells #[.int .i64 1, .bool false, .string ⟨#[]⟩, .slice none 0 0, .slice none 0 0] 26)).alloc (.cells #[.int .i64 2, .bool bo, .string ⟨#[]⟩, .slice none 0 0, .slice none 0 0] 26)) = w12 at *
      generalize w11.heap.size = X at *
      have x0 := hx.cell 0
      have x1 := hx.cell 1
      have x2 := hx.cell 2
      have x3 := hx.cell 3
      have x4 := hx.cell 4
      have y0 := hy.cell 0
      have y1 := hy.cell 1
      have y2 := hy.cell 2
      have y3 := hy.cell 3
      have y4 := hy.cell 4
      have z0 := hz.cell 0
      have z1 := hz.cell 1
      have z2 := hz.cell 2
      have z3 := hz.cell 3
      have z4 := hz.cell 4
      have HC12 : Hid (w12.cell? ⟨X, 0, none⟩ = some (.int .i64 3) ∧ w12.cell? ⟨X, 1, none⟩ = some (.bool false) ∧ w12.cell? ⟨X, 2, none⟩ = some (.string sn) ∧ w12.cell? ⟨X, 3, none⟩ = some (.slice none 0 0) ∧ w12.cell? ⟨X, 4, none⟩ = some (.slice none 0 0) ∧ w12.cell? ⟨X + 1, 0, none⟩ = some (.int .i64 1) ∧ w12.cell? ⟨X + 1, 1, none⟩ = some (.bool false) ∧ w12.cell? ⟨X + 1, 2, none⟩ = some (.string ⟨#[]⟩) ∧ w12.cell? ⟨X + 1, 3, none⟩ = some (.slice none 0 0) ∧ w12.cell? ⟨X + 1, 4, none⟩ = some (.slice none 0 0) ∧ w12.cell? ⟨X + 2, 0, none⟩ = some (.int .i64 2) ∧ w12.cell? ⟨X + 2, 1, none⟩ = some (.bool bo) ∧ w12.cell? ⟨X + 2, 2, none⟩ = some (.string ⟨#[]⟩) ∧ w12.cell? ⟨X + 2, 3, none⟩ = some (.slice none 0 0) ∧ w12.cell? ⟨X + 2, 4, none⟩ = some (.slice none 0 0)) := Lib.hid ⟨x0, x1, x2, x3, x4, y0, y1, y2, y3, y4, z0, z1, z2, z3, z4⟩
      have HBx : Hid (Below w12.heap.size w12 w12.drew) := Lib.hid ⟨rfl, rfl, rfl, Nat.le_refl _, fun _ _ => rfl⟩
      have HS12 : Hid (Below w12.heap.size w12 w12.drew) ∧ w12.drew.cell? ⟨X, 0, none⟩ = some (.int .i64 3) ∧ w12.drew.cell? ⟨X, 1, none⟩ = some (.bool false) ∧ w12.drew.cell? ⟨X, 2, none⟩ = some (.string sn) ∧ w12.drew.cell? ⟨X, 3, none⟩ = some (.slice none 0 0) ∧ w12.drew.cell? ⟨X, 4, none⟩ = some (.slice none 0 0) ∧ w12.drew.cell? ⟨X + 1, 0, none⟩ = some (.int .i64 1) ∧ w12.drew.cell? ⟨X + 1, 1, none⟩ = some (.bool false) ∧ w12.drew.cell? ⟨X + 1, 2, none⟩ = some (.string ⟨#[]⟩) ∧ w12.drew.cell? ⟨X + 1, 3, none⟩ = some (.slice none 0 0) ∧ w12.drew.cell? ⟨X + 1, 4, none⟩ = some (.slice none 0 0) ∧ w12.drew.cell? ⟨X + 2, 0, none⟩ = some (.int .i64 2) ∧ w12.drew.cell? ⟨X + 2, 1, none⟩ = some (.bool bo) ∧ w12.drew.cell? ⟨X + 2, 2, none⟩ = some (.string ⟨#[]⟩) ∧ w12.drew.cell? ⟨X + 2, 3, none⟩ = some (.slice none 0 0) ∧ w12.drew.cell? ⟨X + 2, 4, none⟩ = some (.slice none 0 0) := keepE HC12 HBx.out
      have hss : (sn.toList != sn.toList) = false := by simp
      have hss2 : (sn.toList == sn.toList) = true := by simp
      have hbb : (bo != bo) = false := by cases bo <;> rfl
      have hbb2 : (bo == bo) = true := by cases bo <;> rfl
      clear hx hy hz
      go_region_held3 (fun w' => Hid (Below w12.heap.size w12 w') ∧ w'.cell? ⟨X, 0, none⟩ = some (.int .i64 3) ∧ w'.cell? ⟨X, 1, none⟩ = some (.bool false) ∧ w'.cell? ⟨X, 2, none⟩ = some (.string sn) ∧ w'.cell? ⟨X, 3, none⟩ = some (.slice none 0 0) ∧ w'.cell? ⟨X, 4, none⟩ = some (.slice none 0 0) ∧ w'.cell? ⟨X + 1, 0, none⟩ = some (.int .i64 1) ∧ w'.cell? ⟨X + 1, 1, none⟩ = some (.bool false) ∧ w'.cell? ⟨X + 1, 2, none⟩ = some (.string ⟨#[]⟩) ∧ w'.cell? ⟨X + 1, 3, none⟩ = some (.slice none 0 0) ∧ w'.cell? ⟨X + 1, 4, none⟩ = some (.slice none 0 0) ∧ w'.cell? ⟨X + 2, 0, none⟩ = some (.int .i64 2) ∧ w'.cell? ⟨X + 2, 1, none⟩ = some (.bool bo) ∧ w'.cell? ⟨X + 2, 2, none⟩ = some (.string ⟨#[]⟩) ∧ w'.cell? ⟨X + 2, 3, none⟩ = some (.slice none 0 0) ∧ w'.cell? ⟨X + 2, 4, none⟩ = some (.slice none 0 0))
        (first | with_reducible exact HS12 | (with_reducible refine keepE HC12 ?_; (repeat (first | with_reducible exact HBxc.out | with_reducible exact HBxb.out | with_reducible exact HBxa.out | with_reducible exact HBx.out))))
        (first
          | (go_at_call 15; (with_reducible refine (HDG.out _).mono ?_); rintro e wa ⟨rfl, hba⟩; have HBxa := Lib.hid ((‹Hid (Below w12.heap.size w12 _) ∧ _›.1.out).trans (hba.mono (‹Hid (Below w12.heap.size w12 _) ∧ _›.1.out).size)))
          | (go_at_call 16; (with_reducible refine (known_unknown _).mono ?_); rintro e wb ⟨rfl, hbb3⟩; have HBxb := Lib.hid ((‹Hid (Below w12.heap.size w12 _) ∧ _›.1.out).trans (hbb3.mono (‹Hid (Below w12.heap.size w12 _) ∧ _›.1.out).size)))
          | (go_at_call 16; (with_reducible refine (known_int _ _).mono ?_); rintro e wc ⟨rfl, hbc⟩; have HBxc := Lib.hid ((‹Hid (Below w12.heap.size w12 _) ∧ _›.1.out).trans (hbc.mono (‹Hid (Below w12.heap.size w12 _) ∧ _›.1.out).size))))
      all_goals
        have HB13 : Hid (Below W.heap.size W wc) := Lib.hid (HB12.out.trans (HBxc.out.mono HB12.out.size))
        go_wp2_with fail
        clear HS12 HC12 HBx HB12 HBxa HBxb HBxc hba hbb3 hbc hss hss2 hbb hbb2 hbo x0 x1 x2 x3 x4 y0 y1 y2 y3 y4 z0 z1 z2 z3 z4
        by_cases h0 : nk = 0
        · subst h0
          go_quiet (fail)
          go_wp2_with fail
          go_ret
          exact ⟨by first | rfl | simp, HB13.out.trans ⟨rfl, rfl, rfl, Nat.le_refl _, fun _ _ => rfl⟩⟩
        · obtain ⟨g, o, rfl, hg, hc⟩ := HKS.out (by have := HNK.out; omega)
          have hc0 := hc 0 (by have := HNK.out; omega)
          obtain ⟨key, hkey⟩ : ∃ key, ks[0]'(by have := HNK.out; omega) = key := ⟨_, rfl⟩
          rw [hkey, Nat.add_zero] at hc0
          have ck := (HB13.out.cell (p := ⟨g, o, none⟩) hg).trans hc0
          have n1 : (0 : Int) < (nk : Int) := by omega
          have n3 : 0 < nk := by omega
          have hfd : ∀ W' : World, (Instr.field 26 (.agg #[.int .i64 4, .bool false, .string key, .slice none 0 0, .slice none 0 0]) 2).run Tryd.prog W' = .ok (.string key) W' := fun _ => by first | rfl | kernel_rfl
          have n2 : ((nk : Int) == 0) = false := beq_eq_false_iff_ne.2 (by omega)
          have hkk : (key.toList == key.toList) = true := by simp
          have HTX := Lib.hid (fun W' => vText_any key W')
          unfold scal at HTX
          have HS16 : Hid (Below wc.heap.size wc wc.drew) ∧ wc.drew.cell? ⟨g, o, none⟩ = some (.string key) := ⟨Lib.hid ⟨rfl, rfl, rfl, Nat.le_refl _, fun _ _ => rfl⟩, ck⟩
          clear hc hc0 hkey
          go_region_held3 (fun w' => Hid (Below wc.heap.size wc w') ∧ w'.cell? ⟨g, o, none⟩ = some (.string key))
            (first | with_reducible exact HS16 | (with_reducible exact keepF (by assumption) (by assumption)))
            (first | (go_at_call 17; (with_reducible refine (HTX.out _).mono ?_); rintro e wd ⟨rfl, hbd⟩))
          all_goals
            have hfin := ‹Hid (Below wc.heap.size wc _) ∧ _›.1.out
            go_wp2_with fail
            go_ret
            exact ⟨by first | rfl | simp, HB13.out.trans (hfin.mono HB13.out.size)⟩
end Go.Proofs.YtjgbhnbfojkhoaaDoor
