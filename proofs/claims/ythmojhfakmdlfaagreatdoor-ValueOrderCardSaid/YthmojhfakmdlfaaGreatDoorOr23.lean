/- purlinref02.order, purlinref02.Cmp -/
import Derived.Deep.RegionHeld3
import Derived.Handy
import Derived.Test.YthmojhfakmdlfaaGreatDoorOr13
import Derived.Test.YthmojhfakmdlfaaGreatDoorOr16
import Derived.Test.YthmojhfakmdlfaaGreatDoorOr22
namespace Go.Proofs.YthmojhfakmdlfaaGreatDoor
open Go.RowKit
set_option linter.unusedVariables false

theorem order_any (a b : ByteArray) (w : World) : Calls Tryz.prog 48 #[.string a, .string b] w fun e w' => e = .returned (.int .i64 (cmpS a b)) ∧ w = w' := by
  have h1 := bLess_eq a b
  have h2 := bLess_eq b a
  rcases Bool.eq_false_or_eq_true (bLt a b) with h | h
  · rw [cmpS_lt h]
    rw [h] at h1
    go_enter Tryz.func48, Tryz.ntmps48
    go_wp2
    go_ret
    exact ⟨rfl, rfl⟩
  · rcases Bool.eq_false_or_eq_true (bLt b a) with h' | h'
    · have he : (a.toList == b.toList) = false := by
        rw [← Bool.not_eq_true, ← cmpS_zero, cmpS_gt h']; decide
      rw [cmpS_gt h']
      rw [h] at h1
      rw [h'] at h2
      go_enter Tryz.func48, Tryz.ntmps48
      go_wp2
      go_ret
      exact ⟨rfl, rfl⟩
    · have he : (a.toList == b.toList) = true := (cmpS_zero a b).1 (cmpS_eq h h')
      rw [cmpS_eq h h']
      rw [h] at h1
      rw [h'] at h2
      go_enter Tryz.func48, Tryz.ntmps48
      go_wp2
      go_ret
      exact ⟨rfl, rfl⟩

set_option maxRecDepth 100000 in
set_option maxHeartbeats 8000000 in
theorem rCmp_many {B : Nat} {w : World} {k : Int} {b b' : Bool} {t t' : ByteArray} {its its' : List VT} {ks ks' : List ByteArray} {kv kv' : Value} {ad ad' : Option Addr} {cap g o cap' g' o' : Nat} {ik ik' : Nat → Int} {ib ib' : Nat → Bool} {it it' : Nat → ByteArray} {ii iv ii' iv' : Nat → Value}
    (hk2 : k ≠ 2) (hk3 : k ≠ 3) (hk4 : k ≠ 4) (hkv : StrsAt B w kv ks) (hkv' : StrsAt B w kv' ks')
    (ha : 0 < its.length → ad = some ⟨g, o, none⟩ ∧ g < B)
    (hcell : ∀ j, j < its.length → Five w g (o + j * 5) (.int .i64 (ik j)) (.bool (ib j)) (.string (it j)) (ii j) (iv j))
    (ha' : 0 < its'.length → ad' = some ⟨g', o', none⟩ ∧ g' < B)
    (hcell' : ∀ j, j < its'.length → Five w g' (o' + j * 5) (.int .i64 (ik' j)) (.bool (ib' j)) (.string (it' j)) (ii' j) (iv' j))
    (hn : its.length ≤ 140737488355328) (hn' : its'.length ≤ 140737488355328)
    (ih : ∀ j (h : j < its.length) (h' : j < its'.length) (W : World), Below B w W → B ≤ W.heap.size → Calls Tryz.prog 14 #[.agg #[.int .i64 (ik j), .bool (ib j), .string (it j), ii j, iv j], .agg #[.int .i64 (ik' j), .bool (ib' j), .string (it' j), ii' j, iv' j]] W fun e w' => e = .returned (.int .i64 (cmpT its[j] its'[j])) ∧ Below W.heap.size W w')
    (W : World) (hb : Below B w W) (hBW : B ≤ W.heap.size) : Calls Tryz.prog 14 #[.agg #[.int .i64 k, .bool b, .string t, .slice ad its.length cap, kv], .agg #[.int .i64 k, .bool b', .string t', .slice ad' its'.length cap', kv']] W fun e w' => e = .returned (.int .i64 (if cmpKs ks ks' = 0 then cmpL its its' else cmpKs ks ks')) ∧ Below W.heap.size W w' := by
  have HOrd := Lib.hid (fun a b W => order_any a b W)
  obtain ⟨adk, capk, rfl, hkc, hkl, hkp⟩ := hkv
  obtain ⟨adm, capm, rfl, hmc, hml, hmp⟩ := hkv'
  have HKP := Lib.hid hkp
  have HMP := Lib.hid hmp
  have HA := Lib.hid ha
  have HC := Lib.hid hcell
  have HA' := Lib.hid ha'
  have HC' := Lib.hid hcell'
  have IH := Lib.hid ih
  have kk2 : (k == 2) = false := beq_eq_false_iff_ne.2 hk2
  have kk3 : (k == 3) = false := beq_eq_false_iff_ne.2 hk3
  have kk4 : (k == 4) = false := beq_eq_false_iff_ne.2 hk4
  obtain ⟨r, hr⟩ : ∃ r, (if cmpKs ks ks' = 0 then cmpL its its' else cmpKs ks ks') = r := ⟨_, rfl⟩
  rw [hr]
  obtain ⟨q, hq⟩ : ∃ q, cmpKs ks ks' = q := ⟨_, rfl⟩
  rw [hq] at hr
  have HR := Lib.hid hr
  have HQ0 : Hid (cmpKs (ks.drop 0) (ks'.drop 0) = q) := Lib.hid hq
  obtain ⟨n, hnn⟩ : ∃ n, its.length = n := ⟨_, rfl⟩
  obtain ⟨m, hmm⟩ : ∃ m, its'.length = m := ⟨_, rfl⟩
  obtain ⟨nk, hnk⟩ : ∃ nk, ks.length = nk := ⟨_, rfl⟩
  obtain ⟨mk, hmk⟩ : ∃ mk, ks'.length = mk := ⟨_, rfl⟩
  have HN := Lib.hid hnn
  have HM := Lib.hid hmm
  have HNK := Lib.hid hnk
  have HMK := Lib.hid hmk
  rw [hnn] at hn ⊢
  rw [hmm] at hn' ⊢
  rw [hnk] at hkc hkl ⊢
  rw [hmk] at hmc hml ⊢
  clear hkp hmp ha hcell ha' hcell' ih hr hq hnn hmm hnk hmk hk2 hk3 hk4
  have HB0 : Hid (Below W.heap.size W ((W.alloc (.cells #[.int .i64 k, .bool b, .string t, .slice ad n cap, .slice adk nk capk] 26)).alloc (.cells #[.int .i64 k, .bool b', .string t', .slice ad' m cap', .slice adm mk capm] 26))) := Lib.hid box2_below
  have HKa0 := Lib.hid ((Blk.new W #[.int .i64 k, .bool b, .string t, .slice ad n cap, .slice adk nk capk] 26).alloc (.cells #[.int .i64 k, .bool b', .string t', .slice ad' m cap', .slice adm mk capm] 26))
  have HKb0 : Hid (Blk ((W.alloc (.cells #[.int .i64 k, .bool b, .string t, .slice ad n cap, .slice adk nk capk] 26)).alloc (.cells #[.int .i64 k, .bool b', .string t', .slice ad' m cap', .slice adm mk capm] 26)) (W.heap.size + 1) #[.int .i64 k, .bool b', .string t', .slice ad' m cap', .slice adm mk capm] 26) := Lib.hid (by have := Blk.new (W.alloc (.cells #[.int .i64 k, .bool b, .string t, .slice ad n cap, .slice adk nk capk] 26)) #[.int .i64 k, .bool b', .string t', .slice ad' m cap', .slice adm mk capm] 26; simpa using this)
  have a0 := HKa0.out.cell 0
  have b0 := HKb0.out.cell 0
  have HBb := Lib.hid hb
  have HBW := Lib.hid hBW
  clear hb hBW
  go_enter Tryz.func14, Tryz.ntmps14
  go_wp2_with fail
  clear a0 b0
  have HS0 : Hid (Below W.heap.size W ((W.alloc (.cells #[.int .i64 k, .bool b, .string t, .slice ad n cap, .slice adk nk capk] 26)).alloc (.cells #[.int .i64 k, .bool b', .string t', .slice ad' m cap', .slice adm mk capm] 26)) ∧ Blk ((W.alloc (.cells #[.int .i64 k, .bool b, .string t, .slice ad n cap, .slice adk nk capk] 26)).alloc (.cells #[.int .i64 k, .bool b', .string t', .slice ad' m cap', .slice adm mk capm] 26)) W.heap.size #[.int .i64 k, .bool b, .string t, .slice ad n cap, .slice adk nk capk] 26 ∧ Blk ((W.alloc (.cells #[.int .i64 k, .bool b, .string t, .slice ad n cap, .slice adk nk capk] 26)).alloc (.cells #[.int .i64 k, .bool b', .string t', .slice ad' m cap', .slice adm mk capm] 26)) (W.heap.size + 1) #[.int .i64 k, .bool b', .string t', .slice ad' m cap', .slice adm mk capm] 26) := Lib.hid ⟨HB0.out, HKa0.out, HKb0.out⟩
  clear HB0 HKa0 HKb0
  go_loopw [5] (fun jv wr => ∃ j : Nat, jv = .int .i64 j ∧ j ≤ nk ∧ j ≤ mk ∧ Hid (cmpKs (ks.drop j) (ks'.drop j) = q) ∧ Hid (Below W.heap.size W wr ∧ Blk wr W.heap.size #[.int .i64 k, .bool b, .string t, .slice ad n cap, .slice adk nk capk] 26 ∧ Blk wr (W.heap.size + 1) #[.int .i64 k, .bool b', .string t', .slice ad' m cap', .slice adm mk capm] 26)) (fun jv _ => nk - (intOf jv).toNat)
  case atStart => exact ⟨0, rfl, by omega, by omega, HQ0, HS0⟩
  case round =>
    obtain ⟨j, rfl, hj, hjm, HI, HS⟩ := hrel
    clear HS0 HQ0
    have i1 : (0 : Int) ≤ (j : Int) := by omega
    have p4 := HS.out.2.1.cell 4
    have q4 := HS.out.2.2.cell 4
    by_cases hb2 : j < nk ∧ j < mk
    · obtain ⟨hlt, hltm⟩ := hb2
      have i2 : (j : Int) < (nk : Int) := by omega
      have i3 : (j : Int) < (mk : Int) := by omega
      have hjk : j < ks.length := by have := HNK.out; omega
      have hjm' : j < ks'.length := by have := HMK.out; omega
      obtain ⟨gk, ok, rfl, hgk, hck⟩ := HKP.out (by omega)
      obtain ⟨gm, om, rfl, hgm, hcm⟩ := HMP.out (by omega)
      have hBr : Below B w wr := HBb.out.trans (HS.out.1.mono HBW.out)
      have ck := (hBr.cell (p := ⟨gk, ok + j, none⟩) hgk).trans (hck j hjk)
      have cm := (hBr.cell (p := ⟨gm, om + j, none⟩) hgm).trans (hcm j hjm')
      have hst := cmpKs_rest hjk hjm'
      rw [HI.out] at hst
      generalize ks[j] = x at ck hst
      generalize ks'[j] = y at cm hst
      have HC := Lib.hid (fun W => HOrd.out x y W)
      generalize cmpS x y = z at HC hst
      clear hck hcm hBr
      have HSd : Hid (Below W.heap.size W wr.drew ∧ Blk wr.drew W.heap.size #[.int .i64 k, .bool b, .string t, .slice ad n cap, .slice (some ⟨gk, ok, none⟩) nk capk] 26 ∧ Blk wr.drew (W.heap.size + 1) #[.int .i64 k, .bool b', .string t', .slice ad' m cap', .slice (some ⟨gm, om, none⟩) mk capm] 26) := Lib.hid ⟨⟨HS.out.1.os, HS.out.1.tape, HS.out.1.output, HS.out.1.size, HS.out.1.block⟩, HS.out.2.1, HS.out.2.2⟩
      go_wp2_with fail
      go_region_held3 (fun w' => Hid (Below W.heap.size W w' ∧ Blk w' W.heap.size #[.int .i64 k, .bool b, .string t, .slice ad n cap, .slice (some ⟨gk, ok, none⟩) nk capk] 26 ∧ Blk w' (W.heap.size + 1) #[.int .i64 k, .bool b', .string t', .slice ad' m cap', .slice (some ⟨gm, om, none⟩) mk capm] 26) ∧ w'.cell? ⟨W.heap.size, 4, none⟩ = some (.slice (some ⟨gk, ok, none⟩) nk capk) ∧ w'.cell? ⟨W.heap.size + 1, 4, none⟩ = some (.slice (some ⟨gm, om, none⟩) mk capm) ∧ w'.cell? ⟨gk, ok + j, none⟩ = some (.string x) ∧ w'.cell? ⟨gm, om + j, none⟩ = some (.string y))
        (first | exact ⟨HSd, p4, q4, ck, cm⟩ | assumption | go_keep)
        (first | (go_at_call 48; refine (HC.out _).mono ?_; rintro e w2 ⟨rfl, rfl⟩))
      by_cases hz : z = 0
      · subst hz
        rw [if_pos rfl] at hst
        have HST := Lib.hid hst
        clear hst
        go_wp2_with fail
        go_roundw
        case rel => exact ⟨j + 1, by go_num, by omega, by omega, Lib.hid HST.out.symm, HSd⟩
        case measure => simp [intOf]; omega
      · rw [if_neg hz] at hst
        have hz1 : (z == 0) = false := beq_eq_false_iff_ne.2 hz
        have hz2 : (z != 0) = true := by simp only [bne, hz1]; rfl
        have HF : Hid (r = z) := Lib.hid (by rw [← HR.out, hst, if_neg hz])
        clear hst
        go_wp2_with fail
        go_ret
        exact ⟨by rw [HF.out]; rfl, HSd.out.1⟩
    · have hbs : ¬ ((j : Int) < (nk : Int) ∧ (j : Int) < (mk : Int)) := by omega
      by_cases hne : nk = mk
      · subst hne
        obtain rfl : j = nk := by omega
        have HQZ : Hid (r = cmpL its its') := Lib.hid (by
          have h1 : q = 0 := by rw [← HI.out]; exact cmpKs_done (by have := HNK.out; omega) (by have := HMK.out; omega)
          rw [← HR.out, if_pos h1])
        have HR0 : Hid (cmpL (its.drop 0) (its'.drop 0) = r) := Lib.hid HQZ.out.symm
        have p3 := HS.out.2.1.cell 3
        have q3 := HS.out.2.2.cell 3
        clear HR HI HQZ hbs
        go_wp2_with fail
        clear p3 q3 p4 q4
        go_loopw [7] (fun iv wr => ∃ i : Nat, iv = .int .i64 i ∧ i ≤ n ∧ i ≤ m ∧ Hid (cmpL (its.drop i) (its'.drop i) = r) ∧ Hid (Below W.heap.size W wr ∧ Blk wr W.heap.size #[.int .i64 k, .bool b, .string t, .slice ad n cap, .slice adk j capk] 26 ∧ Blk wr (W.heap.size + 1) #[.int .i64 k, .bool b', .string t', .slice ad' m cap', .slice adm j capm] 26)) (fun iv _ => n - (intOf iv).toNat)
        case atStart => exact ⟨0, rfl, by omega, by omega, HR0, HS⟩
        case round =>
          obtain ⟨i, rfl, hi, him, HI, HSi⟩ := hrel
          clear HS HR0
          have i5 : (0 : Int) ≤ (i : Int) := by omega
          have p3 := HSi.out.2.1.cell 3
          have q3 := HSi.out.2.2.cell 3
          by_cases hb3 : i < n ∧ i < m
          · obtain ⟨hlt, hltm⟩ := hb3
            have i2 : (i : Int) < (n : Int) := by omega
            have i3 : (i : Int) < (m : Int) := by omega
            have hin : i < its.length := by have := HN.out; omega
            have him' : i < its'.length := by have := HM.out; omega
            obtain ⟨rfl, hg⟩ := HA.out (by omega)
            obtain ⟨rfl, hg'⟩ := HA'.out (by omega)
            have hBr : Below B w wr := HBb.out.trans (HSi.out.1.mono HBW.out)
            have h5 := (HC.out i hin).below hg hBr
            have h6 := (HC'.out i him').below hg' hBr
            obtain ⟨e0, e1, e2, e3, e4⟩ := h5
            obtain ⟨d0, d1, d2, d3, d4⟩ := h6
            have hst := cmpL_rest hin him'
            rw [HI.out] at hst
            have HSd : Hid (Below W.heap.size W wr.drew ∧ Blk wr.drew W.heap.size #[.int .i64 k, .bool b, .string t, .slice (some ⟨g, o, none⟩) n cap, .slice adk j capk] 26 ∧ Blk wr.drew (W.heap.size + 1) #[.int .i64 k, .bool b', .string t', .slice (some ⟨g', o', none⟩) m cap', .slice adm j capm] 26) := Lib.hid ⟨⟨HSi.out.1.os, HSi.out.1.tape, HSi.out.1.output, HSi.out.1.size, HSi.out.1.block⟩, HSi.out.2.1, HSi.out.2.2⟩
            have HCa := Lib.hid (IH.out i hin him' wr.drew (HBb.out.trans (HSd.out.1.mono HBW.out)) (Nat.le_trans HBW.out HSd.out.1.size))
            generalize ik i = y0 at e0 HCa
            generalize ib i = y1 at e1 HCa
            generalize it i = y2 at e2 HCa
            generalize ii i = y3 at e3 HCa
            generalize iv i = y4 at e4 HCa
            generalize ik' i = z0 at d0 HCa
            generalize ib' i = z1 at d1 HCa
            generalize it' i = z2 at d2 HCa
            generalize ii' i = z3 at d3 HCa
            generalize iv' i = z4 at d4 HCa
            generalize cmpT its[i] its'[i] = z at HCa hst
            clear hBr
            go_wp2_with fail
            go_region_held3 (fun w' => Hid (Below W.heap.size W w' ∧ Blk w' W.heap.size #[.int .i64 k, .bool b, .string t, .slice (some ⟨g, o, none⟩) n cap, .slice adk j capk] 26 ∧ Blk w' (W.heap.size + 1) #[.int .i64 k, .bool b', .string t', .slice (some ⟨g', o', none⟩) m cap', .slice adm j capm] 26) ∧ w'.cell? ⟨W.heap.size, 3, none⟩ = some (.slice (some ⟨g, o, none⟩) n cap) ∧ w'.cell? ⟨W.heap.size + 1, 3, none⟩ = some (.slice (some ⟨g', o', none⟩) m cap')
                ∧ w'.cell? ⟨g, o + i * 5, none⟩ = some (.int .i64 y0) ∧ w'.cell? ⟨g, o + i * 5 + 1, none⟩ = some (.bool y1) ∧ w'.cell? ⟨g, o + i * 5 + 2, none⟩ = some (.string y2) ∧ w'.cell? ⟨g, o + i * 5 + 3, none⟩ = some y3 ∧ w'.cell? ⟨g, o + i * 5 + 4, none⟩ = some y4
                ∧ w'.cell? ⟨g', o' + i * 5, none⟩ = some (.int .i64 z0) ∧ w'.cell? ⟨g', o' + i * 5 + 1, none⟩ = some (.bool z1) ∧ w'.cell? ⟨g', o' + i * 5 + 2, none⟩ = some (.string z2) ∧ w'.cell? ⟨g', o' + i * 5 + 3, none⟩ = some z3 ∧ w'.cell? ⟨g', o' + i * 5 + 4, none⟩ = some z4)
              (first | exact ⟨HSd, p3, q3, e0, e1, e2, e3, e4, d0, d1, d2, d3, d4⟩ | exact ⟨Lib.hid ⟨HSd.out.1.trans (hb2.mono HSd.out.1.size), HSd.out.2.1.below hb2, HSd.out.2.2.below hb2⟩, cells_keep hb2 p3, cells_keep hb2 q3, cells_keep hb2 e0, cells_keep hb2 e1, cells_keep hb2 e2, cells_keep hb2 e3, cells_keep hb2 e4, cells_keep hb2 d0, cells_keep hb2 d1, cells_keep hb2 d2, cells_keep hb2 d3, cells_keep hb2 d4⟩ | go_keep)
              (first | (go_at_call 14; refine HCa.out.mono ?_; rintro e w2 ⟨rfl, hb2⟩))
            have HSe : Hid (Below W.heap.size W w2 ∧ Blk w2 W.heap.size #[.int .i64 k, .bool b, .string t, .slice (some ⟨g, o, none⟩) n cap, .slice adk j capk] 26 ∧ Blk w2 (W.heap.size + 1) #[.int .i64 k, .bool b', .string t', .slice (some ⟨g', o', none⟩) m cap', .slice adm j capm] 26) := Lib.hid ⟨HSd.out.1.trans (hb2.mono HSd.out.1.size), HSd.out.2.1.below hb2, HSd.out.2.2.below hb2⟩
            by_cases hz : z = 0
            · subst hz
              rw [if_pos rfl] at hst
              have HST := Lib.hid hst
              clear hst
              go_wp2_with fail
              go_roundw
              case rel => exact ⟨i + 1, by go_num, by omega, by omega, Lib.hid HST.out.symm, HSe⟩
              case measure => simp [intOf]; omega
            · rw [if_neg hz] at hst
              have hz1 : (z == 0) = false := beq_eq_false_iff_ne.2 hz
              have hz2 : (z != 0) = true := by simp only [bne, hz1]; rfl
              have HF : Hid (r = z) := Lib.hid hst
              clear hst
              go_wp2_with fail
              go_ret
              exact ⟨by rw [HF.out]; rfl, HSe.out.1⟩
          · have hbs : ¬ ((i : Int) < (n : Int) ∧ (i : Int) < (m : Int)) := by omega
            by_cases hne : n = m
            · subst hne
              obtain rfl : i = n := by omega
              have HF : Hid (r = 0) := Lib.hid (by rw [← HI.out]; exact cmpL_done (by have := HN.out; omega) (by have := HM.out; omega))
              go_wp2_with fail
              go_ret
              exact ⟨by rw [HF.out]; rfl, HSi.out.1⟩
            · by_cases hlt : n < m
              · obtain rfl : i = n := by omega
                have i3 : (i : Int) < (m : Int) := by omega
                have hn1 : ((i : Int) == (m : Int)) = false := beq_eq_false_iff_ne.2 (by omega)
                have HF : Hid (r = -1) := Lib.hid (by rw [← HI.out]; exact cmpL_short (by have := HN.out; omega) (by have := HM.out; omega))
                go_wp2_with fail
                go_ret
                exact ⟨by rw [HF.out]; rfl, HSi.out.1⟩
              · obtain rfl : i = m := by omega
                have i3 : (i : Int) < (n : Int) := by omega
                have i4 : ¬ (n : Int) < (i : Int) := by omega
                have hn1 : ((n : Int) == (i : Int)) = false := beq_eq_false_iff_ne.2 (by omega)
                have HF : Hid (r = 1) := Lib.hid (by rw [← HI.out]; exact cmpL_long (by have := HN.out; omega) (by have := HM.out; omega))
                go_wp2_with fail
                go_ret
                exact ⟨by rw [HF.out]; rfl, HSi.out.1⟩
      · by_cases hlt : nk < mk
        · obtain rfl : j = nk := by omega
          have i3 : (j : Int) < (mk : Int) := by omega
          have hn1 : ((j : Int) == (mk : Int)) = false := beq_eq_false_iff_ne.2 (by omega)
          have hn2 : ((j : Int) != (mk : Int)) = true := by simp only [bne, hn1]; rfl
          have HF : Hid (r = -1) := Lib.hid (by
            have h1 : q = -1 := by rw [← HI.out]; exact cmpKs_short (by have := HNK.out; omega) (by have := HMK.out; omega)
            rw [← HR.out, if_neg (by omega), h1])
          go_wp2_with fail
          go_ret
          exact ⟨by rw [HF.out]; rfl, HS.out.1⟩
        · obtain rfl : j = mk := by omega
          have i3 : (j : Int) < (nk : Int) := by omega
          have i4 : ¬ (nk : Int) < (j : Int) := by omega
          have hn1 : ((nk : Int) == (j : Int)) = false := beq_eq_false_iff_ne.2 (by omega)
          have hn2 : ((nk : Int) != (j : Int)) = true := by simp only [bne, hn1]; rfl
          have HF : Hid (r = 1) := Lib.hid (by
            have h1 : q = 1 := by rw [← HI.out]; exact cmpKs_long (by have := HNK.out; omega) (by have := HMK.out; omega)
            rw [← HR.out, if_neg (by omega), h1])
          go_wp2_with fail
          go_ret
          exact ⟨by rw [HF.out]; rfl, HS.out.1⟩
end Go.Proofs.YthmojhfakmdlfaaGreatDoor
