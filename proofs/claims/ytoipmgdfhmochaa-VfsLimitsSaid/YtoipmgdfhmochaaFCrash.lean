/- A loss of power. -/
import Derived.Test.YtoipmgdfhmochaaFLeft
import Derived.Test.YtoipmgdfhmochaaFPaths
namespace Go.Proofs.Ytoipmgdfhmochaa
open Go.RowKit Go.Shelf
set_option linter.unusedVariables false
set_option linter.unusedSimpArgs false

/-- What one path is to a loss of power: the new file system, how many were not sure. -/
def cr1 (s : FS) (K : List Int) (t : FS × Nat) (x : List UInt8) : FS × Nat := ((match (s.old x).left (if (s.old x).sure then 0 else K.getD t.2 0) with | some g => t.1.put x g | none => t.1), if (s.old x).sure then t.2 else t.2 + 1)
def crS (s : FS) (K : List Int) (ss : List (List UInt8)) : FS × Nat := ss.foldl (cr1 s K) (FS0, 0)
theorem crS_succ {s : FS} {K : List Int} {ss : List (List UInt8)} {j : Nat} {x : List UInt8} (h : ss[j]? = some x) : crS s K (ss.take (j + 1)) = cr1 s K (crS s K (ss.take j)) x := by
  unfold crS
  rw [List.take_add_one, h]
  simp
theorem put_n (s : FS) (x : List UInt8) (f : FV) : (s.put x f).n ≤ s.n + 1 := by
  unfold FS.put
  simp only
  split <;> omega
/-- How many bytes of each file that is not sure were written. -/
def KeepAt (w : World) (v : Value) (K : List Int) : Prop := ∃ a c, v = .slice a K.length c ∧ K.length ≤ 1000000 ∧ (∀ k ∈ K, -9223372036854775808 ≤ k ∧ k ≤ 9223372036854775807) ∧ ∀ j, j < K.length → ∃ g, a = some ⟨g, 0, none⟩ ∧ w.cell? ⟨g, j, none⟩ = some (.int .i64 (K.getD j 0))
theorem strs_open {w : World} {B : Nat} {v : Value} {ss : List (List UInt8)} (h : w.ownsRow B 9 1 v ss.length (ss.map encStr)) : ∃ ad cap, v = .slice ad ss.length cap ∧ ∀ j x, ss[j]? = some x → ∃ g, ad = some ⟨g, 0, none⟩ ∧ w.cell? ⟨g, j, none⟩ = some (.string ⟨x.toArray⟩) := by
  obtain ⟨ad, cap, rfl⟩ : ∃ ad cap, v = .slice ad ss.length cap := by
    obtain ⟨-, ⟨rfl, h2⟩ | ⟨g, cap, cur, rfl, h3, -⟩⟩ := h
    · exact ⟨none, 0, by rw [h2]⟩
    · exact ⟨_, cap, rfl⟩
  refine ⟨ad, cap, rfl, fun j x hx => ?_⟩
  have hj : j < ss.length := (List.getElem?_eq_some_iff.1 hx).1
  obtain ⟨g, rfl⟩ : ∃ g, ad = some ⟨g, 0, none⟩ := by
    obtain ⟨-, ⟨e0, h2⟩ | ⟨g, cap', cur, e0, -⟩⟩ := h
    · omega
    · injection e0 with e1 _ _
      exact ⟨g, e1⟩
  refine ⟨g, rfl, ?_⟩
  have := h.cellAt j (by omega)
  rw [this, List.getElem?_map, hx]
  rfl
set_option maxRecDepth 100000 in
set_option maxHeartbeats 4000000 in
theorem crash_any {W : World} {lo p : Nat} {s : FS} (h : FsAt W lo p s) (hn : s.n ≤ 1000000) {kv : Value} {K : List Int} (hk : KeepAt W kv K) :
    Calls Try.prog 14 #[.pointer (some ⟨p, 0, none⟩), kv] W fun e w' => ∃ q ss, e = .returned (.pointer (some ⟨q, 0, none⟩)) ∧ PathsOf s ss ∧ FsAt w' W.heap.size q (crS s K ss).1 ∧ Below W.heap.size W w' := by
  obtain ⟨ka, kc, rfl, hkl, hkb, hkc⟩ := hk
  obtain ⟨kn, hkn⟩ : ∃ k, K.length = k := ⟨_, rfl⟩
  rw [hkn]
  have hkl2 : kn ≤ 1000000 := by omega
  have HK := Lib.hid (And.intro hkn (And.intro hkb hkc))
  have HF := Lib.hid h
  have HW := Lib.hid (@new_any W)
  clear h hkb hkc hkn hkl
  go_enter Try.func14, Try.ntmps14
  go_wp2_with fail
  go_at_call 8; refine HW.out.mono ?_; rintro r w1 ⟨q, rfl, hq1, hb1⟩
  have HQ1 := Lib.hid hq1
  have HB1 := Lib.hid hb1
  have HP0 := Lib.hid (paths_any (HF.out.below hb1) hn)
  clear hq1 hb1
  go_wp2_with fail
  go_at_call 16; refine HP0.out.mono ?_; rintro r w2 ⟨v, ss, rfl, hP, hrow, hb2⟩
  obtain ⟨ad, cap, rfl, hcells⟩ := strs_open hrow
  obtain ⟨m, hmm⟩ : ∃ m, ss.length = m := ⟨_, rfl⟩
  have hmb : m ≤ 1000000 := by rw [← hmm, hP.len]; exact hn
  rw [hmm]
  have HP := Lib.hid (And.intro hP (And.intro hmm hcells))
  have hB2 : Below W.heap.size W w2 := HB1.out.trans (hb2.mono HB1.out.size)
  have HB2 := Lib.hid hB2
  have HQ2 := Lib.hid (HQ1.out.below hb2)
  clear hP hrow hcells hmm hb2 hB2
  go_wp2_with fail
  go_loopg [6, 17] (m + 1) (fun gf s6 s17 wx => ∃ (j : Nat) (t : FS × Nat), s17 = .int .i64 (j : Int) ∧ s6 = .int .i64 (t.2 : Int) ∧ j ≤ m ∧ Hid (crS s K (ss.take j) = t) ∧ Hid (FsAt wx W.heap.size q t.1) ∧ Hid (Below W.heap.size W wx) ∧ Hid (KC w2 wx) ∧ t.1.n ≤ j ∧ t.2 ≤ j ∧ j + gf = m + 1)
  case atStart => exact ⟨0, (FS0, 0), rfl, rfl, by omega, Lib.hid rfl, HQ2, HB2, Lib.hid (fun _ _ hh => hh), Nat.le_refl _, Nat.le_refl _, by omega⟩
  case round =>
    obtain ⟨j, ⟨t, u⟩, rfl, rfl, hjm, HT, HFt, HBj, HKj, htn, htu, hgf⟩ := hrel
    clear HQ1 HQ2 HP0 HW
    simp only at htn htu
    by_cases hj : j < m
    · obtain ⟨g', rfl⟩ : ∃ g', gk = g' + 1 := ⟨gk - 1, by omega⟩
      obtain ⟨x, hx⟩ : ∃ x, ss[j]? = some x := ⟨_, List.getElem?_eq_getElem (by rw [HP.out.2.1]; exact hj)⟩
      have hxl := HP.out.1.short x (List.mem_of_getElem? hx)
      obtain ⟨g, rfl, r0⟩ := HP.out.2.2 j x hx
      have r1 := HKj.out _ _ r0
      have hS := crS_succ (s := s) (K := K) hx
      rw [HT.out] at hS
      have HS1 := Lib.hid hS
      clear hS hx r0
      obtain ⟨f, hf⟩ : ∃ f, s.old x = f := ⟨_, rfl⟩
      obtain ⟨-, b, D, -, hb, hm⟩ := HF.out.below HBj.out
      obtain ⟨dn, dl, dc, sn, sl, sc, ok, -, hlk, hfi⟩ := hm.look (s := ⟨x.toArray⟩) (by show x.toArray.size ≤ _; simp; omega)
      have hfi : FileIs wr (.agg #[.slice dn dl dc, .slice sn sl sc, .bool ok]) f := by rw [← hf]; exact hfi
      have k0 := hb.cell 0
      have hn3 := below_new wr (.cells #[.slice dn dl dc, .slice sn sl sc, .bool ok] 72)
      have bq := Blk.new wr #[.slice dn dl dc, .slice sn sl sc, .bool ok] 72
      have HSU := Lib.hid (sure_any (hfi.below hn3))
      have HN := Lib.hid (And.intro hn3 (And.intro bq (And.intro hfi hf)))
      have u6 : (j : Int) < (m : Int) := by omega
      have u7 : (0 : Int) ≤ (j : Int) := by omega
      clear hb hm hfi hn3 bq hf
      go_wp2_with fail
      go_at_call 33; refine HSU.out.mono ?_; rintro r w4 ⟨rfl, hb4⟩
      have bq4 := HN.out.2.1.below hb4
      have x0 := bq4.cell 0
      have x1 := bq4.cell 1
      have x2 := bq4.cell 2
      have hW4 : Below wr.heap.size wr w4 := HN.out.1.trans (hb4.mono HN.out.1.size)
      have HW4 := Lib.hid hW4
      have hf4 := HN.out.2.2.1.below hW4
      have hkc4 := KC.of hW4
      have HF4 := Lib.hid hf4
      clear bq4 hb4 hW4 hf4 k0 hlk r1
      cases hs : f.sure with
      | true =>
        have HSS := Lib.hid hs
        clear hs
        have HL := Lib.hid (left_any HF4.out (0) (by omega) (by omega))
        go_wp2_with fail
        go_at_call 34; refine HL.out.mono ?_; rintro r w5 ⟨dn5, dl5, dc5, sn5, sl5, sc5, ok5, rfl, hf5, hb5⟩
        have hn6 := below_new w5 (.cells #[.slice dn5 dl5 dc5, .slice sn5 sl5 sc5, .bool ok5] 72)
        have bq6 := Blk.new w5 #[.slice dn5 dl5 dc5, .slice sn5 sl5 sc5, .bool ok5] 72
        have y0 := bq6.cell 0
        have y1 := bq6.cell 1
        have y2 := bq6.cell 2
        have hw45 : Below wr.heap.size wr w5 := HW4.out.trans (hb5.mono HW4.out.size)
        have hw6 := hw45.trans (hn6.mono hw45.size)
        have HW6 := Lib.hid (And.intro hw6 (hf5.below hn6))
        clear hn6 bq6 hw6 hw45 hb5 hf5 x0 x1 x2 hkc4
        cases hl : f.left (0) with
        | some g8 =>
          rw [hl] at HW6 HL
          have HPU := Lib.hid (put_any5 (HFt.out.below HW6.out.1) ⟨x.toArray⟩ (by show x.toArray.size ≤ _; simp; omega) (f := g8) HW6.out.2 (by omega) (by have h1 := HW6.out.1.size; have h2 := HBj.out.size; omega))
          have HLL := Lib.hid hl
          clear hl
          go_wp2_with fail
          go_at_call 35; refine HPU.out.mono ?_; rintro r w7 ⟨rfl, hF7, hB7, -, hC7⟩
          have HR7 := Lib.hid (And.intro hF7 (And.intro hB7 hC7))
          clear hF7 hB7 hC7 y0 y1 y2
          go_wp2_with fail
          go_roundg g'
          case measure => omega
          case rel => exact ⟨j + 1, (t.put x g8, u), by push_cast; rfl, by push_cast; rfl, by omega, Lib.hid (by rw [HS1.out]; unfold cr1; rw [HN.out.2.2.2]; rw [HSS.out]; simp only [if_true]; rw [HLL.out]), Lib.hid HR7.out.1, Lib.hid (HBj.out.trans ((HW6.out.1.mono HBj.out.size).trans HR7.out.2.1)), Lib.hid (HKj.out.trans ((KC.of HW6.out.1).trans HR7.out.2.2)), by have := put_n t x g8; simp only; omega, by simp only; omega, by omega⟩
        | none =>
          rw [hl] at HW6 HL
          have HLL := Lib.hid hl
          clear hl
          go_wp2_with fail
          go_roundg g'
          case measure => omega
          case rel => exact ⟨j + 1, (t, u), by push_cast; rfl, by push_cast; rfl, by omega, Lib.hid (by rw [HS1.out]; unfold cr1; rw [HN.out.2.2.2]; rw [HSS.out]; simp only [if_true]; rw [HLL.out]), Lib.hid (HFt.out.below HW6.out.1), Lib.hid (HBj.out.trans (HW6.out.1.mono HBj.out.size)), Lib.hid (HKj.out.trans (KC.of HW6.out.1)), by simp only; omega, by simp only; omega, by omega⟩
      | false =>
        have HSS := Lib.hid hs
        clear hs
        by_cases hu : u < kn
        · have v6 : (u : Int) < (kn : Int) := by omega
          have v7 : (0 : Int) ≤ (u : Int) := by omega
          obtain ⟨gk2, rfl, rk⟩ := HK.out.2.2 u (by rw [HK.out.1]; exact hu)
          have rk4 := hkc4 _ _ (KC.of HBj.out _ _ rk)
          obtain ⟨kx, hkx⟩ : ∃ k, K.getD u 0 = k := ⟨_, rfl⟩
          have hkr := HK.out.2.1 kx (by rw [← hkx, List.getD_eq_getElem?_getD, List.getElem?_eq_getElem (by rw [HK.out.1]; exact hu)]; exact List.getElem_mem _)
          rw [hkx] at rk4
          have HKX := Lib.hid hkx
          clear rk hkx
          have HL := Lib.hid (left_any HF4.out (kx) (hkr.1) (hkr.2))
          go_wp2_with fail
          go_at_call 34; refine HL.out.mono ?_; rintro r w5 ⟨dn5, dl5, dc5, sn5, sl5, sc5, ok5, rfl, hf5, hb5⟩
          have hn6 := below_new w5 (.cells #[.slice dn5 dl5 dc5, .slice sn5 sl5 sc5, .bool ok5] 72)
          have bq6 := Blk.new w5 #[.slice dn5 dl5 dc5, .slice sn5 sl5 sc5, .bool ok5] 72
          have y0 := bq6.cell 0
          have y1 := bq6.cell 1
          have y2 := bq6.cell 2
          have hw45 : Below wr.heap.size wr w5 := HW4.out.trans (hb5.mono HW4.out.size)
          have hw6 := hw45.trans (hn6.mono hw45.size)
          have HW6 := Lib.hid (And.intro hw6 (hf5.below hn6))
          clear hn6 bq6 hw6 hw45 hb5 hf5 x0 x1 x2 hkc4
          cases hl : f.left (kx) with
          | some g8 =>
            rw [hl] at HW6 HL
            have HPU := Lib.hid (put_any5 (HFt.out.below HW6.out.1) ⟨x.toArray⟩ (by show x.toArray.size ≤ _; simp; omega) (f := g8) HW6.out.2 (by omega) (by have h1 := HW6.out.1.size; have h2 := HBj.out.size; omega))
            have HLL := Lib.hid hl
            clear hl
            go_wp2_with fail
            go_at_call 35; refine HPU.out.mono ?_; rintro r w7 ⟨rfl, hF7, hB7, -, hC7⟩
            have HR7 := Lib.hid (And.intro hF7 (And.intro hB7 hC7))
            clear hF7 hB7 hC7 y0 y1 y2
            go_wp2_with fail
            go_roundg g'
            case measure => omega
            case rel => exact ⟨j + 1, (t.put x g8, u + 1), by push_cast; rfl, by push_cast; rfl, by omega, Lib.hid (by rw [HS1.out]; unfold cr1; rw [HN.out.2.2.2]; rw [HSS.out]; simp only [Bool.false_eq_true, if_false]; rw [HKX.out]; rw [HLL.out]), Lib.hid HR7.out.1, Lib.hid (HBj.out.trans ((HW6.out.1.mono HBj.out.size).trans HR7.out.2.1)), Lib.hid (HKj.out.trans ((KC.of HW6.out.1).trans HR7.out.2.2)), by have := put_n t x g8; simp only; omega, by simp only; omega, by omega⟩
          | none =>
            rw [hl] at HW6 HL
            have HLL := Lib.hid hl
            clear hl
            go_wp2_with fail
            go_roundg g'
            case measure => omega
            case rel => exact ⟨j + 1, (t, u + 1), by push_cast; rfl, by push_cast; rfl, by omega, Lib.hid (by rw [HS1.out]; unfold cr1; rw [HN.out.2.2.2]; rw [HSS.out]; simp only [Bool.false_eq_true, if_false]; rw [HKX.out]; rw [HLL.out]), Lib.hid (HFt.out.below HW6.out.1), Lib.hid (HBj.out.trans (HW6.out.1.mono HBj.out.size)), Lib.hid (HKj.out.trans (KC.of HW6.out.1)), by simp only; omega, by simp only; omega, by omega⟩
        · have v6 : ¬ (u : Int) < (kn : Int) := by omega
          have hkx : K.getD u 0 = 0 := by rw [List.getD_eq_getElem?_getD, List.getElem?_eq_none (by rw [HK.out.1]; omega)]; rfl
          have HKX := Lib.hid hkx
          clear hkx
          have HL := Lib.hid (left_any HF4.out (0) (by omega) (by omega))
          go_wp2_with fail
          go_at_call 34; refine HL.out.mono ?_; rintro r w5 ⟨dn5, dl5, dc5, sn5, sl5, sc5, ok5, rfl, hf5, hb5⟩
          have hn6 := below_new w5 (.cells #[.slice dn5 dl5 dc5, .slice sn5 sl5 sc5, .bool ok5] 72)
          have bq6 := Blk.new w5 #[.slice dn5 dl5 dc5, .slice sn5 sl5 sc5, .bool ok5] 72
          have y0 := bq6.cell 0
          have y1 := bq6.cell 1
          have y2 := bq6.cell 2
          have hw45 : Below wr.heap.size wr w5 := HW4.out.trans (hb5.mono HW4.out.size)
          have hw6 := hw45.trans (hn6.mono hw45.size)
          have HW6 := Lib.hid (And.intro hw6 (hf5.below hn6))
          clear hn6 bq6 hw6 hw45 hb5 hf5 x0 x1 x2 hkc4
          cases hl : f.left (0) with
          | some g8 =>
            rw [hl] at HW6 HL
            have HPU := Lib.hid (put_any5 (HFt.out.below HW6.out.1) ⟨x.toArray⟩ (by show x.toArray.size ≤ _; simp; omega) (f := g8) HW6.out.2 (by omega) (by have h1 := HW6.out.1.size; have h2 := HBj.out.size; omega))
            have HLL := Lib.hid hl
            clear hl
            go_wp2_with fail
            go_at_call 35; refine HPU.out.mono ?_; rintro r w7 ⟨rfl, hF7, hB7, -, hC7⟩
            have HR7 := Lib.hid (And.intro hF7 (And.intro hB7 hC7))
            clear hF7 hB7 hC7 y0 y1 y2
            go_wp2_with fail
            go_roundg g'
            case measure => omega
            case rel => exact ⟨j + 1, (t.put x g8, u + 1), by push_cast; rfl, by push_cast; rfl, by omega, Lib.hid (by rw [HS1.out]; unfold cr1; rw [HN.out.2.2.2]; rw [HSS.out]; simp only [Bool.false_eq_true, if_false]; rw [HKX.out]; rw [HLL.out]), Lib.hid HR7.out.1, Lib.hid (HBj.out.trans ((HW6.out.1.mono HBj.out.size).trans HR7.out.2.1)), Lib.hid (HKj.out.trans ((KC.of HW6.out.1).trans HR7.out.2.2)), by have := put_n t x g8; simp only; omega, by simp only; omega, by omega⟩
          | none =>
            rw [hl] at HW6 HL
            have HLL := Lib.hid hl
            clear hl
            go_wp2_with fail
            go_roundg g'
            case measure => omega
            case rel => exact ⟨j + 1, (t, u + 1), by push_cast; rfl, by push_cast; rfl, by omega, Lib.hid (by rw [HS1.out]; unfold cr1; rw [HN.out.2.2.2]; rw [HSS.out]; simp only [Bool.false_eq_true, if_false]; rw [HKX.out]; rw [HLL.out]), Lib.hid (HFt.out.below HW6.out.1), Lib.hid (HBj.out.trans (HW6.out.1.mono HBj.out.size)), Lib.hid (HKj.out.trans (KC.of HW6.out.1)), by simp only; omega, by simp only; omega, by omega⟩
    · have u6 : ¬ (j : Int) < (m : Int) := by omega
      go_wp2_with fail
      go_ret
      have hjm2 : j = m := by omega
      have hT := HT.out
      rw [hjm2, ← HP.out.2.1, List.take_length] at hT
      exact ⟨q, rfl, ss, HP.out.1, by rw [hT]; exact HFt.out, HBj.out⟩
end Go.Proofs.Ytoipmgdfhmochaa
