/- LexCounts: the walk. -/
import Derived.Test.YtpdepdigacpfiaaDoorLPutAt
import Derived.Test.YtpdepdigacpfiaaDoorLAwake
import Derived.Deep.RegionLaw
import Derived.Laws.IdiomStrings
namespace Go.Proofs.YtpdepdigacpfiaaDoor
open Go.RowKit Go.Shelf
set_option linter.unusedVariables false

theorem gap_run {d : Nat} (h : d < 8) (W : World) : (Instr.index 41 (.agg #[.string ⟨#[32]⟩, .string ⟨#[9]⟩, .string ⟨#[13, 32]⟩, .string ⟨#[47, 42, 42, 47]⟩, .string ⟨#[32, 47, 42, 32, 34, 32, 42, 47]⟩, .string ⟨#[47, 42, 10, 42, 47]⟩, .string ⟨#[32, 32]⟩, .string ⟨#[32, 47, 47, 120, 10]⟩]) (.int .i64 (d : Int))).run Tryd.prog W = .ok (.string ⟨(gapB d).toArray⟩) W := by
  rcases (show d = 0 ∨ d = 1 ∨ d = 2 ∨ d = 3 ∨ d = 4 ∨ d = 5 ∨ d = 6 ∨ d = 7 by omega) with rfl | rfl | rfl | rfl | rfl | rfl | rfl | rfl <;> kernel_rfl
theorem sg_run (k : Nat) (h : k < 5) (W : World) : (Instr.index 43 (.agg #[.string ⟨#[61, 61]⟩, .string ⟨#[61]⟩, .string ⟨#[60, 61]⟩, .string ⟨#[60]⟩, .string ⟨#[33]⟩]) (.int .i64 (k : Int))).run Tryd.prog W = .ok (.string ⟨(sgB k).toArray⟩) W := by
  rcases (show k = 0 ∨ k = 1 ∨ k = 2 ∨ k = 3 ∨ k = 4 by omega) with rfl | rfl | rfl | rfl | rfl <;> kernel_rfl
theorem ofNat_nat {n : Nat} (h : n < 256) : (UInt8.ofNat n).toNat = n := by simp; omega
theorem u8_wrap (c : UInt8) : IntKind.u8.wrap (c.toNat : Int) = (c.toNat : Int) := by
  have := c.toNat_lt
  unfold IntKind.wrap
  simp [IntKind.bits, IntKind.signed]
  omega
theorem conv_one (c : UInt8) (w : World) : (convert 35 9 (.slice (some ⟨w.heap.size, 0, none⟩) 1 1)).run Tryd.prog (w.alloc (.cells #[.int .u8 (c.toNat : Int)] 5)) = .ok (.string ⟨#[c]⟩) (w.alloc (.cells #[.int .u8 (c.toNat : Int)] 5)) :=
  run_convert_bytes_back (P := Tryd.prog) _ 35 9 5 ⟨w.heap.size, 0, none⟩ 1 [c] Tryd.underlying35 Tryd.underlying5 Tryd.underlying9 (fun j hj => by
    obtain rfl : j = 0 := by simpa using hj
    simp [Addr.add])
theorem conv_two (a b : UInt8) (w : World) : (convert 35 9 (.slice (some ⟨w.heap.size, 0, none⟩) 2 2)).run Tryd.prog (w.alloc (.cells #[.int .u8 (a.toNat : Int), .int .u8 (b.toNat : Int)] 5)) = .ok (.string ⟨#[a, b]⟩) (w.alloc (.cells #[.int .u8 (a.toNat : Int), .int .u8 (b.toNat : Int)] 5)) :=
  run_convert_bytes_back (P := Tryd.prog) _ 35 9 5 ⟨w.heap.size, 0, none⟩ 2 [a, b] Tryd.underlying35 Tryd.underlying5 Tryd.underlying9 (fun j hj => by
    rcases (show j = 0 ∨ j = 1 by simp at hj; omega) with rfl | rfl <;> simp [Addr.add])
set_option maxRecDepth 100000 in
set_option maxHeartbeats 16000000 in
theorem counts_at {W : World} (x y : Int) {n d : Nat} (hn : n < 100) (hd : d < 8) (hx : wrap64 ((IntKind.u64.wrap x).tmod 100) = (n : Int)) (hy : wrap64 ((IntKind.u64.wrap y).tmod 8) = (d : Int)) (hW : Ready W) :
    Calls Tryd.prog 6 #[.int .i64 x, .int .i64 y] W fun e w' => e = .returned (.bool true) ∧ Below W.heap.size W w' := by
  have hb0 : Below W.heap.size W (W.alloc (.cells #[.int .i64 y] 3)) := below_new _ _
  have HA := Lib.hid (awake_true (hW.below hb0))
  have HW := Lib.hid hW
  have HB0 := Lib.hid hb0
  clear hW hb0
  go_enter Tryd.func6, Tryd.ntmps6
  go_wp2_with fail
  go_at_call 7; refine HA.out.mono ?_; rintro e w1 ⟨rfl, hb1⟩
  have HB1 := Lib.hid (HB0.out.trans (hb1.mono HB0.out.size))
  have hd1 := (Blk.new W #[.int .i64 y] 3).below hb1
  have HD1 := Lib.hid hd1
  have c0 := hd1.cell 0
  have f0 := hd1.frozen 0
  clear hb1 hd1 HA
  go_wp2_with fail
  go_region
  simp only [hx, hy]
  have e2 : Blk ((w1.setCell ⟨W.heap.size, 0, none⟩ (.int .i64 (d : Int))).drew) W.heap.size #[.int .i64 (d : Int)] 3 := HD1.out.set 0 (.int .i64 (d : Int))
  have hb2 : Below W.heap.size W ((w1.setCell ⟨W.heap.size, 0, none⟩ (.int .i64 (d : Int))).drew) := by
    have := below_set (p := ⟨W.heap.size, 0, none⟩) HB1.out (Nat.le_refl _) (.int .i64 (d : Int))
    exact ⟨this.os, this.tape, this.output, this.size, this.block⟩
  obtain ⟨w2, hw2⟩ : ∃ w2, (w1.setCell ⟨W.heap.size, 0, none⟩ (.int .i64 (d : Int))).drew = w2 := ⟨_, rfl⟩
  rw [hw2] at e2 hb2 ⊢
  have HB2 := Lib.hid hb2
  have HE2 := Lib.hid e2
  have c2 := e2.cell 0
  have hgr := fun W => gap_run hd W
  have hmf := hmf
  clear c0 f0 HD1 HB1 hw2 e2 hb2
  obtain ⟨m, hm⟩ : ∃ m, w2.heap.size = m := ⟨_, rfl⟩
  have hWm : W.heap.size < m := by rw [← hm]; exact HE2.out.lt
  have e3 := ((HE2.out.alloc (.cells #[.string ⟨(gapB d).toArray⟩] 9)).alloc (.cells #[.string ⟨#[]⟩] 9)).alloc (.cells #[.slice none 0 0] 23)
  have e5 := ((Blk.new w2 #[.string ⟨(gapB d).toArray⟩] 9).alloc (.cells #[.string ⟨#[]⟩] 9)).alloc (.cells #[.slice none 0 0] 23)
  have e6 := (Blk.new (w2.alloc (.cells #[.string ⟨(gapB d).toArray⟩] 9)) #[.string ⟨#[]⟩] 9).alloc (.cells #[.slice none 0 0] 23)
  have e7 := Blk.new ((w2.alloc (.cells #[.string ⟨(gapB d).toArray⟩] 9)).alloc (.cells #[.string ⟨#[]⟩] 9)) #[.slice none 0 0] 23
  have s1 : (w2.alloc (.cells #[.string ⟨(gapB d).toArray⟩] 9)).heap.size = m + 1 := by rw [← hm]; simp
  have s2 : ((w2.alloc (.cells #[.string ⟨(gapB d).toArray⟩] 9)).alloc (.cells #[.string ⟨#[]⟩] 9)).heap.size = m + 1 + 1 := by rw [← hm]; simp
  have s3 : (((w2.alloc (.cells #[.string ⟨(gapB d).toArray⟩] 9)).alloc (.cells #[.string ⟨#[]⟩] 9)).alloc (.cells #[.slice none 0 0] 23)).heap.size = m + 1 + 1 + 1 := by rw [← hm]; simp
  rw [hm] at e5
  rw [s1] at e6
  rw [s2] at e7
  have hb3 : Below W.heap.size W (((w2.alloc (.cells #[.string ⟨(gapB d).toArray⟩] 9)).alloc (.cells #[.string ⟨#[]⟩] 9)).alloc (.cells #[.slice none 0 0] 23)) := ((HB2.out.alloc HB2.out.size _).alloc (by rw [s1]; omega) _).alloc (by rw [s2]; omega) _
  have HENV : Hid (Env (m + 3) (((w2.alloc (.cells #[.string ⟨(gapB d).toArray⟩] 9)).alloc (.cells #[.string ⟨#[]⟩] 9)).alloc (.cells #[.slice none 0 0] 23)) W.heap.size m (m + 1) (m + 1 + 1) d ⟨(gapB d).toArray⟩ (txB d (parts 0)) (toks d 0 (parts 0))) := Lib.hid ⟨e3, e5, e6, _, e7, by rfl, .inl ⟨rfl, rfl⟩⟩
  have HB3 := Lib.hid hb3
  clear e3 e5 e6 e7 hb3 HE2 HB2
  go_wp2_with fail
  go_loopg [9] n (fun gf s9 wx => ∃ i : Nat, s9 = .int .i64 (i : Int) ∧ Hid (Below W.heap.size W wx) ∧ Hid (Env (m + 3) wx W.heap.size m (m + 1) (m + 1 + 1) d ⟨(gapB d).toArray⟩ (txB d (parts i)) (toks d 0 (parts i))) ∧ m + 3 ≤ wx.heap.size ∧ i + gf = n)
  case atStart => exact ⟨0, rfl, HB3, HENV, by rw [s3]; omega, by omega⟩
  case round =>
    obtain ⟨i, rfl, HBi, HEi, hmi, hfi⟩ := hrel
    clear s1 s2 s3 hgr
    by_cases hi : i < n
    · obtain ⟨g', rfl⟩ : ∃ g', gk = g' + 1 := ⟨gk - 1, by omega⟩
      have j1 : (i : Int) < (n : Int) := by omega
      have hpl := parts_length i
      have hfl := flat_parts_len (d := d) i
      have hf1 := flat_step_len (x := nmP i) hfl (nm_len i).2
      have hf2 := flat_step_len (x := nuP i) hf1 (nu_len2 i).2
      obtain ⟨a, ha⟩ : ∃ a, i % 26 = a := ⟨_, rfl⟩
      obtain ⟨c, hc⟩ : ∃ c, UInt8.ofNat (97 + a) = c := ⟨_, rfl⟩
      have ha1 : (i : Int) % 26 = (a : Int) := by omega
      have hc0 : c.toNat = 97 + a := by rw [← hc]; exact ofNat_nat (by omega)
      have hc1 : (97 : Int) + (a : Int) = (c.toNat : Int) := by omega
      have hc2 := u8_wrap c
      have hcv := fun w => conv_one c w
      have hs1 : (⟨#[110, 45]⟩ : ByteArray) ++ ⟨#[c]⟩ = ⟨(nmP i).2.toArray⟩ := by rw [← hc, ← ha]; exact bytes_app [110, 45] [_]
      have HP1 := Lib.hid (put_at (x := nmP i) (HEi.out.below (below_new wr (.cells #[.int .u8 (c.toNat : Int)] 5))) (by omega) (by omega) (by omega) (by omega) (by simp; omega) ⟨by omega, by omega⟩ ⟨by omega, by omega⟩ (by omega) ⟨Nat.le_refl _, by omega, by omega, by omega⟩ hs1 (nm_len i) (by omega) (by omega))
      have HBn := Lib.hid (HBi.out.alloc HBi.out.size (.cells #[.int .u8 (c.toNat : Int)] 5))
      clear ha hc hc0 hs1
      go_wp2_with fail
      go_at_call 11; refine HP1.out.mono ?_; rintro e w4 ⟨rfl, hb4, he4⟩
      have HB4 := Lib.hid (HBn.out.trans hb4)
      have hs4 := hb4.size
      have hm4 : m + 3 ≤ w4.heap.size := by have : (wr.alloc (.cells #[.int .u8 (c.toNat : Int)] 5)).heap.size = wr.heap.size + 1 := by simp
                                            omega
      obtain ⟨a2, hA2⟩ : ∃ a2, i % 9 = a2 := ⟨_, rfl⟩
      obtain ⟨b2, hB2⟩ : ∃ b2, i / 10 = b2 := ⟨_, rfl⟩
      obtain ⟨x2, hx2⟩ : ∃ c, UInt8.ofNat (49 + a2) = c := ⟨_, rfl⟩
      obtain ⟨y2, hy2⟩ : ∃ c, UInt8.ofNat (48 + b2) = c := ⟨_, rfl⟩
      have r1 : (i : Int) % 9 = (a2 : Int) := by omega
      have r2 : (i : Int) / 10 = (b2 : Int) := by omega
      have r2' : (i : Int).tdiv 10 = (b2 : Int) := by rw [Int.tdiv_eq_ediv_of_nonneg (by omega)]; omega
      have r3 : (49 : Int) + (a2 : Int) = (x2.toNat : Int) := by have h := (show x2.toNat = 49 + a2 by rw [← hx2]; exact ofNat_nat (by omega)); omega
      have r4 : (48 : Int) + (b2 : Int) = (y2.toNat : Int) := by have h := (show y2.toNat = 48 + b2 by rw [← hy2]; exact ofNat_nat (by omega)); omega
      have u1 := u8_wrap x2
      have u2 := u8_wrap y2
      have hcv2 := fun w => conv_two x2 y2 w
      have hs2 : (⟨#[x2, y2]⟩ : ByteArray) = ⟨(nuP i).2.toArray⟩ := by rw [← hx2, ← hy2, ← hA2, ← hB2]; rfl
      have HP2 := Lib.hid (put_at (x := nuP i) (he4.below (below_new w4 (.cells #[.int .u8 (x2.toNat : Int), .int .u8 (y2.toNat : Int)] 5))) (by omega) (by omega) (by omega) (by omega) (by simp; omega) ⟨by omega, by omega⟩ ⟨by omega, by omega⟩ (by omega) ⟨Nat.le_refl _, by omega, by omega, by omega⟩ hs2 (nu_len2 i) (by omega) (by simp; omega))
      have HBn2 := Lib.hid (HB4.out.alloc HB4.out.size (.cells #[.int .u8 (x2.toNat : Int), .int .u8 (y2.toNat : Int)] 5))
      clear hA2 hB2 hx2 hy2 hs2 HP1 hb4 he4 HBn hcv hc1 hc2 ha1 hs4
      go_wp2_with fail
      go_at_call 11; refine HP2.out.mono ?_; rintro e w5 ⟨rfl, hb5, he5⟩
      have HB5 := Lib.hid (HBn2.out.trans hb5)
      have hs5 := hb5.size
      have hm5 : m + 3 ≤ w5.heap.size := by have : (w4.alloc (.cells #[.int .u8 (x2.toNat : Int), .int .u8 (y2.toNat : Int)] 5)).heap.size = w4.heap.size + 1 := by simp
                                            omega
      obtain ⟨a3, hA3⟩ : ∃ a3, i % 5 = a3 := ⟨_, rfl⟩
      have r5 : (i : Int) % 5 = (a3 : Int) := by omega
      have hsr := fun W => sg_run a3 (by omega) W
      have HP3 := Lib.hid (put_at (x := sgP i) (s := ⟨(sgB a3).toArray⟩) he5 (by omega) (by omega) (by omega) (by omega) hm5 ⟨by omega, by omega⟩ ⟨by omega, by omega⟩ (by omega) ⟨Nat.le_refl _, by omega, by omega, by omega⟩ (by rw [← hA3]; rfl) (sg_len i) (by omega) (by simp; omega))
      clear HP2 hb5 he5 HBn2 hcv2 r1 r2 r2' r3 r4 u1 u2 hs5 hA3
      go_wp2_with fail
      go_at_call 11; refine HP3.out.mono ?_; rintro e w6 ⟨rfl, hb6, he6⟩
      have HB6 := Lib.hid (HB5.out.trans hb6)
      have hm6 : m + 3 ≤ w6.heap.size := by have := hb6.size; omega
      rw [← parts_step] at he6
      have HE6 := Lib.hid he6
      clear HP3 hb6 he6 hsr r5
      go_wp2_with fail
      go_roundg g'
      case measure => omega
      case rel => exact ⟨i + 1, by push_cast; rfl, HB6, HE6, hm6, by omega⟩
    · obtain rfl : i = n := by omega
      obtain ⟨E3, E5, E6, v, E7, hrow⟩ := HEi.out
      have hkl := toks_length d (parts i) 0
      rw [parts_length] at hkl
      have hfl := flat_parts_len (d := d) i
      rw [← txB_size] at hfl
      have hscan := scan_counts hd hn
      rw [show (⟨(flat d (parts i)).toArray⟩ : ByteArray) = txB d (parts i) from rfl] at hscan
      obtain ⟨T, hT⟩ : ∃ T, txB d (parts i) = T := ⟨_, rfl⟩
      obtain ⟨K, hK⟩ : ∃ K, toks d 0 (parts i) = K := ⟨_, rfl⟩
      rw [hT, hK] at hscan
      rw [hT] at E6 hfl
      rw [hK] at hrow hkl
      obtain ⟨i0, hi, hz0, hz1, hz2⟩ := info_parts infoTok
      have HE6 := Lib.hid E6
      have HE7 := Lib.hid E7
      have c6 := E6.cell 0
      have c7 := E7.cell 0
      have hrow1 := hrow.alloc (.cells #[.int .i64 0, .string ⟨#[]⟩, .int .i64 (T.size : Int)] 32)
      clear E3 E5 E6 E7 hrow HEi hT hK HENV HB3 c2
      go_wp2_with (at_builtin; refine wpList_append_own _ rfl _ _ 23 rfl (m + 3) 32 i0 (.agg #[.int .i64 0, .string ⟨#[]⟩, .int .i64 0]) 3 32 Tryd.underlying23 hi hz0 hz1 hz2 rfl (by decide) _ _ _ rfl hrow1 ⟨wr.heap.size, 0, none⟩ 1 1 [.int .i64 0, .string ⟨#[]⟩, .int .i64 (T.size : Int)] rfl rfl (cell_three _ _ _ _ _) (by intro u hu; simp at hu; rcases hu with rfl | rfl | rfl <;> rfl) (by unfold maxLen; omega) (by omega) (by simp; omega) ?_; intro v' w6 hown' hgrow _; refine Hid.out ?_)
      refine Lib.hid ?_
      obtain ⟨g', cap', rfl⟩ := row_slice hown'
      have hnr : ∀ P, P < m + 3 → some P ≠ v.ownBlock := fun P hP e => by have := own_base hrow1 _ e.symm; omega
      have b6 := (HE6.out.alloc (.cells #[.int .i64 0, .string ⟨#[]⟩, .int .i64 (T.size : Int)] 32)).grown hgrow (hnr _ (by omega))
      have b7 := (HE7.out.alloc (.cells #[.int .i64 0, .string ⟨#[]⟩, .int .i64 (T.size : Int)] 32)).grown hgrow (hnr _ (by omega))
      have HB6 : Hid (Below W.heap.size W w6) := Lib.hid ((HBi.out.alloc HBi.out.size _).grown hgrow (by simp; omega) (fun q hq => by have := own_base hrow1 q hq; omega))
      have d7 := b7.cell 0
      have f7 := b7.frozen 0
      obtain ⟨w7, hw7⟩ : ∃ w7, w6.setCell ⟨m + 1 + 1, 0, none⟩ (.slice (some ⟨g', 0, none⟩) (K.length + 1) cap') = w7 := ⟨_, rfl⟩
      have D6 := b6.other (p := ⟨m + 1 + 1, 0, none⟩) (by show m + 1 ≠ m + 1 + 1; omega) (.slice (some ⟨g', 0, none⟩) (K.length + 1) cap')
      have D7 := b7.set 0 (.slice (some ⟨g', 0, none⟩) (K.length + 1) cap')
      have DR := ownsRow_other hown' (p := ⟨m + 1 + 1, 0, none⟩) (by show m + 1 + 1 < m + 3; omega) (.slice (some ⟨g', 0, none⟩) (K.length + 1) cap')
      have HB7 := Lib.hid (below_set (p := ⟨m + 1 + 1, 0, none⟩) HB6.out (by show W.heap.size ≤ m + 1 + 1; omega) (.slice (some ⟨g', 0, none⟩) (K.length + 1) cap'))
      rw [hw7] at D6 D7 DR HB7
      have HR7 : Hid (Row w7 (.slice (some ⟨g', 0, none⟩) (K.length + 1) cap') (K ++ [⟨0, ⟨#[]⟩, T.size⟩])) := Lib.hid (Row.of (by rw [tkCells_app]; exact DR) (by simp) (by omega))
      have HS := Lib.hid (scan_ok (HW.out.below HB7.out) hscan)
      have HD7 := Lib.hid D7
      have g6 := D6.cell 0
      clear c6 c7 b6 b7 D6 D7 DR hown' hrow1 hnr HB6 HE6 HE7 hi hz0 hz1 hz2 hscan
      go_wp2_with fail
      go_at_call 8; refine HS.out.mono ?_; rintro e w8 ⟨vs, rfl, hr8, hb8⟩
      have HB8 := Lib.hid (HB7.out.trans (hb8.mono HB7.out.size))
      have c7 := (HD7.out.below hb8).cell 0
      have HQ := Lib.hid (same_any hr8 (HR7.out.below hb8) (by simp; omega))
      clear hr8 hb8 HS HR7 HD7 g6
      go_wp2_with fail
      go_at_call 12; refine HQ.out.mono ?_; rintro e w9 ⟨rfl, hb9⟩
      have HB9 := Lib.hid (HB8.out.trans (hb9.mono HB8.out.size))
      clear hb9 HQ
      go_wp2
      go_ret
      exact ⟨rfl, HB9.out⟩
theorem counts_any {W : World} (x : Int) (hx1 : -9223372036854775808 ≤ x) (hx2 : x ≤ 9223372036854775807) (y : Int) (hy1 : -9223372036854775808 ≤ y) (hy2 : y ≤ 9223372036854775807) (hW : Ready W) : Calls Tryd.prog 6 #[.int .i64 x, .int .i64 y] W fun e w' => e = .returned (.bool true) ∧ Below W.heap.size W w' := by
  have hk0 : 0 ≤ (IntKind.u64.wrap x).tmod 100 := Int.tmod_nonneg _ (Int.emod_nonneg _ (by decide))
  have hk1 : (IntKind.u64.wrap x).tmod 100 < 100 := Int.tmod_lt_of_pos _ (by omega)
  obtain ⟨n, hn⟩ : ∃ n : Nat, (n : Int) = (IntKind.u64.wrap x).tmod 100 := ⟨((IntKind.u64.wrap x).tmod 100).toNat, by omega⟩
  have hj0 : 0 ≤ (IntKind.u64.wrap y).tmod 8 := Int.tmod_nonneg _ (Int.emod_nonneg _ (by decide))
  have hj1 : (IntKind.u64.wrap y).tmod 8 < 8 := Int.tmod_lt_of_pos _ (by omega)
  obtain ⟨d, hd⟩ : ∃ n : Nat, (n : Int) = (IntKind.u64.wrap y).tmod 8 := ⟨((IntKind.u64.wrap y).tmod 8).toNat, by omega⟩
  exact counts_at x y (n := n) (d := d) (by omega) (by omega) (by rw [← hn]; exact IntWalk.wrap64_in _ (by omega)) (by rw [← hd]; exact IntWalk.wrap64_in _ (by omega)) hW
end Go.Proofs.YtpdepdigacpfiaaDoor
