/- VfsLimits: the law's walk. -/
import Derived.Test.YtoipmgdfhmochaaFLimM
namespace Go.Proofs.Ytoipmgdfhmochaa
open Go.RowKit Go.Shelf
set_option linter.unusedVariables false
set_option linter.unusedSimpArgs false

theorem infoB : (Try.prog.info? 5).map (fun i => (i.zero, i.size, i.bytes)) = some (some (.int .u8 0), 1, 1) := by kernel_rfl
theorem made_any (w : World) (n : Nat) (hn : n ≤ 100000) : ∃ w' L, (Instr.makeSlice 32 (.int .i64 (n : Int)) (.int .i64 (n : Int))).run Try.prog w = .ok (.slice (some ⟨w.heap.size, 0, none⟩) n n) w' ∧ BR w' (.slice (some ⟨w.heap.size, 0, none⟩) n n) L ∧ L.length = n ∧ Below w.heap.size w w' := by
  obtain ⟨i, hi, hz, hs, hb⟩ : ∃ i, Try.prog.info? 5 = some i ∧ i.zero = some (.int .u8 0) ∧ i.size = 1 ∧ i.bytes = 1 := by
    have h := infoB
    cases hi : Try.prog.info? 5 with
    | none => rw [hi] at h; cases h
    | some i =>
      rw [hi] at h
      simp only [Option.map_some, Option.some.injEq, Prod.mk.injEq] at h
      exact ⟨i, rfl, h.1, h.2.1, h.2.2⟩
  obtain ⟨w', h1, h2, h3⟩ := run_make_full (P := Try.prog) (w := w) w.heap.size 32 5 i (.int .u8 0) 1 Try.underlying32 hi hz hs .i64 .i64 n (by rw [hb]; omega) (by unfold maxLen; omega) (Nat.le_refl _)
  have hL : (List.replicate n (0 : UInt8)).length = n := List.length_replicate
  have hrow : w'.ownsRow w.heap.size 5 1 (.slice (some ⟨w.heap.size, 0, none⟩) n n) (List.replicate n (0 : UInt8)).length ((numsOf (List.replicate n (0 : UInt8))).map (Value.int .u8)) := by
    rw [hL]
    have e : (numsOf (List.replicate n (0 : UInt8))).map (Value.int .u8) = (madeCells (Value.int .u8 0).cells (n * 1)).toList := by
      show _ = (madeCells #[.int .u8 0] (n * 1)).toList
      rw [toList_madeCells_one]
      simp [numsOf]
    rw [e]
    exact h2
  obtain ⟨a, c, -, hbr⟩ := BR.of_row (by rw [hL]; omega) hrow
  exact ⟨w', _, h1, hbr, hL, (Below.refl _ _).grown h3 (Nat.le_refl _) (fun k hk => by cases hk)⟩
theorem pth_cells {i : Nat} (hi : i < 64) : ∀ j, j < (pth i).length → (#[.int .u8 102, .int .u8 (97 + (i : Int) / 8), .int .u8 (97 + (i : Int) % 8)] : Array Value)[j]? = some (.int .u8 ((numsOf (pth i)).getD j 0)) := fun j hj => by
  have e1 : ((UInt8.ofNat (97 + i / 8)).toNat : Int) = 97 + (i : Int) / 8 := by
    rw [show (UInt8.ofNat (97 + i / 8)).toNat = (97 + i / 8) % 256 from by simp]; omega
  have e2 : ((UInt8.ofNat (97 + i % 8)).toNat : Int) = 97 + (i : Int) % 8 := by
    rw [show (UInt8.ofNat (97 + i % 8)).toNat = (97 + i % 8) % 256 from by simp]; omega
  match j, hj with
  | 0, _ => rfl
  | 1, _ => show some (Value.int .u8 (97 + (i : Int) / 8)) = some (.int .u8 ((UInt8.ofNat (97 + i / 8)).toNat : Int)); rw [e1]
  | 2, _ => show some (Value.int .u8 (97 + (i : Int) % 8)) = some (.int .u8 ((UInt8.ofNat (97 + i % 8)).toNat : Int)); rw [e2]
theorem pth_conv {i : Nat} (hi : i < 64) (w : World) : (convert 32 9 (.slice (some ⟨w.heap.size, 0, none⟩) 3 3)).run Try.prog (w.alloc (.cells #[.int .u8 102, .int .u8 (97 + (i : Int) / 8), .int .u8 (97 + (i : Int) % 8)] 5)) = .ok (.string ⟨(pth i).toArray⟩) (w.alloc (.cells #[.int .u8 102, .int .u8 (97 + (i : Int) / 8), .int .u8 (97 + (i : Int) % 8)] 5)) :=
  conv_any (BR.new (L := pth i) (by show 3 ≤ _; omega) (pth_cells hi) (n := 3) rfl)
theorem pth_asc {i : Nat} (hi : i < 64) : AsciiB ⟨(pth i).toArray⟩ := ascii_of (pth_ascii i hi)
theorem k_of (n : Int) : ∃ k : Nat, k < 64 ∧ (IntKind.u64.wrap n).tmod 64 = (k : Int) := by
  have h0 : 0 ≤ IntKind.u64.wrap n := by
    show 0 ≤ (let m := n % (2 ^ 64 : Int); if false && m ≥ (2 ^ (64 - 1) : Int) then m - (2 ^ 64 : Int) else m)
    simp only [Bool.false_and, Bool.false_eq_true, if_false]
    exact Int.emod_nonneg _ (by decide)
  refine ⟨((IntKind.u64.wrap n).tmod 64).toNat, ?_, ?_⟩
  · rw [Int.tmod_eq_emod_of_nonneg h0]; omega
  · rw [Int.tmod_eq_emod_of_nonneg h0]; omega
set_option maxRecDepth 100000 in
set_option maxHeartbeats 4000000 in
theorem limits10_any {W : World} {n : Int} (hn0 : -9223372036854775808 ≤ n) (hn1 : n ≤ 9223372036854775807) : Calls Try.prog 6 #[.int .i64 n] W fun e w' => e = .returned (.bool true) ∧ Below W.heap.size W w' := by
  have HW := Lib.hid (@new_any W)
  have HA := Lib.hid (fun W => @awake_any W)
  go_enter Try.func6, Try.ntmps6
  go_wp2_with fail
  go_at_call 8; refine HW.out.mono ?_; rintro r w1 ⟨p, rfl, h1, hb1⟩
  have HF1 := Lib.hid h1
  have HB1 := Lib.hid hb1
  clear h1 hb1
  go_wp2_with fail
  go_at_call 10; refine (HA.out w1).mono ?_; rintro r w2 ⟨rfl, hb2⟩
  have HF2 := Lib.hid (HF1.out.below hb2)
  have HB2 := Lib.hid (HB1.out.trans (hb2.mono HB1.out.size))
  clear hb2
  go_wp2_with fail
  go_loopg [4] 65 (fun gf s4 wx => ∃ (i : Nat) (s : FS), s4 = .int .i64 (i : Int) ∧ i ≤ 64 ∧ Hid (LimAt s i (upto i)) ∧ s.steps ≤ i ∧ Hid (FsAt wx W.heap.size p s) ∧ Hid (Below W.heap.size W wx) ∧ i + gf = 65)
  case atStart => exact ⟨0, FS0, rfl, by omega, Lib.hid lim0, by decide, HF2, HB2, rfl⟩
  case round =>
    obtain ⟨i, s, rfl, hi64, HL, hst, HF, HB, hgf⟩ := hrel
    clear HW HA HF1 HB1 HF2 HB2
    by_cases hi : i < 64
    · obtain ⟨g', rfl⟩ : ∃ g', gk = g' + 1 := ⟨gk - 1, by omega⟩
      have u6 : (i : Int) < 64 := by omega
      have cv := pth_conv hi wr
      have hn3 := below_new wr (.cells #[.int .u8 102, .int .u8 (97 + (i : Int) / 8), .int .u8 (97 + (i : Int) % 8)] 5)
      have HB3 : Hid (Below W.heap.size W (wr.alloc (.cells #[.int .u8 102, .int .u8 (97 + (i : Int) / 8), .int .u8 (97 + (i : Int) % 8)] 5))) := Lib.hid (HB.out.trans (hn3.mono HB.out.size))
      have HX := Lib.hid (write_any (HF.out.below hn3) ⟨(pth i).toArray⟩ (pth_asc hi) (by show 3 ≤ _; omega) (BR.nil _) (HL.out.fit (by omega)) HB3.out.size)
      have HN := Lib.hid (HL.out.next hi (by omega))
      clear hn3
      go_wp2_with fail
      go_at_call 15; refine HX.out.mono ?_; rintro r w3 ⟨h3a, h3, hb3, -⟩
      replace h3a : r = .returned (.int .i64 0) := by rw [h3a]; exact congrArg (fun k : Nat => Ending.returned (.int .i64 (k : Int))) HN.out.1
      subst h3a
      have HF3 : Hid (FsAt w3 W.heap.size p (s.wr (pth i) []).2) := Lib.hid h3
      have HB4 := Lib.hid (HB3.out.trans hb3)
      clear h3 hb3
      go_wp2_with fail
      go_roundg g'
      case measure => omega
      case rel => exact ⟨i + 1, (s.wr (pth i) []).2, by push_cast; rfl, by omega, Lib.hid HN.out.2.1, by rw [HN.out.2.2]; omega, HF3, HB4, by omega⟩
    · have u6 : ¬ (i : Int) < 64 := by omega
      obtain rfl : i = 64 := by omega
      obtain ⟨k, hk64, hk⟩ := k_of n
      have cv := pth_conv hk64 wr
      have HK := Lib.hid hk64
      have hn3 := below_new wr (.cells #[.int .u8 102, .int .u8 (97 + (k : Int) / 8), .int .u8 (97 + (k : Int) % 8)] 5)
      have HB3 : Hid (Below W.heap.size W (wr.alloc (.cells #[.int .u8 102, .int .u8 (97 + (k : Int) / 8), .int .u8 (97 + (k : Int) % 8)] 5))) := Lib.hid (HB.out.trans (hn3.mono HB.out.size))
      have hPa := pth_asc hk64
      have HP : Hid (upto 64 (pth k) ∧ goodP (pth k) = true ∧ AsciiB ⟨(pth k).toArray⟩ ∧ (pth k).length = 3) := Lib.hid ⟨⟨k, hk64, rfl⟩, pth_good k hk64, hPa, rfl⟩
      have hng : ¬ upto 64 [103] := fun ⟨j, h1, h2⟩ => pth_g j h1 h2.symm
      have hnl : ¬ upto 64 lngB := fun ⟨j, h1, h2⟩ => pth_lng j h1 h2.symm
      have HNG := Lib.hid (And.intro hng hnl)
      have HX := Lib.hid (write_any (HF.out.below hn3) ⟨#[103]⟩ (ascii_of (by decide)) (by decide) (BR.nil _) (HL.out.fit (by omega)) HB3.out.size)
      clear hn3 hng hnl hPa
      obtain ⟨P, hPP⟩ : ∃ P, pth k = P := ⟨_, rfl⟩
      rw [hPP] at cv HP
      clear hPP HK
      go_wp2_with fail
      go_at_call 15; refine HX.out.mono ?_; rintro r w4 hpo
      obtain ⟨rfl, h4, hb4⟩ := post_code hpo (wr_bad (HL.out.full HNG.out.1 g_good _ (by decide)) (by decide)) (z := 3) rfl
      have HB4 := Lib.hid (HB3.out.trans hb4)
      have HX4 := Lib.hid (create_any h4 ⟨#[103]⟩ (ascii_of (by decide)) (by decide) (BR.nil _) (HL.out.fit (by omega)) HB4.out.size)
      clear h4 hb4 hpo cv hk
      go_wp2_with fail
      go_at_call 25; refine HX4.out.mono ?_; rintro r w5 hpo
      obtain ⟨rfl, h5, hb5⟩ := post_code hpo (cr_bad (HL.out.full HNG.out.1 g_good _ (by decide)) (by decide)) (z := 3) rfl
      have hB5 := HB4.out.trans hb5
      obtain ⟨w6, L6, hmk, hbr6, hl6, hb6⟩ := made_any w5 65536 (by omega)
      have hmk : (Instr.makeSlice 32 (.int .i64 65536) (.int .i64 65536)).run Try.prog w5 = .ok (.slice (some ⟨w5.heap.size, 0, none⟩) 65536 65536) w6 := hmk
      have HB6 := Lib.hid (hB5.trans (hb6.mono hB5.size))
      have HX6 := Lib.hid (write_any (h5.below hb6) ⟨P.toArray⟩ HP.out.2.2.1 (by show P.toArray.size ≤ _; rw [List.size_toArray, HP.out.2.2.2]; omega) hbr6 (HL.out.fit (by omega)) HB6.out.size)
      have HL6 := Lib.hid hl6
      clear h5 hb5 hB5 hpo hbr6 hl6 hb6
      go_wp2_with fail
      go_at_call 15; refine HX6.out.mono ?_; rintro r w7 hpo
      have hck6 : ckD s P L6.length = 0 := HL.out.free HP.out.2.1 _ (by rw [HL6.out]; omega) (.inl HP.out.1)
      obtain ⟨rfl, h7, hb7⟩ := post_code hpo (wr_ok hck6 HL.out.dies) (z := 0) rfl
      have hst1 : (s.step.put P ⟨L6, (s.old P).safe, (s.old P).ok⟩).steps = s.steps + 1 := HL.out.stepn
      have hL1 : LimAt (s.step.put P ⟨L6, (s.old P).safe, (s.old P).ok⟩) 64 (upto 64) := HL.out.put (by omega) P _ 64 (.inl ⟨HP.out.1, rfl⟩) _ (fun y => ⟨fun hy => .inr hy, fun hy => hy.elim (fun e => by rw [e]; exact HP.out.1) id⟩)
      obtain ⟨s1, hs1⟩ : ∃ t, s.step.put P ⟨L6, (s.old P).safe, (s.old P).ok⟩ = t := ⟨_, rfl⟩
      rw [hs1] at hst1 hL1 h7
      have HL1 := Lib.hid hL1
      have HS1 := Lib.hid hst1
      have hB7 := HB6.out.trans hb7
      obtain ⟨w8, L8, hmk8, hbr8, hl8, hb8⟩ := made_any w7 65537 (by omega)
      have hmk8 : (Instr.makeSlice 32 (.int .i64 65537) (.int .i64 65537)).run Try.prog w7 = .ok (.slice (some ⟨w7.heap.size, 0, none⟩) 65537 65537) w8 := hmk8
      have HB8 := Lib.hid (hB7.trans (hb8.mono hB7.size))
      have HX8 := Lib.hid (write_any (h7.below hb8) ⟨P.toArray⟩ HP.out.2.2.1 (by show P.toArray.size ≤ _; rw [List.size_toArray, HP.out.2.2.2]; omega) hbr8 (HL1.out.fit (by omega)) HB8.out.size)
      have HL8 := Lib.hid hl8
      clear h7 hb7 hB7 hpo hbr8 hl8 hb8 hck6 hst1 hL1 hs1 hmk HX6
      go_wp2_with fail
      go_at_call 15; refine HX8.out.mono ?_; rintro r w9 hpo
      obtain ⟨rfl, h9, hb9⟩ := post_code hpo (wr_bad (ck_big (s := s1) HP.out.2.1 (by rw [HL8.out]; omega)) (by decide)) (z := 3) rfl
      have HB9 := Lib.hid (HB8.out.trans hb9)
      have HX9 := Lib.hid (rename_any h9 ⟨P.toArray⟩ ⟨lngB.toArray⟩ HP.out.2.2.1 (by show P.toArray.size ≤ _; rw [List.size_toArray, HP.out.2.2.2]; omega) (ascii_of (by decide +kernel)) (by decide) (HL1.out.fit (by omega)) HB9.out.size)
      clear h9 hb9 hpo hmk8 HX8
      go_wp2_with fail
      go_at_call 19; refine HX9.out.mono ?_; rintro r w10 hpo
      obtain ⟨rfl, h10, hb10⟩ := post_code hpo (rn_ok lng_good (HL1.out.there HP.out.2.1 HP.out.1) HL1.out.dies) (z := 0) rfl
      have hL2a : LimAt (s1.step.del P) 63 (fun y => y ≠ P ∧ upto 64 y) := HL1.out.del (by have := HS1.out; omega) P HP.out.1 63 rfl _ (fun y => Iff.rfl)
      have hL2 : LimAt ((s1.step.del P).put lngB (s1.old P)) 64 (fun y => y = lngB ∨ (y ≠ P ∧ upto 64 y)) := hL2a.put2 lngB _ 64 (fun hh => HNG.out.2 hh.2) rfl _ (fun y => Iff.rfl)
      have hst2 : ((s1.step.del P).put lngB (s1.old P)).steps = s1.steps + 1 := HL1.out.stepn
      obtain ⟨s2, hs2⟩ : ∃ t, (s1.step.del P).put lngB (s1.old P) = t := ⟨_, rfl⟩
      have h10 : FsAt w10 W.heap.size p ((s1.step.del P).put lngB (s1.old P)) := h10
      rw [hs2] at h10 hL2 hst2
      have HL2 := Lib.hid hL2
      have HS2 := Lib.hid hst2
      have HB10 := Lib.hid (HB9.out.trans hb10)
      have HX10 := Lib.hid (write_any h10 ⟨#[103]⟩ (ascii_of (by decide)) (by decide) (BR.nil _) (HL2.out.fit (by omega)) HB10.out.size)
      clear h10 hb10 hpo hL2 hL2a hst2 hs2 HX9
      go_wp2_with fail
      go_at_call 15; refine HX10.out.mono ?_; rintro r w11 hpo
      obtain ⟨rfl, h11, hb11⟩ := post_code hpo (wr_bad (HL2.out.full (fun hh => hh.elim (by decide) (fun h2 => HNG.out.1 h2.2)) g_good _ (by decide)) (by decide)) (z := 3) rfl
      have HB11 := Lib.hid (HB10.out.trans hb11)
      have HX11 := Lib.hid (rename_any h11 ⟨lngB.toArray⟩ ⟨(lngB ++ [52]).toArray⟩ (ascii_of (by decide +kernel)) (by decide) (ascii_of (by decide +kernel)) (by decide) (HL2.out.fit (by omega)) HB11.out.size)
      clear h11 hb11 hpo HX10
      go_wp2_with fail
      go_at_call 19; refine HX11.out.mono ?_; rintro r w12 hpo
      obtain ⟨rfl, h12, hb12⟩ := post_code hpo (rn_bad lng_bad) (z := 6) rfl
      have HB12 := Lib.hid (HB11.out.trans hb12)
      have HX12 := Lib.hid (remove_any h12 ⟨lngB.toArray⟩ (ascii_of (by decide +kernel)) (by decide) (HL2.out.fit (by omega)) HB12.out.size)
      clear h12 hb12 hpo HX11
      go_wp2_with fail
      go_at_call 26; refine HX12.out.mono ?_; rintro r w13 hpo
      obtain ⟨rfl, h13, hb13⟩ := post_code hpo (rm_ok (HL2.out.there lng_good (.inl rfl)) HL2.out.dies) (z := 0) rfl
      have hL3 : LimAt (s2.step.del lngB) 63 (fun y => y ≠ lngB ∧ (y = lngB ∨ (y ≠ P ∧ upto 64 y))) := HL2.out.del (by have := HS1.out; have := HS2.out; omega) lngB (.inl rfl) 63 rfl _ (fun y => Iff.rfl)
      have hst3 : (s2.step.del lngB).steps = s2.steps + 1 := HL2.out.stepn
      obtain ⟨s3, hs3⟩ : ∃ t, s2.step.del lngB = t := ⟨_, rfl⟩
      have h13 : FsAt w13 W.heap.size p (s2.step.del lngB) := h13
      rw [hs3] at h13 hL3 hst3
      have HL3 := Lib.hid hL3
      have HS3 := Lib.hid hst3
      have HB13 := Lib.hid (HB12.out.trans hb13)
      have HX13 := Lib.hid (write_any h13 ⟨#[103]⟩ (ascii_of (by decide)) (by decide) (BR.nil _) (HL3.out.fit (by omega)) HB13.out.size)
      clear h13 hb13 hpo hL3 hst3 hs3 HX12
      go_wp2_with fail
      go_at_call 15; refine HX13.out.mono ?_; rintro r w14 hpo
      obtain ⟨rfl, h14, hb14⟩ := post_code hpo (wr_ok (HL3.out.free g_good _ (by decide) (.inr (by decide))) HL3.out.dies) (z := 0) rfl
      have hL4 := HL3.out.put (by have := HS1.out; have := HS2.out; have := HS3.out; omega) [103] ⟨[], (s3.old [103]).safe, (s3.old [103]).ok⟩ 64 (.inr ⟨fun hh => hh.2.elim (by decide) (fun h2 => HNG.out.1 h2.2), rfl⟩) (fun y => y = [103] ∨ (y ≠ lngB ∧ (y = lngB ∨ (y ≠ P ∧ upto 64 y)))) (fun y => Iff.rfl)
      have hn4 := hL4.n
      have h14 : FsAt w14 W.heap.size p (s3.step.put [103] ⟨[], (s3.old [103]).safe, (s3.old [103]).ok⟩) := h14
      have HB14 := Lib.hid (HB13.out.trans hb14)
      have HX14 := Lib.hid (paths_any h14 (by rw [hn4]; omega))
      have HN4 := Lib.hid hn4
      clear h14 hb14 hpo hL4 hn4 HX13
      go_wp2_with fail
      go_at_call 16; refine HX14.out.mono ?_; rintro r w15 ⟨v, ss, rfl, hP, hrow, hb15⟩
      obtain ⟨ad, cap, rfl, -⟩ := strs_open hrow
      rw [hP.len, HN4.out]
      have HB15 := Lib.hid (HB14.out.trans (hb15.mono HB14.out.size))
      clear hP hrow hb15
      go_wp2_with fail
      go_ret
      exact ⟨rfl, HB15.out⟩
end Go.Proofs.Ytoipmgdfhmochaa
