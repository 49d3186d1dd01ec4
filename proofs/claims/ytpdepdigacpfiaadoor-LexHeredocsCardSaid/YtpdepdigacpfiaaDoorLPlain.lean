/- Plain: the walk. -/
import Derived.Test.YtpdepdigacpfiaaDoorLHerSpec
import Derived.Test.YtpdepdigacpfiaaDoorLEsc
import Derived.Test.YtpdepdigacpfiaaDoorLNext
namespace Go.Proofs.YtpdepdigacpfiaaDoor
open Go.RowKit Go.Shelf
set_option linter.unusedVariables false

theorem cell_one (w : World) (x : Value) (t : TypeId) : ∀ j u, [x][j]? = some u → (w.alloc (.cells #[x] t)).cell? ((⟨w.heap.size, 0, none⟩ : Addr).add j) = some u := by
  intro j u hj
  match j, hj with
  | 0, hj => simp at hj; subst hj; simp [Addr.add]
  | (j + 1), hj => simp at hj
theorem conv_row {w : World} {B : Nat} {v : Value} {acc : List UInt8} (h : w.ownsRow B 5 1 v acc.length (Lib.byteCells acc)) : (convert 35 9 v).run Tryd.prog w = .ok (.string ⟨acc.toArray⟩) w := by
  rcases id h.2 with ⟨rfl, h2⟩ | ⟨g, cap, cur, rfl, h3, h4, h5, h6, h7, h8⟩
  · obtain rfl : acc = [] := List.length_eq_zero_iff.1 h2
    exact run_convert_bytes_nil (P := Tryd.prog) w 35 5 Tryd.underlying35 Tryd.underlying5 0 0 9 Tryd.underlying9
  · refine run_convert_bytes_back (P := Tryd.prog) w 35 9 5 ⟨g, 0, none⟩ cap acc Tryd.underlying35 Tryd.underlying5 Tryd.underlying9 (fun j hj => ?_)
    exact World.ownsRow.cells h (g := g) rfl j (.int .u8 (acc[j].toNat : Int)) (by simp [Lib.byteCells, hj])
theorem ne_nat {c : UInt8} {k : Nat} (hk : k < 256) (h : c ≠ UInt8.ofNat k) : ((c.toNat : Int) == (k : Int)) = false := beq_eq_false_iff_ne.2 (fun e => h (UInt8.toNat_inj.1 (by have := Int.ofNat.inj e; rw [this]; simp; omega)))
theorem plain_next (s : ByteArray) {i : Nat} (h : i < s.size) : plain (s.data.toList.take (i + 1)) = plain (s.data.toList.take i) ++ pl (s[i]'h) := by
  have hl : i < s.data.toList.length := by simpa using h
  rw [List.take_succ_eq_append_getElem hl, plain_app, plain_cons]
  show _ ++ (pl _ ++ plain []) = _
  rw [show plain [] = [] from rfl, List.append_nil]
  rfl
set_option maxRecDepth 100000 in
set_option maxHeartbeats 16000000 in
theorem plain_any {s : ByteArray} (hs : s.size ≤ 100000) (W : World) : Calls Tryd.prog 9 #[.string s] W fun e w' => e = .returned (.string ⟨(plain s.data.toList).toArray⟩) ∧ Below W.heap.size W w' := by
  obtain ⟨i0, hi, hz0, hz1, hz2⟩ := info_parts infoU8
  go_enter Tryd.func9, Tryd.ntmps9
  go_wp2_with fail
  go_loopg [3, 4] s.size (fun gf s3 s4 wx => ∃ (i : Nat) (acc : List UInt8), s4 = .int .i64 (i : Int) ∧ Hid (Below W.heap.size W wx) ∧ Hid (wx.ownsRow W.heap.size 5 1 s3 acc.length (Lib.byteCells acc)) ∧ Hid (acc = plain (s.data.toList.take i)) ∧ i + gf = s.size ∧ acc.length ≤ 2 * i)
  case atStart => exact ⟨0, [], rfl, Lib.hid (Below.refl _ _), Lib.hid ⟨rfl, .inl ⟨rfl, rfl⟩⟩, Lib.hid rfl, by omega, by simp⟩
  case round =>
    obtain ⟨i, acc, rfl, HB, HO, HE, hfi, hal⟩ := hrel
    by_cases hil : i < s.size
    · obtain ⟨g', rfl⟩ : ∃ g', gk = g' + 1 := ⟨gk - 1, by omega⟩
      have hnx := plain_next s hil
      have j1 : (i : Int) < (s.size : Int) := by omega
      have hwr := HB.out.size
      obtain ⟨c, hc⟩ : ∃ c, s[i]'hil = c := ⟨_, rfl⟩
      have hix := fun W => byte_run hil hc W
      rw [hc, ← HE.out] at hnx
      have HN := Lib.hid hnx
      have hrow0 := HO.out
      clear hnx hc
      by_cases h92 : c = 92
      · have e92 : ((c.toNat : Int) == 92) = true := by rw [h92]; rfl
        have hpl : pl c = [92, c] := by rw [h92]; rfl
        clear h92
        have hrow1 := hrow0.alloc (.cells #[.int .u8 92, .int .u8 (c.toNat : Int)] 5)
        go_wp2_with (at_builtin; refine wpList_append_own _ rfl _ _ 35 rfl W.heap.size 5 i0 (.int .u8 0) 1 1 Tryd.underlying35 hi hz0 hz1 hz2 rfl (by decide) _ _ _ rfl hrow1 ⟨wr.heap.size, 0, none⟩ 2 2 [.int .u8 92, .int .u8 (c.toNat : Int)] rfl rfl (cell_two _ _ _ _) (by intro u hu; simp at hu; rcases hu with rfl | rfl <;> rfl) (by unfold maxLen; omega) (by omega) (by simp; omega) ?_; intro v' w2 hown' hgrow _)
        have HRow := Lib.hid hown'
        have HB3 := Lib.hid ((HB.out.alloc (by omega) (.cells #[.int .u8 92, .int .u8 (c.toNat : Int)] 5)).grown hgrow (by simp; omega) (fun q hq => by have := own_base hrow1 q hq; omega))
        clear hown' hgrow hrow1
        go_roundg g'
        case measure => omega
        case rel => exact ⟨i + 1, acc ++ [92, c], by push_cast; rfl, HB3, Lib.hid (by
          have := HRow.out
          rw [byteCells_app, List.length_append]
          exact this), Lib.hid (by rw [HN.out, hpl]), by omega, by simp; omega⟩
      · have e92 : ((c.toNat : Int) == 92) = false := ne_nat (k := 92) (by omega) h92
        by_cases h34 : c = 34
        · have e34 : ((c.toNat : Int) == 34) = true := by rw [h34]; rfl
          have hpl : pl c = [92, c] := by rw [h34]; rfl
          clear h34
          have hrow1 := hrow0.alloc (.cells #[.int .u8 92, .int .u8 (c.toNat : Int)] 5)
          go_wp2_with (at_builtin; refine wpList_append_own _ rfl _ _ 35 rfl W.heap.size 5 i0 (.int .u8 0) 1 1 Tryd.underlying35 hi hz0 hz1 hz2 rfl (by decide) _ _ _ rfl hrow1 ⟨wr.heap.size, 0, none⟩ 2 2 [.int .u8 92, .int .u8 (c.toNat : Int)] rfl rfl (cell_two _ _ _ _) (by intro u hu; simp at hu; rcases hu with rfl | rfl <;> rfl) (by unfold maxLen; omega) (by omega) (by simp; omega) ?_; intro v' w2 hown' hgrow _)
          have HRow := Lib.hid hown'
          have HB3 := Lib.hid ((HB.out.alloc (by omega) (.cells #[.int .u8 92, .int .u8 (c.toNat : Int)] 5)).grown hgrow (by simp; omega) (fun q hq => by have := own_base hrow1 q hq; omega))
          clear hown' hgrow hrow1
          go_roundg g'
          case measure => omega
          case rel => exact ⟨i + 1, acc ++ [92, c], by push_cast; rfl, HB3, Lib.hid (by
            have := HRow.out
            rw [byteCells_app, List.length_append]
            exact this), Lib.hid (by rw [HN.out, hpl]), by omega, by simp; omega⟩
        · have e34 : ((c.toNat : Int) == 34) = false := ne_nat (k := 34) (by omega) h34
          by_cases h36 : c = 36
          · have e36 : ((c.toNat : Int) == 36) = true := by rw [h36]; rfl
            have hpl : pl c = [92, c] := by rw [h36]; rfl
            clear h36
            have hrow1 := hrow0.alloc (.cells #[.int .u8 92, .int .u8 (c.toNat : Int)] 5)
            go_wp2_with (at_builtin; refine wpList_append_own _ rfl _ _ 35 rfl W.heap.size 5 i0 (.int .u8 0) 1 1 Tryd.underlying35 hi hz0 hz1 hz2 rfl (by decide) _ _ _ rfl hrow1 ⟨wr.heap.size, 0, none⟩ 2 2 [.int .u8 92, .int .u8 (c.toNat : Int)] rfl rfl (cell_two _ _ _ _) (by intro u hu; simp at hu; rcases hu with rfl | rfl <;> rfl) (by unfold maxLen; omega) (by omega) (by simp; omega) ?_; intro v' w2 hown' hgrow _)
            have HRow := Lib.hid hown'
            have HB3 := Lib.hid ((HB.out.alloc (by omega) (.cells #[.int .u8 92, .int .u8 (c.toNat : Int)] 5)).grown hgrow (by simp; omega) (fun q hq => by have := own_base hrow1 q hq; omega))
            clear hown' hgrow hrow1
            go_roundg g'
            case measure => omega
            case rel => exact ⟨i + 1, acc ++ [92, c], by push_cast; rfl, HB3, Lib.hid (by
              have := HRow.out
              rw [byteCells_app, List.length_append]
              exact this), Lib.hid (by rw [HN.out, hpl]), by omega, by simp; omega⟩
          · have e36 : ((c.toNat : Int) == 36) = false := ne_nat (k := 36) (by omega) h36
            by_cases h10 : c = 10
            · have e10 : ((c.toNat : Int) == 10) = true := by rw [h10]; rfl
              have hpl : pl c = [92, 110] := by rw [h10]; rfl
              clear h10
              have hrow1 := hrow0.alloc (.cells #[.int .u8 92, .int .u8 110] 5)
              go_wp2_with (at_builtin; refine wpList_append_own _ rfl _ _ 35 rfl W.heap.size 5 i0 (.int .u8 0) 1 1 Tryd.underlying35 hi hz0 hz1 hz2 rfl (by decide) _ _ _ rfl hrow1 ⟨wr.heap.size, 0, none⟩ 2 2 [.int .u8 92, .int .u8 110] rfl rfl (cell_two _ _ _ _) (by intro u hu; simp at hu; rcases hu with rfl | rfl <;> rfl) (by unfold maxLen; omega) (by omega) (by simp; omega) ?_; intro v' w2 hown' hgrow _)
              have HRow := Lib.hid hown'
              have HB3 := Lib.hid ((HB.out.alloc (by omega) (.cells #[.int .u8 92, .int .u8 110] 5)).grown hgrow (by simp; omega) (fun q hq => by have := own_base hrow1 q hq; omega))
              clear hown' hgrow hrow1
              go_roundg g'
              case measure => omega
              case rel => exact ⟨i + 1, acc ++ [92, 110], by push_cast; rfl, HB3, Lib.hid (by
                have := HRow.out
                rw [byteCells_app, List.length_append]
                exact this), Lib.hid (by rw [HN.out, hpl]), by omega, by simp; omega⟩
            · have e10 : ((c.toNat : Int) == 10) = false := ne_nat (k := 10) (by omega) h10
              by_cases h9 : c = 9
              · have e9 : ((c.toNat : Int) == 9) = true := by rw [h9]; rfl
                have hpl : pl c = [92, 116] := by rw [h9]; rfl
                clear h9
                have hrow1 := hrow0.alloc (.cells #[.int .u8 92, .int .u8 116] 5)
                go_wp2_with (at_builtin; refine wpList_append_own _ rfl _ _ 35 rfl W.heap.size 5 i0 (.int .u8 0) 1 1 Tryd.underlying35 hi hz0 hz1 hz2 rfl (by decide) _ _ _ rfl hrow1 ⟨wr.heap.size, 0, none⟩ 2 2 [.int .u8 92, .int .u8 116] rfl rfl (cell_two _ _ _ _) (by intro u hu; simp at hu; rcases hu with rfl | rfl <;> rfl) (by unfold maxLen; omega) (by omega) (by simp; omega) ?_; intro v' w2 hown' hgrow _)
                have HRow := Lib.hid hown'
                have HB3 := Lib.hid ((HB.out.alloc (by omega) (.cells #[.int .u8 92, .int .u8 116] 5)).grown hgrow (by simp; omega) (fun q hq => by have := own_base hrow1 q hq; omega))
                clear hown' hgrow hrow1
                go_roundg g'
                case measure => omega
                case rel => exact ⟨i + 1, acc ++ [92, 116], by push_cast; rfl, HB3, Lib.hid (by
                  have := HRow.out
                  rw [byteCells_app, List.length_append]
                  exact this), Lib.hid (by rw [HN.out, hpl]), by omega, by simp; omega⟩
              · have e9 : ((c.toNat : Int) == 9) = false := ne_nat (k := 9) (by omega) h9
                by_cases h13 : c = 13
                · have e13 : ((c.toNat : Int) == 13) = true := by rw [h13]; rfl
                  have hpl : pl c = [92, 114] := by rw [h13]; rfl
                  clear h13
                  have hrow1 := hrow0.alloc (.cells #[.int .u8 92, .int .u8 114] 5)
                  go_wp2_with (at_builtin; refine wpList_append_own _ rfl _ _ 35 rfl W.heap.size 5 i0 (.int .u8 0) 1 1 Tryd.underlying35 hi hz0 hz1 hz2 rfl (by decide) _ _ _ rfl hrow1 ⟨wr.heap.size, 0, none⟩ 2 2 [.int .u8 92, .int .u8 114] rfl rfl (cell_two _ _ _ _) (by intro u hu; simp at hu; rcases hu with rfl | rfl <;> rfl) (by unfold maxLen; omega) (by omega) (by simp; omega) ?_; intro v' w2 hown' hgrow _)
                  have HRow := Lib.hid hown'
                  have HB3 := Lib.hid ((HB.out.alloc (by omega) (.cells #[.int .u8 92, .int .u8 114] 5)).grown hgrow (by simp; omega) (fun q hq => by have := own_base hrow1 q hq; omega))
                  clear hown' hgrow hrow1
                  go_roundg g'
                  case measure => omega
                  case rel => exact ⟨i + 1, acc ++ [92, 114], by push_cast; rfl, HB3, Lib.hid (by
                    have := HRow.out
                    rw [byteCells_app, List.length_append]
                    exact this), Lib.hid (by rw [HN.out, hpl]), by omega, by simp; omega⟩
                · have e13 : ((c.toNat : Int) == 13) = false := ne_nat (k := 13) (by omega) h13
                  have hpl : pl c = [c] := by unfold pl; simp [h92, h34, h36, h10, h9, h13]
                  have hrow1 := hrow0.alloc (.cells #[.int .u8 (c.toNat : Int)] 5)
                  go_wp2_with (at_builtin; refine wpList_append_own _ rfl _ _ 35 rfl W.heap.size 5 i0 (.int .u8 0) 1 1 Tryd.underlying35 hi hz0 hz1 hz2 rfl (by decide) _ _ _ rfl hrow1 ⟨wr.heap.size, 0, none⟩ 1 1 [.int .u8 (c.toNat : Int)] rfl rfl (cell_one _ _ _) (by intro u hu; simp at hu; subst hu; rfl) (by unfold maxLen; omega) (by omega) (by simp; omega) ?_; intro v' w2 hown' hgrow _)
                  have HRow := Lib.hid hown'
                  have HB3 := Lib.hid ((HB.out.alloc (by omega) (.cells #[.int .u8 (c.toNat : Int)] 5)).grown hgrow (by simp; omega) (fun q hq => by have := own_base hrow1 q hq; omega))
                  clear hown' hgrow hrow1
                  go_roundg g'
                  case measure => omega
                  case rel => exact ⟨i + 1, acc ++ [c], by push_cast; rfl, HB3, Lib.hid (by
                    have := HRow.out
                    rw [byteCells_app, List.length_append]
                    exact this), Lib.hid (by rw [HN.out, hpl]), by omega, by simp; omega⟩
    · have j1 : ¬ (i : Int) < (s.size : Int) := by omega
      have hcv := conv_row HO.out
      have hE : acc = plain s.data.toList := by rw [HE.out, List.take_of_length_le (by simp; omega)]
      have HE2 := Lib.hid hE
      clear hE
      go_wp2
      go_ret
      rw [← HE2.out]
      exact ⟨rfl, HB.out⟩
end Go.Proofs.YtpdepdigacpfiaaDoor
