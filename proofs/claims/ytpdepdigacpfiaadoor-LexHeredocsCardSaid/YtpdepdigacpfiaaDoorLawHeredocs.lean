/- LexHeredocs: the walk. -/
import Derived.Test.YtpdepdigacpfiaaDoorLHerKit
import Derived.Test.YtpdepdigacpfiaaDoorLAwake
import Derived.Deep.RegionLaw
namespace Go.Proofs.YtpdepdigacpfiaaDoor
open Go.RowKit Go.Shelf
set_option linter.unusedVariables false

set_option maxRecDepth 100000 in
set_option maxHeartbeats 16000000 in
theorem heredocs_any {W : World} {v : Value} {l : List ByteArray} (hv : StrsIn W v l) (hW : Ready W) : Calls Tryd.prog 4 #[v] W fun e w' => e = .returned (.bool true) ∧ Below W.heap.size W w' := by
  obtain ⟨a, cap, rfl, hmax, hcells⟩ := hv
  have HA := Lib.hid (awake_true hW)
  have HW := Lib.hid hW
  have HC := Lib.hid hcells
  clear hW hcells
  obtain ⟨n, hn⟩ : ∃ n, l.length = n := ⟨_, rfl⟩
  have HN := Lib.hid hn
  rw [hn] at hmax ⊢
  clear hn
  by_cases h40 : 40 < n
  · have j0 : (40 : Int) < (n : Int) := by omega
    have HA2 := Lib.hid (fun w (h : Ready w) => awake_true h)
    go_enter Tryd.func4, Tryd.ntmps4
    go_wp2_with fail
    go_at_call 7; refine HA.out.mono ?_; rintro e w1 ⟨rfl, hb1⟩
    have HB1 := Lib.hid hb1
    have HR1 := Lib.hid (HW.out.below hb1)
    clear hb1
    go_wp2_with fail
    go_at_call 7; refine (HA2.out _ HR1.out).mono ?_; rintro e w2 ⟨rfl, hb2⟩
    have HB2 := Lib.hid (HB1.out.trans (hb2.mono HB1.out.size))
    clear hb2
    go_wp2
    go_ret
    exact ⟨rfl, HB2.out⟩
  · have j0 : ¬ (40 : Int) < (n : Int) := by omega
    go_enter Tryd.func4, Tryd.ntmps4
    go_wp2_with fail
    go_at_call 7; refine HA.out.mono ?_; rintro e w1 ⟨rfl, hb1⟩
    have HB1 := Lib.hid hb1
    clear hb1 HA
    go_wp2_with fail
    go_loopg [3, 4, 25] n (fun gf s3 s4 s25 wx => ∃ (i : Nat) (Ls : List (List UInt8)), s25 = .int .i64 (i : Int) ∧ s3 = .string ⟨(hereT Ls []).toArray⟩ ∧ s4 = .string ⟨(34 :: plain (body Ls)).toArray⟩ ∧ Ls.length = i ∧ Hid (∀ b ∈ Ls, LineOk b) ∧ Hid (Below W.heap.size W wx) ∧ i + gf = n)
    case atStart => exact ⟨0, [], rfl, rfl, rfl, rfl, Lib.hid (fun b hb => by cases hb), HB1, by omega⟩
    case round =>
      obtain ⟨i, Ls, rfl, rfl, rfl, hLi, HL, HB, hfi⟩ := hrel
      have hbl := body_len HL.out
      have hpb := plain_len (body Ls)
      obtain ⟨S, hS⟩ : ∃ S, (⟨(hereT Ls []).toArray⟩ : ByteArray) = S := ⟨_, rfl⟩
      obtain ⟨Q, hQ⟩ : ∃ Q, (⟨(34 :: plain (body Ls)).toArray⟩ : ByteArray) = Q := ⟨_, rfl⟩
      have hSs : S.size ≤ 100000 := by rw [← hS, list_size]; unfold hereT; simp; omega
      have hQs : Q.size ≤ 100000 := by rw [← hQ, list_size]; simp; omega
      rw [hS, hQ]
      have HSE := Lib.hid hS
      have HQE := Lib.hid hQ
      clear hS hQ hbl hpb
      by_cases hil : i < n
      · obtain ⟨g', rfl⟩ : ∃ g', gk = g' + 1 := ⟨gk - 1, by omega⟩
        have j1 : (i : Int) < (n : Int) := by omega
        obtain ⟨g, o, rfl, hcl⟩ := HC.out (by rw [HN.out]; omega)
        obtain ⟨hci, hsi⟩ := hcl i (by rw [HN.out]; exact hil)
        obtain ⟨s, hs⟩ : ∃ s, l[i]'(by rw [HN.out]; exact hil) = s := ⟨_, rfl⟩
        rw [hs] at hci hsi
        have k0 := (HB.out.cell (World.block_lt_of_cell? W _ hci)).trans hci
        obtain ⟨k, hk⟩ : ∃ k, min s.size 100 = k := ⟨_, rfl⟩
        have hk100 : k ≤ 100 ∧ k ≤ s.size := by omega
        have hmin : min (s.size : Int) 100 = (k : Int) := by omega
        obtain ⟨b0, hb0⟩ : ∃ b0, s.data.toList.take k = b0 := ⟨_, rfl⟩
        have hb0l : b0.length = k := by rw [← hb0, List.length_take]; have : s.data.toList.length = s.size := by simp
                                        omega
        have hnew := bytes_new wr s b0 k hb0.symm
        have hcv := Lib.run_convert_string_bytes (P := Tryd.prog) wr 9 35 5 s Tryd.underlying9 Tryd.underlying35 Tryd.underlying5
        have hge := grownCap_ge wr s.size 0 5
        obtain ⟨cp, hcp⟩ : ∃ cp, grownCap wr s.size 0 5 = cp := ⟨_, rfl⟩
        rw [hcp] at hcv hge
        obtain ⟨w2, hw2⟩ : ∃ w2, Lib.bytesWorld wr 5 s = w2 := ⟨_, rfl⟩
        rw [hw2] at hcv hnew
        obtain ⟨G, hG⟩ : ∃ G, wr.heap.size = G := ⟨_, rfl⟩
        have hGW : W.heap.size ≤ G := by rw [← hG]; exact HB.out.size
        rw [hG] at hcv hnew
        have HB2 : Hid (Below W.heap.size W w2) := Lib.hid (HB.out.trans (hnew.2.mono (by omega)))
        have HL2 := Lib.hid hnew.1
        have hG2 : G < w2.heap.size := by rw [← hw2, Lib.bytesWorld_size]; omega
        have HB0 := Lib.hid hb0
        have HCI := Lib.hid hcl
        have q1 : (0 : Int) ≤ (k : Int) := by omega
        have q2 : (k : Int) ≤ (cp : Int) := by omega
        clear hnew hs hci hb0 hw2 hcl hcp hk
        go_wp2_with fail
        have hgi : ∀ j (h : j < k), j < b0.length := fun j h => by omega
        go_loopg [37] k (fun gf s37 wy => ∃ i2 : Nat, s37 = .int .i64 (i2 : Int) ∧ Hid (Below W.heap.size W wy) ∧ Hid (LstF wy G ((b0.take i2).map cl ++ b0.drop i2)) ∧ G < wy.heap.size ∧ i2 + gf = k)
        case atStart => exact ⟨0, rfl, HB2, Lib.hid HL2.out, hG2, by omega⟩
        case round =>
          obtain ⟨i2, rfl, HBy, HLy, hGy, hfy⟩ := hrel
          by_cases hi2 : i2 < k
          · obtain ⟨g2, rfl⟩ : ∃ g2, gk = g2 + 1 := ⟨gk - 1, by omega⟩
            have j2 : (i2 : Int) < (k : Int) := by omega
            have hi3 : i2 < b0.length := by omega
            have hlen : ((b0.take i2).map cl ++ b0.drop i2).length = k := by simp; omega
            have m1 := HLy.out.1 i2 (by omega)
            have m2 := HLy.out.2 i2 (by omega)
            rw [map_at hi3] at m1
            have hmn := map_next hi3
            have hset := HLy.out.set (i := i2) (by omega) 46
            have hBset := below_set (p := ⟨G, i2, none⟩) HBy.out hGW (.int .u8 46)
            obtain ⟨c, hc⟩ : ∃ c, b0[i2]'hi3 = c := ⟨_, rfl⟩
            rw [hc] at m1 hmn
            have HS2 := Lib.hid hset
            have HBS := Lib.hid hBset
            have HMN := Lib.hid hmn
            clear hc hmn hset hBset
            by_cases h10 : c = 10
            · have e10 : ((c.toNat : Int) == 10) = true := by rw [h10]; rfl
              have HCL : Hid (cl c = 46) := Lib.hid (by unfold cl; rw [if_pos (.inl h10)])
              clear h10
              go_wp2_with fail
              go_roundg g2
              case measure => omega
              case rel => exact ⟨i2 + 1, by push_cast; rfl, HBS, Lib.hid (by rw [← HMN.out, HCL.out]; exact HS2.out), by simp; omega, by omega⟩
            · have e10 : ((c.toNat : Int) == 10) = false := ne_nat (k := 10) (by omega) h10
              by_cases h128 : 128 ≤ c.toNat
              · have e128 : (128 : Int) ≤ (c.toNat : Int) := by omega
                have HCL : Hid (cl c = 46) := Lib.hid (by unfold cl; rw [if_pos (.inr h128)])
                clear h10 h128
                go_wp2_with fail
                go_roundg g2
                case measure => omega
                case rel => exact ⟨i2 + 1, by push_cast; rfl, HBS, Lib.hid (by rw [← HMN.out, HCL.out]; exact HS2.out), by simp; omega, by omega⟩
              · have e128 : ¬ (128 : Int) ≤ (c.toNat : Int) := by omega
                have HCL : Hid (cl c = c) := Lib.hid (by unfold cl; rw [if_neg (fun h => h.elim h10 h128)])
                have HSame : Hid (((b0.take i2).map cl ++ b0.drop i2).set i2 c = (b0.take i2).map cl ++ b0.drop i2) := Lib.hid (by
                  refine List.ext_getElem (by simp) fun j h1 h2 => ?_
                  rw [List.getElem_set]
                  split
                  · rename_i e
                    subst e
                    rw [map_at hi3]
                    exact (UInt8.toNat_inj.1 (by have := m1; rw [(HLy.out.1 i2 (by omega))] at this; rw [map_at hi3] at this; have := Option.some.inj this; injection this with _ this; exact_mod_cast this)).symm
                  · rfl)
                clear h10 h128
                go_wp2_with fail
                go_roundg g2
                case measure => omega
                case rel => exact ⟨i2 + 1, by push_cast; rfl, HBy, Lib.hid (by rw [← HMN.out, HCL.out, HSame.out]; exact HLy.out), hGy, by omega⟩
          · obtain rfl : k = i2 := by omega
            have j2 : ¬ (k : Int) < (k : Int) := by omega
            obtain ⟨b, hb⟩ : ∃ b, b0.map cl = b := ⟨_, rfl⟩
            have hbe : (b0.take k).map cl ++ b0.drop k = b := by rw [List.take_of_length_le (by omega), List.drop_of_length_le (by omega), List.append_nil, hb]
            rw [hbe] at HLy
            have HBE : Hid (b = (s.data.toList.take k).map cl) := Lib.hid (by rw [HB0.out, hb])
            have hbk : b.length = k := by rw [← hb, List.length_map]; exact hb0l
            clear hb hbe hb0l HB0 HL2
            have hcvb := conv_lst (cap := cp) HLy.out hbk
            obtain ⟨TX, hTX⟩ : ∃ TX, (⟨b.toArray⟩ : ByteArray) = TX := ⟨_, rfl⟩
            have hemp : TX.toList.isEmpty = b.isEmpty := by rw [← hTX, ByteArray.toList_eq]
            rw [hTX] at hcvb
            have HTX := Lib.hid hTX
            clear hTX
            have hc0 : ∀ (h : 0 < b.length), wr.cell? ⟨G, 0, none⟩ = some (.int .u8 (b[0].toNat : Int)) := fun h => HLy.out.1 0 h
            by_cases hbn : b = []
            · have hem : TX.toList.isEmpty = true := by rw [hemp, hbn]; rfl
              clear hemp hc0 hbn
              have hrow0 : (wr.alloc (.cells #[.int .u8 46] 5)).ownsRow W.heap.size 5 1 (.slice (some ⟨wr.heap.size, 0, none⟩) 1 1) 1 [.int .u8 46] := ⟨rfl, .inr ⟨wr.heap.size, 1, #[.int .u8 46], rfl, HBy.out.size, World.alloc_heap_new wr _, by omega, by unfold maxLen; omega, rfl, rfl⟩⟩
              have hL3 := HLy.out.below hGy (below_new wr (.cells #[.int .u8 46] 5))
              have HBa := Lib.hid (HBy.out.alloc HBy.out.size (.cells #[.int .u8 46] 5))
              obtain ⟨i0, hi, hz0, hz1, hz2⟩ := info_parts infoU8
              go_wp2_with (at_builtin; refine wpList_append_own _ rfl _ _ 35 rfl W.heap.size 5 i0 (.int .u8 0) 1 1 Tryd.underlying35 hi hz0 hz1 hz2 rfl (by decide) _ 1 [.int .u8 46] rfl hrow0 ⟨G, 0, none⟩ k cp (Lib.byteCells b) rfl (by rw [Lib.byteCells_length, hbk, Nat.mul_one]) (lst_cells hL3) (bytes_one b) (by unfold maxLen; omega) (by omega) HBa.out.size ?_; intro v' w5 hown' hgrow _; refine Hid.out ?_)
              refine Lib.hid ?_
              rw [Nat.add_comm 1 k] at hown'
              obtain ⟨g5, cap5, rfl⟩ := row_slice hown'
              obtain ⟨lb, hlb⟩ : ∃ lb, lb = 46 :: b := ⟨_, rfl⟩
              have hcv5 := conv_row (acc := lb) (v := .slice (some ⟨g5, 0, none⟩) (k + 1) cap5) (w := w5) (B := W.heap.size) (by rw [hlb, show (46 :: b).length = k + 1 by simp; omega]; exact hown')
              have HB5 : Hid (Below W.heap.size W w5) := Lib.hid (HBa.out.grown hgrow HBa.out.size (fun q hq => own_base hrow0 q hq))
              have hline : LineOk lb := by rw [hlb]; exact line_dot _ HBE.out hk100.1
              clear hown' hgrow hrow0 hi hz0 hz1 hz2 hlb hL3
              have HLO := Lib.hid hline
              have hlbl := hline.len
              have HPL := Lib.hid (fun w => plain_any (s := ⟨lb.toArray⟩) (by rw [list_size]; omega) w)
              obtain ⟨TB, hTB⟩ : ∃ TB, (⟨lb.toArray⟩ : ByteArray) = TB := ⟨_, rfl⟩
              have hTs : TB.size ≤ 101 := by rw [← hTB, list_size]; exact hlbl
              rw [hTB] at hcv5 HPL
              obtain ⟨PB, hPB⟩ : ∃ PB, (⟨(plain TB.data.toList).toArray⟩ : ByteArray) = PB := ⟨_, rfl⟩
              have hPs : PB.size ≤ 202 := by rw [← hPB, ← hTB, list_size]; have := plain_len lb; simp; omega
              have hPBl : (⟨(plain lb).toArray⟩ : ByteArray) = PB := by rw [← hPB, ← hTB]
              rw [hPB] at HPL
              have z1 : ¬ 9223372036854775807 < TB.size + 1 := by omega
              have z2 : ¬ 9223372036854775807 < S.size + (TB.size + 1) := by omega
              have z3 : ¬ 9223372036854775807 < PB.size + 2 := by omega
              have z4 : ¬ 9223372036854775807 < Q.size + (PB.size + 2) := by omega
              have HT := Lib.hid hTB
              have HPB := Lib.hid hPBl
              clear hTB hPB hPBl hline
              go_wp2_with fail
              go_at_call 9; refine (HPL.out _).mono ?_; rintro e w6 ⟨rfl, hb6⟩
              have HB6 := Lib.hid (HB5.out.trans (hb6.mono HB5.out.size))
              clear hb6 HPL
              go_wp2_with fail
              go_roundg g'
              case measure => omega
              case rel => exact ⟨i + 1, Ls ++ [lb], by push_cast; rfl, by rw [← HSE.out, ← HT.out, here_step], by rw [← HQE.out, ← HPB.out, quote_step], by simp; omega, Lib.hid (fun b hb => by
                rcases List.mem_append.1 hb with h | h
                · exact HL.out b h
                · rw [List.mem_singleton] at h; rw [h]; exact HLO.out), HB6, by omega⟩
            · obtain ⟨c, r, hcr⟩ : ∃ c r, b = c :: r := by cases b with
                | nil => exact absurd rfl hbn
                | cons c r => exact ⟨c, r, rfl⟩
              have hem : TX.toList.isEmpty = false := by rw [hemp, hcr]; rfl
              have hkpos : 0 < k := by rw [← hbk, hcr]; simp
              have jk : (0 : Int) < (k : Int) := by omega
              have m0 : wr.cell? ⟨G, 0, none⟩ = some (.int .u8 (c.toNat : Int)) := by have := hc0 (by omega); simpa [hcr] using this
              clear hemp hc0 hbn
              by_cases h32 : c = 32
              · have e32 : ((c.toNat : Int) == 32) = true := by rw [h32]; rfl
                clear hcr h32
                have hrow0 : (wr.alloc (.cells #[.int .u8 46] 5)).ownsRow W.heap.size 5 1 (.slice (some ⟨wr.heap.size, 0, none⟩) 1 1) 1 [.int .u8 46] := ⟨rfl, .inr ⟨wr.heap.size, 1, #[.int .u8 46], rfl, HBy.out.size, World.alloc_heap_new wr _, by omega, by unfold maxLen; omega, rfl, rfl⟩⟩
                have hL3 := HLy.out.below hGy (below_new wr (.cells #[.int .u8 46] 5))
                have HBa := Lib.hid (HBy.out.alloc HBy.out.size (.cells #[.int .u8 46] 5))
                obtain ⟨i0, hi, hz0, hz1, hz2⟩ := info_parts infoU8
                go_wp2_with (at_builtin; refine wpList_append_own _ rfl _ _ 35 rfl W.heap.size 5 i0 (.int .u8 0) 1 1 Tryd.underlying35 hi hz0 hz1 hz2 rfl (by decide) _ 1 [.int .u8 46] rfl hrow0 ⟨G, 0, none⟩ k cp (Lib.byteCells b) rfl (by rw [Lib.byteCells_length, hbk, Nat.mul_one]) (lst_cells hL3) (bytes_one b) (by unfold maxLen; omega) (by omega) HBa.out.size ?_; intro v' w5 hown' hgrow _; refine Hid.out ?_)
                refine Lib.hid ?_
                rw [Nat.add_comm 1 k] at hown'
                obtain ⟨g5, cap5, rfl⟩ := row_slice hown'
                obtain ⟨lb, hlb⟩ : ∃ lb, lb = 46 :: b := ⟨_, rfl⟩
                have hcv5 := conv_row (acc := lb) (v := .slice (some ⟨g5, 0, none⟩) (k + 1) cap5) (w := w5) (B := W.heap.size) (by rw [hlb, show (46 :: b).length = k + 1 by simp; omega]; exact hown')
                have HB5 : Hid (Below W.heap.size W w5) := Lib.hid (HBa.out.grown hgrow HBa.out.size (fun q hq => own_base hrow0 q hq))
                have hline : LineOk lb := by rw [hlb]; exact line_dot _ HBE.out hk100.1
                clear hown' hgrow hrow0 hi hz0 hz1 hz2 hlb hL3
                have HLO := Lib.hid hline
                have hlbl := hline.len
                have HPL := Lib.hid (fun w => plain_any (s := ⟨lb.toArray⟩) (by rw [list_size]; omega) w)
                obtain ⟨TB, hTB⟩ : ∃ TB, (⟨lb.toArray⟩ : ByteArray) = TB := ⟨_, rfl⟩
                have hTs : TB.size ≤ 101 := by rw [← hTB, list_size]; exact hlbl
                rw [hTB] at hcv5 HPL
                obtain ⟨PB, hPB⟩ : ∃ PB, (⟨(plain TB.data.toList).toArray⟩ : ByteArray) = PB := ⟨_, rfl⟩
                have hPs : PB.size ≤ 202 := by rw [← hPB, ← hTB, list_size]; have := plain_len lb; simp; omega
                have hPBl : (⟨(plain lb).toArray⟩ : ByteArray) = PB := by rw [← hPB, ← hTB]
                rw [hPB] at HPL
                have z1 : ¬ 9223372036854775807 < TB.size + 1 := by omega
                have z2 : ¬ 9223372036854775807 < S.size + (TB.size + 1) := by omega
                have z3 : ¬ 9223372036854775807 < PB.size + 2 := by omega
                have z4 : ¬ 9223372036854775807 < Q.size + (PB.size + 2) := by omega
                have HT := Lib.hid hTB
                have HPB := Lib.hid hPBl
                clear hTB hPB hPBl hline
                go_wp2_with fail
                go_at_call 9; refine (HPL.out _).mono ?_; rintro e w6 ⟨rfl, hb6⟩
                have HB6 := Lib.hid (HB5.out.trans (hb6.mono HB5.out.size))
                clear hb6 HPL
                go_wp2_with fail
                go_roundg g'
                case measure => omega
                case rel => exact ⟨i + 1, Ls ++ [lb], by push_cast; rfl, by rw [← HSE.out, ← HT.out, here_step], by rw [← HQE.out, ← HPB.out, quote_step], by simp; omega, Lib.hid (fun b hb => by
                  rcases List.mem_append.1 hb with h | h
                  · exact HL.out b h
                  · rw [List.mem_singleton] at h; rw [h]; exact HLO.out), HB6, by omega⟩
              · have e32 : ((c.toNat : Int) == 32) = false := ne_nat (k := 32) (by omega) h32
                by_cases h9 : c = 9
                · have e9 : ((c.toNat : Int) == 9) = true := by rw [h9]; rfl
                  clear hcr h32 h9
                  have hrow0 : (wr.alloc (.cells #[.int .u8 46] 5)).ownsRow W.heap.size 5 1 (.slice (some ⟨wr.heap.size, 0, none⟩) 1 1) 1 [.int .u8 46] := ⟨rfl, .inr ⟨wr.heap.size, 1, #[.int .u8 46], rfl, HBy.out.size, World.alloc_heap_new wr _, by omega, by unfold maxLen; omega, rfl, rfl⟩⟩
                  have hL3 := HLy.out.below hGy (below_new wr (.cells #[.int .u8 46] 5))
                  have HBa := Lib.hid (HBy.out.alloc HBy.out.size (.cells #[.int .u8 46] 5))
                  obtain ⟨i0, hi, hz0, hz1, hz2⟩ := info_parts infoU8
                  go_wp2_with (at_builtin; refine wpList_append_own _ rfl _ _ 35 rfl W.heap.size 5 i0 (.int .u8 0) 1 1 Tryd.underlying35 hi hz0 hz1 hz2 rfl (by decide) _ 1 [.int .u8 46] rfl hrow0 ⟨G, 0, none⟩ k cp (Lib.byteCells b) rfl (by rw [Lib.byteCells_length, hbk, Nat.mul_one]) (lst_cells hL3) (bytes_one b) (by unfold maxLen; omega) (by omega) HBa.out.size ?_; intro v' w5 hown' hgrow _; refine Hid.out ?_)
                  refine Lib.hid ?_
                  rw [Nat.add_comm 1 k] at hown'
                  obtain ⟨g5, cap5, rfl⟩ := row_slice hown'
                  obtain ⟨lb, hlb⟩ : ∃ lb, lb = 46 :: b := ⟨_, rfl⟩
                  have hcv5 := conv_row (acc := lb) (v := .slice (some ⟨g5, 0, none⟩) (k + 1) cap5) (w := w5) (B := W.heap.size) (by rw [hlb, show (46 :: b).length = k + 1 by simp; omega]; exact hown')
                  have HB5 : Hid (Below W.heap.size W w5) := Lib.hid (HBa.out.grown hgrow HBa.out.size (fun q hq => own_base hrow0 q hq))
                  have hline : LineOk lb := by rw [hlb]; exact line_dot _ HBE.out hk100.1
                  clear hown' hgrow hrow0 hi hz0 hz1 hz2 hlb hL3
                  have HLO := Lib.hid hline
                  have hlbl := hline.len
                  have HPL := Lib.hid (fun w => plain_any (s := ⟨lb.toArray⟩) (by rw [list_size]; omega) w)
                  obtain ⟨TB, hTB⟩ : ∃ TB, (⟨lb.toArray⟩ : ByteArray) = TB := ⟨_, rfl⟩
                  have hTs : TB.size ≤ 101 := by rw [← hTB, list_size]; exact hlbl
                  rw [hTB] at hcv5 HPL
                  obtain ⟨PB, hPB⟩ : ∃ PB, (⟨(plain TB.data.toList).toArray⟩ : ByteArray) = PB := ⟨_, rfl⟩
                  have hPs : PB.size ≤ 202 := by rw [← hPB, ← hTB, list_size]; have := plain_len lb; simp; omega
                  have hPBl : (⟨(plain lb).toArray⟩ : ByteArray) = PB := by rw [← hPB, ← hTB]
                  rw [hPB] at HPL
                  have z1 : ¬ 9223372036854775807 < TB.size + 1 := by omega
                  have z2 : ¬ 9223372036854775807 < S.size + (TB.size + 1) := by omega
                  have z3 : ¬ 9223372036854775807 < PB.size + 2 := by omega
                  have z4 : ¬ 9223372036854775807 < Q.size + (PB.size + 2) := by omega
                  have HT := Lib.hid hTB
                  have HPB := Lib.hid hPBl
                  clear hTB hPB hPBl hline
                  go_wp2_with fail
                  go_at_call 9; refine (HPL.out _).mono ?_; rintro e w6 ⟨rfl, hb6⟩
                  have HB6 := Lib.hid (HB5.out.trans (hb6.mono HB5.out.size))
                  clear hb6 HPL
                  go_wp2_with fail
                  go_roundg g'
                  case measure => omega
                  case rel => exact ⟨i + 1, Ls ++ [lb], by push_cast; rfl, by rw [← HSE.out, ← HT.out, here_step], by rw [← HQE.out, ← HPB.out, quote_step], by simp; omega, Lib.hid (fun b hb => by
                    rcases List.mem_append.1 hb with h | h
                    · exact HL.out b h
                    · rw [List.mem_singleton] at h; rw [h]; exact HLO.out), HB6, by omega⟩
                · have e9 : ((c.toNat : Int) == 9) = false := ne_nat (k := 9) (by omega) h9
                  by_cases h69 : c = 69
                  · have e69 : ((c.toNat : Int) == 69) = true := by rw [h69]; rfl
                    clear hcr h32 h9 h69
                    have hrow0 : (wr.alloc (.cells #[.int .u8 46] 5)).ownsRow W.heap.size 5 1 (.slice (some ⟨wr.heap.size, 0, none⟩) 1 1) 1 [.int .u8 46] := ⟨rfl, .inr ⟨wr.heap.size, 1, #[.int .u8 46], rfl, HBy.out.size, World.alloc_heap_new wr _, by omega, by unfold maxLen; omega, rfl, rfl⟩⟩
                    have hL3 := HLy.out.below hGy (below_new wr (.cells #[.int .u8 46] 5))
                    have HBa := Lib.hid (HBy.out.alloc HBy.out.size (.cells #[.int .u8 46] 5))
                    obtain ⟨i0, hi, hz0, hz1, hz2⟩ := info_parts infoU8
                    go_wp2_with (at_builtin; refine wpList_append_own _ rfl _ _ 35 rfl W.heap.size 5 i0 (.int .u8 0) 1 1 Tryd.underlying35 hi hz0 hz1 hz2 rfl (by decide) _ 1 [.int .u8 46] rfl hrow0 ⟨G, 0, none⟩ k cp (Lib.byteCells b) rfl (by rw [Lib.byteCells_length, hbk, Nat.mul_one]) (lst_cells hL3) (bytes_one b) (by unfold maxLen; omega) (by omega) HBa.out.size ?_; intro v' w5 hown' hgrow _; refine Hid.out ?_)
                    refine Lib.hid ?_
                    rw [Nat.add_comm 1 k] at hown'
                    obtain ⟨g5, cap5, rfl⟩ := row_slice hown'
                    obtain ⟨lb, hlb⟩ : ∃ lb, lb = 46 :: b := ⟨_, rfl⟩
                    have hcv5 := conv_row (acc := lb) (v := .slice (some ⟨g5, 0, none⟩) (k + 1) cap5) (w := w5) (B := W.heap.size) (by rw [hlb, show (46 :: b).length = k + 1 by simp; omega]; exact hown')
                    have HB5 : Hid (Below W.heap.size W w5) := Lib.hid (HBa.out.grown hgrow HBa.out.size (fun q hq => own_base hrow0 q hq))
                    have hline : LineOk lb := by rw [hlb]; exact line_dot _ HBE.out hk100.1
                    clear hown' hgrow hrow0 hi hz0 hz1 hz2 hlb hL3
                    have HLO := Lib.hid hline
                    have hlbl := hline.len
                    have HPL := Lib.hid (fun w => plain_any (s := ⟨lb.toArray⟩) (by rw [list_size]; omega) w)
                    obtain ⟨TB, hTB⟩ : ∃ TB, (⟨lb.toArray⟩ : ByteArray) = TB := ⟨_, rfl⟩
                    have hTs : TB.size ≤ 101 := by rw [← hTB, list_size]; exact hlbl
                    rw [hTB] at hcv5 HPL
                    obtain ⟨PB, hPB⟩ : ∃ PB, (⟨(plain TB.data.toList).toArray⟩ : ByteArray) = PB := ⟨_, rfl⟩
                    have hPs : PB.size ≤ 202 := by rw [← hPB, ← hTB, list_size]; have := plain_len lb; simp; omega
                    have hPBl : (⟨(plain lb).toArray⟩ : ByteArray) = PB := by rw [← hPB, ← hTB]
                    rw [hPB] at HPL
                    have z1 : ¬ 9223372036854775807 < TB.size + 1 := by omega
                    have z2 : ¬ 9223372036854775807 < S.size + (TB.size + 1) := by omega
                    have z3 : ¬ 9223372036854775807 < PB.size + 2 := by omega
                    have z4 : ¬ 9223372036854775807 < Q.size + (PB.size + 2) := by omega
                    have HT := Lib.hid hTB
                    have HPB := Lib.hid hPBl
                    clear hTB hPB hPBl hline
                    go_wp2_with fail
                    go_at_call 9; refine (HPL.out _).mono ?_; rintro e w6 ⟨rfl, hb6⟩
                    have HB6 := Lib.hid (HB5.out.trans (hb6.mono HB5.out.size))
                    clear hb6 HPL
                    go_wp2_with fail
                    go_roundg g'
                    case measure => omega
                    case rel => exact ⟨i + 1, Ls ++ [lb], by push_cast; rfl, by rw [← HSE.out, ← HT.out, here_step], by rw [← HQE.out, ← HPB.out, quote_step], by simp; omega, Lib.hid (fun b hb => by
                      rcases List.mem_append.1 hb with h | h
                      · exact HL.out b h
                      · rw [List.mem_singleton] at h; rw [h]; exact HLO.out), HB6, by omega⟩
                  · have e69 : ((c.toNat : Int) == 69) = false := ne_nat (k := 69) (by omega) h69
                    have hline : LineOk b := line_bare _ HBE.out hk100.1 hcr ⟨h32, h9, h69⟩
                    obtain ⟨lb, hlb⟩ : ∃ lb, b = lb := ⟨_, rfl⟩
                    have hcv5 : (convert 35 9 (.slice (some ⟨G, 0, none⟩) k cp)).run Tryd.prog wr = .ok (.string ⟨lb.toArray⟩) wr := by rw [hcvb, ← HTX.out, hlb]
                    rw [hlb] at hline
                    have HB5 := HBy
                    clear hcr h32 h9 h69 hcvb
                    have HLO := Lib.hid hline
                    have hlbl := hline.len
                    have HPL := Lib.hid (fun w => plain_any (s := ⟨lb.toArray⟩) (by rw [list_size]; omega) w)
                    obtain ⟨TB, hTB⟩ : ∃ TB, (⟨lb.toArray⟩ : ByteArray) = TB := ⟨_, rfl⟩
                    have hTs : TB.size ≤ 101 := by rw [← hTB, list_size]; exact hlbl
                    have hemT : TB.toList.isEmpty = false := by rw [← hTB, ← hlb, HTX.out]; exact hem
                    clear hlb HTX hem
                    rw [hTB] at hcv5 HPL
                    obtain ⟨PB, hPB⟩ : ∃ PB, (⟨(plain TB.data.toList).toArray⟩ : ByteArray) = PB := ⟨_, rfl⟩
                    have hPs : PB.size ≤ 202 := by rw [← hPB, ← hTB, list_size]; have := plain_len lb; simp; omega
                    have hPBl : (⟨(plain lb).toArray⟩ : ByteArray) = PB := by rw [← hPB, ← hTB]
                    rw [hPB] at HPL
                    have z1 : ¬ 9223372036854775807 < TB.size + 1 := by omega
                    have z2 : ¬ 9223372036854775807 < S.size + (TB.size + 1) := by omega
                    have z3 : ¬ 9223372036854775807 < PB.size + 2 := by omega
                    have z4 : ¬ 9223372036854775807 < Q.size + (PB.size + 2) := by omega
                    have HT := Lib.hid hTB
                    have HPB := Lib.hid hPBl
                    clear hTB hPB hPBl hline
                    go_wp2_with fail
                    go_at_call 9; refine (HPL.out _).mono ?_; rintro e w6 ⟨rfl, hb6⟩
                    have HB6 := Lib.hid (HB5.out.trans (hb6.mono HB5.out.size))
                    clear hb6 HPL
                    go_wp2_with fail
                    go_roundg g'
                    case measure => omega
                    case rel => exact ⟨i + 1, Ls ++ [lb], by push_cast; rfl, by rw [← HSE.out, ← HT.out, here_step], by rw [← HQE.out, ← HPB.out, quote_step], by simp; omega, Lib.hid (fun b hb => by
                      rcases List.mem_append.1 hb with h | h
                      · exact HL.out b h
                      · rw [List.mem_singleton] at h; rw [h]; exact HLO.out), HB6, by omega⟩
      · obtain rfl : n = i := by omega
        have j1 : ¬ (n : Int) < (n : Int) := by omega
        have h40' : Ls.length ≤ 40 := by omega
        obtain ⟨PT, hPT⟩ : ∃ PT, (⟨(plain (body Ls)).toArray⟩ : ByteArray) = PT := ⟨_, rfl⟩
        have hx1 := scan_here HL.out h40'
        have hx2 := scan_quoted HL.out h40'
        have hx3 := scan_cut HL.out h40'
        rw [← here_end, HSE.out, hPT] at hx1
        rw [← quote_end, HQE.out, hPT] at hx2
        rw [HSE.out] at hx3
        have z1 : ¬ 9223372036854775807 < S.size + 5 := by omega
        have z2 : ¬ 9223372036854775807 < Q.size + 1 := by omega
        have HS1 := Lib.hid (scan_ok (HW.out.below HB.out) hx1)
        have HX2 := Lib.hid hx2
        have HX3 := Lib.hid hx3
        clear hPT hx1 hx2 hx3 HSE HQE HC
        go_wp2_with fail
        go_at_call 8; refine HS1.out.mono ?_; rintro e w2 ⟨v2, rfl, hr2, hb2⟩
        have HB2 := Lib.hid (HB.out.trans (hb2.mono HB.out.size))
        have HR2 := Lib.hid hr2
        have HS2 := Lib.hid (scan_ok (HW.out.below HB2.out) HX2.out)
        clear hr2 hb2 HS1 HX2
        go_wp2_with fail
        go_at_call 8; refine HS2.out.mono ?_; rintro e w3 ⟨v3, rfl, hr3, hb3⟩
        have HB3 := Lib.hid (HB2.out.trans (hb3.mono HB2.out.size))
        have HR3 := Lib.hid (HR2.out.below hb3)
        have HQ3 := Lib.hid hr3
        have HS3 := Lib.hid (scan_err (HW.out.below HB3.out) HX3.out)
        clear hr3 hb3 HS2 HX3 HR2
        go_wp2_with fail
        go_at_call 8; refine HS3.out.mono ?_; rintro e w4 ⟨D, rfl, hbl, hb4⟩
        have HB4 := Lib.hid (HB3.out.trans (hb4.mono HB3.out.size))
        obtain ⟨g2, cap2, rfl, -, hc2⟩ := HR3.out.below hb4
        obtain ⟨g3, cap3, rfl, -, hc3⟩ := HQ3.out.below hb4
        have m0 := hc2 0 _ rfl
        have m1 := hc2 1 _ rfl
        have p1 := hc3 1 _ rfl
        have HD := Lib.hid hbl
        clear hc2 hc3 hb4 hbl HS3 HR3 HQ3
        go_wp2_with fail
        go_quiet (exact is_quiet HD.out (by decide) _)
        go_wp2
        go_ret
        exact ⟨rfl, below_draw' HB4.out⟩
end Go.Proofs.YtpdepdigacpfiaaDoor
