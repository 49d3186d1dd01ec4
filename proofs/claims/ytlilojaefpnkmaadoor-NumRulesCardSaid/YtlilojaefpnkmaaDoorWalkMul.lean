/- multiplySizes. -/
import Derived.Test.YtlilojaefpnkmaaDoorWalkAdd
namespace Go.Proofs.YtlilojaefpnkmaaDoor
open Go.RowKit

/-- What multiplySizes has when i rows are over. -/
def MulR (x y la lb i : Nat) (L : List Nat) : Prop := L.length = la + lb ∧ Low L ∧ lval L = low x i * y ∧ ∀ j, i + lb ≤ j → L.getD j 0 = 0
/-- What it has when of row i j limbs are over. -/
def RowR (x y la lb i j c : Nat) (L : List Nat) : Prop := L.length = la + lb ∧ Low L ∧ lval L + 1000000000 ^ (i + j) * c = low x i * y + 1000000000 ^ i * (lim x i * low y j) ∧ ∀ m, i + lb ≤ m → L.getD m 0 = 0

theorem MulR.row {x y la lb i : Nat} {L : List Nat} (h : MulR x y la lb i L) : RowR x y la lb i 0 0 L := ⟨h.1, h.2.1, by rw [low_zero, h.2.2.1]; simp, h.2.2.2⟩
theorem RowR.step {x y la lb i j c : Nat} {L : List Nat} (h : RowR x y la lb i j c L) (hi : i < la) (hj : j < lb) :
    RowR x y la lb i (j + 1) ((L.getD (i + j) 0 + lim x i * lim y j + c) / 1000000000) (L.set (i + j) ((L.getD (i + j) 0 + lim x i * lim y j + c) % 1000000000)) := by
  obtain ⟨h1, h2, h3, h4⟩ := h
  refine ⟨by rw [List.length_set, h1], h2.set _ (Nat.mod_lt _ (by omega)), mul_step (by omega) h3, fun m hm => ?_⟩
  rw [getD_set_ne (by omega)]
  exact h4 m hm
theorem RowR.done {x y la lb i c : Nat} {L : List Nat} (h : RowR x y la lb i lb c L) (hc : c < 1000000000) (hi : i < la) (hlb : (limbs y).length ≤ lb) : MulR x y la lb (i + 1) (L.set (i + lb) c) := by
  obtain ⟨h1, h2, h3, h4⟩ := h
  refine ⟨by rw [List.length_set, h1], h2.set _ hc, mul_row (by omega) hlb (h4 _ (Nat.le_refl _)) h3, fun m hm => ?_⟩
  rw [getD_set_ne (by omega)]
  exact h4 m (by omega)

set_option maxRecDepth 100000 in
set_option maxHeartbeats 2000000 in
theorem multiplyLow_any {w : World} {va vb : Value} {L1 L2 : List Nat} (hx : Own 0 w va L1) (hy : Own 0 w vb L2) (l1 : Low L1) (l2 : Low L2) (hlx : L1.length ≤ 1000000) (hly : L2.length ≤ 1000000) :
    Calls Tryd.prog 53 #[va, vb] w fun e w' => Makes w.heap.size w (lval L1 * lval L2) e w' := by
  obtain ⟨i0, hi, hz0, hz1, hz2⟩ := info_parts Tryd.infoU64
  obtain ⟨lo, hlo⟩ : ∃ lo, w.heap.size = lo := ⟨_, rfl⟩
  rw [hlo]
  obtain ⟨ada, capa, rfl, -, -, hca⟩ := hx.view
  obtain ⟨adb, capb, rfl, -, -, hcb⟩ := hy.view
  obtain ⟨la, hla⟩ : ∃ la, L1.length = la := ⟨_, rfl⟩
  obtain ⟨lb, hlb⟩ : ∃ lb, L2.length = lb := ⟨_, rfl⟩
  have hla' := limbs_short l1
  have hlb' := limbs_short l2
  have gA := fun k => getD_low l1 k
  have gB := fun k => getD_low l2 k
  obtain ⟨x, hx'⟩ : ∃ x, lval L1 = x := ⟨_, rfl⟩
  obtain ⟨y, hy'⟩ : ∃ y, lval L2 = y := ⟨_, rfl⟩
  rw [hx'] at hla' gA ⊢
  rw [hy'] at hlb' gB ⊢
  have GA := Lib.hid gA
  have GB := Lib.hid gB
  rw [hla] at hlx hca hla' ⊢
  rw [hlb] at hly hcb hlb' ⊢
  have HLO := Lib.hid hlo
  have HLe : lo ≤ w.heap.size := by omega
  have HLA := Lib.hid hla'
  have HLB := Lib.hid hlb'
  clear hx hy hlo hla hlb hx' hy' gA gB hla' hlb' l1 l2
  go_enter Tryd.func53, Tryd.ntmps53
  go_wp2_with (at_make; refine wpList_make_full _ rfl _ _ 51 rfl lo 73 i0 (.int .u64 0) 1 Tryd.underlying51 hi hz0 hz1 .i64 .i64 (la + lb) (la + lb) (la + lb) rfl rfl rfl rfl (by rw [hz2]; omega) (by unfold maxLen; omega) (by omega) ?_; intro w1 hown1 hgrow1)
  have hbel1 : Below lo w w1 := (Below.refl _ _).grown hgrow1 HLe (fun k hk => by cases hk)
  have hO1 := Own.made hown1
  clear hgrow1 hown1
  go_loopw [20] (fun iv wr => ∃ (i : Nat) (L : List Nat), i ≤ la ∧ iv = .int .i64 i ∧ MulR x y la lb i L ∧ Own lo wr (.slice (some ⟨w.heap.size, 0, none⟩) (la + lb) (la + lb)) L ∧ Below lo w wr) (fun iv _ => la - (intOf iv).toNat)
  case atStart => exact ⟨0, List.replicate (la + lb) 0, Nat.zero_le _, rfl, ⟨by rw [List.length_replicate], by intro z hz; have := List.eq_of_mem_replicate hz; omega, by rw [low_zero, lval_zeros]; simp, fun j _ => by simp [List.getD, List.getElem?_replicate]; split <;> rfl⟩, hO1, hbel1⟩
  case round =>
    obtain ⟨i, L, hi', rfl, hr, hown, hbel⟩ := hrel
    clear hO1 hbel1
    by_cases hlt : i < la
    · obtain ⟨ga, rfl, -, hga, hcs⟩ := hca (by omega)
      have hca2 := (hbel.cell (p := ⟨ga, i, none⟩) (by have := HLO.out; show ga < lo; omega)).trans (hcs i hlt)
      rw [GA.out] at hca2
      have hp := lim_lt x i
      have HR := Lib.hid hr.row
      obtain ⟨p, hpe⟩ : ∃ p, lim x i = p := ⟨_, rfl⟩
      rw [hpe] at hca2 hp
      have HPE := Lib.hid hpe
      clear hpe hr hcs hca
      go_wp2
      obtain ⟨wo, rfl⟩ : ∃ wo : World, wo = wr := ⟨_, rfl⟩
      go_loopw [8, 27] (fun cv jv wr => ∃ (j c : Nat) (M : List Nat), j ≤ lb ∧ c < 1000000000 ∧ jv = .int .i64 j ∧ cv = .int .u64 (c : Int) ∧ RowR x y la lb i j c M ∧ Own lo wr (.slice (some ⟨w.heap.size, 0, none⟩) (la + lb) (la + lb)) M ∧ Below lo w wr) (fun _ jv _ => lb - (intOf jv).toNat)
      case atStart => exact ⟨0, 0, L, Nat.zero_le _, by omega, rfl, rfl, HR.out, hown, hbel⟩
      case round =>
        obtain ⟨j, c, M, hj', hc, rfl, rfl, hr, hown2, hbel2⟩ := hrel
        clear hown hbel hca2
        have HLen := Lib.hid hr.1
        by_cases hltj : j < lb
        · obtain ⟨gb, rfl, -, hgb, hcs⟩ := hcb (by omega)
          have hcb2 := (hbel2.cell (p := ⟨gb, j, none⟩) (by have := HLO.out; show gb < lo; omega)).trans (hcs j hltj)
          rw [GB.out] at hcb2
          have hq := lim_lt y j
          have HS := hr.step hlt hltj
          have hl := hr.2.1.getD (i + j)
          rw [HPE.out] at HS
          obtain ⟨q, hqe⟩ : ∃ q, lim y j = q := ⟨_, rfl⟩
          rw [hqe] at hcb2 hq HS
          have hcell := World.ownsRow.cells hown2.row (g := w.heap.size) rfl (i + j) _ (u64s_at (by rw [HLen.out]; omega))
          rw [Lib.add_plain, Nat.zero_add] at hcell
          have hfr := hown2.frozen HLen.out.symm (i + j)
          obtain ⟨old, hold⟩ : ∃ old, M.getD (i + j) 0 = old := ⟨_, rfl⟩
          rw [hold] at hcell hl HS
          have HM := mul_bound hl hp hq hc
          have HS := Lib.hid HS
          have hm1 := HM.1
          have HM2 := Lib.hid HM.2
          clear HM hqe hr hold hcs hcb HR hgb
          have hm2 : (p : Int) * q ≤ 999999998000000001 := by rw [← Int.natCast_mul]; omega
          have hm3 : 0 ≤ (p : Int) * q := by rw [← Int.natCast_mul]; omega
          have HV : Hid (((old : Int) + p * q + c) % 1000000000 = (((old + p * q + c) % 1000000000 : Nat) : Int) ∧ ((old : Int) + p * q + c) / 1000000000 = (((old + p * q + c) / 1000000000 : Nat) : Int)) := Lib.hid (by
            rw [← Int.natCast_mul]; omega)
          go_wp2
          go_roundw
          case rel =>
            refine ⟨j + 1, (old + p * q + c) / 1000000000, M.set (i + j) ((old + p * q + c) % 1000000000), by omega, HM2.out, by go_num, ?_, by rw [HPE.out] at *; exact HS.out, ?_, hbel2.setCell (p := ⟨w.heap.size, i + j, none⟩) HLe _⟩
            · rw [← HV.out.2]
            · rw [HV.out.1]
              exact hown2.set HLen.out.symm (i + j) _
          case measure => simp [intOf]; omega
        · obtain rfl : j = lb := by omega
          have HS := Lib.hid (hr.done hc hlt (by have := HLB.out; omega))
          have hcell := World.ownsRow.cells hown2.row (g := w.heap.size) rfl (i + j) _ (u64s_at (by rw [HLen.out]; omega))
          rw [Lib.add_plain, Nat.zero_add] at hcell
          have hfr := hown2.frozen HLen.out.symm (i + j)
          obtain ⟨old, hold⟩ : ∃ old, M.getD (i + j) 0 = old := ⟨_, rfl⟩
          rw [hold] at hcell
          clear hr hold hcb HR
          go_wp2
          go_roundw
          case rel => exact ⟨i + 1, M.set (i + j) c, by omega, by go_num, HS.out, hown2.set HLen.out.symm (i + j) c, hbel2.setCell (p := ⟨w.heap.size, i + j, none⟩) HLe _⟩
          case measure => simp [intOf]; omega
    · obtain rfl : i = la := by omega
      have hd : Low L ∧ lval L = x * y := ⟨hr.2.1, by rw [hr.2.2.1, low_all (by have := HLA.out; omega)]⟩
      have HD := Lib.hid hd
      have HLen := Lib.hid hr.1
      clear hd hr hca hcb
      go_wp2_with (go_at_call 62; refine (trimmed_any (l := L) hown HD.out.1).mono ?_; rintro e w' ⟨v, rfl, hsz, rfl⟩)
      go_ret
      rw [HD.out.2] at hsz
      exact ⟨_, rfl, hsz, hbel⟩

theorem multiplySizes_any {w : World} {va vb : Value} {x y : Nat} (hx : Sz 0 w va x) (hy : Sz 0 w vb y) (hlx : (limbs x).length ≤ 1000000) (hly : (limbs y).length ≤ 1000000) :
    Calls Tryd.prog 53 #[va, vb] w fun e w' => Makes w.heap.size w (x * y) e w' := by
  have := multiplyLow_any hx hy (low_limbs x) (low_limbs y) hlx hly
  rwa [lval_limbs, lval_limbs] at this

end Go.Proofs.YtlilojaefpnkmaaDoor
