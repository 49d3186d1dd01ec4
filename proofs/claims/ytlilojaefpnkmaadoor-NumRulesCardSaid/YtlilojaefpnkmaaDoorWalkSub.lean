/- subtractSizes. -/
import Derived.Test.YtlilojaefpnkmaaDoorWalkAdd
namespace Go.Proofs.YtlilojaefpnkmaaDoor
open Go.RowKit

/-- What subtractSizes has taken away when k limbs are over, of la. -/
def SubR (x y la k b : Nat) (L : List Nat) : Prop := ∃ ls : List Nat, L = ls ++ List.replicate (la - k) 0 ∧ ls.length = k ∧ Low ls ∧ low x k + 1000000000 ^ k * b = lval ls + low y k
theorem SubR.length {x y la k b : Nat} {L : List Nat} (h : SubR x y la k b L) (hk : k ≤ la) : L.length = la := by
  obtain ⟨ls, rfl, h1, _⟩ := h
  rw [List.length_append, List.length_replicate, h1]; omega
theorem SubR.step {x y la k b : Nat} {L : List Nat} (h : SubR x y la k b L) (hb : b ≤ 1) (hk : k < la) :
    SubR x y la (k + 1) (1 - (1000000000 + lim x k - lim y k - b) / 1000000000) (L.set k ((1000000000 + lim x k - lim y k - b) % 1000000000)) := by
  obtain ⟨ls, rfl, h1, h2, h3⟩ := h
  refine ⟨ls ++ [(1000000000 + lim x k - lim y k - b) % 1000000000], ?_, ?_, h2.snoc (Nat.mod_lt _ (by omega)), sub_step h1 hb h3⟩
  · have := set_app (ls := ls) (m := la - k) (x := (1000000000 + lim x k - lim y k - b) % 1000000000) (by omega)
    rw [h1] at this
    rw [this, show la - k - 1 = la - (k + 1) by omega]
  · rw [List.length_append, h1, List.length_singleton]

set_option maxRecDepth 100000 in
set_option maxHeartbeats 1000000 in
theorem subtractSizes_any {w : World} {va vb : Value} {x y : Nat} (hx : Sz 0 w va x) (hy : Sz 0 w vb y) (hxy : y ≤ x) (hlx : (limbs x).length ≤ 1000000) :
    Calls Tryd.prog 50 #[va, vb] w fun e w' => Makes w.heap.size w (x - y) e w' := by
  obtain ⟨i0, hi, hz0, hz1, hz2⟩ := info_parts Tryd.infoU64
  obtain ⟨lo, hlo⟩ : ∃ lo, w.heap.size = lo := ⟨_, rfl⟩
  rw [hlo]
  have HX := Lib.hid hx
  have HY := Lib.hid hy
  obtain ⟨ada, capa, rfl, hca1, hca2, hca⟩ := hx.view
  obtain ⟨adb, capb, rfl, -, -, -⟩ := hy.view
  obtain ⟨la, hla⟩ : ∃ la, (limbs x).length = la := ⟨_, rfl⟩
  rw [hla] at HX hlx hca1 hca ⊢
  have HLO := Lib.hid hlo
  have HLe : lo ≤ w.heap.size := by omega
  have HLA := Lib.hid hla
  have HXY := Lib.hid hxy
  clear hx hy hlo hla hca1 hca2 hxy
  go_enter Tryd.func50, Tryd.ntmps50
  go_wp2_with (at_make; refine wpList_make_full _ rfl _ _ 51 rfl lo 73 i0 (.int .u64 0) 1 Tryd.underlying51 hi hz0 hz1 .i64 .i64 la la la rfl rfl rfl rfl (by rw [hz2]; omega) (by unfold maxLen; omega) (by omega) ?_; intro w1 hown1 hgrow1)
  have hbel1 : Below lo w w1 := (Below.refl _ _).grown hgrow1 HLe (fun k hk => by cases hk)
  have hO1 := Own.made hown1
  clear hgrow1 hown1
  go_loopw [6, 15] (fun bv i wr => ∃ (k b : Nat) (L : List Nat), k ≤ la ∧ b ≤ 1 ∧ i = .int .i64 k ∧ bv = .int .u64 (b : Int) ∧ SubR x y la k b L ∧ Own lo wr (.slice (some ⟨w.heap.size, 0, none⟩) la la) L ∧ Below lo w wr) (fun _ i _ => la - (intOf i).toNat)
  case atStart => exact ⟨0, 0, List.replicate la 0, Nat.zero_le _, Nat.zero_le _, rfl, rfl, ⟨[], rfl, rfl, by simp [Low], by rw [low_zero, low_zero]; rfl⟩, hO1, hbel1⟩
  case round =>
    obtain ⟨k, b, L, hk, hb, rfl, rfl, hr, hown, hbel⟩ := hrel
    have HLen := Lib.hid (hr.length hk)
    clear hO1 hbel1
    by_cases hlt : k < la
    · obtain ⟨ga, rfl, -, hga, hcs⟩ := hca (by omega)
      have hca2 := (hbel.cell (p := ⟨ga, k, none⟩) (by have := HLO.out; show ga < lo; omega)).trans (hcs k hlt)
      rw [limbs_getD] at hca2
      have hyr := HY.out.below (w' := wr) (by rw [HLO.out]; exact hbel)
      have HB := Lib.hid (limb_lim k hyr (by omega))
      have HS := Lib.hid (hr.step hb hlt)
      have hp := lim_lt x k
      have hq := lim_lt y k
      have hcell := World.ownsRow.cells hown.row (g := w.heap.size) rfl k _ (u64s_at (by rw [HLen.out]; exact hlt))
      rw [Lib.add_plain, Nat.zero_add] at hcell
      have hfr := hown.frozen HLen.out.symm k
      obtain ⟨p, hpe⟩ : ∃ p, lim x k = p := ⟨_, rfl⟩
      obtain ⟨q, hqe⟩ : ∃ q, lim y k = q := ⟨_, rfl⟩
      rw [hpe] at hca2 HS hp
      rw [hqe] at HB HS hq
      obtain ⟨old, hold⟩ : ∃ old, L.getD k 0 = old := ⟨_, rfl⟩
      rw [hold] at hcell
      clear hyr hpe hqe hr hold hcs hca
      have HV : Hid ((1000000000 + (p : Int) - q - b) % 1000000000 = (((1000000000 + p - q - b) % 1000000000 : Nat) : Int) ∧ 1 - (1000000000 + (p : Int) - q - b) / 1000000000 = ((1 - (1000000000 + p - q - b) / 1000000000 : Nat) : Int)) := Lib.hid (by omega)
      go_wp2_with (first
        | (go_at_call 61; refine HB.out.mono ?_; clear HB; rintro e w' ⟨rfl, rfl⟩))
      go_roundw
      case rel =>
        refine ⟨k + 1, 1 - (1000000000 + p - q - b) / 1000000000, L.set k ((1000000000 + p - q - b) % 1000000000), by omega, by omega, by go_num, ?_, HS.out, ?_, hbel.setCell (p := ⟨w.heap.size, k, none⟩) HLe _⟩
        · rw [← HV.out.2]
        · rw [HV.out.1]
          exact hown.set HLen.out.symm k _
      case measure => simp [intOf]; omega
    · obtain rfl : k = la := by omega
      have hd : Low L ∧ lval L = x - y := by
        obtain ⟨ls, rfl, h1, h2, h3⟩ := hr
        rw [Nat.sub_self, List.replicate_zero, List.append_nil]
        exact ⟨h2, sub_done h1 h2 hb HXY.out (by have := HLA.out; omega) h3⟩
      have HD := Lib.hid hd
      clear hd hr hca
      go_wp2_with (go_at_call 62; refine (trimmed_any (l := L) hown HD.out.1).mono ?_; rintro e w' ⟨v, rfl, hsz, rfl⟩)
      go_ret
      rw [HD.out.2] at hsz
      exact ⟨_, rfl, hsz, hbel⟩

end Go.Proofs.YtlilojaefpnkmaaDoor
