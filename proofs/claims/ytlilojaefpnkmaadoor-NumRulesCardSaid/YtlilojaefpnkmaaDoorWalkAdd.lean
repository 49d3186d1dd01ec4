/- addSizes. -/
import Derived.Test.YtlilojaefpnkmaaDoorWalkA
import Derived.Test.YtlilojaefpnkmaaDoorMath2
namespace Go.Proofs.YtlilojaefpnkmaaDoor
open Go.RowKit

/-- A call that answers the size n in new memory. -/
def Makes (lo : Nat) (w : World) (n : Nat) (e : Ending) (w' : World) : Prop := ∃ v, e = .returned v ∧ Sz lo w' v n ∧ Below lo w w'

theorem limb_lim {lo : Nat} {w : World} {v : Value} {x : Nat} (k : Nat) (h : Sz lo w v x) (hp : k < 4611686018427387904) :
    Calls Tryd.prog 61 #[v, .int .i64 k] w fun e w' => e = .returned (.int .u64 ((lim x k : Nat) : Int)) ∧ w = w' := by
  have := limb_any k h hp
  rw [limbs_getD] at this
  exact this

/-- What addSizes has added when k limbs are over. -/
def AddR (x y k c : Nat) (ls : List Nat) : Prop := ls.length = k ∧ Low ls ∧ lval ls + 1000000000 ^ k * c = low x k + low y k
theorem AddR.step {x y k c : Nat} {ls : List Nat} (h : AddR x y k c ls) : AddR x y (k + 1) ((lim x k + lim y k + c) / 1000000000) (ls ++ [(lim x k + lim y k + c) % 1000000000]) :=
  ⟨by rw [List.length_append, h.1, List.length_singleton], h.2.1.snoc (Nat.mod_lt _ (by omega)), add_step h.1 h.2.2⟩

set_option maxRecDepth 100000 in
set_option maxHeartbeats 1000000 in
theorem addSizes_any {w : World} {va vb : Value} {x y : Nat} (hx : Sz 0 w va x) (hy : Sz 0 w vb y) (hlx : (limbs x).length ≤ 1000000) (hly : (limbs y).length ≤ 1000000) :
    Calls Tryd.prog 48 #[va, vb] w fun e w' => Makes w.heap.size w (x + y) e w' := by
  obtain ⟨i0, hi, hz0, hz1, hz2⟩ := info_parts Tryd.infoU64
  obtain ⟨lo, hlo⟩ : ∃ lo, w.heap.size = lo := ⟨_, rfl⟩
  rw [hlo]
  have HX := Lib.hid hx
  have HY := Lib.hid hy
  obtain ⟨ada, capa, rfl, -, -, -⟩ := hx.view
  obtain ⟨adb, capb, rfl, -, -, -⟩ := hy.view
  obtain ⟨la, hla⟩ : ∃ la, (limbs x).length = la := ⟨_, rfl⟩
  obtain ⟨lb, hlb⟩ : ∃ lb, (limbs y).length = lb := ⟨_, rfl⟩
  rw [hla] at HX hlx ⊢
  rw [hlb] at HY hly ⊢
  have HLO := Lib.hid hlo
  have HLe : lo ≤ w.heap.size := by omega
  have HLA := Lib.hid hla
  have HLB := Lib.hid hlb
  clear hx hy hlo hla hlb
  obtain ⟨m, hm⟩ : ∃ m, m = max la lb := ⟨_, rfl⟩
  rcases Nat.lt_or_ge la lb with hmax | hmax
  all_goals
    first
      | (have e : m = lb := by omega
         subst e)
      | (have e : m = la := by omega
         subst e)
    clear hm
    go_enter Tryd.func48, Tryd.ntmps48
    go_wp2
    go_loopw [5, 6, 14] (fun s cv i wr => ∃ (k c : Nat) (ls : List Nat), k ≤ m ∧ c ≤ 1 ∧ i = .int .i64 k ∧ cv = .int .u64 (c : Int) ∧ ls.length ≤ k ∧ AddR x y k c ls ∧ Own lo wr s ls ∧ Below lo w wr) (fun _ _ i _ => m - (intOf i).toNat)
    case atStart => exact ⟨0, 0, [], Nat.zero_le _, Nat.zero_le _, rfl, rfl, Nat.le_refl _, ⟨rfl, by simp [Low], by rw [low_zero, low_zero]; rfl⟩, Own.nil, Below.refl _ _⟩
    case round =>
      obtain ⟨k, c, ls, hk, hc, rfl, rfl, hls, hr, hown, hbel⟩ := hrel
      by_cases hlt : k < m
      · have hxr := HX.out.below (w' := wr) (by rw [HLO.out]; exact hbel)
        have hyr := HY.out.below (w' := wr) (by rw [HLO.out]; exact hbel)
        have HA := Lib.hid (limb_lim k hxr (by omega))
        have HB := Lib.hid (limb_lim k hyr (by omega))
        have HS := Lib.hid hr.step
        have hp := lim_lt x k
        have hq := lim_lt y k
        obtain ⟨p, hpe⟩ : ∃ p, lim x k = p := ⟨_, rfl⟩
        obtain ⟨q, hqe⟩ : ∃ q, lim y k = q := ⟨_, rfl⟩
        rw [hpe] at HA HS hp
        rw [hqe] at HB HS hq
        clear hxr hyr hpe hqe hr
        have e1 : Hid (Value.int .u64 (((p + q + c) % 1000000000 : Nat) : Int) = .int .u64 (((p : Int) + q + c) % 1000000000)) := Lib.hid (by congr 1)
        go_wp2_with (first
          | (go_at_call 61; refine HA.out.mono ?_; clear HA; rintro e w' ⟨rfl, rfl⟩)
          | (go_at_call 61; refine HB.out.mono ?_; clear HB; rintro e w' ⟨rfl, rfl⟩)
          | (at_builtin; refine wpList_append_own _ rfl _ _ 51 rfl lo 73 i0 (.int .u64 0) 1 8 Tryd.underlying51 hi hz0 hz1 hz2 rfl (by decide) _ _ _ rfl (hown.row.alloc _) ⟨wr.heap.size, 0, none⟩ 1 1 [.int .u64 (((p : Int) + q + c) % 1000000000)] rfl rfl (cell_box _ _ _) (by intro u hu; simp at hu; subst hu; rfl) (by unfold maxLen; omega) (by omega) (by have := hbel.size; simp; omega) ?_; intro v' w1 hown' hgrow _))
        have e2 := e1.out
        rw [← e2] at hown'
        clear e1 e2
        go_wp2
        go_roundw
        case rel => exact ⟨k + 1, (p + q + c) / 1000000000, ls ++ [(p + q + c) % 1000000000], by omega, by omega, by go_num, by go_num, by rw [List.length_append, List.length_singleton]; omega, HS.out, Own.snoc hown', (hbel.alloc (Nat.le_trans HLe hbel.size) _).grown hgrow (by have := hbel.size; simp; omega) (fun k hk => (hown.lt hk).1)⟩
        case measure => simp [intOf]; omega
      · obtain rfl : k = m := by omega
        have hd : Low (ls ++ [c]) ∧ lval (ls ++ [c]) = x + y := by
          refine ⟨hr.2.1.snoc (by omega), ?_⟩
          rw [lval_append, hr.1]
          have := hr.2.2
          rw [low_all (by have := HLA.out; omega), low_all (by have := HLB.out; omega)] at this
          simp only [lval]
          omega
        have HD := Lib.hid hd
        clear hd hr
        go_wp2_with (first
          | (at_builtin; refine wpList_append_own _ rfl _ _ 51 rfl lo 73 i0 (.int .u64 0) 1 8 Tryd.underlying51 hi hz0 hz1 hz2 rfl (by decide) _ _ _ rfl (hown.row.alloc _) ⟨wr.heap.size, 0, none⟩ 1 1 [.int .u64 (c : Int)] rfl rfl (cell_box _ _ _) (by intro u hu; simp at hu; subst hu; rfl) (by unfold maxLen; omega) (by omega) (by have := hbel.size; simp; omega) ?_; intro v' w1 hown' hgrow _; have HO := Lib.hid (Own.snoc hown'))
          | (go_at_call 62; refine (trimmed_any HO.out HD.out.1).mono ?_; rintro e w' ⟨v, rfl, hsz, rfl⟩))
        go_ret
        rw [HD.out.2] at hsz
        exact ⟨_, rfl, hsz, (hbel.alloc (Nat.le_trans HLe hbel.size) _).grown hgrow (by have := hbel.size; simp; omega) (fun k hk => (hown.lt hk).1)⟩

end Go.Proofs.YtlilojaefpnkmaaDoor
