/- LexStands: the walk. -/
import Derived.Test.YtpdepdigacpfiaaDoorLChain
import Derived.Test.YtpdepdigacpfiaaDoorLAwake
import Derived.Deep.MidRow
namespace Go.Proofs.YtpdepdigacpfiaaDoor
open Go.RowKit Go.Shelf
set_option linter.unusedVariables false

theorem below_draw {B n : Nat} {W w : World} (h : Below B W w) : Below B W (w.drewN n) := ⟨h.os, h.tape, h.output, h.size, h.block⟩
theorem wrap_nat {q : Nat} (h : q ≤ 1000000) : IntKind.i64.wrap (q : Int) = (q : Int) := by
  unfold IntKind.wrap
  simp [IntKind.bits, IntKind.signed]
  omega
set_option maxRecDepth 100000 in
set_option maxHeartbeats 8000000 in
theorem stands_any {W : World} (t : ByteArray) (hW : Ready W) : Calls Tryd.prog 3 #[.string t] W fun e w' => e = .returned (.bool true) ∧ Below W.heap.size W w' := by
  have HA := Lib.hid (awake_true hW)
  have HW := Lib.hid hW
  cases hx : scanL t with
  | error d =>
    obtain ⟨c, p⟩ := d
    have hp := scanL_err hx
    have q1 : (0 : Int) ≤ (p : Int) := by omega
    have q2 : (p : Int) ≤ (t.size : Int) := by omega
    have HS := Lib.hid (fun w (h : Ready w) => scan_err h hx)
    clear hx hp hW
    go_enter Tryd.func3, Tryd.ntmps3
    go_wp2_with fail
    go_at_call 7; refine HA.out.mono ?_; rintro e w1 ⟨rfl, hb1⟩
    have HB1 := Lib.hid hb1
    have HW1 := Lib.hid (HW.out.below hb1)
    clear hb1
    go_wp2_with fail
    go_at_call 8; refine (HS.out w1 HW1.out).mono ?_; rintro e w2 ⟨D, rfl, hbl, hb2⟩
    have HB2 := Lib.hid (HB1.out.trans (hb2.mono HB1.out.size))
    have c2 := hbl.cell 2
    clear hb2
    go_wp2
    go_ret
    exact ⟨rfl, HB2.out⟩
  | ok l =>
    have hch := scanL_chain hx
    have hlen := scanL_len hx
    have hsz : t.size ≤ 16384 := by
      unfold scanL at hx
      split at hx
      · cases hx
      · omega
    have HS := Lib.hid (fun w (h : Ready w) => scan_ok h hx)
    have HC := Lib.hid hch
    clear hx hW hch
    go_enter Tryd.func3, Tryd.ntmps3
    go_wp2_with fail
    go_at_call 7; refine HA.out.mono ?_; rintro e w1 ⟨rfl, hb1⟩
    have HB1 := Lib.hid hb1
    have HW1 := Lib.hid (HW.out.below hb1)
    clear hb1
    go_wp2_with fail
    go_at_call 8; refine (HS.out w1 HW1.out).mono ?_; rintro e w2 ⟨v, rfl, hr, hb2⟩
    have HB2 := Lib.hid (HB1.out.trans (hb2.mono HB1.out.size))
    obtain ⟨g, cap, rfl, hg, hc⟩ := hr
    have HCE := Lib.hid hc
    rw [List.length_append, List.length_singleton]
    clear hb2 hc HS HA
    go_wp2_with fail
    go_loopg [5, 39] (l.length + 1) (fun gf s5 s39 wx => ∃ (a i : Nat), s5 = .int .i64 (a : Int) ∧ s39 = .int .i64 (i : Int) ∧ Hid (Below w2.heap.size w2 wx) ∧ i + gf = l.length + 1 ∧ (i ≤ l.length → Chain t a (l.drop i)))
    case atStart => exact ⟨0, 0, rfl, rfl, Lib.hid (Below.refl _ _), by omega, fun _ => HC.out⟩
    case round =>
      obtain ⟨a, i, rfl, rfl, HBw, hfu, hchain⟩ := hrel
      by_cases hil : i < l.length
      · obtain ⟨g', rfl⟩ : ∃ g', gk = g' + 1 := ⟨gk - 1, by omega⟩
        have hd := hchain (by omega)
        rw [List.drop_eq_getElem_cons hil] at hd
        obtain ⟨x, hx⟩ : ∃ x, l[i] = x := ⟨_, rfl⟩
        rw [hx] at hd
        have hget : (l ++ [(⟨0, ⟨#[]⟩, t.size⟩ : Tk)])[i]? = some x := by rw [List.getElem?_append_left hil, List.getElem?_eq_getElem hil, hx]
        have hcell : ∀ (k : Nat) (u : Value), k < 3 → x.cells[k]? = some u → wr.cell? ⟨g, i * 3 + k, none⟩ = some u := fun k u hk hu => cells_keep HBw.out (HCE.out _ _ (by rw [Nat.mul_comm]; exact tkCells_at _ i k x u hget hk hu))
        have k0 := hcell 0 _ (by omega) rfl
        have k1 := hcell 1 _ (by omega) rfl
        have k2 := hcell 2 _ (by omega) rfl
        rw [Nat.add_zero] at k0
        obtain ⟨hs, hn⟩ : Sits t a x ∧ Chain t (x.next t) (l.drop (i + 1)) := by cases hd with | cons h1 h2 => exact ⟨h1, h2⟩
        obtain ⟨k, xb, p⟩ := x
        simp only at k0 k1 k2
        obtain ⟨f1, f2, f3, f4, f5⟩ := hs
        simp only at f1 f2 f3 f4 f5
        have q1 : ¬ (p : Int) < (a : Int) := by omega
        have q2 : ¬ (t.size : Int) < (p : Int) := by omega
        have q3 : (k == 0) = false := beq_eq_false_iff_ne.2 f3
        have q4 : ((i : Int) == (l.length : Int) + 1 - 1) = false := beq_eq_false_iff_ne.2 (by omega)
        have HN := Lib.hid hn
        clear hn hd hx hget hcell hchain
        by_cases hk3 : k = 3
        · have q5 : (k == 3) = true := beq_iff_eq.2 hk3
          have hpl : p < t.size := by omega
          obtain ⟨c, hc⟩ : ∃ c, t[p]'hpl = c := ⟨_, rfl⟩
          have hix := fun W => byte_run hpl hc W
          have hcb : t.get! p = c := by rw [get_at hpl, hc]
          rw [hcb] at f5
          have HNX : Hid (Chain t (if c = 60 then p + 5 else p + 1 + xb.size) (l.drop (i + 1))) := Lib.hid (by have := HN.out; unfold Tk.next at this; simp only [if_pos hk3, hcb] at this; exact this)
          by_cases h60 : c = 60
          · have e60 : ((c.toNat : Int) == 60) = true := by rw [h60]; rfl
            rw [if_pos h60] at HNX
            clear f4 f5 hc hcb h60 HN
            go_wp2_with fail
            go_roundg g'
            case measure => omega
            case rel => exact ⟨p + 5, i + 1, by push_cast; rfl, by push_cast; rfl, HBw.out.alloc HBw.out.size _ |> fun h => Lib.hid (by first | exact h | simpa using h), by omega, fun _ => HNX.out⟩
          · have e60 : ((c.toNat : Int) == 60) = false := beq_eq_false_iff_ne.2 (fun e => h60 (UInt8.toNat_inj.1 (by simpa using Int.ofNat.inj e)))
            rw [if_neg h60] at HNX
            rcases f5 hk3 with f5 | ⟨_, e1, e2⟩
            · exact absurd f5 h60
            obtain ⟨q, hq⟩ : ∃ q, p + 1 + xb.size = q := ⟨_, rfl⟩
            rw [hq] at e1 e2 HNX
            have hsum : ((p : Int) + 1) + (xb.size : Int) = (q : Int) := by omega
            have hpq : (p : Int) + 1 ≤ (q : Int) := by omega
            have hp0 : (0 : Int) ≤ (p : Int) + 1 := by omega
            have hqt : (q : Int) ≤ (t.size : Int) := by omega
            have hp1 : ((p + 1 : Nat) : Int) = (p : Int) + 1 := by omega
            have hwr : IntKind.i64.wrap (q : Int) = (q : Int) := wrap_nat (by omega)
            have hex : ((t.extract (p + 1) q).toList == xb.toList) = true := by rw [e1]; exact beq_self_eq_true _
            have hex2 : ((t.extract (p + 1) q).toList != xb.toList) = false := by rw [e1]; simp
            have HF := Lib.hid e1
            clear f4 hc hcb h60 HN e1 hq hp1
            go_wp2_with fail
            go_quiet (fail)
            clear hwr
            go_wp2_with fail
            go_roundg g'
            case measure => omega
            case rel => exact ⟨q, i + 1, by push_cast; rfl, by push_cast; rfl, Lib.hid (by exact below_draw (HBw.out.alloc HBw.out.size _)), by omega, fun _ => HNX.out⟩
        · have q5 : (k == 3) = false := beq_eq_false_iff_ne.2 hk3
          obtain ⟨e1, e2⟩ := f4 hk3
          obtain ⟨q, hq⟩ : ∃ q, p + xb.size = q := ⟨_, rfl⟩
          rw [hq] at e1 e2
          have hsum : (p : Int) + (xb.size : Int) = (q : Int) := by omega
          have hpq : (p : Int) ≤ (q : Int) := by omega
          have hqt : (q : Int) ≤ (t.size : Int) := by omega
          have hwr : IntKind.i64.wrap (q : Int) = (q : Int) := wrap_nat (by omega)
          have hex : ((t.extract p q).toList == xb.toList) = true := by rw [e1]; exact beq_self_eq_true _
          have hex2 : ((t.extract p q).toList != xb.toList) = false := by rw [e1]; simp
          have HF := Lib.hid e1
          have HNX : Hid (Chain t q (l.drop (i + 1))) := Lib.hid (by have := HN.out; unfold Tk.next at this; simp only [if_neg hk3, hq] at this; exact this)
          clear f4 f5 e1 hq
          go_wp2_with fail
          go_quiet (fail)
          clear hwr
          go_wp2_with fail
          go_roundg g'
          case measure => omega
          case rel => exact ⟨q, i + 1, by push_cast; rfl, by push_cast; rfl, Lib.hid (by exact below_draw (HBw.out.alloc HBw.out.size _)), by omega, fun _ => HNX.out⟩
      · by_cases hie : i = l.length
        · subst hie
          obtain ⟨g', rfl⟩ : ∃ g', gk = g' + 1 := ⟨gk - 1, by omega⟩
          have hd := hchain (Nat.le_refl _)
          rw [List.drop_length] at hd
          have ha : a ≤ t.size := by cases hd; assumption
          have hget : (l ++ [(⟨0, ⟨#[]⟩, t.size⟩ : Tk)])[l.length]? = some ⟨0, ⟨#[]⟩, t.size⟩ := by simp
          have hcell : ∀ (k : Nat) (u : Value), k < 3 → (⟨0, ⟨#[]⟩, t.size⟩ : Tk).cells[k]? = some u → wr.cell? ⟨g, l.length * 3 + k, none⟩ = some u := fun k u hk hu => cells_keep HBw.out (HCE.out _ _ (by rw [Nat.mul_comm]; exact tkCells_at _ l.length k _ u hget hk hu))
          have k0 := hcell 0 _ (by omega) rfl
          have k1 := hcell 1 _ (by omega) rfl
          have k2 := hcell 2 _ (by omega) rfl
          rw [Nat.add_zero] at k0
          simp only at k0 k1 k2
          have q1 : ¬ (t.size : Int) < (a : Int) := by omega
          have q4 : ((l.length : Int) == (l.length : Int) + 1 - 1) = true := beq_iff_eq.2 (by omega)
          have hwr : IntKind.i64.wrap (t.size : Int) = (t.size : Int) := wrap_nat (by omega)
          have hex : ((t.extract t.size t.size).toList == (⟨#[]⟩ : ByteArray).toList) = true := by simp
          clear hd hget hcell hchain
          go_wp2_with fail
          go_quiet (fail)
          clear hwr
          go_wp2_with fail
          go_roundg g'
          case measure => omega
          case rel => exact ⟨t.size, l.length + 1, by push_cast; rfl, by push_cast; rfl, Lib.hid (by exact below_draw (HBw.out.alloc HBw.out.size _)), by omega, fun h => absurd h (by omega)⟩
        · obtain rfl : i = l.length + 1 := by omega
          have hget : (l ++ [(⟨0, ⟨#[]⟩, t.size⟩ : Tk)])[l.length]? = some ⟨0, ⟨#[]⟩, t.size⟩ := by simp
          have k2 : wr.cell? ⟨g, l.length * 3 + 2, none⟩ = some (.int .i64 (t.size : Int)) := cells_keep HBw.out (HCE.out _ _ (by rw [Nat.mul_comm]; exact tkCells_at _ l.length 2 _ _ hget (by omega) rfl))
          clear hget hchain
          go_wp2
          go_ret
          exact ⟨rfl, HB2.out.trans (HBw.out.mono HB2.out.size)⟩
end Go.Proofs.YtpdepdigacpfiaaDoor
