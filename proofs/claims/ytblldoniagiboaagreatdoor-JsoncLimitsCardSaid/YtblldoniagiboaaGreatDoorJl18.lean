/- strconv.ParseUint of hexadecimal digits, to 16 bits · strconv.ParseUint as it is called; a \u's number -/
import Derived.Lib.Strings
import Derived.Lib.Walk
import Derived.Lib.ConvBytes
import Derived.Lib.ParseIntBMem
import Derived.Laws.Strings3
import Derived.Laws.Closers25
import Derived.Laws.Closers25b
import Derived.BigCall
import Derived.BigGuard
import Derived.Shelf.Vars
import Derived.Lib.UnsafeStr
import Derived.Test.YtblldoniagiboaaGreatDoorJl17
namespace Go.Proofs.YtblldoniagiboaaGreatDoor
open Go.RowKit Go.Shelf
set_option linter.unusedVariables false

/-- What is read of the program's own variables. -/
structure ReadyJ (W : World) : Prop where
  tabs : Lib.Utf8Tabs 0 1 W
  syn : ∃ ev, W.cell? ⟨5, 0, none⟩ = some ev ∧ (ev = .nilIface ∨ ∃ te pe, ev = .iface te pe)
  rng : ∃ ev, W.cell? ⟨6, 0, none⟩ = some ev ∧ (ev = .nilIface ∨ ∃ te pe, ev = .iface te pe)
  size : 7 ≤ W.heap.size

def puL : List UInt8 → Nat → Option Nat
  | [], n => some n
  | c :: l, n => match hexD c with | none => none | some d => if 65535 < n * 16 + d then none else puL l (n * 16 + d)
set_option maxRecDepth 100000 in
theorem low_bits : ∀ c : Fin 256, bits .or .u8 ((c.val : Nat) : Int) 32 = (((c.val ||| 32 : Nat)) : Int) := by decide
set_option maxRecDepth 100000 in
theorem low_hex : ∀ c : Fin 256, ¬ (48 ≤ c.val ∧ c.val ≤ 57) → (hexD (UInt8.ofNat c.val) = some ((c.val ||| 32) - 87) ∧ 97 ≤ (c.val ||| 32 : Nat) ∧ (c.val ||| 32 : Nat) ≤ 102) ∨ (hexD (UInt8.ofNat c.val) = none ∧ ((c.val ||| 32 : Nat) < 97 ∨ 102 < (c.val ||| 32 : Nat))) := by decide
theorem hexD_dig {c : UInt8} (h : 48 ≤ c.toNat ∧ c.toNat ≤ 57) : hexD c = some (c.toNat - 48) := by unfold hexD; rw [if_pos h]
theorem hexD_lt {c : UInt8} {d : Nat} (h : hexD c = some d) : d < 16 := by
  unfold hexD at h
  split at h
  · cases h; omega
  · split at h
    · cases h; omega
    · split at h
      · cases h; omega
      · cases h

set_option maxHeartbeats 32000000 in
set_option maxRecDepth 100000 in
theorem pu_in (t : ByteArray) (hne : t.size ≠ 0) (hmax : t.size ≤ 1000) (w : World) :
    Calls Tryz.prog 264 #[.string t, .int .i64 16, .int .i64 16] w fun e w' => (match puL t.data.toList 0 with
      | some n => e = .returned (.tuple #[.int .u64 (n : Int), .nilIface])
      | none => ∃ x, e = .returned (.tuple #[.int .u64 x, .iface 272 (.int .i64 2)]) ∨ e = .returned (.tuple #[.int .u64 x, .iface 272 (.int .i64 1)])) ∧ w' = Lib.bytesWorld w 5 t := by
  have e321 : ∀ args w, (callFunc 281 args).run Tryz.prog w = .ok (.enter 281 args) w := enters_of Tryz.func281 (by kernel_rfl) rfl
  have hemp : t.toList.isEmpty = false := by
    rw [← decide_eq_emptyBytes]
    exact decide_eq_false (fun h => hne (by rw [h]; rfl))
  have hcv := Lib.run_convert_string_bytes (P := Tryz.prog) w 9 44 5 t (u := .string) Tryz.underlying9 Tryz.underlying44 Tryz.underlying5
  have hB : ∀ j, j < t.size → (Lib.bytesWorld w 5 t).cell? ⟨w.heap.size, j, none⟩ = some (.int .u8 (t.data.toList.getD j 0).toNat) := fun j hj => Lib.bytesWorld_cell w 5 t j hj
  obtain ⟨W1, hW1⟩ : ∃ W1, W1 = Lib.bytesWorld w 5 t := ⟨_, rfl⟩
  rw [← hW1] at hcv hB ⊢
  clear hW1
  obtain ⟨bs, hL⟩ : ∃ bs, bs = t.data.toList := ⟨_, rfl⟩
  have hLn : bs.length = t.size := by rw [hL, Lib.size_eq]
  rw [← hL] at hB ⊢
  clear hL
  have hmv : IntKind.u64.wrap (IntKind.u64.wrap 65536 - 1) = 65535 := by
    rw [IntKind.wrap_u64, IntKind.wrap_u64]
    decide
  obtain ⟨X, hX⟩ : ∃ X, puL bs 0 = X := ⟨_, rfl⟩
  rw [hX]
  have HX0 := Lib.hid hX
  clear hX
  go_enter Tryz.func264, Tryz.ntmps264
  go_wp2
  go_loop [12, 13, 101] (fun vu vn vi => ∃ (k acc : Nat) (a : Int), vu = .bool false ∧ vn = .int .u64 a ∧ vi = .int .i64 k ∧ k ≤ t.size ∧ Hid (a = (acc : Int) ∧ acc ≤ 65535 ∧ puL (bs.drop k) acc = X))
    (fun _ _ vi => t.size - (intOf vi).toNat)
  case atStart => exact ⟨0, 0, 0, rfl, rfl, rfl, by omega, rfl, by omega, HX0.out⟩
  case round =>
    obtain ⟨k, acc, a, rfl, rfl, rfl, hk, hh⟩ := hrel
    obtain ⟨ha, hacc, hdec⟩ := hh.out
    clear hh
    have a0 : 0 ≤ a := by omega
    have a1 : a ≤ 65535 := by omega
    by_cases hkn : k < t.size
    · have hc := hB k hkn
      have hdrop : bs.drop k = bs[k]'(by omega) :: bs.drop (k + 1) := List.drop_eq_getElem_cons (by omega)
      have hget : bs.getD k 0 = bs[k]'(by omega) := by simp [List.getD, List.getElem?_eq_getElem (show k < bs.length by omega)]
      rw [hdrop] at hdec
      rw [hget] at hc
      generalize bs[k]'(by omega) = c at hc hdec
      have hc256 : c.toNat < 256 := c.toNat_lt
      clear hB hdrop hget
      by_cases hdig : 48 ≤ c.toNat ∧ c.toNat ≤ 57
      · have hh := hexD_dig hdig
        obtain ⟨hd0, hd1⟩ := hdig
        by_cases hov : 65535 < acc * 16 + (c.toNat - 48)
        · have hF : puL (c :: bs.drop (k + 1)) acc = none := by unfold puL; rw [hh]; simp only; rw [if_pos hov]
          obtain rfl : X = none := hdec.symm.trans hF
          have iov : 65535 < a * 16 + ((c.toNat : Int) - 48) := by omega
          clear hdec hF hov ha hh hacc
          go_wp2
          go_ret2
          exact ⟨⟨_, .inr rfl⟩, rfl⟩
        · have hF : puL (c :: bs.drop (k + 1)) acc = puL (bs.drop (k + 1)) (acc * 16 + (c.toNat - 48)) := by
            conv => lhs; unfold puL
            rw [hh]; simp only; rw [if_neg hov]
          have HN : Hid (a * 16 + ((c.toNat : Int) - 48) = ((acc * 16 + (c.toNat - 48) : Nat) : Int) ∧ acc * 16 + (c.toNat - 48) ≤ 65535 ∧ puL (bs.drop (k + 1)) (acc * 16 + (c.toNat - 48)) = X) := Lib.hid ⟨by omega, by omega, hF.symm.trans hdec⟩
          have iov : a * 16 + ((c.toNat : Int) - 48) ≤ 65535 := by omega
          clear hacc hF hov hdec ha hh
          go_wp2
          refine ⟨⟨k + 1, acc * 16 + (c.toNat - 48), a * 16 + ((c.toNat : Int) - 48), rfl, (by first | rfl | (congr 1; omega)), (by first | rfl | (congr 1; omega)), by omega, HN⟩, by simp [intOf]; omega⟩
      · have hlow := low_hex ⟨c.toNat, hc256⟩ hdig
        have hlb := low_bits ⟨c.toNat, hc256⟩
        simp only at hlow hlb
        rw [show UInt8.ofNat c.toNat = c by simp] at hlow
        obtain ⟨m, hm⟩ : ∃ m : Nat, (c.toNat ||| 32) = m := ⟨_, rfl⟩
        rw [hm] at hlow hlb
        have HLow := Lib.hid (fun (w : World) => (Tryz.internal_strconv_lower (c.toNat : Int) w).mono fun e w' (x : e = .returned (.int .u8 (bits .or .u8 (c.toNat : Int) 32)) ∧ w' = w) => (⟨x.1.trans (by rw [hlb]), x.2⟩ : e = .returned (.int .u8 (m : Int)) ∧ w' = w))
        have hm256 : m < 256 := by rw [← hm]; exact Nat.or_lt_two_pow (n := 8) hc256 (by decide)
        have hdz : ¬ ((48 : Int) ≤ (c.toNat : Int) ∧ (c.toNat : Int) ≤ 57) := by omega
        clear hm hlb
        rcases hlow with ⟨hh, h1, h2⟩ | ⟨hh, h1⟩
        · obtain ⟨d, hdm⟩ : ∃ d, m - 87 = d := ⟨_, rfl⟩
          rw [hdm] at hh
          have h3 : m = d + 87 := by omega
          have q95 : ((c.toNat : Int) == 95) = false := beq_eq_false_iff_ne.2 (fun e => by
            have e : c.toNat = 95 := by omega
            unfold hexD at hh
            rw [if_neg (by omega), if_neg (by omega), if_neg (by omega)] at hh
            cases hh)
          clear hdm
          have hd16 : d < 16 := hexD_lt hh
          have i1 : (97 : Int) ≤ (m : Int) := by omega
          have i2 : (m : Int) ≤ 102 := by omega
          by_cases hov : 65535 < acc * 16 + d
          · have hF : puL (c :: bs.drop (k + 1)) acc = none := by unfold puL; rw [hh]; simp only; rw [if_pos hov]
            obtain rfl : X = none := hdec.symm.trans hF
            have iov : 65535 < a * 16 + ((m : Int) - 97 + 10) := by omega
            clear hdec hF hov ha hh hacc h3 h1 h2 hd16
            go_wp2_with (go_at_call 281; refine (HLow.out _).mono ?_; rintro e w' ⟨rfl, rfl⟩)
            all_goals go_ret2
            all_goals exact ⟨⟨_, .inr rfl⟩, rfl⟩
          · have hF : puL (c :: bs.drop (k + 1)) acc = puL (bs.drop (k + 1)) (acc * 16 + d) := by
              conv => lhs; unfold puL
              rw [hh]; simp only; rw [if_neg hov]
            have HN : Hid (a * 16 + ((m : Int) - 97 + 10) = ((acc * 16 + d : Nat) : Int) ∧ acc * 16 + d ≤ 65535 ∧ puL (bs.drop (k + 1)) (acc * 16 + d) = X) := Lib.hid ⟨by omega, by omega, hF.symm.trans hdec⟩
            have iov : a * 16 + ((m : Int) - 97 + 10) ≤ 65535 := by omega
            clear hacc hF hov hdec ha hh h3 h1 h2 hd16
            go_wp2_with (go_at_call 281; refine (HLow.out _).mono ?_; rintro e w' ⟨rfl, rfl⟩)
            all_goals refine ⟨⟨k + 1, acc * 16 + d, a * 16 + ((m : Int) - 97 + 10), rfl, (by first | rfl | (congr 1; omega)), (by first | rfl | (congr 1; omega)), by omega, HN⟩, by simp [intOf]; omega⟩
        · have hF : puL (c :: bs.drop (k + 1)) acc = none := by unfold puL; rw [hh]
          obtain rfl : X = none := hdec.symm.trans hF
          have i1 : (0 : Int) ≤ (m : Int) := by omega
          have i2 : (m : Int) ≤ 255 := by omega
          have i3 : (m : Int) < 97 ∨ (122 : Int) < (m : Int) ∨ ((97 : Int) ≤ (m : Int) ∧ (103 : Int) ≤ (m : Int) ∧ (m : Int) ≤ 122) := by omega
          clear hdec hF hh hacc ha h1
          by_cases h95 : (c.toNat : Int) = 95
          · have q95 : ((c.toNat : Int) == 95) = true := beq_iff_eq.2 h95
            have HL95 := Lib.hid (fun (w : World) => (Tryz.internal_strconv_lower 95 w).mono fun e w' (x : e = .returned (.int .u8 (bits .or .u8 95 32)) ∧ w' = w) => (⟨x.1.trans (by rw [show bits .or .u8 95 32 = 127 from by decide]), x.2⟩ : e = .returned (.int .u8 127) ∧ w' = w))
            clear i3 i1 i2 HLow
            go_wp2_with (go_at_call 281; refine (HL95.out _).mono ?_; rintro e w' ⟨rfl, rfl⟩)
            all_goals go_ret2
            all_goals exact ⟨⟨_, .inl rfl⟩, rfl⟩
          · have q95 : ((c.toNat : Int) == 95) = false := beq_eq_false_iff_ne.2 h95
            clear h95
            rcases i3 with i3 | i3 | ⟨i3, i4, i5⟩
            all_goals
              go_wp2_with (go_at_call 281; refine (HLow.out _).mono ?_; rintro e w' ⟨rfl, rfl⟩)
              all_goals go_ret2
              all_goals exact ⟨⟨_, .inl rfl⟩, rfl⟩
    · have hkk : k = t.size := by omega
      subst hkk
      have hF : puL (bs.drop t.size) acc = some acc := by rw [List.drop_eq_nil_of_le (by omega)]; rfl
      obtain rfl : X = some acc := hdec.symm.trans hF
      subst ha
      clear hacc hF a0 a1 hdec
      go_wp2
      go_ret2
      exact ⟨rfl, rfl⟩
end Go.Proofs.YtblldoniagiboaaGreatDoor
namespace Go.Proofs.YtblldoniagiboaaGreatDoor
open Go.RowKit Go.Shelf
set_option linter.unusedVariables false

theorem ReadyJ.below {W W' : World} (h : ReadyJ W) (hb : Below W.heap.size W W') : ReadyJ W' := by
  obtain ⟨h1, ⟨e1, h2, h3⟩, ⟨e2, h4, h5⟩, h6⟩ := h
  refine ⟨?_, ⟨e1, cells_keep hb h2, h3⟩, ⟨e2, cells_keep hb h4, h5⟩, Nat.le_trans h6 hb.size⟩
  exact ⟨fun c hc => cells_keep hb (h1.1 c hc), fun i hi => ⟨cells_keep hb (h1.2 i hi).1, cells_keep hb (h1.2 i hi).2⟩⟩
theorem cells_aside {P : Nat} {w1 w2 : World} (h : Aside P w1 w2) {p : Addr} {v : Value} (hp : p.block ≠ P) (hc : w1.cell? p = some v) : w2.cell? p = some v := by
  have hlt := World.block_lt_of_cell? w1 p hc
  have := h.block p.block hlt hp
  rw [← hc]
  simp [World.cell?, this]
theorem ReadyJ.aside {P : Nat} {W W' : World} (h : ReadyJ W) (ha : Aside P W W') (hP : 7 ≤ P) : ReadyJ W' := by
  obtain ⟨h1, ⟨e1, h2, h3⟩, ⟨e2, h4, h5⟩, h6⟩ := h
  refine ⟨?_, ⟨e1, cells_aside ha (by show (5 : Nat) ≠ P; omega) h2, h3⟩, ⟨e2, cells_aside ha (by show (6 : Nat) ≠ P; omega) h4, h5⟩, Nat.le_trans h6 ha.size⟩
  exact ⟨fun c hc => cells_aside ha (by show (0 : Nat) ≠ P; omega) (h1.1 c hc), fun i hi => ⟨cells_aside ha (by show (1 : Nat) ≠ P; omega) (h1.2 i hi).1, cells_aside ha (by show (1 : Nat) ≠ P; omega) (h1.2 i hi).2⟩⟩
theorem ReadyJ.below7 {W W' : World} (h : ReadyJ W) (hb : Below 7 W W') : ReadyJ W' := by
  obtain ⟨h1, ⟨e1, h2, h3⟩, ⟨e2, h4, h5⟩, h6⟩ := h
  refine ⟨?_, ⟨e1, (hb.cell (p := ⟨5, 0, none⟩) (by show (5 : Nat) < 7; omega)).trans h2, h3⟩, ⟨e2, (hb.cell (p := ⟨6, 0, none⟩) (by show (6 : Nat) < 7; omega)).trans h4, h5⟩, Nat.le_trans h6 hb.size⟩
  exact ⟨fun c hc => (hb.cell (p := ⟨0, c, none⟩) (by show (0 : Nat) < 7; omega)).trans (h1.1 c hc), fun i hi => ⟨(hb.cell (p := ⟨1, 2 * i, none⟩) (by show (1 : Nat) < 7; omega)).trans (h1.2 i hi).1, (hb.cell (p := ⟨1, 2 * i + 1, none⟩) (by show (1 : Nat) < 7; omega)).trans (h1.2 i hi).2⟩⟩
def puS (l : List UInt8) : Option Nat := if l = [] then none else puL l 0
theorem puL_le : ∀ (l : List UInt8) (a n : Nat), a ≤ 65535 → puL l a = some n → n ≤ 65535
  | [], a, n, ha, h => by unfold puL at h; cases h; exact ha
  | c :: l, a, n, ha, h => by
    unfold puL at h
    split at h
    · cases h
    · split at h
      · cases h
      · exact puL_le l _ n (by omega) h
set_option maxHeartbeats 4000000 in
set_option maxRecDepth 100000 in
theorem pu_empty (w : World) : Calls Tryz.prog 264 #[.string ⟨#[]⟩, .int .i64 16, .int .i64 16] w fun e w' => e = .returned (.tuple #[.int .u64 0, .iface 272 (.int .i64 2)]) ∧ w' = w := by
  go_enter Tryz.func264, Tryz.ntmps264
  go_wp2
  go_ret2
  exact ⟨rfl, rfl⟩
theorem bytesWorld_below (w : World) (ty : TypeId) (t : ByteArray) : Below w.heap.size w (Lib.bytesWorld w ty t) := by
  have h1 : Below w.heap.size w w.drew := ⟨rfl, rfl, rfl, Nat.le_refl _, fun _ _ => rfl⟩
  have h2 : Below w.heap.size w (w.drew.alloc (.cells (Lib.bytesCells w ty t) ty)) := h1.trans (below_new0 w.drew _)
  exact Lib.below_freeze h2 (Nat.le_refl _) 1
/-- How ParseUint ends. -/
def PuEnds (s : ByteArray) (W : World) (e : Ending) (w' : World) : Prop := Below W.heap.size W w' ∧ ((∃ n : Nat, puS s.data.toList = some n ∧ e = .returned (.tuple #[.int .u64 (n : Int), .nilIface])) ∨ (puS s.data.toList = none ∧ ∃ x te pe, e = .returned (.tuple #[.int .u64 x, .iface te pe])))
set_option maxHeartbeats 4000000 in
set_option maxRecDepth 100000 in
theorem pu_any (s : ByteArray) (hmax : s.size ≤ 1000) {W : World} (hR : ReadyJ W) : Calls Tryz.prog 242 #[.string s, .int .i64 16, .int .i64 16] W (PuEnds s W) := by
  have HR := Lib.hid hR
  clear hR
  by_cases h0 : s.size = 0
  · obtain rfl : s = ⟨#[]⟩ := by
      obtain ⟨⟨l⟩⟩ := s
      cases l with
      | nil => rfl
      | cons _ _ => simp [ByteArray.size] at h0
    obtain ⟨ev, hv, hev⟩ := HR.out.syn
    have HE := Lib.hid (fun fn => Tryz.strconv_toError_syntax fn ⟨#[]⟩ 16 16 ev W (by decide) hv hev)
    clear h0 hmax hv hev
    go_enter Tryz.func242, Tryz.ntmps242
    go_wp2_with fail
    go_at_call 264; refine (pu_empty _).mono ?_; rintro e w' ⟨rfl, rfl⟩
    go_wp2_with fail
    go_at_call 265; refine (HE.out _).mono ?_; rintro e w' ⟨N, rfl, h1, h2, h3⟩
    go_wp2
    go_ret2
    exact ⟨h3, .inr ⟨rfl, _, _, _, rfl⟩⟩
  · have hp := pu_in s h0 hmax W
    have hbw := bytesWorld_below W 5 s
    obtain ⟨W1, hW1⟩ : ∃ W1, Lib.bytesWorld W 5 s = W1 := ⟨_, rfl⟩
    rw [hW1] at hp hbw
    have hs0 : s.data.toList ≠ [] := fun h => h0 (by rw [Lib.size_eq, h]; rfl)
    have hps : puS s.data.toList = puL s.data.toList 0 := by unfold puS; rw [if_neg hs0]
    have HBW := Lib.hid hbw
    have hR1 := HR.out.below hbw
    clear hW1 hbw hs0
    cases hx : puL s.data.toList 0 with
    | some n =>
      rw [hx] at hp
      have HP := Lib.hid hp
      have HX := Lib.hid (hps.trans hx)
      clear hp hx hps hR1 h0
      go_enter Tryz.func242, Tryz.ntmps242
      go_wp2_with fail
      go_at_call 264; refine HP.out.mono ?_; rintro e w' ⟨rfl, rfl⟩
      go_wp2
      go_ret2
      exact ⟨HBW.out, .inl ⟨n, HX.out, rfl⟩⟩
    | none =>
      rw [hx] at hp
      obtain ⟨ev, hv, hev⟩ := hR1.syn
      obtain ⟨ev2, hv2, hev2⟩ := hR1.rng
      have HE := Lib.hid (fun fn => Tryz.strconv_toError_syntax fn s 16 16 ev W1 (by omega) hv hev)
      have HE2 := Lib.hid (fun fn => Tryz.strconv_toError_range fn s 16 16 ev2 W1 (by omega) hv2 hev2)
      have HP := Lib.hid hp
      have HX := Lib.hid (hps.trans hx)
      clear hp hx hps hR1 h0 hv hev hv2 hev2
      go_enter Tryz.func242, Tryz.ntmps242
      go_wp2_with fail
      go_at_call 264; refine HP.out.mono ?_; rintro e w' ⟨⟨x, rfl | rfl⟩, rfl⟩
      · go_wp2_with fail
        go_at_call 265; refine (HE.out _).mono ?_; rintro e w2 ⟨N, rfl, h1, h2, h3⟩
        have HB3 := Lib.hid (HBW.out.trans (h3.mono HBW.out.size))
        clear h1 h2 h3
        go_wp2
        go_ret2
        exact ⟨HB3.out, .inr ⟨HX.out, _, _, _, rfl⟩⟩
      · go_wp2_with fail
        go_at_call 265; refine (HE2.out _).mono ?_; rintro e w2 ⟨N, rfl, h1, h2, h3⟩
        have HB3 := Lib.hid (HBW.out.trans (h3.mono HBW.out.size))
        clear h1 h2 h3
        go_wp2
        go_ret2
        exact ⟨HB3.out, .inr ⟨HX.out, _, _, _, rfl⟩⟩

/-! ### unit -/
theorem puL_hexN : ∀ (l : List UInt8) (a : Nat), (a + 1) * 16 ^ l.length ≤ 65536 → puL l a = hexN l a
  | [], a, h => rfl
  | c :: l, a, h => by
    unfold puL hexN
    cases hd : hexD c with
    | none => rfl
    | some d =>
      have h16 := hexD_lt hd
      have hpow : 1 ≤ 16 ^ l.length := Nat.one_le_pow _ _ (by omega)
      have h2 : (a * 16 + d + 1) * 16 ^ l.length ≤ 65536 := by
        refine Nat.le_trans (Nat.mul_le_mul_right _ (show a * 16 + d + 1 ≤ (a + 1) * 16 by omega)) ?_
        rw [Nat.mul_assoc]
        simpa [Nat.pow_succ, Nat.mul_comm] using h
      have h3 : a * 16 + d + 1 ≤ (a * 16 + d + 1) * 16 ^ l.length := Nat.le_mul_of_pos_right _ hpow
      simp only
      rw [if_neg (by omega), puL_hexN l _ h2]
theorem unitL_six {R : List UInt8} (h : 6 ≤ R.length) : unitL R = if Lib.hasPrefix (R.take 6) [92, 117] then (match puS ((R.take 6).drop 2) with | some n => (n : Int) | none => -1) else -1 := by
  match R, h with
  | p :: q :: a :: b :: c :: d :: r, _ =>
    by_cases hpq : p = 92 ∧ q = 117
    · obtain ⟨rfl, rfl⟩ := hpq
      have h1 : Lib.hasPrefix ((92 :: 117 :: a :: b :: c :: d :: r).take 6) [92, 117] = true := rfl
      rw [h1, if_pos rfl]
      show (match hexN [a, b, c, d] 0 with | none => (-1 : Int) | some n => (n : Int)) = match puS [a, b, c, d] with | some n => (n : Int) | none => -1
      have h2 : puS [a, b, c, d] = hexN [a, b, c, d] 0 := by
        unfold puS
        rw [if_neg (by simp)]
        exact puL_hexN [a, b, c, d] 0 (show (0 + 1) * 16 ^ 4 ≤ 65536 from by decide)
      rw [h2]
      cases hexN [a, b, c, d] 0 <;> rfl
    · have h1 : Lib.hasPrefix ((p :: q :: a :: b :: c :: d :: r).take 6) [92, 117] = false := by
        simp [Lib.hasPrefix, List.isPrefixOf]
        intro e1 e2
        exact hpq ⟨e1.symm, e2.symm⟩
      rw [h1, if_neg Bool.false_ne_true]
      unfold unitL
      split
      · rename_i e
        cases e
        exact absurd ⟨rfl, rfl⟩ hpq
      · rfl
theorem unitL_short {R : List UInt8} (h : R.length < 6) : unitL R = -1 := by
  unfold unitL
  split
  · simp at h; omega
  · rfl
theorem extract_take (t : ByteArray) (a m : Nat) : (t.extract a (a + m)).data.toList = (rest t a).take m := by
  unfold rest
  rw [ByteArray.data_extract, Array.toList_extract, List.extract_eq_take_drop]
  congr 1
  omega
set_option maxHeartbeats 4000000 in
set_option maxRecDepth 100000 in
theorem unit_any {W : World} {P a n p : Nat} {t : ByteArray} (h : Rdr W P t a n) (hR : ReadyJ W) (hp : p ≤ 100000) : Calls Tryz.prog 223 #[.pointer (some ⟨P, 0, none⟩), .int .i64 (p : Int)] W fun e w' => e = .returned (.int .i32 (unitL (rest t p))) ∧ Below W.heap.size W w' := by
  have k0 := h.1.cell 0
  have hsz := h.2.2.1
  obtain ⟨U, hU⟩ : ∃ U, unitL (rest t p) = U := ⟨_, rfl⟩
  rw [hU]
  have i0 : (0 : Int) ≤ (p : Int) := by omega
  clear h
  by_cases hlt : t.size < p + 6
  · obtain rfl : U = -1 := by rw [← hU]; exact unitL_short (by rw [rest_length]; omega)
    have i1 : (t.size : Int) < (p : Int) + 6 := by omega
    clear hU hR
    go_enter Tryz.func223, Tryz.ntmps223
    go_wp2
    go_ret
    exact ⟨rfl, Below.refl _ _⟩
  · have hul := unitL_six (R := rest t p) (by rw [rest_length]; omega)
    rw [hU] at hul
    have i1 : ¬ (t.size : Int) < (p : Int) + 6 := by omega
    have i2 : (p : Int) + 6 ≤ (t.size : Int) := by omega
    obtain ⟨s, hs⟩ : ∃ s, t.extract p (p + 6) = s := ⟨_, rfl⟩
    have hsl : s.data.toList = (rest t p).take 6 := by rw [← hs]; exact extract_take t p 6
    have hs6 : s.size = 6 := by rw [Lib.size_eq, hsl]; simp [rest_length]; omega
    rw [← hsl] at hul
    have HC := Lib.hid (fun w => Tryz.strings_CutPrefix s ⟨#[92, 117]⟩ w)
    cases hpre : Lib.hasPrefix s.data.toList [92, 117]
    · have HCP := Lib.hid (fun w => (HC.out w).mono fun e w' (x : e = .returned (.tuple #[.string ⟨(Lib.trimPrefix s.data.toList [92, 117]).toArray⟩, .bool (Lib.hasPrefix s.data.toList [92, 117])]) ∧ w' = w) => (⟨x.1.trans (by rw [hpre]), x.2⟩ : e = .returned (.tuple #[.string ⟨(Lib.trimPrefix s.data.toList [92, 117]).toArray⟩, .bool false]) ∧ w' = w))
      rw [hpre, if_neg Bool.false_ne_true] at hul
      obtain ⟨y, hy⟩ : ∃ y : ByteArray, (⟨(Lib.trimPrefix s.data.toList [92, 117]).toArray⟩ : ByteArray) = y := ⟨_, rfl⟩
      have hy6 : y.size ≤ 1000 := by
        rw [← hy, Lib.size_eq]
        have := Lib.trimPrefix_le s.data.toList [92, 117]
        have : s.data.toList.length = 6 := by rw [← hs6, Lib.size_eq]
        simp only at *
        omega
      simp only [hy] at HCP
      have HP := Lib.hid (fun (w : World) (hr : ReadyJ w) => pu_any y hy6 hr)
      have HR := Lib.hid hR
      have HS := Lib.hid hs
      have HUL := Lib.hid hul
      clear hy hsl hs6 hpre hU hR hs HC hy6 hul
      go_enter Tryz.func223, Tryz.ntmps223
      go_wp2_with fail
      go_at_call 241
      rw [HS.out]
      refine (HCP.out _).mono ?_; rintro e w1 ⟨rfl, rfl⟩
      go_wp2_with fail
      go_at_call 242; refine (HP.out _ HR.out).mono ?_; rintro e w2 ⟨hb, ⟨k, hk, rfl⟩ | ⟨hk, x, te, pe, rfl⟩⟩
      all_goals
        have HB := Lib.hid hb
        clear hb hk
        go_wp2
        go_ret
        have hu := HUL.out
        subst hu
        exact ⟨rfl, HB.out⟩
    · have HCP := Lib.hid (fun w => (HC.out w).mono fun e w' (x : e = .returned (.tuple #[.string ⟨(Lib.trimPrefix s.data.toList [92, 117]).toArray⟩, .bool (Lib.hasPrefix s.data.toList [92, 117])]) ∧ w' = w) => (⟨x.1.trans (by rw [hpre]), x.2⟩ : e = .returned (.tuple #[.string ⟨(Lib.trimPrefix s.data.toList [92, 117]).toArray⟩, .bool true]) ∧ w' = w))
      rw [hpre, if_pos rfl] at hul
      obtain ⟨y, hy⟩ : ∃ y : ByteArray, (⟨(Lib.trimPrefix s.data.toList [92, 117]).toArray⟩ : ByteArray) = y := ⟨_, rfl⟩
      have hy6 : y.size ≤ 1000 := by
        rw [← hy, Lib.size_eq]
        have := Lib.trimPrefix_le s.data.toList [92, 117]
        have : s.data.toList.length = 6 := by rw [← hs6, Lib.size_eq]
        simp only at *
        omega
      simp only [hy] at HCP
      have hyd : y.data.toList = (List.take 6 (rest t p)).drop 2 := by
        rw [← hy, ← hsl]
        show Lib.trimPrefix s.data.toList [92, 117] = s.data.toList.drop 2
        unfold Lib.trimPrefix
        rw [if_pos hpre]
        rfl
      rw [hsl, ← hyd] at hul
      have HP := Lib.hid (fun (w : World) (hr : ReadyJ w) => pu_any y hy6 hr)
      have HR := Lib.hid hR
      have HS := Lib.hid hs
      have HUL := Lib.hid hul
      clear hy hsl hs6 hpre hU hR hs HC hy6 hul
      go_enter Tryz.func223, Tryz.ntmps223
      go_wp2_with fail
      go_at_call 241
      rw [HS.out]
      refine (HCP.out _).mono ?_; rintro e w1 ⟨rfl, rfl⟩
      go_wp2_with fail
      go_at_call 242; refine (HP.out _ HR.out).mono ?_; rintro e w2 ⟨hb, ⟨k, hk, rfl⟩ | ⟨hk, x, te, pe, rfl⟩⟩
      · have hkk := puL_le y.data.toList 0 k (by omega) (by
          unfold puS at hk
          split at hk
          · cases hk
          · exact hk)
        have HU := Lib.hid (show U = (k : Int) by have := HUL.out; rw [hk] at this; exact this)
        have j0 : (0 : Int) ≤ (k : Int) := by omega
        have j1 : (k : Int) ≤ 65535 := by omega
        have HB := Lib.hid hb
        clear hb hk hkk
        go_wp2
        go_ret
        have hu := HU.out
        subst hu
        exact ⟨rfl, HB.out⟩
      · have HU := Lib.hid (show U = -1 by have := HUL.out; rw [hk] at this; exact this)
        have HB := Lib.hid hb
        clear hb hk
        go_wp2
        go_ret
        have hu := HU.out
        subst hu
        exact ⟨rfl, HB.out⟩
end Go.Proofs.YtblldoniagiboaaGreatDoor
