/- strconv.ParseUint as it is called; a \u's number · The document's own reader: four hexadecimal digits behind a backslash and a u · The document's own reader: how many bytes the UTF-8 at a place has · The document's Rune, way by way (gen/genRuneJ.py) · The document's Rune, way by way (gen/genRuneJ.py) -/
import Derived.Lib.UnsafeStr
import Derived.Test.YtnmfoedfllmclaaGreatDoorJr11
namespace Go.Proofs.YtnmfoedfllmclaaGreatDoor
open Go.RowKit Go.Shelf
set_option linter.unusedVariables false

theorem ReadyJ.below {W W' : World} (h : ReadyJ W) (hb : Below W.heap.size W W') : ReadyJ W' := by
  obtain ⟨h1, ⟨e1, h2, h3⟩, ⟨e2, h4, h5⟩, h6⟩ := h
  refine ⟨?_, ⟨e1, cells_keep hb h2, h3⟩, ⟨e2, cells_keep hb h4, h5⟩, Nat.le_trans h6 hb.size⟩
  exact ⟨fun c hc => cells_keep hb (h1.1 c hc), fun i hi => ⟨cells_keep hb (h1.2 i hi).1, cells_keep hb (h1.2 i hi).2⟩⟩
theorem cells_aside {P : Nat} {w1 w2 : World} (h : Aside P w1 w2) {p : Addr} {v : Value} (hp : p.block ≠ P) (hc : w1.cell? p = some v) : w2.cell? p = some v := by
  have hlt := World.block_lt_of_cell? w1 p hc
  have := h.block p.block hlt hp
  rw [← hc]
  simp [World.cell?, this]
theorem ReadyJ.aside {P : Nat} {W W' : World} (h : ReadyJ W) (ha : Aside P W W') (hP : 7 ≤ P) : ReadyJ W' := by
  obtain ⟨h1, ⟨e1, h2, h3⟩, ⟨e2, h4, h5⟩, h6⟩ := h
  refine ⟨?_, ⟨e1, cells_aside ha (by show (3 : Nat) ≠ P; omega) h2, h3⟩, ⟨e2, cells_aside ha (by show (4 : Nat) ≠ P; omega) h4, h5⟩, Nat.le_trans h6 ha.size⟩
  exact ⟨fun c hc => cells_aside ha (by show (0 : Nat) ≠ P; omega) (h1.1 c hc), fun i hi => ⟨cells_aside ha (by show (1 : Nat) ≠ P; omega) (h1.2 i hi).1, cells_aside ha (by show (1 : Nat) ≠ P; omega) (h1.2 i hi).2⟩⟩
theorem ReadyJ.below7 {W W' : World} (h : ReadyJ W) (hb : Below 7 W W') : ReadyJ W' := by
  obtain ⟨h1, ⟨e1, h2, h3⟩, ⟨e2, h4, h5⟩, h6⟩ := h
  refine ⟨?_, ⟨e1, (hb.cell (p := ⟨3, 0, none⟩) (by show (3 : Nat) < 7; omega)).trans h2, h3⟩, ⟨e2, (hb.cell (p := ⟨4, 0, none⟩) (by show (4 : Nat) < 7; omega)).trans h4, h5⟩, Nat.le_trans h6 hb.size⟩
  exact ⟨fun c hc => (hb.cell (p := ⟨0, c, none⟩) (by show (0 : Nat) < 7; omega)).trans (h1.1 c hc), fun i hi => ⟨(hb.cell (p := ⟨1, 2 * i, none⟩) (by show (1 : Nat) < 7; omega)).trans (h1.2 i hi).1, (hb.cell (p := ⟨1, 2 * i + 1, none⟩) (by show (1 : Nat) < 7; omega)).trans (h1.2 i hi).2⟩⟩
def puS (l : List UInt8) : Option Nat := if l = [] then none else puL l 0
theorem puL_le : ∀ (l : List UInt8) (a n : Nat), a ≤ 65535 → puL l a = some n → n ≤ 65535
  | [], a, n, ha, h => by unfold puL at h; cases h; exact ha
  | c :: l, a, n, ha, h => by
    unfold puL at h
    split at h
    · cases h
    · split at h
      · cases h
      · exact puL_le l _ n (by omega) h
set_option maxHeartbeats 4000000 in
set_option maxRecDepth 100000 in
theorem pu_empty (w : World) : Calls Tryz.prog 132 #[.string ⟨#[]⟩, .int .i64 16, .int .i64 16] w fun e w' => e = .returned (.tuple #[.int .u64 0, .iface 156 (.int .i64 2)]) ∧ w' = w := by
  go_enter Tryz.func132, Tryz.ntmps132
  go_wp2
  go_ret2
  exact ⟨rfl, rfl⟩
theorem bytesWorld_below (w : World) (ty : TypeId) (t : ByteArray) : Below w.heap.size w (Lib.bytesWorld w ty t) := by
  have h1 : Below w.heap.size w w.drew := ⟨rfl, rfl, rfl, Nat.le_refl _, fun _ _ => rfl⟩
  have h2 : Below w.heap.size w (w.drew.alloc (.cells (Lib.bytesCells w ty t) ty)) := h1.trans (below_new0 w.drew _)
  exact Lib.below_freeze h2 (Nat.le_refl _) 1
/-- How ParseUint ends. -/
def PuEnds (s : ByteArray) (W : World) (e : Ending) (w' : World) : Prop := Below W.heap.size W w' ∧ ((∃ n : Nat, puS s.data.toList = some n ∧ e = .returned (.tuple #[.int .u64 (n : Int), .nilIface])) ∨ (puS s.data.toList = none ∧ ∃ x te pe, e = .returned (.tuple #[.int .u64 x, .iface te pe])))
set_option maxHeartbeats 4000000 in
set_option maxRecDepth 100000 in
theorem pu_any (s : ByteArray) (hmax : s.size ≤ 1000) {W : World} (hR : ReadyJ W) : Calls Tryz.prog 119 #[.string s, .int .i64 16, .int .i64 16] W (PuEnds s W) := by
  have HR := Lib.hid hR
  clear hR
  by_cases h0 : s.size = 0
  · obtain rfl : s = ⟨#[]⟩ := by
      obtain ⟨⟨l⟩⟩ := s
      cases l with
      | nil => rfl
      | cons _ _ => simp [ByteArray.size] at h0
    obtain ⟨ev, hv, hev⟩ := HR.out.syn
    have HE := Lib.hid (fun fn => Tryz.strconv_toError_syntax fn ⟨#[]⟩ 16 16 ev W (by decide) hv hev)
    clear h0 hmax hv hev
    go_enter Tryz.func119, Tryz.ntmps119
    go_wp2_with fail
    go_at_call 132; refine (pu_empty _).mono ?_; rintro e w' ⟨rfl, rfl⟩
    go_wp2_with fail
    go_at_call 133; refine (HE.out _).mono ?_; rintro e w' ⟨N, rfl, h1, h2, h3⟩
    go_wp2
    go_ret2
    exact ⟨h3, .inr ⟨rfl, _, _, _, rfl⟩⟩
  · have hp := pu_in s h0 hmax W
    have hbw := bytesWorld_below W 5 s
    obtain ⟨W1, hW1⟩ : ∃ W1, Lib.bytesWorld W 5 s = W1 := ⟨_, rfl⟩
    rw [hW1] at hp hbw
    have hs0 : s.data.toList ≠ [] := fun h => h0 (by rw [Lib.size_eq, h]; rfl)
    have hps : puS s.data.toList = puL s.data.toList 0 := by unfold puS; rw [if_neg hs0]
    have HBW := Lib.hid hbw
    have hR1 := HR.out.below hbw
    clear hW1 hbw hs0
    cases hx : puL s.data.toList 0 with
    | some n =>
      rw [hx] at hp
      have HP := Lib.hid hp
      have HX := Lib.hid (hps.trans hx)
      clear hp hx hps hR1 h0
      go_enter Tryz.func119, Tryz.ntmps119
      go_wp2_with fail
      go_at_call 132; refine HP.out.mono ?_; rintro e w' ⟨rfl, rfl⟩
      go_wp2
      go_ret2
      exact ⟨HBW.out, .inl ⟨n, HX.out, rfl⟩⟩
    | none =>
      rw [hx] at hp
      obtain ⟨ev, hv, hev⟩ := hR1.syn
      obtain ⟨ev2, hv2, hev2⟩ := hR1.rng
      have HE := Lib.hid (fun fn => Tryz.strconv_toError_syntax fn s 16 16 ev W1 (by omega) hv hev)
      have HE2 := Lib.hid (fun fn => Tryz.strconv_toError_range fn s 16 16 ev2 W1 (by omega) hv2 hev2)
      have HP := Lib.hid hp
      have HX := Lib.hid (hps.trans hx)
      clear hp hx hps hR1 h0 hv hev hv2 hev2
      go_enter Tryz.func119, Tryz.ntmps119
      go_wp2_with fail
      go_at_call 132; refine HP.out.mono ?_; rintro e w' ⟨⟨x, rfl | rfl⟩, rfl⟩
      · go_wp2_with fail
        go_at_call 133; refine (HE.out _).mono ?_; rintro e w2 ⟨N, rfl, h1, h2, h3⟩
        have HB3 := Lib.hid (HBW.out.trans (h3.mono HBW.out.size))
        clear h1 h2 h3
        go_wp2
        go_ret2
        exact ⟨HB3.out, .inr ⟨HX.out, _, _, _, rfl⟩⟩
      · go_wp2_with fail
        go_at_call 133; refine (HE2.out _).mono ?_; rintro e w2 ⟨N, rfl, h1, h2, h3⟩
        have HB3 := Lib.hid (HBW.out.trans (h3.mono HBW.out.size))
        clear h1 h2 h3
        go_wp2
        go_ret2
        exact ⟨HB3.out, .inr ⟨HX.out, _, _, _, rfl⟩⟩

/-! ### unit -/
theorem puL_hexN : ∀ (l : List UInt8) (a : Nat), (a + 1) * 16 ^ l.length ≤ 65536 → puL l a = hexN l a
  | [], a, h => rfl
  | c :: l, a, h => by
    unfold puL hexN
    cases hd : hexD c with
    | none => rfl
    | some d =>
      have h16 := hexD_lt hd
      have hpow : 1 ≤ 16 ^ l.length := Nat.one_le_pow _ _ (by omega)
      have h2 : (a * 16 + d + 1) * 16 ^ l.length ≤ 65536 := by
        refine Nat.le_trans (Nat.mul_le_mul_right _ (show a * 16 + d + 1 ≤ (a + 1) * 16 by omega)) ?_
        rw [Nat.mul_assoc]
        simpa [Nat.pow_succ, Nat.mul_comm] using h
      have h3 : a * 16 + d + 1 ≤ (a * 16 + d + 1) * 16 ^ l.length := Nat.le_mul_of_pos_right _ hpow
      simp only
      rw [if_neg (by omega), puL_hexN l _ h2]
theorem unitL_six {R : List UInt8} (h : 6 ≤ R.length) : unitL R = if Lib.hasPrefix (R.take 6) [92, 117] then (match puS ((R.take 6).drop 2) with | some n => (n : Int) | none => -1) else -1 := by
  match R, h with
  | p :: q :: a :: b :: c :: d :: r, _ =>
    by_cases hpq : p = 92 ∧ q = 117
    · obtain ⟨rfl, rfl⟩ := hpq
      have h1 : Lib.hasPrefix ((92 :: 117 :: a :: b :: c :: d :: r).take 6) [92, 117] = true := rfl
      rw [h1, if_pos rfl]
      show (match hexN [a, b, c, d] 0 with | none => (-1 : Int) | some n => (n : Int)) = match puS [a, b, c, d] with | some n => (n : Int) | none => -1
      have h2 : puS [a, b, c, d] = hexN [a, b, c, d] 0 := by
        unfold puS
        rw [if_neg (by simp)]
        exact puL_hexN [a, b, c, d] 0 (show (0 + 1) * 16 ^ 4 ≤ 65536 from by decide)
      rw [h2]
      cases hexN [a, b, c, d] 0 <;> rfl
    · have h1 : Lib.hasPrefix ((p :: q :: a :: b :: c :: d :: r).take 6) [92, 117] = false := by
        simp [Lib.hasPrefix, List.isPrefixOf]
        intro e1 e2
        exact hpq ⟨e1.symm, e2.symm⟩
      rw [h1, if_neg Bool.false_ne_true]
      unfold unitL
      split
      · rename_i e
        cases e
        exact absurd ⟨rfl, rfl⟩ hpq
      · rfl
theorem unitL_short {R : List UInt8} (h : R.length < 6) : unitL R = -1 := by
  unfold unitL
  split
  · simp at h; omega
  · rfl
theorem extract_take (t : ByteArray) (a m : Nat) : (t.extract a (a + m)).data.toList = (rest t a).take m := by
  unfold rest
  rw [ByteArray.data_extract, Array.toList_extract, List.extract_eq_take_drop]
  congr 1
  omega
set_option maxHeartbeats 4000000 in
set_option maxRecDepth 100000 in
theorem unit_any {W : World} {P a n p : Nat} {t : ByteArray} (h : Rdr W P t a n) (hR : ReadyJ W) (hp : p ≤ 100000) : Calls Tryz.prog 114 #[.pointer (some ⟨P, 0, none⟩), .int .i64 (p : Int)] W fun e w' => e = .returned (.int .i32 (unitL (rest t p))) ∧ Below W.heap.size W w' := by
  have k0 := h.1.cell 0
  have hsz := h.2.2.1
  obtain ⟨U, hU⟩ : ∃ U, unitL (rest t p) = U := ⟨_, rfl⟩
  rw [hU]
  have i0 : (0 : Int) ≤ (p : Int) := by omega
  clear h
  by_cases hlt : t.size < p + 6
  · obtain rfl : U = -1 := by rw [← hU]; exact unitL_short (by rw [rest_length]; omega)
    have i1 : (t.size : Int) < (p : Int) + 6 := by omega
    clear hU hR
    go_enter Tryz.func114, Tryz.ntmps114
    go_wp2
    go_ret
    exact ⟨rfl, Below.refl _ _⟩
  · have hul := unitL_six (R := rest t p) (by rw [rest_length]; omega)
    rw [hU] at hul
    have i1 : ¬ (t.size : Int) < (p : Int) + 6 := by omega
    have i2 : (p : Int) + 6 ≤ (t.size : Int) := by omega
    obtain ⟨s, hs⟩ : ∃ s, t.extract p (p + 6) = s := ⟨_, rfl⟩
    have hsl : s.data.toList = (rest t p).take 6 := by rw [← hs]; exact extract_take t p 6
    have hs6 : s.size = 6 := by rw [Lib.size_eq, hsl]; simp [rest_length]; omega
    rw [← hsl] at hul
    have HC := Lib.hid (fun w => Tryz.strings_CutPrefix s ⟨#[92, 117]⟩ w)
    cases hpre : Lib.hasPrefix s.data.toList [92, 117]
    · have HCP := Lib.hid (fun w => (HC.out w).mono fun e w' (x : e = .returned (.tuple #[.string ⟨(Lib.trimPrefix s.data.toList [92, 117]).toArray⟩, .bool (Lib.hasPrefix s.data.toList [92, 117])]) ∧ w' = w) => (⟨x.1.trans (by rw [hpre]), x.2⟩ : e = .returned (.tuple #[.string ⟨(Lib.trimPrefix s.data.toList [92, 117]).toArray⟩, .bool false]) ∧ w' = w))
      rw [hpre, if_neg Bool.false_ne_true] at hul
      obtain ⟨y, hy⟩ : ∃ y : ByteArray, (⟨(Lib.trimPrefix s.data.toList [92, 117]).toArray⟩ : ByteArray) = y := ⟨_, rfl⟩
      have hy6 : y.size ≤ 1000 := by
        rw [← hy, Lib.size_eq]
        have := Lib.trimPrefix_le s.data.toList [92, 117]
        have : s.data.toList.length = 6 := by rw [← hs6, Lib.size_eq]
        simp only at *
        omega
      simp only [hy] at HCP
      have HP := Lib.hid (fun (w : World) (hr : ReadyJ w) => pu_any y hy6 hr)
      have HR := Lib.hid hR
      have HS := Lib.hid hs
      have HUL := Lib.hid hul
      clear hy hsl hs6 hpre hU hR hs HC hy6 hul
      go_enter Tryz.func114, Tryz.ntmps114
      go_wp2_with fail
      go_at_call 118
      rw [HS.out]
      refine (HCP.out _).mono ?_; rintro e w1 ⟨rfl, rfl⟩
      go_wp2_with fail
      go_at_call 119; refine (HP.out _ HR.out).mono ?_; rintro e w2 ⟨hb, ⟨k, hk, rfl⟩ | ⟨hk, x, te, pe, rfl⟩⟩
      all_goals
        have HB := Lib.hid hb
        clear hb hk
        go_wp2
        go_ret
        have hu := HUL.out
        subst hu
        exact ⟨rfl, HB.out⟩
    · have HCP := Lib.hid (fun w => (HC.out w).mono fun e w' (x : e = .returned (.tuple #[.string ⟨(Lib.trimPrefix s.data.toList [92, 117]).toArray⟩, .bool (Lib.hasPrefix s.data.toList [92, 117])]) ∧ w' = w) => (⟨x.1.trans (by rw [hpre]), x.2⟩ : e = .returned (.tuple #[.string ⟨(Lib.trimPrefix s.data.toList [92, 117]).toArray⟩, .bool true]) ∧ w' = w))
      rw [hpre, if_pos rfl] at hul
      obtain ⟨y, hy⟩ : ∃ y : ByteArray, (⟨(Lib.trimPrefix s.data.toList [92, 117]).toArray⟩ : ByteArray) = y := ⟨_, rfl⟩
      have hy6 : y.size ≤ 1000 := by
        rw [← hy, Lib.size_eq]
        have := Lib.trimPrefix_le s.data.toList [92, 117]
        have : s.data.toList.length = 6 := by rw [← hs6, Lib.size_eq]
        simp only at *
        omega
      simp only [hy] at HCP
      have hyd : y.data.toList = (List.take 6 (rest t p)).drop 2 := by
        rw [← hy, ← hsl]
        show Lib.trimPrefix s.data.toList [92, 117] = s.data.toList.drop 2
        unfold Lib.trimPrefix
        rw [if_pos hpre]
        rfl
      rw [hsl, ← hyd] at hul
      have HP := Lib.hid (fun (w : World) (hr : ReadyJ w) => pu_any y hy6 hr)
      have HR := Lib.hid hR
      have HS := Lib.hid hs
      have HUL := Lib.hid hul
      clear hy hsl hs6 hpre hU hR hs HC hy6 hul
      go_enter Tryz.func114, Tryz.ntmps114
      go_wp2_with fail
      go_at_call 118
      rw [HS.out]
      refine (HCP.out _).mono ?_; rintro e w1 ⟨rfl, rfl⟩
      go_wp2_with fail
      go_at_call 119; refine (HP.out _ HR.out).mono ?_; rintro e w2 ⟨hb, ⟨k, hk, rfl⟩ | ⟨hk, x, te, pe, rfl⟩⟩
      · have hkk := puL_le y.data.toList 0 k (by omega) (by
          unfold puS at hk
          split at hk
          · cases hk
          · exact hk)
        have HU := Lib.hid (show U = (k : Int) by have := HUL.out; rw [hk] at this; exact this)
        have j0 : (0 : Int) ≤ (k : Int) := by omega
        have j1 : (k : Int) ≤ 65535 := by omega
        have HB := Lib.hid hb
        clear hb hk hkk
        go_wp2
        go_ret
        have hu := HU.out
        subst hu
        exact ⟨rfl, HB.out⟩
      · have HU := Lib.hid (show U = -1 by have := HUL.out; rw [hk] at this; exact this)
        have HB := Lib.hid hb
        clear hb hk
        go_wp2
        go_ret
        have hu := HU.out
        subst hu
        exact ⟨rfl, HB.out⟩
end Go.Proofs.YtnmfoedfllmclaaGreatDoor
namespace Go.Proofs.YtnmfoedfllmclaaGreatDoor
open Go.RowKit
set_option linter.unusedVariables false

def hexZ (l : List UInt8) (m : Nat) : Int := match hexN l m with | none => -1 | some n => (n : Int)
theorem hexZ_yes {q : UInt8} {l : List UInt8} {m d : Nat} (h : hexD q = some d) : hexZ (q :: l) m = hexZ l (m * 16 + d) := by unfold hexZ; rw [hexN, h]
theorem hexZ_no {q : UInt8} {l : List UInt8} {m : Nat} (h : hexD q = none) : hexZ (q :: l) m = -1 := by unfold hexZ; rw [hexN, h]
theorem unitL_hexZ {t : ByteArray} {a : Nat} (h : a + 6 ≤ t.size) (h0 : (t[a]'(by omega)) = 92) (h1 : (t[a + 1]'(by omega)) = 117) : unitL (rest t a) = hexZ ((rest t (a + 2)).take 4) 0 := by
  rw [rest_cons (show a < t.size by omega), rest_cons (show a + 1 < t.size by omega), rest_cons (show a + 1 + 1 < t.size by omega), rest_cons (show a + 1 + 1 + 1 < t.size by omega), rest_cons (show a + 1 + 1 + 1 + 1 < t.size by omega), rest_cons (show a + 1 + 1 + 1 + 1 + 1 < t.size by omega), h0, h1]
  rfl
theorem unitL_not {t : ByteArray} {a : Nat} (h : a + 6 ≤ t.size) (hn : ¬ (t[a]'(by omega)) = 92 ∨ ¬ (t[a + 1]'(by omega)) = 117) : unitL (rest t a) = -1 := by
  rw [rest_cons (show a < t.size by omega), rest_cons (show a + 1 < t.size by omega)]
  unfold unitL
  split
  · rename_i heq
    simp only [List.cons.injEq] at heq
    rcases hn with hn | hn
    · exact absurd heq.1 hn
    · exact absurd heq.2.1 hn
  · rfl
set_option maxRecDepth 100000 in
set_option maxHeartbeats 4000000 in
theorem rhex_any {a : Nat} {t : ByteArray} (ha : a ≤ 100000) (hs : t.size ≤ 65536) (W : World) : Calls Tryz.prog 88 #[.string t, .int .i64 (a : Int)] W fun e w' => e = .returned (.int .i64 (unitL (rest t a))) ∧ W = w' := by
  have i0 : (0 : Int) ≤ (a : Int) := by omega
  by_cases hle : a + 6 ≤ t.size
  · have i1 : ¬ (a : Int) + 6 > (t.size : Int) := by omega
    have hix0 := byte_run (t := t) (a := a) (by omega)
    have hix1 : ∀ W : World, (Instr.index 9 (.string t) (.int .i64 ((a : Int) + 1))).run Tryz.prog W = .ok (.int .u8 ((t[a + 1]'(by omega)).toNat : Int)) W := byte_run (t := t) (a := a + 1) (by omega)
    have HN := Lib.hid (unitL_not hle)
    have HY := Lib.hid (unitL_hexZ hle)
    generalize t[a]'(by omega) = q0 at *
    generalize t[a + 1]'(by omega) = q1 at *
    by_cases h0 : q0 = 92
    · by_cases h1 : q1 = 117
      · subst h0 h1
        obtain ⟨X, hX⟩ : ∃ X, unitL (rest t a) = X := ⟨_, rfl⟩
        rw [hX]
        have HX : Hid (hexZ ((rest t (a + 2)).take 4) 0 = X) := Lib.hid (by rw [← hX, HY.out rfl rfl])
        clear HN HY hX
        go_enter Tryz.func88, Tryz.ntmps88
        go_wp2_with fail
        go_loopg [5, 6] 5 (fun gf s5 s6 wx => ∃ j m : Nat, s5 = .int .i64 (m : Int) ∧ s6 = .int .i64 ((a + 2 + j : Nat) : Int) ∧ j ≤ 4 ∧ m < 16 ^ j ∧ Hid (hexZ ((rest t (a + 2 + j)).take (4 - j)) m = X) ∧ wx = W ∧ 4 - j < gf)
        case atStart => exact ⟨0, 0, rfl, rfl, by omega, by omega, HX, rfl, by omega⟩
        case round =>
          obtain ⟨j, m, rfl, rfl, hj, hm, HE, rfl, hg⟩ := hrel
          by_cases hj4 : j < 4
          · have hlt : a + 2 + j < t.size := by omega
            have hix : ∀ W : World, (Instr.index 9 (.string t) (.int .i64 ((a : Int) + 2 + (j : Int)))).run Tryz.prog W = .ok (.int .u8 ((t[a + 2 + j]'hlt).toNat : Int)) W := fun W => by rw [show ((a : Int) + 2 + (j : Int)) = ((a + 2 + j : Nat) : Int) by omega]; exact byte_run hlt W
            have hpow : 16 ^ j ≤ 16 ^ 3 := Nat.pow_le_pow_right (by omega) (by omega)
            have hm4 : (m : Int) ≤ 4096 := by omega
            have hm0 : (0 : Int) ≤ (m : Int) := by omega
            have hT : (rest t (a + 2 + j)).take (4 - j) = (t[a + 2 + j]'hlt) :: (rest t (a + 2 + (j + 1))).take (4 - (j + 1)) := by
              rw [rest_cons hlt, show 4 - j = (4 - (j + 1)) + 1 by omega, List.take_succ_cons]
              rfl
            rw [hT] at HE
            clear hT hpow hix0 hix1 HX
            generalize t[a + 2 + j]'hlt = q at *
            have hqb := UInt8.toNat_lt q
            obtain ⟨g', rfl⟩ : ∃ g', gk = g' + 1 := ⟨gk - 1, by omega⟩
            have j1 : (a : Int) + 2 + (j : Int) < (a : Int) + 6 := by omega
            have hm16 : 16 ^ (j + 1) = 16 ^ j * 16 := Nat.pow_succ ..
            by_cases c1 : 48 ≤ q.toNat ∧ q.toNat ≤ 57
            · have HQ := Lib.hid (hexZ_yes (l := (rest t (a + 2 + (j + 1))).take (4 - (j + 1))) (m := m) (show hexD q = some (q.toNat - 48) by unfold hexD; rw [if_pos c1]))
              have d1 : (48 : Int) ≤ (q.toNat : Int) := by omega
              have d2 : (q.toNat : Int) ≤ 57 := by omega
              go_wp2
              go_roundg g'
              case measure => omega
              case rel => exact ⟨j + 1, m * 16 + (q.toNat - 48), by congr 1; omega, rfl, by omega, by omega, Lib.hid (by rw [← HQ.out]; exact HE.out), rfl, by omega⟩
            · by_cases c2 : 97 ≤ q.toNat ∧ q.toNat ≤ 102
              · have HQ := Lib.hid (hexZ_yes (l := (rest t (a + 2 + (j + 1))).take (4 - (j + 1))) (m := m) (show hexD q = some (q.toNat - 87) by unfold hexD; rw [if_neg c1, if_pos c2]))
                have d1 : ¬ (q.toNat : Int) ≤ 57 := by omega
                have d2 : (48 : Int) ≤ (q.toNat : Int) := by omega
                have d3 : (97 : Int) ≤ (q.toNat : Int) := by omega
                have d4 : (q.toNat : Int) ≤ 102 := by omega
                go_wp2
                go_roundg g'
                case measure => omega
                case rel => exact ⟨j + 1, m * 16 + (q.toNat - 87), by congr 1; omega, rfl, by omega, by omega, Lib.hid (by rw [← HQ.out]; exact HE.out), rfl, by omega⟩
              · by_cases c3 : 65 ≤ q.toNat ∧ q.toNat ≤ 70
                · have HQ := Lib.hid (hexZ_yes (l := (rest t (a + 2 + (j + 1))).take (4 - (j + 1))) (m := m) (show hexD q = some (q.toNat - 55) by unfold hexD; rw [if_neg c1, if_neg c2, if_pos c3]))
                  have d1 : ¬ (q.toNat : Int) ≤ 57 := by omega
                  have d2 : (48 : Int) ≤ (q.toNat : Int) := by omega
                  have d3 : ¬ (97 : Int) ≤ (q.toNat : Int) := by omega
                  have d4 : (65 : Int) ≤ (q.toNat : Int) := by omega
                  have d5 : (q.toNat : Int) ≤ 70 := by omega
                  go_wp2
                  go_roundg g'
                  case measure => omega
                  case rel => exact ⟨j + 1, m * 16 + (q.toNat - 55), by congr 1; omega, rfl, by omega, by omega, Lib.hid (by rw [← HQ.out]; exact HE.out), rfl, by omega⟩
                · have HQ := Lib.hid (HE.out.symm.trans (hexZ_no (show hexD q = none by unfold hexD; rw [if_neg c1, if_neg c2, if_neg c3])))
                  have d1 : ¬ (48 ≤ (q.toNat : Int) ∧ (q.toNat : Int) ≤ 57) := by omega
                  have d2 : ¬ (97 ≤ (q.toNat : Int) ∧ (q.toNat : Int) ≤ 102) := by omega
                  have d3 : ¬ (65 ≤ (q.toNat : Int) ∧ (q.toNat : Int) ≤ 70) := by omega
                  clear HE
                  go_wp2
                  all_goals (first | (exfalso; omega) | (go_ret; rw [HQ.out]; exact ⟨rfl, rfl⟩))
          · obtain rfl : j = 4 := by omega
            have j1 : ¬ (a : Int) + 2 + (4 : Int) < (a : Int) + 6 := by omega
            have hX : (m : Int) = X := HE.out
            clear HX HE hix0 hix1
            go_wp2
            go_ret
            exact ⟨by rw [← hX]; rfl, rfl⟩
      · have n1 : ¬ (q1.toNat : Int) = 117 := fun h => h1 (UInt8.toNat_inj.1 (by simpa using (by omega : q1.toNat = 117)))
        have e1 := HN.out (.inr h1)
        subst h0
        rw [e1]
        clear HN HY e1
        go_enter Tryz.func88, Tryz.ntmps88
        go_wp2
        go_ret
        exact ⟨rfl, rfl⟩
    · have n0 : ¬ (q0.toNat : Int) = 92 := fun h => h0 (UInt8.toNat_inj.1 (by simpa using (by omega : q0.toNat = 92)))
      rw [HN.out (.inl h0)]
      clear HN HY hix1
      go_enter Tryz.func88, Tryz.ntmps88
      go_wp2
      go_ret
      exact ⟨rfl, rfl⟩
  · have i1 : (a : Int) + 6 > (t.size : Int) := by omega
    rw [unitL_short (by rw [rest_length]; omega)]
    go_enter Tryz.func88, Tryz.ntmps88
    go_wp2
    go_ret
    exact ⟨rfl, rfl⟩
end Go.Proofs.YtnmfoedfllmclaaGreatDoor
namespace Go.Proofs.YtnmfoedfllmclaaGreatDoor
open Go.RowKit
set_option linter.unusedVariables false

def moreZ (z : Int) : Bool := decide (128 ≤ z) && decide (z < 192)
def threeZ (z0 z1 z2 : Int) : Int := (z0 - 224) * 4096 + (z1 - 128) * 64 + z2 - 128
def fourZ (z0 z1 z2 z3 : Int) : Int := (z0 - 240) * 262144 + (z1 - 128) * 4096 + (z2 - 128) * 64 + z3 - 128
/-- How many bytes the UTF-8 has that begins with these; 0: none begins. -/
def docRune (z0 z1 z2 z3 : Int) : Nat :=
  if z0 < 0 then 0 else if z0 < 128 then 1
  else if z0 < 194 then 0 else if z0 < 224 then (if moreZ z1 then 2 else 0)
  else if z0 < 240 then (if moreZ z1 && moreZ z2 then (if 2048 ≤ threeZ z0 z1 z2 ∧ (threeZ z0 z1 z2 < 55296 ∨ threeZ z0 z1 z2 > 57343) then 3 else 0) else 0)
  else if z0 < 245 then (if moreZ z1 && moreZ z2 && moreZ z3 then (if 65536 ≤ fourZ z0 z1 z2 z3 ∧ fourZ z0 z1 z2 z3 ≤ 1114111 then 4 else 0) else 0)
  else 0
set_option maxRecDepth 100000 in
set_option maxHeartbeats 1000000 in
theorem rmore_b {a : Nat} {t : ByteArray} (hs : t.size ≤ 65536) {b : Bool} (hb : moreZ (headZ (rest t a)) = b) (W : World) : Calls Tryz.prog 74 #[.string t, .int .i64 (a : Int)] W fun e w' => e = .returned (.bool b) ∧ W = w' := by
  have HO := Lib.hid (fun w => rone_any (a := a) hs w)
  generalize headZ (rest t a) = z at *
  unfold moreZ at hb
  by_cases h1 : 128 ≤ z
  · by_cases h2 : z < 192
    · obtain rfl : b = true := by rw [← hb]; simp [h1, h2]
      clear hb
      go_enter Tryz.func74, Tryz.ntmps74
      go_wp2_with (go_at_call 73; refine (HO.out _).mono ?_; rintro e w' ⟨rfl, rfl⟩)
      go_ret
      exact ⟨rfl, rfl⟩
    · obtain rfl : b = false := by rw [← hb]; simp [h2]
      clear hb
      go_enter Tryz.func74, Tryz.ntmps74
      go_wp2_with (go_at_call 73; refine (HO.out _).mono ?_; rintro e w' ⟨rfl, rfl⟩)
      go_ret
      refine ⟨?_, rfl⟩
      have hd : decide (z < 192) = false := by simp [h2]
      rw [hd]
      rfl
  · obtain rfl : b = false := by rw [← hb]; simp [h1]
    clear hb
    go_enter Tryz.func74, Tryz.ntmps74
    go_wp2_with (go_at_call 73; refine (HO.out _).mono ?_; rintro e w' ⟨rfl, rfl⟩)
    go_ret
    exact ⟨rfl, rfl⟩
def OneAt (t : ByteArray) (i z : Int) : Prop := ∀ w : World, Calls Tryz.prog 73 #[.string t, .int .i64 i] w fun e w' => e = .returned (.int .i64 z) ∧ w = w'
def MoreAt (t : ByteArray) (i : Int) (b : Bool) : Prop := ∀ w : World, Calls Tryz.prog 74 #[.string t, .int .i64 i] w fun e w' => e = .returned (.bool b) ∧ w = w'
/-- Rune answers so many. -/
def RuneIs (t : ByteArray) (a : Nat) (k : Nat) : Prop := ∀ W : World, Calls Tryz.prog 56 #[.string t, .int .i64 (a : Int)] W fun e w' => e = .returned (.int .i64 (k : Int)) ∧ W = w'
theorem oneAt {t : ByteArray} {a : Nat} (hs : t.size ≤ 65536) (i : Nat) : OneAt t ((a : Int) + (i : Int)) (headZ (rest t (a + i))) := fun w => rone_any (a := a + i) hs w
theorem moreAt {t : ByteArray} {a : Nat} (hs : t.size ≤ 65536) (i : Nat) : MoreAt t ((a : Int) + (i : Int)) (moreZ (headZ (rest t (a + i)))) := fun w => rmore_b (a := a + i) hs rfl w
end Go.Proofs.YtnmfoedfllmclaaGreatDoor
namespace Go.Proofs.YtnmfoedfllmclaaGreatDoor
open Go.RowKit
set_option linter.unusedVariables false

set_option maxRecDepth 100000 in
set_option maxHeartbeats 4000000 in
theorem rune_neg {a : Nat} {t : ByteArray} {z0 : Int} (ha : a ≤ 100000) (h0 : OneAt t (a : Int) z0) (c0 : -1 ≤ z0) (c1 : z0 < 0) : RuneIs t a 0 := fun W => by
  have i0 : (0 : Int) ≤ (a : Int) := by omega
  have H0 : Hid (∀ w : World, Calls Tryz.prog 73 #[.string t, .int .i64 (a : Int)] w fun e w' => e = .returned (.int .i64 z0) ∧ w = w') := Lib.hid h0
  clear h0
  go_enter Tryz.func56, Tryz.ntmps56
  go_wp2_with (go_at_call 73; with_reducible refine (H0.out _).mono ?_; rintro e w' ⟨rfl, rfl⟩)
  all_goals (first | (exfalso; omega) | (go_ret; exact ⟨rfl, rfl⟩))
set_option maxRecDepth 100000 in
set_option maxHeartbeats 4000000 in
theorem rune_asc {a : Nat} {t : ByteArray} {z0 : Int} (ha : a ≤ 100000) (h0 : OneAt t (a : Int) z0) (c0 : 0 ≤ z0) (c1 : z0 < 128) : RuneIs t a 1 := fun W => by
  have i0 : (0 : Int) ≤ (a : Int) := by omega
  have H0 : Hid (∀ w : World, Calls Tryz.prog 73 #[.string t, .int .i64 (a : Int)] w fun e w' => e = .returned (.int .i64 z0) ∧ w = w') := Lib.hid h0
  clear h0
  go_enter Tryz.func56, Tryz.ntmps56
  go_wp2_with (go_at_call 73; with_reducible refine (H0.out _).mono ?_; rintro e w' ⟨rfl, rfl⟩)
  all_goals (first | (exfalso; omega) | (go_ret; exact ⟨rfl, rfl⟩))
set_option maxRecDepth 100000 in
set_option maxHeartbeats 4000000 in
theorem rune_low {a : Nat} {t : ByteArray} {z0 : Int} (ha : a ≤ 100000) (h0 : OneAt t (a : Int) z0) (c0 : 128 ≤ z0) (c1 : ¬ 194 ≤ z0) (c2 : ¬ 224 ≤ z0) (c3 : ¬ 240 ≤ z0) : RuneIs t a 0 := fun W => by
  have i0 : (0 : Int) ≤ (a : Int) := by omega
  have H0 : Hid (∀ w : World, Calls Tryz.prog 73 #[.string t, .int .i64 (a : Int)] w fun e w' => e = .returned (.int .i64 z0) ∧ w = w') := Lib.hid h0
  clear h0
  go_enter Tryz.func56, Tryz.ntmps56
  go_wp2_with (go_at_call 73; with_reducible refine (H0.out _).mono ?_; rintro e w' ⟨rfl, rfl⟩)
  all_goals (first | (exfalso; omega) | (go_ret; exact ⟨rfl, rfl⟩))
set_option maxRecDepth 100000 in
set_option maxHeartbeats 4000000 in
theorem rune_top {a : Nat} {t : ByteArray} {z0 : Int} (ha : a ≤ 100000) (h0 : OneAt t (a : Int) z0) (c0 : 194 ≤ z0) (c1 : 224 ≤ z0) (c2 : 240 ≤ z0) (c3 : 245 ≤ z0) (c4 : z0 < 256) : RuneIs t a 0 := fun W => by
  have i0 : (0 : Int) ≤ (a : Int) := by omega
  have H0 : Hid (∀ w : World, Calls Tryz.prog 73 #[.string t, .int .i64 (a : Int)] w fun e w' => e = .returned (.int .i64 z0) ∧ w = w') := Lib.hid h0
  clear h0
  go_enter Tryz.func56, Tryz.ntmps56
  go_wp2_with (go_at_call 73; with_reducible refine (H0.out _).mono ?_; rintro e w' ⟨rfl, rfl⟩)
  all_goals (first | (exfalso; omega) | (go_ret; exact ⟨rfl, rfl⟩))
end Go.Proofs.YtnmfoedfllmclaaGreatDoor
namespace Go.Proofs.YtnmfoedfllmclaaGreatDoor
open Go.RowKit
set_option linter.unusedVariables false

set_option maxRecDepth 100000 in
set_option maxHeartbeats 4000000 in
theorem rune_two {a : Nat} {t : ByteArray} {z0 : Int} (ha : a ≤ 100000) (h0 : OneAt t (a : Int) z0) (m1 : MoreAt t ((a : Int) + 1) true) (c0 : 194 ≤ z0) (c1 : z0 < 224) (c2 : ¬ 224 ≤ z0) (c3 : ¬ 240 ≤ z0) : RuneIs t a 2 := fun W => by
  have i0 : (0 : Int) ≤ (a : Int) := by omega
  have H0 : Hid (∀ w : World, Calls Tryz.prog 73 #[.string t, .int .i64 (a : Int)] w fun e w' => e = .returned (.int .i64 z0) ∧ w = w') := Lib.hid h0
  have M1 : Hid (∀ w : World, Calls Tryz.prog 74 #[.string t, .int .i64 ((a : Int) + 1)] w fun e w' => e = .returned (.bool true) ∧ w = w') := Lib.hid m1
  clear h0 m1
  go_enter Tryz.func56, Tryz.ntmps56
  go_wp2_with (first | (go_at_call 73; with_reducible refine (H0.out _).mono ?_; rintro e w' ⟨rfl, rfl⟩) | (go_at_call 74; with_reducible refine (M1.out _).mono ?_; rintro e w' ⟨rfl, rfl⟩))
  all_goals (first | (exfalso; omega) | (go_ret; exact ⟨rfl, rfl⟩))
set_option maxRecDepth 100000 in
set_option maxHeartbeats 4000000 in
theorem rune_two0 {a : Nat} {t : ByteArray} {z0 : Int} (ha : a ≤ 100000) (h0 : OneAt t (a : Int) z0) (m1 : MoreAt t ((a : Int) + 1) false) (c0 : 194 ≤ z0) (c1 : z0 < 224) (c2 : ¬ 224 ≤ z0) (c3 : ¬ 240 ≤ z0) : RuneIs t a 0 := fun W => by
  have i0 : (0 : Int) ≤ (a : Int) := by omega
  have H0 : Hid (∀ w : World, Calls Tryz.prog 73 #[.string t, .int .i64 (a : Int)] w fun e w' => e = .returned (.int .i64 z0) ∧ w = w') := Lib.hid h0
  have M1 : Hid (∀ w : World, Calls Tryz.prog 74 #[.string t, .int .i64 ((a : Int) + 1)] w fun e w' => e = .returned (.bool false) ∧ w = w') := Lib.hid m1
  clear h0 m1
  go_enter Tryz.func56, Tryz.ntmps56
  go_wp2_with (first | (go_at_call 73; with_reducible refine (H0.out _).mono ?_; rintro e w' ⟨rfl, rfl⟩) | (go_at_call 74; with_reducible refine (M1.out _).mono ?_; rintro e w' ⟨rfl, rfl⟩))
  all_goals (first | (exfalso; omega) | (go_ret; exact ⟨rfl, rfl⟩))
end Go.Proofs.YtnmfoedfllmclaaGreatDoor
