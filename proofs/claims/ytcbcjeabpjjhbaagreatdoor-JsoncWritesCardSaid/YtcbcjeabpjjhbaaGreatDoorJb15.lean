/- strconv.ParseUint as it is called; a \u's number · What stands for one rune of a text -/
import Derived.Lib.UnsafeStr
import Derived.Test.YtcbcjeabpjjhbaaGreatDoorJb14
namespace Go.Proofs.YtcbcjeabpjjhbaaGreatDoor
open Go.RowKit Go.Shelf
set_option linter.unusedVariables false

theorem ReadyJ.below {W W' : World} (h : ReadyJ W) (hb : Below W.heap.size W W') : ReadyJ W' := by
  obtain ⟨h1, ⟨e1, h2, h3⟩, ⟨e2, h4, h5⟩, h6⟩ := h
  refine ⟨?_, ⟨e1, cells_keep hb h2, h3⟩, ⟨e2, cells_keep hb h4, h5⟩, Nat.le_trans h6 hb.size⟩
  exact ⟨fun c hc => cells_keep hb (h1.1 c hc), fun i hi => ⟨cells_keep hb (h1.2 i hi).1, cells_keep hb (h1.2 i hi).2⟩⟩
theorem cells_aside {P : Nat} {w1 w2 : World} (h : Aside P w1 w2) {p : Addr} {v : Value} (hp : p.block ≠ P) (hc : w1.cell? p = some v) : w2.cell? p = some v := by
  have hlt := World.block_lt_of_cell? w1 p hc
  have := h.block p.block hlt hp
  rw [← hc]
  simp [World.cell?, this]
theorem ReadyJ.aside {P : Nat} {W W' : World} (h : ReadyJ W) (ha : Aside P W W') (hP : 7 ≤ P) : ReadyJ W' := by
  obtain ⟨h1, ⟨e1, h2, h3⟩, ⟨e2, h4, h5⟩, h6⟩ := h
  refine ⟨?_, ⟨e1, cells_aside ha (by show (3 : Nat) ≠ P; omega) h2, h3⟩, ⟨e2, cells_aside ha (by show (4 : Nat) ≠ P; omega) h4, h5⟩, Nat.le_trans h6 ha.size⟩
  exact ⟨fun c hc => cells_aside ha (by show (0 : Nat) ≠ P; omega) (h1.1 c hc), fun i hi => ⟨cells_aside ha (by show (1 : Nat) ≠ P; omega) (h1.2 i hi).1, cells_aside ha (by show (1 : Nat) ≠ P; omega) (h1.2 i hi).2⟩⟩
theorem ReadyJ.below7 {W W' : World} (h : ReadyJ W) (hb : Below 7 W W') : ReadyJ W' := by
  obtain ⟨h1, ⟨e1, h2, h3⟩, ⟨e2, h4, h5⟩, h6⟩ := h
  refine ⟨?_, ⟨e1, (hb.cell (p := ⟨3, 0, none⟩) (by show (3 : Nat) < 7; omega)).trans h2, h3⟩, ⟨e2, (hb.cell (p := ⟨4, 0, none⟩) (by show (4 : Nat) < 7; omega)).trans h4, h5⟩, Nat.le_trans h6 hb.size⟩
  exact ⟨fun c hc => (hb.cell (p := ⟨0, c, none⟩) (by show (0 : Nat) < 7; omega)).trans (h1.1 c hc), fun i hi => ⟨(hb.cell (p := ⟨1, 2 * i, none⟩) (by show (1 : Nat) < 7; omega)).trans (h1.2 i hi).1, (hb.cell (p := ⟨1, 2 * i + 1, none⟩) (by show (1 : Nat) < 7; omega)).trans (h1.2 i hi).2⟩⟩
def puS (l : List UInt8) : Option Nat := if l = [] then none else puL l 0
theorem puL_le : ∀ (l : List UInt8) (a n : Nat), a ≤ 65535 → puL l a = some n → n ≤ 65535
  | [], a, n, ha, h => by unfold puL at h; cases h; exact ha
  | c :: l, a, n, ha, h => by
    unfold puL at h
    split at h
    · cases h
    · split at h
      · cases h
      · exact puL_le l _ n (by omega) h
set_option maxHeartbeats 4000000 in
set_option maxRecDepth 100000 in
theorem pu_empty (w : World) : Calls Tryz.prog 132 #[.string ⟨#[]⟩, .int .i64 16, .int .i64 16] w fun e w' => e = .returned (.tuple #[.int .u64 0, .iface 156 (.int .i64 2)]) ∧ w' = w := by
  go_enter Tryz.func132, Tryz.ntmps132
  go_wp2
  go_ret2
  exact ⟨rfl, rfl⟩
theorem bytesWorld_below (w : World) (ty : TypeId) (t : ByteArray) : Below w.heap.size w (Lib.bytesWorld w ty t) := by
  have h1 : Below w.heap.size w w.drew := ⟨rfl, rfl, rfl, Nat.le_refl _, fun _ _ => rfl⟩
  have h2 : Below w.heap.size w (w.drew.alloc (.cells (Lib.bytesCells w ty t) ty)) := h1.trans (below_new0 w.drew _)
  exact Lib.below_freeze h2 (Nat.le_refl _) 1
/-- How ParseUint ends. -/
def PuEnds (s : ByteArray) (W : World) (e : Ending) (w' : World) : Prop := Below W.heap.size W w' ∧ ((∃ n : Nat, puS s.data.toList = some n ∧ e = .returned (.tuple #[.int .u64 (n : Int), .nilIface])) ∨ (puS s.data.toList = none ∧ ∃ x te pe, e = .returned (.tuple #[.int .u64 x, .iface te pe])))
set_option maxHeartbeats 4000000 in
set_option maxRecDepth 100000 in
theorem pu_any (s : ByteArray) (hmax : s.size ≤ 1000) {W : World} (hR : ReadyJ W) : Calls Tryz.prog 119 #[.string s, .int .i64 16, .int .i64 16] W (PuEnds s W) := by
  have HR := Lib.hid hR
  clear hR
  by_cases h0 : s.size = 0
  · obtain rfl : s = ⟨#[]⟩ := by
      obtain ⟨⟨l⟩⟩ := s
      cases l with
      | nil => rfl
      | cons _ _ => simp [ByteArray.size] at h0
    obtain ⟨ev, hv, hev⟩ := HR.out.syn
    have HE := Lib.hid (fun fn => Tryz.strconv_toError_syntax fn ⟨#[]⟩ 16 16 ev W (by decide) hv hev)
    clear h0 hmax hv hev
    go_enter Tryz.func119, Tryz.ntmps119
    go_wp2_with fail
    go_at_call 132; refine (pu_empty _).mono ?_; rintro e w' ⟨rfl, rfl⟩
    go_wp2_with fail
    go_at_call 133; refine (HE.out _).mono ?_; rintro e w' ⟨N, rfl, h1, h2, h3⟩
    go_wp2
    go_ret2
    exact ⟨h3, .inr ⟨rfl, _, _, _, rfl⟩⟩
  · have hp := pu_in s h0 hmax W
    have hbw := bytesWorld_below W 5 s
    obtain ⟨W1, hW1⟩ : ∃ W1, Lib.bytesWorld W 5 s = W1 := ⟨_, rfl⟩
    rw [hW1] at hp hbw
    have hs0 : s.data.toList ≠ [] := fun h => h0 (by rw [Lib.size_eq, h]; rfl)
    have hps : puS s.data.toList = puL s.data.toList 0 := by unfold puS; rw [if_neg hs0]
    have HBW := Lib.hid hbw
    have hR1 := HR.out.below hbw
    clear hW1 hbw hs0
    cases hx : puL s.data.toList 0 with
    | some n =>
      rw [hx] at hp
      have HP := Lib.hid hp
      have HX := Lib.hid (hps.trans hx)
      clear hp hx hps hR1 h0
      go_enter Tryz.func119, Tryz.ntmps119
      go_wp2_with fail
      go_at_call 132; refine HP.out.mono ?_; rintro e w' ⟨rfl, rfl⟩
      go_wp2
      go_ret2
      exact ⟨HBW.out, .inl ⟨n, HX.out, rfl⟩⟩
    | none =>
      rw [hx] at hp
      obtain ⟨ev, hv, hev⟩ := hR1.syn
      obtain ⟨ev2, hv2, hev2⟩ := hR1.rng
      have HE := Lib.hid (fun fn => Tryz.strconv_toError_syntax fn s 16 16 ev W1 (by omega) hv hev)
      have HE2 := Lib.hid (fun fn => Tryz.strconv_toError_range fn s 16 16 ev2 W1 (by omega) hv2 hev2)
      have HP := Lib.hid hp
      have HX := Lib.hid (hps.trans hx)
      clear hp hx hps hR1 h0 hv hev hv2 hev2
      go_enter Tryz.func119, Tryz.ntmps119
      go_wp2_with fail
      go_at_call 132; refine HP.out.mono ?_; rintro e w' ⟨⟨x, rfl | rfl⟩, rfl⟩
      · go_wp2_with fail
        go_at_call 133; refine (HE.out _).mono ?_; rintro e w2 ⟨N, rfl, h1, h2, h3⟩
        have HB3 := Lib.hid (HBW.out.trans (h3.mono HBW.out.size))
        clear h1 h2 h3
        go_wp2
        go_ret2
        exact ⟨HB3.out, .inr ⟨HX.out, _, _, _, rfl⟩⟩
      · go_wp2_with fail
        go_at_call 133; refine (HE2.out _).mono ?_; rintro e w2 ⟨N, rfl, h1, h2, h3⟩
        have HB3 := Lib.hid (HBW.out.trans (h3.mono HBW.out.size))
        clear h1 h2 h3
        go_wp2
        go_ret2
        exact ⟨HB3.out, .inr ⟨HX.out, _, _, _, rfl⟩⟩

/-! ### unit -/
theorem puL_hexN : ∀ (l : List UInt8) (a : Nat), (a + 1) * 16 ^ l.length ≤ 65536 → puL l a = hexN l a
  | [], a, h => rfl
  | c :: l, a, h => by
    unfold puL hexN
    cases hd : hexD c with
    | none => rfl
    | some d =>
      have h16 := hexD_lt hd
      have hpow : 1 ≤ 16 ^ l.length := Nat.one_le_pow _ _ (by omega)
      have h2 : (a * 16 + d + 1) * 16 ^ l.length ≤ 65536 := by
        refine Nat.le_trans (Nat.mul_le_mul_right _ (show a * 16 + d + 1 ≤ (a + 1) * 16 by omega)) ?_
        rw [Nat.mul_assoc]
        simpa [Nat.pow_succ, Nat.mul_comm] using h
      have h3 : a * 16 + d + 1 ≤ (a * 16 + d + 1) * 16 ^ l.length := Nat.le_mul_of_pos_right _ hpow
      simp only
      rw [if_neg (by omega), puL_hexN l _ h2]
theorem unitL_six {R : List UInt8} (h : 6 ≤ R.length) : unitL R = if Lib.hasPrefix (R.take 6) [92, 117] then (match puS ((R.take 6).drop 2) with | some n => (n : Int) | none => -1) else -1 := by
  match R, h with
  | p :: q :: a :: b :: c :: d :: r, _ =>
    by_cases hpq : p = 92 ∧ q = 117
    · obtain ⟨rfl, rfl⟩ := hpq
      have h1 : Lib.hasPrefix ((92 :: 117 :: a :: b :: c :: d :: r).take 6) [92, 117] = true := rfl
      rw [h1, if_pos rfl]
      show (match hexN [a, b, c, d] 0 with | none => (-1 : Int) | some n => (n : Int)) = match puS [a, b, c, d] with | some n => (n : Int) | none => -1
      have h2 : puS [a, b, c, d] = hexN [a, b, c, d] 0 := by
        unfold puS
        rw [if_neg (by simp)]
        exact puL_hexN [a, b, c, d] 0 (show (0 + 1) * 16 ^ 4 ≤ 65536 from by decide)
      rw [h2]
      cases hexN [a, b, c, d] 0 <;> rfl
    · have h1 : Lib.hasPrefix ((p :: q :: a :: b :: c :: d :: r).take 6) [92, 117] = false := by
        simp [Lib.hasPrefix, List.isPrefixOf]
        intro e1 e2
        exact hpq ⟨e1.symm, e2.symm⟩
      rw [h1, if_neg Bool.false_ne_true]
      unfold unitL
      split
      · rename_i e
        cases e
        exact absurd ⟨rfl, rfl⟩ hpq
      · rfl
theorem unitL_short {R : List UInt8} (h : R.length < 6) : unitL R = -1 := by
  unfold unitL
  split
  · simp at h; omega
  · rfl
theorem extract_take (t : ByteArray) (a m : Nat) : (t.extract a (a + m)).data.toList = (rest t a).take m := by
  unfold rest
  rw [ByteArray.data_extract, Array.toList_extract, List.extract_eq_take_drop]
  congr 1
  omega
set_option maxHeartbeats 4000000 in
set_option maxRecDepth 100000 in
theorem unit_any {W : World} {P a n p : Nat} {t : ByteArray} (h : Rdr W P t a n) (hR : ReadyJ W) (hp : p ≤ 100000) : Calls Tryz.prog 114 #[.pointer (some ⟨P, 0, none⟩), .int .i64 (p : Int)] W fun e w' => e = .returned (.int .i32 (unitL (rest t p))) ∧ Below W.heap.size W w' := by
  have k0 := h.1.cell 0
  have hsz := h.2.2.1
  obtain ⟨U, hU⟩ : ∃ U, unitL (rest t p) = U := ⟨_, rfl⟩
  rw [hU]
  have i0 : (0 : Int) ≤ (p : Int) := by omega
  clear h
  by_cases hlt : t.size < p + 6
  · obtain rfl : U = -1 := by rw [← hU]; exact unitL_short (by rw [rest_length]; omega)
    have i1 : (t.size : Int) < (p : Int) + 6 := by omega
    clear hU hR
    go_enter Tryz.func114, Tryz.ntmps114
    go_wp2
    go_ret
    exact ⟨rfl, Below.refl _ _⟩
  · have hul := unitL_six (R := rest t p) (by rw [rest_length]; omega)
    rw [hU] at hul
    have i1 : ¬ (t.size : Int) < (p : Int) + 6 := by omega
    have i2 : (p : Int) + 6 ≤ (t.size : Int) := by omega
    obtain ⟨s, hs⟩ : ∃ s, t.extract p (p + 6) = s := ⟨_, rfl⟩
    have hsl : s.data.toList = (rest t p).take 6 := by rw [← hs]; exact extract_take t p 6
    have hs6 : s.size = 6 := by rw [Lib.size_eq, hsl]; simp [rest_length]; omega
    rw [← hsl] at hul
    have HC := Lib.hid (fun w => Tryz.strings_CutPrefix s ⟨#[92, 117]⟩ w)
    cases hpre : Lib.hasPrefix s.data.toList [92, 117]
    · have HCP := Lib.hid (fun w => (HC.out w).mono fun e w' (x : e = .returned (.tuple #[.string ⟨(Lib.trimPrefix s.data.toList [92, 117]).toArray⟩, .bool (Lib.hasPrefix s.data.toList [92, 117])]) ∧ w' = w) => (⟨x.1.trans (by rw [hpre]), x.2⟩ : e = .returned (.tuple #[.string ⟨(Lib.trimPrefix s.data.toList [92, 117]).toArray⟩, .bool false]) ∧ w' = w))
      rw [hpre, if_neg Bool.false_ne_true] at hul
      obtain ⟨y, hy⟩ : ∃ y : ByteArray, (⟨(Lib.trimPrefix s.data.toList [92, 117]).toArray⟩ : ByteArray) = y := ⟨_, rfl⟩
      have hy6 : y.size ≤ 1000 := by
        rw [← hy, Lib.size_eq]
        have := Lib.trimPrefix_le s.data.toList [92, 117]
        have : s.data.toList.length = 6 := by rw [← hs6, Lib.size_eq]
        simp only at *
        omega
      simp only [hy] at HCP
      have HP := Lib.hid (fun (w : World) (hr : ReadyJ w) => pu_any y hy6 hr)
      have HR := Lib.hid hR
      have HS := Lib.hid hs
      have HUL := Lib.hid hul
      clear hy hsl hs6 hpre hU hR hs HC hy6 hul
      go_enter Tryz.func114, Tryz.ntmps114
      go_wp2_with fail
      go_at_call 118
      rw [HS.out]
      refine (HCP.out _).mono ?_; rintro e w1 ⟨rfl, rfl⟩
      go_wp2_with fail
      go_at_call 119; refine (HP.out _ HR.out).mono ?_; rintro e w2 ⟨hb, ⟨k, hk, rfl⟩ | ⟨hk, x, te, pe, rfl⟩⟩
      all_goals
        have HB := Lib.hid hb
        clear hb hk
        go_wp2
        go_ret
        have hu := HUL.out
        subst hu
        exact ⟨rfl, HB.out⟩
    · have HCP := Lib.hid (fun w => (HC.out w).mono fun e w' (x : e = .returned (.tuple #[.string ⟨(Lib.trimPrefix s.data.toList [92, 117]).toArray⟩, .bool (Lib.hasPrefix s.data.toList [92, 117])]) ∧ w' = w) => (⟨x.1.trans (by rw [hpre]), x.2⟩ : e = .returned (.tuple #[.string ⟨(Lib.trimPrefix s.data.toList [92, 117]).toArray⟩, .bool true]) ∧ w' = w))
      rw [hpre, if_pos rfl] at hul
      obtain ⟨y, hy⟩ : ∃ y : ByteArray, (⟨(Lib.trimPrefix s.data.toList [92, 117]).toArray⟩ : ByteArray) = y := ⟨_, rfl⟩
      have hy6 : y.size ≤ 1000 := by
        rw [← hy, Lib.size_eq]
        have := Lib.trimPrefix_le s.data.toList [92, 117]
        have : s.data.toList.length = 6 := by rw [← hs6, Lib.size_eq]
        simp only at *
        omega
      simp only [hy] at HCP
      have hyd : y.data.toList = (List.take 6 (rest t p)).drop 2 := by
        rw [← hy, ← hsl]
        show Lib.trimPrefix s.data.toList [92, 117] = s.data.toList.drop 2
        unfold Lib.trimPrefix
        rw [if_pos hpre]
        rfl
      rw [hsl, ← hyd] at hul
      have HP := Lib.hid (fun (w : World) (hr : ReadyJ w) => pu_any y hy6 hr)
      have HR := Lib.hid hR
      have HS := Lib.hid hs
      have HUL := Lib.hid hul
      clear hy hsl hs6 hpre hU hR hs HC hy6 hul
      go_enter Tryz.func114, Tryz.ntmps114
      go_wp2_with fail
      go_at_call 118
      rw [HS.out]
      refine (HCP.out _).mono ?_; rintro e w1 ⟨rfl, rfl⟩
      go_wp2_with fail
      go_at_call 119; refine (HP.out _ HR.out).mono ?_; rintro e w2 ⟨hb, ⟨k, hk, rfl⟩ | ⟨hk, x, te, pe, rfl⟩⟩
      · have hkk := puL_le y.data.toList 0 k (by omega) (by
          unfold puS at hk
          split at hk
          · cases hk
          · exact hk)
        have HU := Lib.hid (show U = (k : Int) by have := HUL.out; rw [hk] at this; exact this)
        have j0 : (0 : Int) ≤ (k : Int) := by omega
        have j1 : (k : Int) ≤ 65535 := by omega
        have HB := Lib.hid hb
        clear hb hk hkk
        go_wp2
        go_ret
        have hu := HU.out
        subst hu
        exact ⟨rfl, HB.out⟩
      · have HU := Lib.hid (show U = -1 by have := HUL.out; rw [hk] at this; exact this)
        have HB := Lib.hid hb
        clear hb hk
        go_wp2
        go_ret
        have hu := HU.out
        subst hu
        exact ⟨rfl, HB.out⟩
end Go.Proofs.YtcbcjeabpjjhbaaGreatDoor
namespace Go.Proofs.YtcbcjeabpjjhbaaGreatDoor
open Go.RowKit Go.Shelf
set_option linter.unusedVariables false

/-- How a reader of one rune ends. -/
def REnds (W : World) (P : Nat) (t : ByteArray) (a n : Nat) (r : Except Int (Int × List UInt8)) (e : Ending) (w' : World) : Prop :=
  match r with
  | .ok (x, R') => e = .returned (.int .i32 x) ∧ ∃ a', Went W w' P t a' n ∧ rest t a' = R'
  | .error c => Thrown W P t (c, (rest t a).length) e w'
theorem valid_lib (r : Int) : Utf8.valid r = Lib.validRune r := by
  unfold Utf8.valid Lib.validRune
  first | rfl | (rw [Bool.eq_iff_iff]; simp; omega)
theorem unitL_range (R : List UInt8) : -1 ≤ unitL R ∧ unitL R ≤ 65535 := by
  rcases Nat.lt_or_ge R.length 6 with h | h
  · rw [unitL_short h]; omega
  · rw [unitL_six h]
    split
    · split
      · rename_i n hn
        have : n ≤ 65535 := by
          unfold puS at hn
          split at hn
          · cases hn
          · exact puL_le _ 0 n (by omega) hn
        omega
      · omega
    · omega
theorem unitL_len {R : List UInt8} (h : 0 ≤ unitL R) : 6 ≤ R.length := by
  rcases Nat.lt_or_ge R.length 6 with h1 | h1
  · rw [unitL_short h1] at h; omega
  · exact h1
set_option maxRecDepth 100000 in
set_option maxHeartbeats 4000000 in
theorem escapedRune_any {W : World} {P a n : Nat} {t : ByteArray} (h : Rdr W P t a n) (hR : ReadyJ W) : Calls Tryz.prog 107 #[.pointer (some ⟨P, 0, none⟩)] W (REnds W P t a n (pairL (rest t a))) := by
  have hsz := h.2.2.1
  have hat := h.2.1
  have HU := Lib.hid (unit_any h hR (p := a) (by omega))
  have HV := Lib.hid (fun w => Tryz.utf8_ValidRune (unitL (rest t a)) w)
  have hr1 := unitL_range (rest t a)
  have hl1 := unitL_len (R := rest t a)
  have hl2 := unitL_len (R := (rest t a).drop 6)
  have hr2 := unitL_range ((rest t a).drop 6)
  have HS := Lib.hid h
  have HR := Lib.hid hR
  have k1 := h.1.cell 1
  have hpl : pairL (rest t a) = if Utf8.valid (unitL (rest t a)) then .ok (unitL (rest t a), (rest t a).drop 6) else if unitL (rest t a) - 55296 < 0 ∨ 1024 ≤ unitL (rest t a) - 55296 ∨ unitL ((rest t a).drop 6) - 56320 < 0 ∨ 1024 ≤ unitL ((rest t a).drop 6) - 56320 then .error 30 else .ok (65536 + (unitL (rest t a) - 55296) * 1024 + (unitL ((rest t a).drop 6) - 56320), (rest t a).drop 12) := rfl
  obtain ⟨u, hu⟩ : ∃ u, unitL (rest t a) = u := ⟨_, rfl⟩
  obtain ⟨v, hv⟩ : ∃ v, unitL ((rest t a).drop 6) = v := ⟨_, rfl⟩
  rw [hu] at HU HV hr1 hl1 hpl
  rw [hv] at hr2 hl2 hpl
  rw [rest_length] at hl1
  rw [List.length_drop, rest_length] at hl2
  rw [valid_lib] at hpl
  have HV2 := Lib.hid hv
  obtain ⟨b1, b2⟩ := hr1
  obtain ⟨c1, c2⟩ := hr2
  have i0 : (0 : Int) ≤ (a : Int) := by omega
  clear h hR hu hv
  cases hvr : Lib.validRune u
  · rw [hvr] at HV hpl
    rw [if_neg Bool.false_ne_true] at hpl
    have HPL := Lib.hid hpl
    clear hpl hvr
    go_enter Tryz.func107, Tryz.ntmps107
    go_wp2_with fail
    go_at_call 114; refine HU.out.mono ?_; rintro e w1 ⟨rfl, hb1⟩
    have HW1 := Lib.hid (HS.out.stays hb1)
    have HR1 := Lib.hid (HR.out.below hb1)
    clear hb1 k1
    have k1 := HW1.out.2.1.cell 1
    go_wp2_with (go_at_call 93; refine (HV.out _).mono ?_; rintro e w2 ⟨rfl, rfl⟩)
    have hun := unit_any HW1.out.2 HR1.out (p := a + 6) (by omega)
    rw [rest_add, HV2.out] at hun
    have HU2 := Lib.hid hun
    clear hun k1
    go_at_call 114; refine HU2.out.mono ?_; rintro e w3 ⟨rfl, hb3⟩
    have HW3 := Lib.hid (HW1.out.trans (HW1.out.2.stays hb3))
    clear hb3
    have k1 := HW3.out.2.1.cell 1
    have f1 := HW3.out.2.1.frozen 1
    by_cases d1 : u - 55296 < 0
    · have d2 : u < 55296 := by omega
      have HE := Lib.hid (show pairL (rest t a) = .error 30 from HPL.out.trans (if_pos (by omega)))
      go_wp2_with (go_at_call 40; refine (diag_any _ _ _).mono ?_; rintro e w4 ⟨rfl, rfl⟩)
      refine ⟨rfl, ?_⟩
      rw [HE.out]
      exact thrown_new (c := 30) HW3.out (l := (rest t a).length) (rest_back hat)
    · have d2 : 55296 ≤ u := by omega
      by_cases d3 : 1024 ≤ u - 55296
      · have d4 : 56320 ≤ u := by omega
        have HE := Lib.hid (show pairL (rest t a) = .error 30 from HPL.out.trans (if_pos (by omega)))
        go_wp2_with (go_at_call 40; refine (diag_any _ _ _).mono ?_; rintro e w4 ⟨rfl, rfl⟩)
        refine ⟨rfl, ?_⟩
        rw [HE.out]
        exact thrown_new (c := 30) HW3.out (l := (rest t a).length) (rest_back hat)
      · have d4 : u < 56320 := by omega
        by_cases d5 : v - 56320 < 0
        · have d6 : v < 56320 := by omega
          have HE := Lib.hid (show pairL (rest t a) = .error 30 from HPL.out.trans (if_pos (by omega)))
          go_wp2_with (go_at_call 40; refine (diag_any _ _ _).mono ?_; rintro e w4 ⟨rfl, rfl⟩)
          refine ⟨rfl, ?_⟩
          rw [HE.out]
          exact thrown_new (c := 30) HW3.out (l := (rest t a).length) (rest_back hat)
        · have d6 : 56320 ≤ v := by omega
          by_cases d7 : 1024 ≤ v - 56320
          · have d8 : 57344 ≤ v := by omega
            have HE := Lib.hid (show pairL (rest t a) = .error 30 from HPL.out.trans (if_pos (by omega)))
            go_wp2_with (go_at_call 40; refine (diag_any _ _ _).mono ?_; rintro e w4 ⟨rfl, rfl⟩)
            refine ⟨rfl, ?_⟩
            rw [HE.out]
            exact thrown_new (c := 30) HW3.out (l := (rest t a).length) (rest_back hat)
          · have d8 : v < 57344 := by omega
            have HE := Lib.hid (show pairL (rest t a) = _ from HPL.out.trans (if_neg (by omega)))
            have hl3 : 12 ≤ t.size - a := by have := hl2 (by omega); omega
            have i1 : (a : Int) + 12 ≤ (t.size : Int) := by omega
            go_wp2
            go_ret
            rw [HE.out]
            refine ⟨rfl, a + 12, ?_, by rw [rest_add]⟩
            have := HW3.out.trans (HW3.out.2.moves (b := a + 12) (by omega))
            simpa using this
  · rw [hvr] at HV hpl
    rw [if_pos rfl] at hpl
    have HPL := Lib.hid hpl
    have hu0 : 0 ≤ u := by
      unfold Lib.validRune at hvr
      simp at hvr
      omega
    have hl3 := hl1 hu0
    have i1 : (a : Int) + 6 ≤ (t.size : Int) := by omega
    clear hpl hvr
    go_enter Tryz.func107, Tryz.ntmps107
    go_wp2_with fail
    go_at_call 114; refine HU.out.mono ?_; rintro e w1 ⟨rfl, hb1⟩
    have HW1 := Lib.hid (HS.out.stays hb1)
    clear hb1 k1
    have k1 := HW1.out.2.1.cell 1
    have f1 := HW1.out.2.1.frozen 1
    go_wp2_with (go_at_call 93; refine (HV.out _).mono ?_; rintro e w2 ⟨rfl, rfl⟩)
    go_ret
    rw [HPL.out]
    refine ⟨rfl, a + 6, ?_, by rw [rest_add]⟩
    have := HW1.out.trans (HW1.out.2.moves (b := a + 6) (by omega))
    simpa using this

/-! ### escape -/
theorem pre2 {R : List UInt8} {p q : UInt8} (h : Lib.hasPrefix R [p, q] = true) : R = p :: q :: R.drop 2 := by
  match R, h with
  | [], h => simp [Lib.hasPrefix] at h
  | [a], h => simp [Lib.hasPrefix, List.isPrefixOf] at h
  | a :: b :: r, h =>
    simp [Lib.hasPrefix, List.isPrefixOf] at h
    simp [h]
theorem escJ_slash {R : List UInt8} (h : Lib.hasPrefix R [92, 47] = true) : escJ R = .ok (47, R.drop 2) := by
  obtain ⟨r, hr⟩ : ∃ r, R.drop 2 = r := ⟨_, rfl⟩
  have e := pre2 h
  rw [hr] at e ⊢
  rw [e]
  rfl
theorem escJ_hit {R : List UInt8} {q : UInt8} {x : Int} (hq : letterJ q = some x) (h47 : q ≠ 47) (h : Lib.hasPrefix R [92, q] = true) : escJ R = .ok (x, R.drop 2) := by
  obtain ⟨r, hr⟩ : ∃ r, R.drop 2 = r := ⟨_, rfl⟩
  have e := pre2 h
  rw [hr] at e ⊢
  rw [e]
  show (if q = 47 then Except.ok (47, r) else match letterJ q with | some x => Except.ok (x, r) | none => pairL (92 :: q :: r)) = Except.ok (x, r)
  rw [if_neg h47, hq]
theorem escJ_miss {R : List UInt8} (h0 : Lib.hasPrefix R [92, 47] = false) (h : ∀ q ∈ [34, 92, 98, 102, 110, 114, 116], Lib.hasPrefix R [92, q] = false) : escJ R = pairL R := by
  unfold escJ
  split
  · rename_i c r
    have hne : ∀ q : UInt8, Lib.hasPrefix (92 :: c :: r) [92, q] = false → c ≠ q := by
      intro q hq e
      subst e
      simp [Lib.hasPrefix, List.isPrefixOf] at hq
    rw [if_neg (hne 47 h0)]
    have hl : letterJ c = none := by
      unfold letterJ
      rw [if_neg (hne 34 (h 34 (by simp))), if_neg (hne 92 (h 92 (by simp))), if_neg (hne 98 (h 98 (by simp))), if_neg (hne 102 (h 102 (by simp))), if_neg (hne 110 (h 110 (by simp))), if_neg (hne 114 (h 114 (by simp))), if_neg (hne 116 (h 116 (by simp)))]
    rw [hl]
  · rfl
end Go.Proofs.YtcbcjeabpjjhbaaGreatDoor
