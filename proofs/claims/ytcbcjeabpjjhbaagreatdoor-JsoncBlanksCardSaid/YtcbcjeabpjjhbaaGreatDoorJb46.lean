/- JsoncBlanks: what the statement makes of a JSON text, byte by byte, is that text with blanks between its parts · A list of ints that came in, opened -/
import Derived.WideShapes
import Derived.Test.YtcbcjeabpjjhbaaGreatDoorJb42
import Derived.Test.YtcbcjeabpjjhbaaGreatDoorJb45
namespace Go.Proofs.YtcbcjeabpjjhbaaGreatDoor
set_option linter.unusedVariables false

/-- The blank that k says. -/
def blkOf (k : Nat) : UInt8 := if k = 0 then 32 else if k = 1 then 10 else if k = 2 then 9 else 13
def preW (kf : Nat → Nat) (i : Nat) : List UInt8 := [blkOf (kf i)]
def posW (kf : Nat → Nat) (i : Nat) : List UInt8 := if 0 < kf i then [32] else []
/-- A part's sign. -/
def signB (c : UInt8) : Bool := c == 123 || c == 91 || c == 44 || c == 58 || c == 93 || c == 125
def partB (tx : Bool) (c : UInt8) : Bool := !tx && signB c
def txB (tx bk : Bool) (c : UInt8) : Bool := if c = 34 ∧ bk = false then !tx else tx
def bkB (tx bk : Bool) (c : UInt8) : Bool := txB tx bk c && (c == 92) && !bk
def outW (kf : Nat → Nat) (i : Nat) (p : Bool) (c : UInt8) : List UInt8 := if p then preW kf i ++ c :: posW kf i else [c]
def wideL (kf : Nat → Nat) : List UInt8 → Nat → Bool → Bool → List UInt8
  | [], _, _, _ => []
  | c :: l, i, tx, bk => outW kf i (partB tx c) c ++ wideL kf l (i + 1) (txB tx bk c) (bkB tx bk c)
theorem preW_blank (kf : Nat → Nat) (i : Nat) : AllB (preW kf i) := by
  intro c hc
  unfold preW at hc
  obtain rfl : c = blkOf (kf i) := by simpa using hc
  unfold blkOf
  repeat' split
  all_goals rfl
theorem posW_blank (kf : Nat → Nat) (i : Nat) : AllB (posW kf i) := by
  intro c hc
  unfold posW at hc
  split at hc
  · obtain rfl : c = 32 := by simpa using hc
    rfl
  · cases hc
/-- A byte outside of texts that isn't a part's sign, nor a quote. -/
def dull (c : UInt8) : Prop := signB c = false ∧ c ≠ 34
theorem wide_dull {kf : Nat → Nat} : ∀ (X : List UInt8) (i : Nat) (R : List UInt8), (∀ c ∈ X, dull c) → wideL kf (X ++ R) i false false = X ++ wideL kf R (i + X.length) false false
  | [], i, R, h => rfl
  | c :: X, i, R, h => by
    obtain ⟨h1, h2⟩ := h c (by simp)
    rw [List.cons_append]
    conv => lhs; unfold wideL
    have hp : partB false c = false := by unfold partB; rw [h1]; rfl
    have ht : txB false false c = false := by unfold txB; rw [if_neg (fun e => h2 e.1)]
    have hb : bkB false false c = false := by unfold bkB; rw [ht]; rfl
    rw [hp, ht, hb, wide_dull X (i + 1) R (fun x hx => h x (List.mem_cons_of_mem _ hx)), List.length_cons, Nat.add_assoc i 1, Nat.add_comm 1]
    rfl
theorem wide_sign {kf : Nat → Nat} {c : UInt8} (h : signB c = true) (i : Nat) (R : List UInt8) : wideL kf (c :: R) i false false = sgW (preW kf) (posW kf) i c ++ wideL kf R (i + 1) false false := by
  have h34 : c ≠ 34 := by rintro rfl; revert h; decide
  conv => lhs; unfold wideL
  have hp : partB false c = true := by unfold partB; rw [h]; rfl
  have ht : txB false false c = false := by unfold txB; rw [if_neg (fun e => h34 e.1)]
  have hb : bkB false false c = false := by unfold bkB; rw [ht]; rfl
  rw [hp, ht, hb]
  rfl
/-- Within a text, a byte that is neither quote nor backslash. -/
theorem wide_in {kf : Nat → Nat} : ∀ (X : List UInt8) (i : Nat) (R : List UInt8), (∀ c ∈ X, c ≠ 34 ∧ c ≠ 92) → wideL kf (X ++ R) i true false = X ++ wideL kf R (i + X.length) true false
  | [], i, R, h => rfl
  | c :: X, i, R, h => by
    obtain ⟨h1, h2⟩ := h c (by simp)
    rw [List.cons_append]
    conv => lhs; unfold wideL
    have ht : txB true false c = true := by unfold txB; rw [if_neg (fun e => h1 e.1)]
    have hb : bkB true false c = false := by
      unfold bkB
      have : (c == 92) = false := by simpa using h2
      rw [this]; simp
    rw [show partB true c = false from rfl, ht, hb, wide_in X (i + 1) R (fun x hx => h x (List.mem_cons_of_mem _ hx)), List.length_cons, Nat.add_assoc i 1, Nat.add_comm 1]
    rfl
theorem wide_esc {kf : Nat → Nat} (c : UInt8) (i : Nat) (R : List UInt8) : wideL kf (92 :: c :: R) i true false = 92 :: c :: wideL kf R (i + 2) true false := by
  conv => lhs; unfold wideL; unfold wideL
  have h1 : txB true false 92 = true := by decide
  have h2 : bkB true false 92 = true := by decide
  have h3 : txB true true c = true := by unfold txB; rw [if_neg (fun e => by cases e.2)]
  have h4 : bkB true true c = false := by unfold bkB; simp
  rw [h1, h2, h3, h4]
  rfl
theorem enc_all {r : Int} (hv : Utf8.valid r = true) (h32 : ¬ r < 32) (h34 : r ≠ 34) (h92 : r ≠ 92) : ∀ c ∈ Lib.encodeRune r, c ≠ 34 ∧ c ≠ 92 := by
  have hv2 : (0 ≤ r ∧ r < 55296) ∨ (57344 ≤ r ∧ r ≤ 1114111) := by
    unfold Utf8.valid at hv
    simpa using hv
  have key : ∀ z : Int, 0 ≤ z → z < 256 → z ≠ 34 → z ≠ 92 → (z.toNat.toUInt8 ≠ 34 ∧ z.toNat.toUInt8 ≠ 92) := by
    intro z h0 h1 h2 h3
    have hb := byte_nat h0 h1
    constructor
    · intro e
      rw [e] at hb
      have : (34 : UInt8).toNat = 34 := rfl
      omega
    · intro e
      rw [e] at hb
      have : (92 : UInt8).toNat = 92 := rfl
      omega
  intro c hc
  unfold Lib.encodeRune at hc
  obtain ⟨z, hz, rfl⟩ := List.mem_map.1 hc
  unfold Lib.encodeRuneZ at hz
  split at hz
  · obtain rfl : z = r := by simpa using hz
    exact key z (by omega) (by omega) h34 h92
  · split at hz
    · rcases List.mem_cons.1 hz with rfl | hz
      · exact key _ (by omega) (by omega) (by omega) (by omega)
      · obtain rfl : z = 128 + r % 64 := by simpa using hz
        exact key _ (by omega) (by omega) (by omega) (by omega)
    · split at hz
      · rcases List.mem_cons.1 hz with rfl | hz
        · exact key _ (by omega) (by omega) (by omega) (by omega)
        · rcases List.mem_cons.1 hz with rfl | hz
          · exact key _ (by omega) (by omega) (by omega) (by omega)
          · obtain rfl : z = 128 + r % 64 := by simpa using hz
            exact key _ (by omega) (by omega) (by omega) (by omega)
      · split at hz
        · rcases List.mem_cons.1 hz with rfl | hz
          · exact key _ (by omega) (by omega) (by omega) (by omega)
          · rcases List.mem_cons.1 hz with rfl | hz
            · exact key _ (by omega) (by omega) (by omega) (by omega)
            · rcases List.mem_cons.1 hz with rfl | hz
              · exact key _ (by omega) (by omega) (by omega) (by omega)
              · obtain rfl : z = 128 + r % 64 := by simpa using hz
                exact key _ (by omega) (by omega) (by omega) (by omega)
        · exfalso
          omega
theorem hexB_dull : ∀ n, n < 16 → hexB n ≠ 34 ∧ hexB n ≠ 92 := by decide
theorem wide_rune {kf : Nat → Nat} {r : Int} (hv : Utf8.valid r = true) (i : Nat) (R : List UInt8) : wideL kf (runeQ r ++ R) i true false = runeQ r ++ wideL kf R (i + (runeQ r).length) true false := by
  have hv2 : (0 ≤ r ∧ r < 55296) ∨ (57344 ≤ r ∧ r ≤ 1114111) := by
    unfold Utf8.valid at hv
    simpa using hv
  unfold runeQ
  by_cases h1 : r = 34
  · rw [if_pos h1]; exact wide_esc 34 i R
  rw [if_neg h1]
  by_cases h2 : r = 92
  · rw [if_pos h2]; exact wide_esc 92 i R
  rw [if_neg h2]
  by_cases h3 : r = 8
  · rw [if_pos h3]; exact wide_esc 98 i R
  rw [if_neg h3]
  by_cases h4 : r = 12
  · rw [if_pos h4]; exact wide_esc 102 i R
  rw [if_neg h4]
  by_cases h5 : r = 10
  · rw [if_pos h5]; exact wide_esc 110 i R
  rw [if_neg h5]
  by_cases h6 : r = 13
  · rw [if_pos h6]; exact wide_esc 114 i R
  rw [if_neg h6]
  by_cases h7 : r = 9
  · rw [if_pos h7]; exact wide_esc 116 i R
  rw [if_neg h7]
  by_cases h8 : r < 32
  · rw [if_pos h8]
    have ha := hexB_dull (r.toNat / 16) (by omega)
    have hb := hexB_dull (r.toNat % 16) (by omega)
    generalize hexB (r.toNat / 16) = a at *
    generalize hexB (r.toNat % 16) = b at *
    show wideL kf (92 :: 117 :: ([48, 48, a, b] ++ R)) i true false = _
    rw [wide_esc, wide_in [48, 48, a, b] (i + 2) R]
    · rfl
    · intro c hc
      simp only [List.mem_cons, List.not_mem_nil, or_false] at hc
      rcases hc with rfl | rfl | rfl | rfl
      · decide
      · decide
      · exact ha
      · exact hb
  · rw [if_neg h8]
    exact wide_in _ _ _ (enc_all hv h8 h1 h2)
theorem wide_text {kf : Nat → Nat} : ∀ (g : Nat) (X : List UInt8) (i : Nat) (R : List UInt8), wideL kf (textQ g X ++ R) i true false = textQ g X ++ wideL kf R (i + (textQ g X).length) true false
  | 0, X, i, R => by unfold textQ; rfl
  | g + 1, X, i, R => by
    unfold textQ
    split
    · rfl
    · rw [List.append_assoc, wide_rune (decodeL_valid X).2.2, wide_text g, List.length_append, List.append_assoc, Nat.add_assoc]
theorem wide_jsQ {kf : Nat → Nat} (t : ByteArray) (i : Nat) (R : List UInt8) : wideL kf (jsQ t ++ R) i false false = jsQ t ++ wideL kf R (i + (jsQ t).length) false false := by
  unfold jsQ
  rw [List.cons_append, List.append_assoc]
  conv => lhs; unfold wideL
  rw [show partB false 34 = false by decide, show txB false false 34 = true by decide, show bkB false false 34 = false by decide, wide_text]
  rw [show [34] ++ R = 34 :: R from rfl]
  conv => lhs; arg 2; arg 2; unfold wideL
  rw [show partB true 34 = false by decide, show txB true false 34 = false by decide, show bkB true false 34 = false by decide]
  simp [outW]
  congr 1
  omega
theorem dull_num {l : List UInt8} (h : goodB l = true) : ∀ c ∈ l, dull c := by
  intro c hc
  rcases good_bytes h c hc with rfl | hd
  · exact ⟨by decide, by decide⟩
  · rw [digJ_nat] at hd
    unfold digN at hd
    simp at hd
    refine ⟨?_, ?_⟩
    · unfold signB
      simp [← UInt8.toNat_inj]
      omega
    · intro e
      rw [e] at hd
      revert hd
      decide
mutual
theorem wide_T {kf : Nat → Nat} : ∀ (T : VT) (i : Nat) (R : List UInt8), plainT T = true → wideL kf (jsT T ++ R) i false false = spT (preW kf) (posW kf) T i ++ wideL kf R (i + (jsT T).length) false false
  | .node k b t its ks, i, R, h => by
    have ha := (plain_node h).1
    have hp := (plain_node h).2
    have h1 := fun i R => wide_I (kf := kf) its true i R hp
    have h2 := fun i R => wide_P (kf := kf) ks its true i R hp
    unfold spT
    by_cases h5 : k = 5
    · subst h5
      rw [if_pos rfl]
      have he : jsT (.node 5 b t its ks) = 91 :: (jsI its true ++ [93]) := by unfold jsT; rfl
      rw [he, List.cons_append, wide_sign (by decide), List.append_assoc, h1, show [93] ++ R = 93 :: R from rfl, wide_sign (by decide)]
      simp only [List.append_assoc, List.length_cons, List.length_append, List.length_nil]
      congr 4
      omega
    · rw [if_neg h5]
      by_cases h6 : k = 6
      · subst h6
        rw [if_pos rfl]
        have he : jsT (.node 6 b t its ks) = 123 :: (jsP ks its true ++ [125]) := by unfold jsT; rfl
        rw [he, List.cons_append, wide_sign (by decide), List.append_assoc, h2, show [125] ++ R = 125 :: R from rfl, wide_sign (by decide)]
        simp only [List.append_assoc, List.length_cons, List.length_append, List.length_nil]
        congr 4
        omega
      · rw [if_neg h6]
        unfold jsT
        by_cases h2 : k = 2
        · rw [if_pos h2]
          cases b
          · exact wide_dull _ _ _ (by unfold dull; decide)
          · exact wide_dull _ _ _ (by unfold dull; decide)
        rw [if_neg h2]
        by_cases h3 : k = 3
        · rw [if_pos h3]
          subst h3
          exact wide_dull _ _ _ (dull_num (alone_num ha).2.1)
        rw [if_neg h3]
        by_cases h4 : k = 4
        · rw [if_pos h4]
          exact wide_jsQ t i R
        rw [if_neg h4, if_neg h5, if_neg h6]
        exact wide_dull _ _ _ (by unfold dull; decide)
theorem wide_I {kf : Nat → Nat} : ∀ (l : List VT) (f : Bool) (i : Nat) (R : List UInt8), plainL l = true → wideL kf (jsI l f ++ R) i false false = spI (preW kf) (posW kf) l f i ++ wideL kf R (i + (jsI l f).length) false false
  | [], f, i, R, h => by unfold jsI spI; rfl
  | x :: l, true, i, R, h => by
    obtain ⟨hx, hl⟩ := plain_cons h
    unfold jsI spI
    rw [show (if true = true then ([] : List UInt8) else [44]) = [] from rfl, List.nil_append, List.append_assoc, wide_T x i _ hx, wide_I l false _ R hl, List.length_append, List.append_assoc, Nat.add_assoc]
  | x :: l, false, i, R, h => by
    obtain ⟨hx, hl⟩ := plain_cons h
    unfold jsI spI
    rw [show (if false = true then ([] : List UInt8) else [44]) = [44] from rfl, List.append_assoc, show ∀ Y : List UInt8, [44] ++ Y = 44 :: Y from fun _ => rfl, wide_sign (by decide), List.append_assoc, wide_T x _ _ hx, wide_I l false _ R hl]
    simp only [List.append_assoc, List.length_cons, List.length_append, List.length_nil]
    congr 4
    omega
theorem wide_P {kf : Nat → Nat} : ∀ (ks : List ByteArray) (l : List VT) (f : Bool) (i : Nat) (R : List UInt8), plainL l = true → wideL kf (jsP ks l f ++ R) i false false = spP (preW kf) (posW kf) ks l f i ++ wideL kf R (i + (jsP ks l f).length) false false
  | [], l, f, i, R, h => by unfold jsP spP; rfl
  | k :: ks, [], f, i, R, h => by unfold jsP spP; rfl
  | k :: ks, x :: l, true, i, R, h => by
    obtain ⟨hx, hl⟩ := plain_cons h
    unfold jsP spP
    rw [show (if true = true then ([] : List UInt8) else [44]) = [] from rfl, List.nil_append, List.append_assoc, wide_jsQ, List.cons_append, wide_sign (by decide), List.append_assoc, wide_T x _ _ hx, wide_P ks l false _ R hl]
    simp only [List.append_assoc, List.length_cons, List.length_append]
    congr 5
    omega
  | k :: ks, x :: l, false, i, R, h => by
    obtain ⟨hx, hl⟩ := plain_cons h
    unfold jsP spP
    rw [show (if false = true then ([] : List UInt8) else [44]) = [44] from rfl, List.append_assoc, show ∀ Y : List UInt8, [44] ++ Y = 44 :: Y from fun _ => rfl, wide_sign (by decide), List.append_assoc, wide_jsQ, List.cons_append, wide_sign (by decide), List.append_assoc, wide_T x _ _ hx, wide_P ks l false _ R hl]
    simp only [List.append_assoc, List.length_cons, List.length_append, List.length_nil]
    congr 6
    omega
end
theorem wideL_len (kf : Nat → Nat) : ∀ (X : List UInt8) (i : Nat) (tx bk : Bool), (wideL kf X i tx bk).length ≤ 3 * X.length
  | [], i, tx, bk => by unfold wideL; simp
  | c :: l, i, tx, bk => by
    have ih := wideL_len kf l (i + 1) (txB tx bk c) (bkB tx bk c)
    unfold wideL
    have : (outW kf i (partB tx c) c).length ≤ 3 := by
      unfold outW preW posW
      split
      · split <;> simp
      · simp
    rw [List.length_append, List.length_cons]
    omega
/-- The wide text is read as the tree. -/
theorem wide_back {kf : Nat → Nat} {T : VT} (h : Fine 24 T) (hs : sizeT T ≤ 2000) (hl : (jsT T).length ≤ 10000) {t : ByteArray} (ht : t.data.toList = wideL kf (jsT T) 0 false false) : wholeJ t = .ok T := by
  have hw := wide_T (kf := kf) T 0 [] h.2.1
  rw [List.append_nil] at hw
  have hn := wideL_len kf (jsT T) 0 false false
  have hz : t.data.toList.length = t.size := by simp
  refine whole_back (preW_blank kf) (posW_blank kf) h hs ?_ (by rw [← hz, ht]; omega)
  rw [ht, hw]
  show _ ++ [] = _
  rw [List.append_nil]
end Go.Proofs.YtcbcjeabpjjhbaaGreatDoor
namespace Go.Proofs.YtcbcjeabpjjhbaaGreatDoor
open Go.RowKit
set_option linter.unusedVariables false

/-- The value v is a list of these ints, its memory below block B. -/
def IntsAt (B : Nat) (W : World) (v : Value) (zs : List Int) : Prop := ∃ ad cap, v = .slice ad zs.length cap ∧ zs.length ≤ cap ∧ zs.length ≤ 140737488355328 ∧ (∀ z ∈ zs, -9223372036854775808 ≤ z ∧ z ≤ 9223372036854775807) ∧ (0 < zs.length → ∃ g o, ad = some ⟨g, o, none⟩ ∧ g < B ∧ ∀ j (h : j < zs.length), W.cell? ⟨g, o + j, none⟩ = some (.int .i64 zs[j]))
theorem cellsI : Tryz.prog.cellsOf 3 = 1 := by kernel_rfl
theorem bytesI : Tryz.prog.bytesOf 3 = 8 := by kernel_rfl
section
variable {H : Type} {enc : TypeId × Value → H} {w : World} {base : Nat} {sp : Nat → Bool} {hd : Bool}
theorem open_ints {v : Value} {d : DataW H} {ps : List MemPlace} (hv : ∃ a n c, v = .slice a n c) (h0 : DataW.Trod enc Tryz.prog w base sp hd 43 v d ps) (hw : ∀ n ∈ d.weights Tryz.prog 43, n ≤ reachBytes) : ∃ zs, IntsAt w.heap.size w v zs := by
  obtain ⟨a0, n0, c0, rfl⟩ := hv
  obtain ⟨fuel, hf⟩ := h0
  have h : DataW.trod enc Tryz.prog w base sp hd fuel 43 [.slice a0 n0 c0] = some (d, ps) := hf
  rcases DataW.trod_slice Tryz.underlying43 h with ⟨hc, hx⟩ | ⟨a, len, cap, elems, rest, n, rfl, hc, hx, -, hle, -, hel, hat, -, -⟩
  · cases hc
    exact ⟨[], none, 0, rfl, by simp, by simp, ⟨fun z hz => absurd hz (by simp), fun h => absurd h (by simp)⟩⟩
  · obtain ⟨e1, e2, e3⟩ : a0 = some a ∧ n0 = len ∧ c0 = cap := by simpa using hc
    subst e1
    obtain rfl : len = n0 := e2.symm
    obtain rfl : cap = c0 := e3.symm
    have hd1 : d = (.slice (elems.map (·.1)) (rest.map (·.1)) : DataW H) := congrArg Prod.fst hx
    subst hd1
    have hlen : len ≤ 140737488355328 := by
      have := hw ((elems.length + rest.length) * 8) (by simp [DataW.weights, Tryz.underlying43, bytesI])
      unfold reachBytes at this
      omega
    have hall : ∀ i, ∃ s : Int, i < len → w.cell? (a.add i) = some (.int .i64 s) ∧ (-9223372036854775808 ≤ s ∧ s ≤ 9223372036854775807) := fun i => by
      by_cases hi : i < len
      · have h1 := hat i hi
        rw [cellsI, Nat.mul_one, List.getElem?_eq_getElem (by omega)] at h1
        obtain ⟨cs, h2, h3⟩ := Option.bind_eq_some_iff.1 h1
        obtain ⟨-, hl, hcell⟩ := World.cells?_some h2
        obtain ⟨c', rfl⟩ := len1 hl
        obtain ⟨s, hs, -, hwf⟩ := DataW.trod_int Tryz.underlying3 h3
        obtain rfl : c' = .int .i64 s := by simpa using hs
        refine ⟨s, fun _ => ⟨by have := hcell 0 (by omega); simpa [Addr.add] using this, ?_⟩⟩
        simpa [Lit.wf, IntKind.min, IntKind.max, IntKind.signed, IntKind.bits] using hwf
      · exact ⟨0, fun h => absurd h hi⟩
    obtain ⟨f, hf⟩ := Classical.skolem.1 hall
    have hl : ((List.range len).map f).length = len := by simp
    refine ⟨(List.range len).map f, some a, cap, by rw [hl], by omega, by omega, ?_, fun hp => ?_⟩
    · intro z hz
      obtain ⟨i, hi, rfl⟩ := List.mem_map.1 hz
      exact (hf i (by simpa using hi)).2
    · rw [hl] at hp
      obtain ⟨g, o, spot⟩ := a
      have hspot : spot = none := by simpa [Addr.add] using World.cell?_spot (hf 0 hp).1
      subst hspot
      refine ⟨g, o, rfl, World.block_lt_of_cell? w _ (hf 0 hp).1, fun j hj => ?_⟩
      rw [hl] at hj
      have := (hf j hj).1
      rw [add_none] at this
      simpa using this
end
end Go.Proofs.YtcbcjeabpjjhbaaGreatDoor
