/- Plain mathematics of the document's own answers: what is written digit by digit. It speaks of no program · Plain mathematics of the document's own answers, second part: which numeral is the lesser, and what times and parted go through. It speaks of no program · The document's own answers, walked: what only reads: Below, Size, digit, bare, signed, Less -/
import Derived.Lib.IndexBytes
import Derived.Lib.Split
import Derived.WideShapes
import Derived.Sort.Walk0
import Derived.Test.YthmojhfakmdlfaaGreatDoorOr01
import Derived.Test.YthmojhfakmdlfaaGreatDoorOr02
namespace Go.Proofs.YthmojhfakmdlfaaGreatDoor
open Go.Lib

/-- A numeral without the 0s at its front. -/
def bareL : List UInt8 → List UInt8
  | [] => []
  | [c] => [c]
  | c :: d :: l => if c = 48 then bareL (d :: l) else c :: d :: l
theorem dval_cons (c : UInt8) (l : List UInt8) : dval (c :: l) = (c.toNat - 48) * 10 ^ l.length + dval l := by
  have := dval_append [c] l
  rw [List.singleton_append] at this
  rw [this]
  simp [dval]
theorem bareL_dec {l : List UInt8} (h : Digs l) (hne : l ≠ []) : bareL l = decDigits (dval l) := by
  induction l with
  | nil => exact absurd rfl hne
  | cons c l ih =>
    cases l with
    | nil => exact (decDigits_dval ⟨h, by simp, fun h2 => by simp at h2⟩).symm
    | cons d l =>
      unfold bareL
      by_cases hc : c = 48
      · rw [if_pos hc, ih (fun x hx => h x (List.mem_cons_of_mem _ hx)) (by simp), hc, dval_cons 48]
        simp
      · rw [if_neg hc]
        exact (decDigits_dval ⟨h, by simp, fun _ => by simpa using hc⟩).symm

/-- The digit at place i from the right; 0 beyond. -/
def digR (l : List UInt8) (i : Nat) : Nat := match l.reverse[i]? with | some c => c.toNat - 48 | none => 0
theorem digR_dval {l : List UInt8} (h : Digs l) : ∀ i, digR l i = dval l / 10 ^ i % 10 := by
  revert h
  refine snoc_ind (P := fun l => Digs l → ∀ i, digR l i = dval l / 10 ^ i % 10) ?_ ?_ l
  · intro _ i
    simp [digR, dval]
  · intro l c ih hd i
    have hc := hd c (by simp)
    rw [dval_snoc]
    cases i with
    | zero =>
      simp only [digR, List.reverse_append, List.reverse_singleton, List.singleton_append, List.getElem?_cons_zero, Nat.pow_zero, Nat.div_one]
      omega
    | succ i =>
      have h1 := ih hd.left i
      have h2 : digR (l ++ [c]) (i + 1) = digR l i := by
        simp only [digR, List.reverse_append, List.reverse_singleton, List.singleton_append, List.getElem?_cons_succ]
      rw [h2, h1, Nat.pow_succ, Nat.mul_comm (10 ^ i) 10, ← Nat.div_div_eq_div_mul]
      congr 2
      omega

/-- What paper has written of a sum behind i places. -/
def SumIs (m n i : Nat) (out : List UInt8) (carry : Nat) : Prop := Digs out ∧ out.length = i ∧ carry ≤ 1 ∧ dval out + carry * 10 ^ i = m % 10 ^ i + n % 10 ^ i
theorem sum_start (m n : Nat) : SumIs m n 0 [] 0 := ⟨fun _ h => by simp at h, rfl, by omega, by simp [dval, Nat.mod_one]⟩
theorem sum_step {m n i carry d : Nat} {out : List UInt8} (h : SumIs m n i out carry) (hd : d = m / 10 ^ i % 10 + n / 10 ^ i % 10 + carry) : SumIs m n (i + 1) (UInt8.ofNat (48 + d % 10) :: out) (d / 10) := by
  obtain ⟨h1, h2, h3, h4⟩ := h
  have hb : (UInt8.ofNat (48 + d % 10)).toNat = 48 + d % 10 := ofNat_toNat (by omega)
  have h19 : d / 10 ≤ 1 := by omega
  refine ⟨?_, by simp [h2], h19, ?_⟩
  · intro c hc
    rcases List.mem_cons.1 hc with rfl | hc
    · rw [hb]; omega
    · exact h1 c hc
  · rw [dval_cons, hb, h2, Nat.mod_pow_succ, Nat.mod_pow_succ, Nat.add_sub_cancel_left]
    have e1 : 10 ^ i * (m / 10 ^ i % 10) + 10 ^ i * (n / 10 ^ i % 10) + carry * 10 ^ i = d * 10 ^ i := by
      rw [hd, Nat.add_mul, Nat.add_mul, Nat.mul_comm (10 ^ i), Nat.mul_comm (10 ^ i)]
    have e2 : d * 10 ^ i = (d % 10) * 10 ^ i + d / 10 * 10 ^ (i + 1) := by
      rw [Nat.pow_succ, Nat.mul_comm (10 ^ i) 10, ← Nat.mul_assoc, ← Nat.add_mul]
      congr 1
      omega
    omega
theorem sum_end {m n i : Nat} {out : List UInt8} (h : SumIs m n i out 0) (hm : m < 10 ^ i) (hn : n < 10 ^ i) : dval out = m + n := by
  obtain ⟨-, -, -, h4⟩ := h
  rw [Nat.mod_eq_of_lt hm, Nat.mod_eq_of_lt hn] at h4
  omega

/-- What paper has written of a difference behind i places. -/
def DiffIs (m n i : Nat) (out : List UInt8) (borrow : Nat) : Prop := Digs out ∧ out.length = i ∧ borrow ≤ 1 ∧ dval out + n % 10 ^ i = m % 10 ^ i + borrow * 10 ^ i
theorem diff_start (m n : Nat) : DiffIs m n 0 [] 0 := ⟨fun _ h => by simp at h, rfl, by omega, by simp [dval, Nat.mod_one]⟩
theorem diff_step {m n i borrow d b' : Nat} {out : List UInt8} (h : DiffIs m n i out borrow) (hd : d + (n / 10 ^ i % 10) + borrow = m / 10 ^ i % 10 + 10 * b') (hb' : b' ≤ 1) (hd9 : d < 10) : DiffIs m n (i + 1) (UInt8.ofNat (48 + d) :: out) b' := by
  obtain ⟨h1, h2, h3, h4⟩ := h
  have hb : (UInt8.ofNat (48 + d)).toNat = 48 + d := ofNat_toNat (by omega)
  refine ⟨?_, by simp [h2], hb', ?_⟩
  · intro c hc
    rcases List.mem_cons.1 hc with rfl | hc
    · rw [hb]; omega
    · exact h1 c hc
  · rw [dval_cons, hb, h2, Nat.mod_pow_succ, Nat.mod_pow_succ, Nat.add_sub_cancel_left]
    have e1 : d * 10 ^ i + 10 ^ i * (n / 10 ^ i % 10) + borrow * 10 ^ i = 10 ^ i * (m / 10 ^ i % 10) + b' * 10 ^ (i + 1) := by
      rw [Nat.pow_succ, Nat.mul_comm (10 ^ i) (n / 10 ^ i % 10), Nat.mul_comm (10 ^ i) (m / 10 ^ i % 10), ← Nat.add_mul, ← Nat.add_mul, hd, Nat.add_mul, Nat.mul_comm 10 b', Nat.mul_assoc, Nat.mul_comm 10 (10 ^ i)]
    omega
theorem diff_end {m n i : Nat} {out : List UInt8} (h : DiffIs m n i out 0) (hm : m < 10 ^ i) (hn : n ≤ m) : dval out = m - n := by
  obtain ⟨-, -, -, h4⟩ := h
  rw [Nat.mod_eq_of_lt hm, Nat.mod_eq_of_lt (Nat.lt_of_le_of_lt hn hm)] at h4
  omega
/-- When the last place is done nothing is owed. -/
theorem diff_owed {m n i b : Nat} {out : List UInt8} (h : DiffIs m n i out b) (hm : m < 10 ^ i) (hn : n ≤ m) : b = 0 := by
  obtain ⟨h1, h2, h3, h4⟩ := h
  have := dval_lt h1
  rw [h2] at this
  rw [Nat.mod_eq_of_lt hm, Nat.mod_eq_of_lt (Nat.lt_of_le_of_lt hn hm)] at h4
  rcases Nat.eq_zero_or_pos b with h0 | h0
  · exact h0
  · obtain rfl : b = 1 := by omega
    omega
end Go.Proofs.YthmojhfakmdlfaaGreatDoor
namespace Go.Proofs.YthmojhfakmdlfaaGreatDoor
open Go.Lib

theorem uint8_lt (a b : UInt8) : a < b ↔ a.toNat < b.toNat := Iff.rfl
/-- Of digits of one length the lesser as a text is the lesser as a number. -/
theorem digs_lt {a b : List UInt8} (ha : Digs a) (hb : Digs b) (hl : a.length = b.length) : a < b ↔ dval a < dval b := by
  induction a generalizing b with
  | nil =>
    cases b with
    | nil => simp
    | cons y b => simp at hl
  | cons x a ih =>
    cases b with
    | nil => simp at hl
    | cons y b =>
      have hx := ha x (by simp)
      have hy := hb y (by simp)
      have ha' : Digs a := fun c hc => ha c (List.mem_cons_of_mem _ hc)
      have hb' : Digs b := fun c hc => hb c (List.mem_cons_of_mem _ hc)
      have hl' : a.length = b.length := by simpa using hl
      have h1 := dval_lt ha'
      have h2 := dval_lt hb'
      rw [List.cons_lt_cons_iff, ih ha' hb' hl', dval_cons, dval_cons, hl', uint8_lt, ← UInt8.toNat_inj]
      rw [hl'] at h1
      obtain ⟨P, hP⟩ : ∃ P, 10 ^ b.length = P := ⟨_, rfl⟩
      rw [hP] at h1 h2 ⊢
      rcases Nat.lt_trichotomy x.toNat y.toNat with h | h | h
      · have : (x.toNat - 48) * P + P ≤ (y.toNat - 48) * P := by
          rw [← Nat.succ_mul]; exact Nat.mul_le_mul_right _ (by omega)
        exact ⟨fun _ => by omega, fun _ => .inl h⟩
      · rw [h]
        constructor
        · rintro (h' | ⟨-, h'⟩)
          · omega
          · omega
        · intro h'; exact .inr ⟨rfl, by omega⟩
      · have : (y.toNat - 48) * P + P ≤ (x.toNat - 48) * P := by
          rw [← Nat.succ_mul]; exact Nat.mul_le_mul_right _ (by omega)
        constructor
        · rintro (h' | ⟨h', -⟩)
          · omega
          · omega
        · intro h'; omega
theorem nDigits_mono {m n : Nat} (h : m ≤ n) : nDigits m ≤ nDigits n := nDigits_le (nDigits_pos n) (Nat.lt_of_le_of_lt h (lt_pow_nDigits n))
theorem nDigits_lt {m n : Nat} (h : nDigits m < nDigits n) : m < n := by
  rcases Nat.lt_or_ge m n with h' | h'
  · exact h'
  · have := nDigits_mono h'; omega
theorem dec_lt {m n : Nat} (h : nDigits m = nDigits n) : decDigits m < decDigits n ↔ m < n := by
  rw [digs_lt (digs_decDigits m) (digs_decDigits n) (by rw [decDigits_length, decDigits_length, h]), dval_decDigits, dval_decDigits]

/-- A numeral's digit at a place. -/
theorem dec_at (m i : Nat) (h : i < nDigits m) : ((decDigits m)[nDigits m - 1 - i]'(by rw [decDigits_length]; omega)).toNat - 48 = m / 10 ^ i % 10 ∧ 48 ≤ ((decDigits m)[nDigits m - 1 - i]'(by rw [decDigits_length]; omega)).toNat ∧ ((decDigits m)[nDigits m - 1 - i]'(by rw [decDigits_length]; omega)).toNat ≤ 57 := by
  have h1 := digR_dval (digs_decDigits m) i
  rw [dval_decDigits] at h1
  refine ⟨?_, digs_decDigits m _ (List.getElem_mem _)⟩
  rw [← h1]
  have e : (decDigits m).length - 1 - i = nDigits m - 1 - i := by rw [decDigits_length]
  have h2 : (decDigits m).reverse[i]? = (decDigits m)[nDigits m - 1 - i]? := by rw [← e]; exact List.getElem?_reverse (by rw [decDigits_length]; exact h)
  have h3 : (decDigits m)[nDigits m - 1 - i]? = some ((decDigits m)[nDigits m - 1 - i]'(by rw [decDigits_length]; omega)) := List.getElem?_eq_getElem _
  unfold digR
  rw [h2, h3]
theorem dec_beyond (m i : Nat) (h : nDigits m ≤ i) : m / 10 ^ i % 10 = 0 := by
  have h1 := lt_pow_nDigits m
  have h2 : m < 10 ^ i := Nat.lt_of_lt_of_le h1 (Nat.pow_le_pow_right (by omega) h)
  rw [Nat.div_eq_of_lt h2]

/-- The number of a numeral's first k digits. -/
def front (m k : Nat) : Nat := m / 10 ^ (nDigits m - k)
theorem front_zero (m : Nat) : front m 0 = 0 := Nat.div_eq_of_lt (by have := lt_pow_nDigits m; simpa [front] using this)
theorem front_all (m : Nat) : front m (nDigits m) = m := by simp [front]
theorem front_succ {m k : Nat} (h : k < nDigits m) : front m (k + 1) = front m k * 10 + (((decDigits m)[k]'(by rw [decDigits_length]; exact h)).toNat - 48) := by
  have h1 := (dec_at m (nDigits m - 1 - k) (by omega)).1
  have e : nDigits m - 1 - (nDigits m - 1 - k) = k := by omega
  simp only [e] at h1
  rw [h1]
  unfold front
  rw [show nDigits m - k = nDigits m - 1 - k + 1 by omega, show nDigits m - (k + 1) = nDigits m - 1 - k by omega, Nat.pow_succ, Nat.mul_comm (10 ^ _) 10, Nat.mul_comm 10 (10 ^ _), ← Nat.div_div_eq_div_mul]
  omega
theorem front_le (m k : Nat) : front m k ≤ m := Nat.div_le_self _ _
end Go.Proofs.YthmojhfakmdlfaaGreatDoor
namespace Go.Proofs.YthmojhfakmdlfaaGreatDoor
open Go.RowKit

theorem refBelow_any (s : ByteArray) (h : 0 < s.size) (w : World) : Calls Tryz.prog 81 #[.string s] w fun e w' => e = .returned (.bool ((s[0].toNat : Int) == 45)) ∧ w = w' := by
  go_enter Tryz.func81, Tryz.ntmps81
  go_wp2
  go_ret
  exact ⟨rfl, rfl⟩

theorem refDigit_in (s : ByteArray) (i j : Nat) (hs : s.size ≤ 1000000) (hi : s.size = i + 1 + j) (h48 : 48 ≤ (s[j]).toNat) (w : World) : Calls Tryz.prog 145 #[.string s, .int .i64 i] w fun e w' => e = .returned (.int .i64 (((s[j]).toNat : Int) - 48)) ∧ w = w' := by
  have hj' : j < s.size := by omega
  have hji : ((s.size : Int) - 1 - (i : Int)) = (j : Int) := by omega
  have h256 := UInt8.toNat_lt (s[j])
  obtain ⟨x, hx⟩ : ∃ x, (s[j]).toNat = x := ⟨_, rfl⟩
  rw [hx] at h48 h256 ⊢
  clear hi
  go_enter Tryz.func145, Tryz.ntmps145
  go_wp2
  go_ret
  exact ⟨rfl, rfl⟩
theorem refDigit_out (s : ByteArray) (i : Nat) (hi : s.size ≤ i) (w : World) : Calls Tryz.prog 145 #[.string s, .int .i64 i] w fun e w' => e = .returned (.int .i64 0) ∧ w = w' := by
  go_enter Tryz.func145, Tryz.ntmps145
  go_wp2
  go_ret
  exact ⟨rfl, rfl⟩

theorem refSize_neg (s : ByteArray) (h : 0 < s.size) (hm : (s[0].toNat : Int) = 45) (w : World) : Calls Tryz.prog 117 #[.string s] w fun e w' => e = .returned (.string (s.extract 1 s.size)) ∧ w = w' := by
  have HB := Lib.hid (fun W => refBelow_any s h W)
  rw [beq_iff_eq.2 hm] at HB
  go_enter Tryz.func117, Tryz.ntmps117
  go_wp2_with (go_at_call 81; refine (HB.out _).mono ?_; rintro e w' ⟨rfl, rfl⟩)
  go_ret
  exact ⟨rfl, rfl⟩
theorem refSize_pos (s : ByteArray) (h : 0 < s.size) (hm : (s[0].toNat : Int) ≠ 45) (w : World) : Calls Tryz.prog 117 #[.string s] w fun e w' => e = .returned (.string s) ∧ w = w' := by
  have HB := Lib.hid (fun W => refBelow_any s h W)
  rw [beq_eq_false_iff_ne.2 hm] at HB
  go_enter Tryz.func117, Tryz.ntmps117
  go_wp2_with (go_at_call 81; refine (HB.out _).mono ?_; rintro e w' ⟨rfl, rfl⟩)
  go_ret
  exact ⟨rfl, rfl⟩

theorem refSigned_plain (b : Bool) (s : ByteArray) (h : b = false ∨ (s.toList == [48]) = true) (w : World) : Calls Tryz.prog 115 #[.bool b, .string s] w fun e w' => e = .returned (.string s) ∧ w = w' := by
  cases b
  · clear h
    go_enter Tryz.func115, Tryz.ntmps115
    go_wp2
    go_ret
    exact ⟨rfl, rfl⟩
  · have h' : (s.toList == [48]) = true := by simpa using h
    clear h
    go_enter Tryz.func115, Tryz.ntmps115
    go_wp2
    go_ret
    exact ⟨rfl, rfl⟩
theorem refSigned_minus (s : ByteArray) (h : (s.toList == [48]) = false) (hs : s.size ≤ 1000000) (w : World) : Calls Tryz.prog 115 #[.bool true, .string s] w fun e w' => e = .returned (.string (⟨#[45]⟩ ++ s)) ∧ w = w' := by
  go_enter Tryz.func115, Tryz.ntmps115
  go_wp2
  go_ret
  exact ⟨rfl, rfl⟩

theorem refLess_len (a b : ByteArray) (h : a.size ≠ b.size) (w : World) : Calls Tryz.prog 118 #[.string a, .string b] w fun e w' => e = .returned (.bool (decide (a.size < b.size))) ∧ w = w' := by
  have hne : ((a.size : Int) == (b.size : Int)) = false := beq_eq_false_iff_ne.2 (by omega)
  go_enter Tryz.func118, Tryz.ntmps118
  go_wp2
  go_ret
  exact ⟨rfl, rfl⟩
theorem refLess_eq (a b : ByteArray) (h : a.size = b.size) (w : World) : Calls Tryz.prog 118 #[.string a, .string b] w fun e w' => e = .returned (.bool (decide (a.data.toList < b.data.toList))) ∧ w = w' := by
  have hne : ((a.size : Int) == (b.size : Int)) = true := beq_iff_eq.2 (by omega)
  go_enter Tryz.func118, Tryz.ntmps118
  go_wp2
  go_ret
  refine ⟨?_, rfl⟩
  rw [← ByteArray.toList_eq, ← ByteArray.toList_eq, ← bytesLess_eq]
  rfl

theorem byte0 {d : ByteArray} (h : 0 < d.size) : d.data.toList[0]? = some d[0] := by
  rw [List.getElem?_eq_getElem (by rw [bytes_len]; exact h)]
  rfl
theorem bareL_drop {l : List UInt8} (h : 1 < l.length) (h0 : l[0]? = some 48) : bareL (l.drop 1) = bareL l := by
  match l, h, h0 with
  | [], hl, _ => simp at hl
  | [x], hl, _ => simp at hl
  | x :: y :: l, _, h0 =>
    simp at h0
    subst h0
    simp [bareL]
theorem bareL_keep {l : List UInt8} {c : UInt8} (h0 : l[0]? = some c) (hc : c ≠ 48) : bareL l = l := by
  match l, h0 with
  | [], _ => rfl
  | [x], _ => rfl
  | x :: y :: l, h0 =>
    simp at h0
    subst h0
    simp [bareL, hc]
theorem bareL_short {l : List UInt8} (h : l.length ≤ 1) : bareL l = l := by
  match l, h with
  | [], _ => rfl
  | [x], _ => rfl
  | x :: y :: l, hl => simp at hl
theorem bareL_step {d : ByteArray} (h : 1 < d.size) (hc : d[0].toNat = 48) : bareL (d.extract 1 d.size).data.toList = bareL d.data.toList := by
  rw [Lib.extract_to_end d 1]
  exact bareL_drop (by rw [bytes_len]; exact h) ((byte0 (by omega)).trans (congrArg some (UInt8.toNat_inj.1 hc)))
theorem bareL_stop {d : ByteArray} (h : 1 < d.size) (hc : d[0].toNat ≠ 48) : bareL d.data.toList = d.data.toList :=
  bareL_keep (byte0 (by omega)) (fun e => hc (by rw [e]; rfl))
theorem bareL_one {d : ByteArray} (h : d.size = 1) : bareL d.data.toList = d.data.toList := bareL_short (by rw [bytes_len]; omega)
theorem bytes_of {d : ByteArray} {l : List UInt8} (h : d.data.toList = l) : d = ⟨l.toArray⟩ := WideShapes.bytes_inj (by rw [← h])

theorem refBare_any (s : ByteArray) (h : 0 < s.size) (_hl : s.size ≤ 1000000) (w : World) : Calls Tryz.prog 146 #[.string s] w fun e w' => e = .returned (.string ⟨(bareL s.data.toList).toArray⟩) ∧ w = w' := by
  go_enter Tryz.func146, Tryz.ntmps146
  go_wp2
  go_loop [0] (fun v => ∃ d : ByteArray, v = .string d ∧ 0 < d.size ∧ d.size ≤ s.size ∧ Hid (bareL d.data.toList = bareL s.data.toList)) (fun v => match v with | .string d => d.size | _ => 0)
  case atStart => exact ⟨s, rfl, h, Nat.le_refl _, Lib.hid rfl⟩
  case round =>
    obtain ⟨d, rfl, h0, hds, HD⟩ := hrel
    by_cases h1 : 1 < d.size
    · by_cases hc : d[0].toNat = 48
      · go_wp2
        go_round
        case rel => exact ⟨_, rfl, by simp; omega, by simp; omega, Lib.hid (by rw [bareL_step h1 hc, HD.out])⟩
        case measure => simp; omega
      · have HE := Lib.hid (bytes_of ((bareL_stop h1 hc).symm.trans HD.out))
        go_wp2
        go_ret
        exact ⟨congrArg (fun x => Ending.returned (.string x)) HE.out, rfl⟩
    · have HE := Lib.hid (bytes_of ((bareL_one (by omega)).symm.trans HD.out))
      go_wp2
      go_ret
      exact ⟨congrArg (fun x => Ending.returned (.string x)) HE.out, rfl⟩
end Go.Proofs.YthmojhfakmdlfaaGreatDoor
