/- readSize: digits as limbs · Plain mathematics for sums, differences and products by limbs. It speaks of no program -/
import Derived.Lib.IndexBytes
import Derived.Lib.Split
import Derived.Test.YtjgbhnbfojkhoaaDoorMk01
import Derived.Test.YtjgbhnbfojkhoaaDoorMk02
namespace Go.Proofs.YtjgbhnbfojkhoaaDoor
open Go.RowKit

/-- What readSize has read when the first digits of d are left. -/
def Rd (s d : ByteArray) (ls : List Nat) : Prop := d.data.toList = s.data.toList.take d.size ∧ (s.size = d.size + 9 * ls.length ∨ d.size = 0) ∧ Low ls ∧ lval ls = dval (s.data.toList.drop d.size)

theorem Rd.piece {s d p : ByteArray} {ls : List Nat} (h : Rd s d ls) (hd : Digs s.data.toList) {c : Nat} (hp : p.data.toList = d.data.toList.drop c) (hc9 : d.size ≤ c + 9) :
    Digs p.data.toList ∧ p.data.toList.length ≤ 9 := by
  obtain ⟨h1, _⟩ := h
  rw [hp, h1]
  refine ⟨(hd.take _).drop _, ?_⟩
  rw [List.length_drop, List.length_take]
  omega

theorem Rd.step {s d p d' : ByteArray} {ls : List Nat} (h : Rd s d ls) (hd : Digs s.data.toList) {c : Nat} (hp : p.data.toList = d.data.toList.drop c) (hd' : d'.data.toList = d.data.toList.take c) (hc : c ≤ d.size) (hc9 : c + 9 = d.size ∨ c = 0) (h9 : d.size ≤ c + 9) (h0 : 0 < d.size) (hs : d.size ≤ s.size) :
    Rd s d' (ls ++ [dval p.data.toList]) ∧ d'.size = c := by
  obtain ⟨h1, h2, h3, h4⟩ := h
  have hsz : d'.size = c := by rw [← bytes_len, hd', List.length_take, bytes_len]; omega
  rw [h1] at hp hd'
  refine ⟨⟨?_, ?_, ?_, ?_⟩, hsz⟩
  · rw [hsz, hd', List.take_take, Nat.min_eq_left hc]
  · rw [hsz, List.length_append, List.length_singleton]
    rcases hc9 with e | e
    · left; omega
    · right; exact e
  · refine h3.snoc ?_
    rw [hp]
    exact dval_small ((hd.take _).drop _) (by rw [List.length_drop, List.length_take]; omega)
  · rw [hsz, lval_append, h4, hp]
    have e1 : s.data.toList.drop c = (s.data.toList.take d.size).drop c ++ s.data.toList.drop d.size := by
      rw [← List.drop_append_of_le_length (by rw [List.length_take, bytes_len]; omega), List.take_append_drop]
    rw [e1, dval_append, List.length_drop, bytes_len]
    have e2 : (10 : Nat) ^ (s.size - d.size) = 1000000000 ^ ls.length := by
      rw [show (1000000000 : Nat) = 10 ^ 9 by decide, ← Nat.pow_mul]
      congr 1
      omega
    rw [e2]
    simp only [lval]
    rw [Nat.mul_comm (dval _) _, Nat.mul_zero, Nat.add_zero, Nat.add_comm]

/-- What readSize answers. -/
def Reads (lo : Nat) (w : World) (n : Nat) (e : Ending) (w' : World) : Prop := ∃ v, e = .returned v ∧ Sz lo w' v n ∧ Below lo w w'

set_option maxHeartbeats 400000 in
theorem readSize_any (s : ByteArray) (w : World) (hd : Digs s.data.toList) (hl : s.size ≤ 1000000) :
    Calls Tryd.prog 68 #[.string s] w fun e w' => Reads w.heap.size w (dval s.data.toList) e w' := by
  obtain ⟨i0, hi, hz0, hz1, hz2⟩ := info_parts Tryd.infoU64
  obtain ⟨lo, hlo⟩ : ∃ lo, w.heap.size = lo := ⟨_, rfl⟩
  rw [hlo]
  have HLO : lo ≤ w.heap.size := by omega
  clear hlo
  go_enter Tryd.func68, Tryd.ntmps68
  go_wp2
  go_loopw [0, 3] (fun a v wr => ∃ (d : ByteArray) (ls : List Nat), a = .string d ∧ d.size ≤ s.size ∧ ls.length ≤ s.size - d.size ∧ Rd s d ls ∧ Own lo wr v ls ∧ Below lo w wr) (fun a _ _ => match a with | .string d => d.size | _ => 0)
  case atStart => exact ⟨s, [], rfl, Nat.le_refl _, by simp, ⟨by rw [← bytes_len, List.take_length], .inl (by simp), by simp [Low], by rw [← bytes_len, List.drop_length]; rfl⟩, Own.nil, Below.refl _ _⟩
  case round =>
    obtain ⟨d, ls, rfl, hds, hls, hrd, hown, hbel⟩ := hrel
    by_cases h0 : 0 < d.size
    · by_cases h9 : d.size ≤ 9
      · have HP := Lib.hid (hrd.piece (p := d) hd (c := 0) rfl (by omega))
        have HS := Lib.hid (hrd.step (p := d) (d' := ByteArray.empty) hd (c := 0) rfl rfl (by omega) (.inr rfl) (by omega) h0 hds)
        obtain ⟨x, hx⟩ : ∃ x, x = dval d.data.toList := ⟨_, rfl⟩
        rw [← hx] at HS
        have HR : Hid (∀ W, Calls Tryd.prog 87 #[.string d] W fun e w' => e = .returned (.int .u64 ((x : Nat) : Int)) ∧ W = w') := Lib.hid (by intro W; rw [hx]; exact readLimb_any _ _ HP.out.1 HP.out.2)
        clear hx HP hrd
        go_wp2_with (first
          | (go_at_call 87; refine (HR.out _).mono ?_; rintro e w' ⟨rfl, rfl⟩)
          | (at_builtin; refine wpList_append_own _ rfl _ _ 76 rfl lo 100 i0 (.int .u64 0) 1 8 Tryd.underlying76 hi hz0 hz1 hz2 rfl (by decide) _ _ _ rfl (hown.row.alloc _) ⟨wr.heap.size, 0, none⟩ 1 1 [.int .u64 (x : Int)] rfl rfl (cell_box _ _ _) (by intro u hu; simp at hu; subst hu; rfl) (by unfold maxLen; omega) (by omega) (by have := hbel.size; simp; omega) ?_; intro v' w1 hown' hgrow _))
        go_roundw
        case rel => exact ⟨_, ls ++ [x], rfl, by rw [HS.out.2]; omega, by rw [HS.out.2, List.length_append, List.length_singleton]; omega, HS.out.1, Own.snoc hown', (hbel.alloc (Nat.le_trans HLO hbel.size) _).grown hgrow (by have := hbel.size; simp; omega) (fun k hk => (hown.lt hk).1)⟩
        case measure => simp; try omega
      · have h9' : 9 < d.size := by omega
        obtain ⟨p, hp⟩ : ∃ p, p = d.extract (d.size - 9) d.size := ⟨_, rfl⟩
        have hpd : p.data.toList = d.data.toList.drop (d.size - 9) := by rw [hp]; exact Lib.extract_to_end d _
        have HP := Lib.hid (hrd.piece (p := p) hd (c := d.size - 9) hpd (by omega))
        have HS := Lib.hid (hrd.step (p := p) (d' := d.extract 0 (d.size - 9)) hd (c := d.size - 9) hpd (Lib.extract_from_zero d _) (by omega) (.inl (by omega)) (by omega) h0 hds)
        obtain ⟨x, hx⟩ : ∃ x, x = dval p.data.toList := ⟨_, rfl⟩
        rw [← hx] at HS
        have HR : Hid (∀ W, Calls Tryd.prog 87 #[.string (d.extract (d.size - 9) d.size)] W fun e w' => e = .returned (.int .u64 ((x : Nat) : Int)) ∧ W = w') := Lib.hid (by intro W; rw [hx, ← hp]; exact readLimb_any _ _ HP.out.1 HP.out.2)
        clear hx HP hrd hp hpd
        go_wp2_with (first
          | (go_at_call 87; refine (HR.out _).mono ?_; rintro e w' ⟨rfl, rfl⟩)
          | (at_builtin; refine wpList_append_own _ rfl _ _ 76 rfl lo 100 i0 (.int .u64 0) 1 8 Tryd.underlying76 hi hz0 hz1 hz2 rfl (by decide) _ _ _ rfl (hown.row.alloc _) ⟨wr.heap.size, 0, none⟩ 1 1 [.int .u64 (x : Int)] rfl rfl (cell_box _ _ _) (by intro u hu; simp at hu; subst hu; rfl) (by unfold maxLen; omega) (by omega) (by have := hbel.size; simp; omega) ?_; intro v' w1 hown' hgrow _))
        go_roundw
        case rel => exact ⟨_, ls ++ [x], rfl, by rw [HS.out.2]; omega, by rw [HS.out.2, List.length_append, List.length_singleton]; omega, HS.out.1, Own.snoc hown', (hbel.alloc (Nat.le_trans HLO hbel.size) _).grown hgrow (by have := hbel.size; simp; omega) (fun k hk => (hown.lt hk).1)⟩
        case measure => simp; try omega
    · have hF : Low ls ∧ lval ls = dval s.data.toList := ⟨hrd.2.2.1, by rw [hrd.2.2.2, show d.size = 0 by omega]; rfl⟩
      have HF := Lib.hid hF
      clear hrd hF
      go_wp2_with (go_at_call 88; refine (trimmed_any hown HF.out.1).mono ?_; rintro e w' ⟨v, rfl, hsz, rfl⟩)
      go_ret
      rw [HF.out.2] at hsz
      exact ⟨_, rfl, hsz, hbel⟩

end Go.Proofs.YtjgbhnbfojkhoaaDoor
namespace Go.Proofs.YtjgbhnbfojkhoaaDoor

/-- A number's limb at place k. -/
def lim (x k : Nat) : Nat := x / 1000000000 ^ k % 1000000000
/-- What its first k limbs say. -/
def low (x k : Nat) : Nat := x % 1000000000 ^ k

theorem lim_lt (x k : Nat) : lim x k < 1000000000 := Nat.mod_lt _ (by omega)

theorem limbs_getD (x k : Nat) : (limbs x).getD k 0 = lim x k := by
  induction k generalizing x with
  | zero =>
    by_cases h : x = 0
    · subst h; rw [limbs_zero]; simp [lim]
    · rw [limbs_pos h]; simp [lim]
  | succ k ih =>
    by_cases h : x = 0
    · subst h; rw [limbs_zero]; simp [lim]
    · rw [limbs_pos h]
      have := ih (x / 1000000000)
      simp only [List.getD_cons_succ]
      rw [this]
      unfold lim
      rw [Nat.div_div_eq_div_mul, Nat.pow_succ, Nat.mul_comm]

theorem low_zero (x : Nat) : low x 0 = 0 := by unfold low; rw [Nat.pow_zero, Nat.mod_one]
theorem low_succ (x k : Nat) : low x (k + 1) = low x k + 1000000000 ^ k * lim x k := by unfold low lim; rw [Nat.mod_pow_succ]
theorem low_lt (x k : Nat) : low x k < 1000000000 ^ k := Nat.mod_lt _ (Nat.pow_pos (by omega))
theorem low_all {x k : Nat} (h : (limbs x).length ≤ k) : low x k = x := by
  unfold low
  refine Nat.mod_eq_of_lt ?_
  have := lval_lt (low_limbs x)
  rw [lval_limbs] at this
  exact Nat.lt_of_lt_of_le this (Nat.pow_le_pow_right (by omega) h)

theorem carry_eq (P t : Nat) : P * (t % 1000000000) + P * 1000000000 * (t / 1000000000) = P * t := by
  rw [Nat.mul_assoc, ← Nat.mul_add, Nat.add_comm, Nat.div_add_mod]

/-- One limb of a sum. -/
theorem add_step {x y k c : Nat} {ls : List Nat} (hl : ls.length = k) (h : lval ls + 1000000000 ^ k * c = low x k + low y k) :
    lval (ls ++ [(lim x k + lim y k + c) % 1000000000]) + 1000000000 ^ (k + 1) * ((lim x k + lim y k + c) / 1000000000) = low x (k + 1) + low y (k + 1) := by
  rw [lval_append, hl, low_succ, low_succ]
  simp only [lval, Nat.mul_zero, Nat.add_zero]
  have := carry_eq (1000000000 ^ k) (lim x k + lim y k + c)
  rw [Nat.pow_succ]
  rw [Nat.mul_add, Nat.mul_add] at this
  omega

/-- One limb of a difference. -/
theorem sub_step {x y k b : Nat} {ls : List Nat} (hl : ls.length = k) (hb : b ≤ 1) (h : low x k + 1000000000 ^ k * b = lval ls + low y k) :
    low x (k + 1) + 1000000000 ^ (k + 1) * (1 - (1000000000 + lim x k - lim y k - b) / 1000000000) = lval (ls ++ [(1000000000 + lim x k - lim y k - b) % 1000000000]) + low y (k + 1) := by
  have hx := lim_lt x k
  have hy := lim_lt y k
  rw [lval_append, hl, low_succ, low_succ]
  simp only [lval, Nat.mul_zero, Nat.add_zero]
  obtain ⟨t, ht⟩ : ∃ t, 1000000000 + lim x k - lim y k - b = t := ⟨_, rfl⟩
  rw [ht]
  have h1 := carry_eq (1000000000 ^ k) t
  have h2 : t / 1000000000 ≤ 1 := by omega
  rw [Nat.pow_succ, Nat.mul_sub]
  have h3 : lim x k + 1000000000 = t + lim y k + b := by omega
  have h4 : 1000000000 ^ k * lim x k + 1000000000 ^ k * 1000000000 = 1000000000 ^ k * t + 1000000000 ^ k * lim y k + 1000000000 ^ k * b := by
    rw [← Nat.mul_add, h3, Nat.mul_add, Nat.mul_add]
  have h5 : 1000000000 ^ k * 1000000000 * (t / 1000000000) ≤ 1000000000 ^ k * 1000000000 * 1 := Nat.mul_le_mul_left _ h2
  omega

theorem sub_done {x y k b : Nat} {ls : List Nat} (hl : ls.length = k) (hlow : Low ls) (hb : b ≤ 1) (hxy : y ≤ x) (hk : (limbs x).length ≤ k) (h : low x k + 1000000000 ^ k * b = lval ls + low y k) : lval ls = x - y := by
  rw [low_all hk] at h
  have hy : low y k = y := by
    unfold low
    refine Nat.mod_eq_of_lt ?_
    have := low_lt x k
    rw [low_all hk] at this
    omega
  rw [hy] at h
  have := lval_lt hlow
  rw [hl] at this
  rcases (show b = 0 ∨ b = 1 by omega) with rfl | rfl
  · omega
  · omega

theorem set_app {ls : List Nat} {m x : Nat} (hm : 0 < m) : (ls ++ List.replicate m 0).set ls.length x = (ls ++ [x]) ++ List.replicate (m - 1) 0 := by
  obtain ⟨m, rfl⟩ : ∃ n, m = n + 1 := ⟨m - 1, by omega⟩
  simp [List.replicate_succ]

theorem lval_set {l : List Nat} {n x : Nat} (h : n < l.length) : lval (l.set n x) + 1000000000 ^ n * l.getD n 0 = lval l + 1000000000 ^ n * x := by
  induction l generalizing n with
  | nil => simp at h
  | cons y l ih =>
    match n with
    | 0 => simp [lval]; omega
    | n + 1 =>
      have := @ih n (by simpa using h)
      simp only [List.set_cons_succ, lval, List.getD_cons_succ, Nat.pow_succ]
      rw [Nat.mul_comm (1000000000 ^ n) 1000000000, Nat.mul_assoc, Nat.mul_assoc]
      omega

theorem Low.set {l : List Nat} (h : Low l) (n : Nat) {x : Nat} (hx : x < 1000000000) : Low (l.set n x) := fun y hy => by
  rcases List.mem_or_eq_of_mem_set hy with h1 | h1
  · exact h y h1
  · omega
theorem getD_set_ne {l : List Nat} {n m x : Nat} (h : n ≠ m) : (l.set n x).getD m 0 = l.getD m 0 := by simp [List.getD, List.getElem?_set_ne h]

/-- One limb of a row of a product. -/
theorem mul_step {L : List Nat} {A y i j c p : Nat} (hj : i + j < L.length) (h : lval L + 1000000000 ^ (i + j) * c = A + 1000000000 ^ i * (p * low y j)) :
    lval (L.set (i + j) ((L.getD (i + j) 0 + p * lim y j + c) % 1000000000)) + 1000000000 ^ (i + (j + 1)) * ((L.getD (i + j) 0 + p * lim y j + c) / 1000000000) = A + 1000000000 ^ i * (p * low y (j + 1)) := by
  have h1 := lval_set (x := (L.getD (i + j) 0 + p * lim y j + c) % 1000000000) hj
  have h2 := carry_eq (1000000000 ^ (i + j)) (L.getD (i + j) 0 + p * lim y j + c)
  rw [low_succ, ← Nat.add_assoc, Nat.pow_succ, Nat.mul_add p, Nat.mul_add (1000000000 ^ i)]
  have h3 : 1000000000 ^ i * (p * (1000000000 ^ j * lim y j)) = 1000000000 ^ (i + j) * (p * lim y j) := by
    rw [Nat.pow_add, Nat.mul_left_comm p, Nat.mul_assoc]
  rw [h3]
  rw [Nat.mul_add, Nat.mul_add] at h2
  omega

/-- One row of a product. -/
theorem mul_row {L : List Nat} {x y i lb c : Nat} (hi : i + lb < L.length) (hlb : (limbs y).length ≤ lb) (hz : L.getD (i + lb) 0 = 0) (h : lval L + 1000000000 ^ (i + lb) * c = low x i * y + 1000000000 ^ i * (lim x i * low y lb)) :
    lval (L.set (i + lb) c) = low x (i + 1) * y := by
  have h1 := lval_set (x := c) hi
  rw [hz, Nat.mul_zero, Nat.add_zero] at h1
  rw [h1, h, low_all hlb, low_succ, Nat.add_mul, Nat.mul_assoc]

theorem mul_bound {l p q c : Nat} (hl : l < 1000000000) (hp : p < 1000000000) (hq : q < 1000000000) (hc : c < 1000000000) : p * q ≤ 999999998000000001 ∧ (l + p * q + c) / 1000000000 < 1000000000 := by
  have h : p * q ≤ 999999999 * 999999999 := Nat.mul_le_mul (by omega) (by omega)
  constructor
  · omega
  · omega

/-- Fewer limbs: less. -/
theorem len_lt {x y : Nat} (h : (limbs x).length < (limbs y).length) : x < y := by
  have h1 := lval_lt (low_limbs x)
  rw [lval_limbs] at h1
  rcases Nat.lt_or_ge x y with h2 | h2
  · exact h2
  · exfalso
    have := limbs_length (n := y) (k := (limbs x).length) (by omega)
    omega

/-- All from place k on. -/
def high (x k : Nat) : Nat := x / 1000000000 ^ k
theorem high_step (x k : Nat) : high x k = high x (k + 1) * 1000000000 + lim x k := by
  unfold high lim
  rw [Nat.pow_succ, ← Nat.div_div_eq_div_mul]
  omega
theorem high_lt {x y k : Nat} (h : high x k < high y k) : x < y := Nat.lt_of_div_lt_div h
theorem high_zero (x : Nat) : high x 0 = x := by unfold high; simp
theorem high_out {x k : Nat} (h : (limbs x).length ≤ k) : high x k = 0 := by
  unfold high
  have := lval_lt (low_limbs x)
  rw [lval_limbs] at this
  exact Nat.div_eq_of_lt (Nat.lt_of_lt_of_le this (Nat.pow_le_pow_right (by omega) h))
theorem high_same {x y n k : Nat} (hx : (limbs x).length ≤ n) (hy : (limbs y).length ≤ n) (hk : k ≤ n) (h : ∀ j, j < k → lim x (n - 1 - j) = lim y (n - 1 - j)) : high x (n - k) = high y (n - k) := by
  induction k with
  | zero => rw [high_out (by omega), high_out (by omega)]
  | succ k ih =>
    have h1 := ih (by omega) (fun j hj => h j (by omega))
    have h2 := h k (by omega)
    rw [high_step, high_step y, show n - (k + 1) + 1 = n - k by omega, h1, show n - (k + 1) = n - 1 - k by omega, h2]

/-- The limbs of any list whose limbs are low. -/
theorem getD_low {L : List Nat} (h : Low L) (k : Nat) : L.getD k 0 = lim (lval L) k := by
  induction L generalizing k with
  | nil => simp [lim, lval]
  | cons x L ih =>
    have hx := h.head
    match k with
    | 0 => simp only [List.getD_cons_zero, lim, lval, Nat.pow_zero, Nat.div_one]; omega
    | k + 1 =>
      simp only [List.getD_cons_succ]
      rw [ih h.tail k]
      unfold lim
      simp only [lval]
      rw [Nat.pow_succ, Nat.mul_comm (1000000000 ^ k) 1000000000, ← Nat.div_div_eq_div_mul, show (x + 1000000000 * lval L) / 1000000000 = lval L by omega]
theorem limbs_short {L : List Nat} (h : Low L) : (limbs (lval L)).length ≤ L.length := limbs_length (lval_lt h)

theorem lval_zeros (n : Nat) : lval (List.replicate n 0) = 0 := by
  induction n with
  | zero => rfl
  | succ n ih => rw [List.replicate_succ, lval, ih]

end Go.Proofs.YtjgbhnbfojkhoaaDoor
