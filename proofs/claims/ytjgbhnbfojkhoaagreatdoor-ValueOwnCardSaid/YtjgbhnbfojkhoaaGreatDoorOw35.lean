/- What value.Put and value.Drop hand to Concat; what they answer -/
import Derived.Deep.RegionHeld3
import Derived.Test.YtjgbhnbfojkhoaaGreatDoorOw32
import Derived.Test.YtjgbhnbfojkhoaaGreatDoorOw33
import Derived.Test.YtjgbhnbfojkhoaaGreatDoorOw34
namespace Go.Proofs.YtjgbhnbfojkhoaaGreatDoor
open Go.RowKit
set_option linter.unusedVariables false

theorem row_mono {w : World} {base base' : Nat} {e : TypeId} {size : Nat} {v : Value} {n : Nat} {xs : List Value} (h : w.ownsRow base e size v n xs) (hb : base' ≤ base) : w.ownsRow base' e size v n xs := by
  obtain ⟨h1, h2⟩ := h
  refine ⟨h1, ?_⟩
  rcases h2 with h2 | ⟨g, cap, cur, rfl, h3, h4, h5⟩
  · exact .inl h2
  · exact .inr ⟨g, cap, cur, rfl, Nat.le_trans hb h3, h4, h5⟩
theorem part_head {B : Nat} {W : World} {ad : Option Addr} {n cap p : Nat} {ks : List ByteArray} (h : StrsAt B W (.slice ad n cap) ks) (hB : B ≤ W.heap.size) (hp : p ≤ n) : PartAt 1 W (.slice ad p cap) ((ks.take p).map Value.string) p := by
  obtain ⟨ad', cap', e, h2, h3, h4⟩ := h
  cases e
  have hl : (ks.take p).length = p := by rw [List.length_take]; omega
  refine ⟨by simp; omega, fun u hu => by obtain ⟨x, -, rfl⟩ := List.mem_map.1 hu; rfl, _, _, rfl, fun e => ?_, fun a ha j u hu => ?_⟩
  · subst e
    rcases Nat.eq_zero_or_pos ks.length with h0 | h0
    · omega
    · obtain ⟨_, _, h', _⟩ := h4 h0; cases h'
  · have hj : j < p := by
      have := (List.getElem?_eq_some_iff.1 hu).1
      simp at this; omega
    obtain ⟨g, o, e, hg, hc⟩ := h4 (by omega)
    cases e.symm.trans ha
    refine ⟨by show g < _; omega, ?_⟩
    rw [add_none, hc j (by omega)]
    rw [List.getElem?_map, List.getElem?_take, if_pos hj, List.getElem?_eq_getElem (by omega)] at hu
    exact hu
theorem part_tail {B : Nat} {W : World} {ad : Option Addr} {n cap p : Nat} {ks : List ByteArray} (h : StrsAt B W (.slice ad n cap) ks) (hB : B ≤ W.heap.size) (hp : p ≤ n) : PartAt 1 W (.slice (if cap = p then ad else ad.map (·.add (p * 1))) (n - p) (cap - p)) ((ks.drop p).map Value.string) (n - p) := by
  obtain ⟨ad', cap', e, h2, h3, h4⟩ := h
  cases e
  refine ⟨by simp, fun u hu => by obtain ⟨x, -, rfl⟩ := List.mem_map.1 hu; rfl, _, _, rfl, fun e => ?_, fun a ha j u hu => ?_⟩
  · rcases Nat.eq_zero_or_pos ks.length with h0 | h0
    · omega
    · obtain ⟨g, o, rfl, -⟩ := h4 h0
      split at e <;> cases e
  · have hj : j + p < ks.length := by
      have := (List.getElem?_eq_some_iff.1 hu).1
      simp at this; omega
    obtain ⟨g, o, rfl, hg, hc⟩ := h4 (by omega)
    rw [if_neg (by omega)] at ha
    simp only [Option.map_some, Option.some.injEq] at ha
    subst ha
    rw [add_none, add_none]
    refine ⟨by show g < _; omega, ?_⟩
    have := hc (p + j) (by omega)
    rw [show o + p * 1 + j = o + (p + j) by omega, this]
    rw [List.getElem?_map, List.getElem?_drop, List.getElem?_eq_getElem (by omega)] at hu
    exact hu
theorem oneCells {ys : List It} {B : Nat} {W : World} (hok : ∀ e ∈ ys, e.Ok B W) : ∀ u ∈ ys.flatMap It.cells, u.oneCell' = true := fun u hu => by
  obtain ⟨e, he, hu⟩ := List.mem_flatMap.1 hu
  obtain ⟨ai, ni, ci, ak, nk, ck, ex, ey⟩ := (hok e he).shape
  unfold It.cells at hu
  rw [ex, ey] at hu
  simp at hu
  rcases hu with rfl | rfl | rfl | rfl | rfl <;> rfl
theorem five_cell {W : World} {g o : Nat} {e : It} (h : Five W g o (.int .i64 e.k) (.bool e.b) (.string e.t) e.x e.y) {i : Nat} (hi : i < 5) : W.cell? ⟨g, o + i, none⟩ = e.cells[i]? := by
  obtain ⟨h0, h1, h2, h3, h4⟩ := h
  rcases (show i = 0 ∨ i = 1 ∨ i = 2 ∨ i = 3 ∨ i = 4 by omega) with rfl | rfl | rfl | rfl | rfl
  · exact h0
  · exact h1
  · exact h2
  · exact h3
  · exact h4
theorem flat_at {ys : List It} {j : Nat} {u : Value} (h : (ys.flatMap It.cells)[j]? = some u) : ∃ (q i : Nat) (hq : q < ys.length), j = q * 5 + i ∧ i < 5 ∧ (ys[q].cells)[i]? = some u := by
  have hj := (List.getElem?_eq_some_iff.1 h).1
  rw [flat5_length] at hj
  refine ⟨j / 5, j % 5, by omega, by omega, Nat.mod_lt _ (by omega), ?_⟩
  rw [← flat5_at (j := j / 5) (i := j % 5) (by omega) (Nat.mod_lt _ (by omega)), show j / 5 * 5 + j % 5 = j by omega]
  exact h
theorem vpart_head {B : Nat} {W : World} {ad : Option Addr} {n cap p : Nat} {ys : List It} (h : ItemsAt B W (.slice ad n cap) ys) (hB : B ≤ W.heap.size) (hp : p ≤ n) : PartAt 5 W (.slice ad p cap) ((ys.take p).flatMap It.cells) p := by
  obtain ⟨ad', cap', e, h2, h3, h4, h5⟩ := h
  cases e
  refine ⟨by rw [flat5_length, List.length_take]; omega, oneCells (fun e he => h5 e (List.mem_of_mem_take he)), _, _, rfl, fun e => ?_, fun a ha j u hu => ?_⟩
  · subst e
    rcases Nat.eq_zero_or_pos ys.length with h0 | h0
    · omega
    · obtain ⟨_, _, h', _⟩ := h4 h0; cases h'
  · obtain ⟨q, i, hq, rfl, hi, hu⟩ := flat_at hu
    rw [List.length_take] at hq
    obtain ⟨g, o, e, hg, hc⟩ := h4 (by omega)
    cases e.symm.trans ha
    refine ⟨by show g < _; omega, ?_⟩
    rw [add_none, ← Nat.add_assoc, five_cell (hc q (by omega)) hi]
    rw [List.getElem_take] at hu
    exact hu
theorem vpart_tail {B : Nat} {W : World} {ad : Option Addr} {n cap p : Nat} {ys : List It} (h : ItemsAt B W (.slice ad n cap) ys) (hB : B ≤ W.heap.size) (hp : p ≤ n) : PartAt 5 W (.slice (if cap = p then ad else ad.map (·.add (p * 5))) (n - p) (cap - p)) ((ys.drop p).flatMap It.cells) (n - p) := by
  obtain ⟨ad', cap', e, h2, h3, h4, h5⟩ := h
  cases e
  refine ⟨by rw [flat5_length, List.length_drop], oneCells (fun e he => h5 e (List.mem_of_mem_drop he)), _, _, rfl, fun e => ?_, fun a ha j u hu => ?_⟩
  · rcases Nat.eq_zero_or_pos ys.length with h0 | h0
    · omega
    · obtain ⟨g, o, rfl, -⟩ := h4 h0
      split at e <;> cases e
  · obtain ⟨q, i, hq, rfl, hi, hu⟩ := flat_at hu
    rw [List.length_drop] at hq
    obtain ⟨g, o, rfl, hg, hc⟩ := h4 (by omega)
    rw [if_neg (by omega)] at ha
    simp only [Option.map_some, Option.some.injEq] at ha
    subst ha
    rw [add_none, add_none]
    refine ⟨by show g < _; omega, ?_⟩
    rw [show o + p * 5 + (q * 5 + i) = o + (p + q) * 5 + i by omega, five_cell (hc (p + q) (by omega)) hi]
    rw [List.getElem_drop] at hu
    exact hu

theorem sz0 (w : World) : w.drew.heap.size = w.heap.size := rfl
theorem sz1 (w : World) (o : Obj) : (w.alloc o).heap.size = w.heap.size + 1 := by simp
theorem cloneItems {B : Nat} {w : World} {v : Value} {zs : List It} (h : ItemsAt B w v zs) (hs : ∀ e ∈ zs, smallT e.T) (hn : zs.length ≤ 1000000) (W : World) (hb : Below B w W) (hBW : B ≤ W.heap.size) : Calls Tryz.prog 54 #[v] W (ClonesAll (zs.map It.T) W) := by
  obtain ⟨ad, cap, rfl, h2, h3, h4, h5⟩ := h
  have hl : (zs.map It.T).length = zs.length := by simp
  rw [← hl]
  rcases Nat.eq_zero_or_pos zs.length with h0 | h0
  · obtain rfl : zs = [] := List.length_eq_zero_iff.1 h0
    exact cloneAll_of (its := []) (g := 0) (o := 0) (ik := fun _ => 0) (ib := fun _ => false) (it := fun _ => ⟨#[]⟩) (ii := fun _ => undef) (iv := fun _ => undef) (by simp) (fun h => absurd h (by simp)) (fun j h => absurd h (by simp)) (fun j h => absurd h (by simp)) (fun j h => absurd h (by simp)) W hb hBW
  · obtain ⟨g, o, rfl, h7, h8⟩ := h4 h0
    have e0 : It := zs[0]
    refine cloneAll_of (its := zs.map It.T) (g := g) (o := o) (ik := fun j => (zs.getD j e0).k) (ib := fun j => (zs.getD j e0).b) (it := fun j => (zs.getD j e0).t) (ii := fun j => (zs.getD j e0).x) (iv := fun j => (zs.getD j e0).y) (by rw [hl]; exact hn) (fun _ => ⟨rfl, h7⟩) (fun j hj => ?_) (fun j hj => ?_) (fun j hj W hb hBW => ?_) W hb hBW
    · rw [hl] at hj
      rw [show zs.getD j e0 = zs[j] by simp [List.getD, hj]]
      exact h8 j hj
    · have hj' := hj
      rw [hl] at hj'
      rw [show zs.getD j e0 = zs[j] by simp [List.getD, hj'], List.getElem_map]
      exact h5 _ (List.getElem_mem hj')
    · have hj' := hj
      rw [hl] at hj'
      rw [show zs.getD j e0 = zs[j] by simp [List.getD, hj'], List.getElem_map]
      exact clone_any (h5 _ (List.getElem_mem hj')) (hs _ (List.getElem_mem hj')) W hb hBW

theorem box3_new (W : World) (A C D : Array Value) (ty : TypeId) : Below W.heap.size W (((W.alloc (.cells A ty)).alloc (.cells C ty)).alloc (.cells D ty)) ∧ Blk (((W.alloc (.cells A ty)).alloc (.cells C ty)).alloc (.cells D ty)) (W.heap.size + 1) C ty ∧ Blk (((W.alloc (.cells A ty)).alloc (.cells C ty)).alloc (.cells D ty)) (W.heap.size + 2) D ty := by
  have h1 := below_new0 W (.cells A ty)
  have h2 := h1.alloc h1.size (.cells C ty)
  have h3 := h2.alloc h2.size (.cells D ty)
  have k2 := (Blk.new (W.alloc (.cells A ty)) C ty).alloc (.cells D ty)
  have k3 := Blk.new ((W.alloc (.cells A ty)).alloc (.cells C ty)) D ty
  exact ⟨h3, by simpa using k2, by simpa using k3⟩
/-- What stands behind the first q elements. -/
def tailOf (k : Nat) (ad : Option Addr) (n cap q : Nat) : Value := .slice (if cap = q then ad else ad.map (·.add (q * k))) (n - q) (cap - q)
theorem headK_run (adk : Option Addr) (n capk p : Nat) (h1 : p ≤ n) (h2 : n ≤ capk) (W : World) : (Instr.sliceAt 24 (.slice adk n capk) none (some (.int .i64 (p : Int))) none).run Tryz.prog W = .ok (.slice adk p capk) W := by
  have i0 : (0 : Int) ≤ (p : Int) := by omega
  have i1 : (p : Int) ≤ (capk : Int) := by omega
  go_simp
theorem tailK_run (adk : Option Addr) (n capk p : Nat) (h1 : p ≤ n) (h2 : n ≤ capk) (W : World) : (Instr.sliceAt 24 (.slice adk n capk) (some (.int .i64 (p : Int))) none none).run Tryz.prog W = .ok (tailOf 1 adk n capk p) W := by
  have i0 : (0 : Int) ≤ (p : Int) := by omega
  have i1 : (p : Int) ≤ (n : Int) := by omega
  have i2 : (n : Int) ≤ (capk : Int) := by omega
  unfold tailOf
  go_simp
theorem headV_run (adk : Option Addr) (n capk p : Nat) (h1 : p ≤ n) (h2 : n ≤ capk) (W : World) : (Instr.sliceAt 23 (.slice adk n capk) none (some (.int .i64 (p : Int))) none).run Tryz.prog W = .ok (.slice adk p capk) W := by
  have i0 : (0 : Int) ≤ (p : Int) := by omega
  have i1 : (p : Int) ≤ (capk : Int) := by omega
  go_simp
theorem tailV_run (adk : Option Addr) (n capk p : Nat) (h1 : p ≤ n) (h2 : n ≤ capk) (W : World) : (Instr.sliceAt 23 (.slice adk n capk) (some (.int .i64 (p : Int))) none none).run Tryz.prog W = .ok (tailOf 5 adk n capk p) W := by
  have i0 : (0 : Int) ≤ (p : Int) := by omega
  have i1 : (p : Int) ≤ (n : Int) := by omega
  have i2 : (n : Int) ≤ (capk : Int) := by omega
  unfold tailOf
  go_simp

/-- What Concat is handed: three slices in a row, the middle one of one element. -/
def Trio (Wc : World) (S : Nat) (a c : Value) (us : List Value) : Prop := S < Wc.heap.size ∧ Wc.cell? ⟨S, 0, none⟩ = some a ∧ Wc.cell? ⟨S, 2, none⟩ = some c ∧ ∃ K, K < Wc.heap.size ∧ Wc.cell? ⟨S, 1, none⟩ = some (.slice (some ⟨K, 0, none⟩) 1 1) ∧ ∀ j u, us[j]? = some u → Wc.cell? ⟨K, j, none⟩ = some u
set_option maxHeartbeats 1000000 in
theorem putKeys {B : Nat} {w w1 : World} {adk : Option Addr} {n capk p q : Nat} {km : List ByteArray} {key : ByteArray} (hS : StrsAt B w (.slice adk n capk) km) (hpq : p ≤ q) (hq : q ≤ n) (hn : n ≤ 900000) (h1 : Below B w w1) (hBw : B ≤ w1.heap.size)
    (Wc : World) (S : Nat) (hwc : Below w1.heap.size w1 Wc) (ht : Trio Wc S (.slice adk p capk) (.slice (if capk = q then adk else adk.map (·.add (q * 1))) (n - q) (capk - q)) [.string key]) :
    Calls Tryz.prog 53 #[.slice (some ⟨S, 0, none⟩) 3 3] Wc fun e w' => (∃ ad cap, e = .returned (.slice ad (p + 1 + (n - q)) cap) ∧ w'.ownsRow w1.heap.size 9 1 (.slice ad (p + 1 + (n - q)) cap) (p + 1 + (n - q)) ((km.take p ++ key :: km.drop q).map Value.string)) ∧ Below Wc.heap.size Wc w' ∧ Below w1.heap.size w1 w' := by
  obtain ⟨hS', c0, c2, K, hK, c1, ck⟩ := ht
  have hbc : Below B w Wc := h1.trans (hwc.mono hBw)
  have hBc : B ≤ Wc.heap.size := Nat.le_trans hBw hwc.size
  have pa := part_head (hS.below hbc) hBc (Nat.le_trans hpq hq)
  have pc := part_tail (hS.below hbc) hBc hq
  have pb : PartAt 1 Wc (.slice (some ⟨K, 0, none⟩) 1 1) [.string key] 1 := ⟨rfl, fun u hu => (by simp at hu; subst hu; rfl), _, _, rfl, fun e => (by cases e), fun a ha j u hu => by
    cases ha
    refine ⟨hK, ?_⟩
    rw [add_none, Nat.zero_add]; exact ck j u hu⟩
  have := concatS_any (W := Wc) (S := S) [⟨_, _, _⟩, ⟨_, _, _⟩, ⟨_, _, _⟩] (fun x hx => by
    simp only [List.mem_cons, List.mem_nil_iff, or_false] at hx
    rcases hx with rfl | rfl | rfl
    · exact pa
    · exact pb
    · exact pc) (by simp) (by simp [sumM]; omega) hS' (fun j hj => by
    have hj3 : j < 3 := hj
    rcases (show j = 0 ∨ j = 1 ∨ j = 2 by omega) with rfl | rfl | rfl
    · exact c0
    · exact c1
    · exact c2) Wc (Below.refl _ _)
  refine this.mono ?_
  rintro e w' ⟨⟨v', rfl, hrow⟩, hb⟩
  have hm : sumM [⟨(Value.slice adk p capk), ((km.take p).map Value.string), p⟩, ⟨(.slice (some ⟨K, 0, none⟩) 1 1), [.string key], 1⟩, ⟨(.slice (if capk = q then adk else adk.map (·.add (q * 1))) (n - q) (capk - q)), ((km.drop q).map Value.string), n - q⟩] = p + 1 + (n - q) := by simp [sumM]; omega
  rw [hm] at hrow
  obtain ⟨ad, cap, rfl⟩ := row_shape hrow
  refine ⟨⟨ad, cap, rfl, ?_⟩, hb, hwc.trans (hb.mono hwc.size)⟩
  have := row_mono hrow hwc.size
  simpa using this
set_option maxHeartbeats 1000000 in
theorem putItems {B : Nat} {w w1 : World} {adi : Option Addr} {n capi p q : Nat} {ym : List It} {ex : It} (hI : ItemsAt B w (.slice adi n capi) ym) (hsm : ∀ e ∈ ym, smallT e.T) (hx : ex.Ok B w) (hsx : smallT ex.T) (hpq : p ≤ q) (hq : q ≤ n) (hn : n ≤ 900000) (h1 : Below B w w1) (hBw : B ≤ w1.heap.size)
    (w5 Wc : World) (S : Nat) (hwc : Below w1.heap.size w1 Wc) (h5 : Below w5.heap.size w5 Wc) (ht : Trio Wc S (.slice adi p capi) (.slice (if capi = q then adi else adi.map (·.add (q * 5))) (n - q) (capi - q)) ex.cells) :
    Calls Tryz.prog 55 #[.slice (some ⟨S, 0, none⟩) 3 3] Wc fun e w' => (∃ ad cap, e = .returned (.slice ad (p + 1 + (n - q)) cap) ∧ ∀ W2, Below w'.heap.size w' W2 → Calls Tryz.prog 54 #[.slice ad (p + 1 + (n - q)) cap] W2 (ClonesAll ((ym.map It.T).take p ++ ex.T :: (ym.map It.T).drop q) W2)) ∧ Below w5.heap.size w5 w' ∧ Below w1.heap.size w1 w' := by
  obtain ⟨hS', c0, c2, K, hK, c1, ck⟩ := ht
  have hbc : Below B w Wc := h1.trans (hwc.mono hBw)
  have hBc : B ≤ Wc.heap.size := Nat.le_trans hBw hwc.size
  have hlen : ym.length = n := by obtain ⟨_, _, e, -⟩ := hI; cases e; rfl
  have hok : ∀ e ∈ ym, e.Ok B w := by obtain ⟨_, _, _, _, _, _, h⟩ := hI; exact h
  have pa := vpart_head (hI.below hbc) hBc (Nat.le_trans hpq hq)
  have pc := vpart_tail (hI.below hbc) hBc hq
  have pb : PartAt 5 Wc (.slice (some ⟨K, 0, none⟩) 1 1) ex.cells 1 := ⟨rfl, fun u hu => oneCells (ys := [ex]) (B := B) (W := w) (fun e he => by simp at he; subst he; exact hx) u (by simpa using hu), _, _, rfl, fun e => (by cases e), fun a ha j u hu => by
    cases ha
    refine ⟨hK, ?_⟩
    rw [add_none, Nat.zero_add]; exact ck j u hu⟩
  have := concatV_any (W := Wc) (S := S) [⟨(Value.slice adi p capi), ((ym.take p).flatMap It.cells), p⟩, ⟨(.slice (some ⟨K, 0, none⟩) 1 1), ex.cells, 1⟩, ⟨(.slice (if capi = q then adi else adi.map (·.add (q * 5))) (n - q) (capi - q)), ((ym.drop q).flatMap It.cells), n - q⟩] (fun x hx => by
    simp only [List.mem_cons, List.mem_nil_iff, or_false] at hx
    rcases hx with rfl | rfl | rfl
    · exact pa
    · exact pb
    · exact pc) (by simp) (by simp [sumM]; omega) hS' (fun j hj => by
    have hj3 : j < 3 := hj
    rcases (show j = 0 ∨ j = 1 ∨ j = 2 by omega) with rfl | rfl | rfl
    · exact c0
    · exact c1
    · exact c2) Wc (Below.refl _ _)
  refine this.mono ?_
  rintro e w' ⟨⟨v', rfl, hrow⟩, hb⟩
  have hm : sumM [⟨(Value.slice adi p capi), ((ym.take p).flatMap It.cells), p⟩, ⟨(.slice (some ⟨K, 0, none⟩) 1 1), ex.cells, 1⟩, ⟨(.slice (if capi = q then adi else adi.map (·.add (q * 5))) (n - q) (capi - q)), ((ym.drop q).flatMap It.cells), n - q⟩] = p + 1 + (n - q) := by simp [sumM]; omega
  rw [hm] at hrow
  have hzl : (ym.take p ++ ex :: ym.drop q).length = p + 1 + (n - q) := by simp; omega
  have hmem : ∀ e ∈ ym.take p ++ ex :: ym.drop q, e.Ok B w ∧ smallT e.T := fun e he => by
    rcases List.mem_append.1 he with he | he
    · exact ⟨hok e (List.mem_of_mem_take he), hsm e (List.mem_of_mem_take he)⟩
    · rcases List.mem_cons.1 he with rfl | he
      · exact ⟨hx, hsx⟩
      · exact ⟨hok e (List.mem_of_mem_drop he), hsm e (List.mem_of_mem_drop he)⟩
  have hrow' : w'.ownsRow Wc.heap.size 26 5 v' (ym.take p ++ ex :: ym.drop q).length ((ym.take p ++ ex :: ym.drop q).flatMap It.cells) := by
    rw [hzl]; simpa using hrow
  have hit := items_of_row hrow' (by omega) (fun e he => ((hmem e he).1.later (hbc.trans (hb.mono hBc))).wide (Nat.le_trans hBc hb.size))
  obtain ⟨ad, cap, rfl⟩ := row_shape hrow
  refine ⟨⟨ad, cap, rfl, fun W2 hb2 => ?_⟩, h5.trans (hb.mono h5.size), hwc.trans (hb.mono hwc.size)⟩
  have := cloneItems hit (fun e he => (hmem e he).2) (by omega) W2 hb2 hb2.size
  simpa [List.map_take, List.map_drop] using this
theorem strsF_of_row {lo : Nat} {W : World} {v : Value} {ks : List ByteArray} (h : W.ownsRow lo 9 1 v ks.length (ks.map Value.string)) (hn : ks.length ≤ 140737488355328) : StrsF lo W.heap.size W v ks := by
  rcases Nat.eq_zero_or_pos ks.length with h0 | h0
  · obtain ⟨ad, cap, rfl⟩ := row_shape h
    exact ⟨ad, cap, rfl, by omega, hn, fun h => by omega⟩
  · obtain ⟨g, cap, rfl, hg, hlt⟩ := World.ownsRow.form h h0
    have hnc : ks.length ≤ cap := by
      obtain ⟨-, ⟨e, -⟩ | ⟨g, cap', cur, e, -, -, hnc, -⟩⟩ := h
      · cases e
      · simp only [Value.slice.injEq] at e; omega
    refine ⟨_, _, rfl, hnc, hn, fun _ => ⟨g, 0, rfl, hg, hlt, fun j hj => ?_, fun j _ => by rw [Nat.zero_add]; exact World.ownsRow.frozenAt h j⟩⟩
    have := World.ownsRow.cells h (g := g) rfl j (.string ks[j]) (by rw [List.getElem?_map, List.getElem?_eq_getElem hj]; rfl)
    rw [add_none] at this
    exact this
/-- What Put answers. -/
theorem put_fin {W w1 w5 w7 : World} {R lo n5 cap5 cap7 : Nat} {ad5 ad7 : Option Addr} {kk : List ByteArray} {its : List VT} (hw1 : Below W.heap.size W w1) (hR : W.heap.size ≤ R) (hR1 : R < w1.heap.size) (hrow : w5.ownsRow w1.heap.size 9 1 (.slice ad5 n5 cap5) n5 (kk.map Value.string)) (hkk : kk.length = n5) (hn5 : n5 ≤ 1000000)
    (h57 : Below w5.heap.size w5 w7) (h17 : Below w1.heap.size w1 w7) (hit : ItemsF lo w7.heap.size w7 ad7 cap7 its) (hlo : w1.heap.size ≤ lo) (hil : its.length ≤ 1000000) :
    ∃ v', (Ending.returned (.agg #[.int .i64 6, .bool false, .string ⟨#[]⟩, .slice ad7 its.length cap7, .slice ad5 n5 cap5]) : Ending) = .returned v' ∧ Fresh w1.heap.size (set5 w7 R 0 (.int .i64 6) (.bool false) (.string ⟨#[]⟩) (.slice ad7 its.length cap7) (.slice ad5 n5 cap5)).heap.size (set5 w7 R 0 (.int .i64 6) (.bool false) (.string ⟨#[]⟩) (.slice ad7 its.length cap7) (.slice ad5 n5 cap5)) v' (.node 6 false ⟨#[]⟩ its kk) ∧ Below W.heap.size W (set5 w7 R 0 (.int .i64 6) (.bool false) (.string ⟨#[]⟩) (.slice ad7 its.length cap7) (.slice ad5 n5 cap5)) := by
  subst hkk
  refine ⟨_, rfl, ?_, below_set5at (hw1.trans (h17.mono hw1.size)) hR _ _ _ _ _ _⟩
  refine fresh_of (strsF_of_row hrow (by omega)) hit (by omega) (fun g h1 h2 => ?_) (fun g h1 h2 => set5_other _ _ _ _ _ _ _ _ (by omega)) (Nat.le_refl _) hlo (by rw [set5_size]; exact h57.size) (by rw [set5_size]; exact Nat.le_refl _)
  rw [set5_other _ _ _ _ _ _ _ _ (by omega)]
  exact h57.block g h2

/-- The same, as the walk has it. -/
theorem put_end {W w1 w5 w7 : World} {R lo n5 cap5 cap7 : Nat} {ad5 ad7 : Option Addr} {kk : List ByteArray} {its : List VT} (hw1 : Below W.heap.size W w1) (hR : W.heap.size ≤ R) (hR1 : R < w1.heap.size) (hrow : w5.ownsRow w1.heap.size 9 1 (.slice ad5 n5 cap5) n5 (kk.map Value.string)) (hkk : kk.length = n5) (hn5 : n5 ≤ 1000000)
    (h57 : Below w5.heap.size w5 w7) (h17 : Below w1.heap.size w1 w7) (hit : ItemsF lo w7.heap.size w7 ad7 cap7 its) (hlo : w1.heap.size ≤ lo) (hil : its.length ≤ 1000000) :
    Fresh W.heap.size (((((w7.setCell ⟨R, 0, none⟩ (.int .i64 6)).setCell ⟨R, 1, none⟩ (.bool false)).setCell ⟨R, 2, none⟩ (.string ⟨#[]⟩)).setCell ⟨R, 3, none⟩ (.slice ad7 its.length cap7)).setCell ⟨R, 4, none⟩ (.slice ad5 n5 cap5)).heap.size (((((w7.setCell ⟨R, 0, none⟩ (.int .i64 6)).setCell ⟨R, 1, none⟩ (.bool false)).setCell ⟨R, 2, none⟩ (.string ⟨#[]⟩)).setCell ⟨R, 3, none⟩ (.slice ad7 its.length cap7)).setCell ⟨R, 4, none⟩ (.slice ad5 n5 cap5)) (.agg #[.int .i64 6, .bool false, .string ⟨#[]⟩, .slice ad7 its.length cap7, .slice ad5 n5 cap5]) (.node 6 false ⟨#[]⟩ its kk) ∧ Below W.heap.size W (((((w7.setCell ⟨R, 0, none⟩ (.int .i64 6)).setCell ⟨R, 1, none⟩ (.bool false)).setCell ⟨R, 2, none⟩ (.string ⟨#[]⟩)).setCell ⟨R, 3, none⟩ (.slice ad7 its.length cap7)).setCell ⟨R, 4, none⟩ (.slice ad5 n5 cap5)) := by
  obtain ⟨v', e, hf, hb⟩ := put_fin hw1 hR hR1 hrow hkk hn5 h57 h17 hit hlo hil
  cases e
  exact ⟨hf.keep (fun _ _ _ => rfl) hw1.size (Nat.le_refl _), hb⟩
theorem trioS {Wc : World} {S : Nat} {a c : Value} {key : ByteArray} (hS : S < Wc.heap.size) (h : Wc.cell? ⟨S, 0, none⟩ = some a ∧ Wc.cell? ⟨S, 2, none⟩ = some c ∧ ∃ K, K < Wc.heap.size ∧ Wc.cell? ⟨S, 1, none⟩ = some (.slice (some ⟨K, 0, none⟩) 1 1) ∧ Wc.cell? ⟨K, 0, none⟩ = some (.string key)) : Trio Wc S a c [.string key] := by
  obtain ⟨h0, h2, K, hK, h1, hk⟩ := h
  refine ⟨hS, h0, h2, K, hK, h1, fun j u hu => ?_⟩
  have hj : j < 1 := (List.getElem?_eq_some_iff.1 hu).1
  obtain rfl : j = 0 := by omega
  cases hu; exact hk
theorem trioV {Wc : World} {S : Nat} {a c : Value} {x0 x1 x2 x3 x4 : Value} (hS : S < Wc.heap.size) (h : Wc.cell? ⟨S, 0, none⟩ = some a ∧ Wc.cell? ⟨S, 2, none⟩ = some c ∧ ∃ K, K < Wc.heap.size ∧ Wc.cell? ⟨S, 1, none⟩ = some (.slice (some ⟨K, 0, none⟩) 1 1) ∧ Wc.cell? ⟨K, 0, none⟩ = some x0 ∧ Wc.cell? ⟨K, 1, none⟩ = some x1 ∧ Wc.cell? ⟨K, 2, none⟩ = some x2 ∧ Wc.cell? ⟨K, 3, none⟩ = some x3 ∧ Wc.cell? ⟨K, 4, none⟩ = some x4) : Trio Wc S a c [x0, x1, x2, x3, x4] := by
  obtain ⟨h0, h2, K, hK, h1, k0, k1, k2, k3, k4⟩ := h
  refine ⟨hS, h0, h2, K, hK, h1, fun j u hu => ?_⟩
  have hj : j < 5 := (List.getElem?_eq_some_iff.1 hu).1
  rcases (show j = 0 ∨ j = 1 ∨ j = 2 ∨ j = 3 ∨ j = 4 by omega) with rfl | rfl | rfl | rfl | rfl <;> cases hu
  · exact k0
  · exact k1
  · exact k2
  · exact k3
  · exact k4
end Go.Proofs.YtjgbhnbfojkhoaaGreatDoor
