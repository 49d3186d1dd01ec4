/- fromLast: the iterator over a size's limbs, the highest first · What a call of num makes -/
import Derived.RangeFuncNested
import Derived.RangeFuncBound
import Derived.RangeFuncCalls
import Derived.RangeFuncLeaves
import Derived.RangeFuncBox
import Derived.Shelf.Abstract
import Derived.Shelf.RegionOpen
import Derived.WalkKit
import Derived.OwnWalkIn
import Derived.TacticsInMore
import Derived.LoopNIn
import Derived.LoopIn
import Derived.Test.YtjgbhnbfojkhoaaDoorMk01
import Derived.Test.YtjgbhnbfojkhoaaDoorMk03
namespace Go.Proofs.YtjgbhnbfojkhoaaDoor
open Go.RowKit Go.Shelf

attribute [local go_sem] Oper.semAt_some

/-- The blocks bs lie as they lay. -/
def KeepB (bs : List Nat) (W W' : World) : Prop := ∀ b ∈ bs, ∀ o, W.heap[b]? = some o → W'.heap[b]? = some o
theorem KeepB.refl (bs : List Nat) (W : World) : KeepB bs W W := fun _ _ _ h => h
theorem KeepB.trans {bs : List Nat} {A B C : World} (h : KeepB bs A B) (k : KeepB bs B C) : KeepB bs A C := fun b hb o ho => k b hb o (h b hb o ho)
theorem KeepB.putObj {bs : List Nat} {w : World} (hs : ∀ b ∈ bs, b < w.heap.size) (W : World) (l : Nat) (o o' : Obj) (hl : w.heap.size ≤ l) (_ : W.heap[l]? = some o) (_ : o.isCells = false) (_ : o.isWalk = false) : KeepB bs W (W.putObj l o') :=
  fun b hb p hp => by have := hs b hb; rw [World.putObj_heap_other (by omega)]; exact hp
theorem KeepB.of_below {bs : List Nat} {W W' : World} (h : Below W.heap.size W W') : KeepB bs W W' := fun b _ o ho => by rw [h.block b (Array.getElem?_eq_some_iff.1 ho).1]; exact ho
theorem KeepB.setCell {bs : List Nat} (W : World) (p : Addr) (v : Value) (h : p.block ∉ bs) : KeepB bs W (W.setCell p v) := fun b hb o ho => by
  rw [Below.heap_setCell _ _ _ _ (fun e => h (by rw [← e]; exact hb))]; exact ho
theorem KeepB.grown {bs : List Nat} {W W' : World} {row : Option Nat} (hg : W.grownBy W' row) (h : ∀ k, row = some k → k ∉ bs) : KeepB bs W W' := fun b hb o ho => by
  rw [hg.block b (Array.getElem?_eq_some_iff.1 ho).1 (fun e => h b e.symm hb)]; exact ho
theorem KeepsFrom.of_below {B : Nat} {W W' : World} (h : Below W.heap.size W W') : KeepsFrom B W W' := ⟨h.size, fun k o _ ho _ => by rw [h.block k (Array.getElem?_eq_some_iff.1 ho).1]; exact ho⟩

theorem Own.keepB {lo : Nat} {w w' : World} {v : Value} {l : List Nat} {bs : List Nat} (h : Own lo w v l) (hb : KeepB bs w w') (hv : ∀ g, v.ownBlock = some g → g ∈ bs) : Own lo w' v l := by
  obtain ⟨h1, h2⟩ := h
  refine ⟨h1, ?_⟩
  rcases h2 with h2 | ⟨g, cap, cur, h2, h3, h4, h5⟩
  · exact .inl h2
  · refine .inr ⟨g, cap, cur, h2, h3, hb g (hv g (by rw [h2]; rfl)) _ h4, h5⟩

/-- What has come when k rounds are over. -/
def upto {α : Type} (f : Nat → α) (k : Nat) : List α := (List.range k).map f
theorem upto_succ {α : Type} (f : Nat → α) (k : Nat) : upto f (k + 1) = upto f k ++ [f k] := by simp [upto, List.range_succ]
theorem upto_length {α : Type} (f : Nat → α) (k : Nat) : (upto f k).length = k := by simp [upto]

/-- A place of n. -/
def Place (n : Nat) : Type := { k : Nat // k < n }
/-- The places, the highest first: the first k of them. -/
def downs (n k : Nat) : List Nat := upto (fun j => n - 1 - j) k
/-- What a round of fromLast is handed: the place, and its limb. -/
def encL {n : Nat} (L : List Nat) (k : Place n) : Array Value := #[.int .i64 (k.1 : Int), .int .u64 ((L.getD k.1 0 : Nat) : Int)]
/-- The places that have come. -/
def places {n : Nat} (l : List (Place n)) : List Nat := l.map fun k => k.1

set_option maxHeartbeats 1000000 in
theorem fromLast_in (F : Fence) (n : Nat) (h5 : F.fn 84) (hro : F.round = none) (a : Option Addr) (len cap : Nat) (w : World) :
    CallsIn F n Tryd.prog 84 #[.slice a len cap] w fun e w' => e = .returned (.func (.func 100) #[] #[.pointer (some ⟨w.heap.size, 0, none⟩)]) ∧ w' = w.alloc (.cells #[.slice a len cap] 76) := by
  refine callsIn_of_wp Tryd.func84 rfl h5 ?_ hro
  simp only [Tryd.ntmps84, List.size_toArray, List.length_cons, List.length_nil, Nat.reduceAdd, Nat.reduceSub, Array.replicate_succ, Array.replicate_zero, List.push_toArray, List.append_toArray, List.nil_append, List.cons_append]
  gi_wp2
  go_ret
  exact ⟨rfl, rfl⟩

set_option maxRecDepth 100000 in
set_option maxHeartbeats 2000000 in
theorem each_in (F : Fence) (n : Nat) (h7 : F.fn 100) (hro : F.round = none) (hn : 1 ≤ n) (l Bs : Nat) (bs : List Nat) (v : Value) (L : List Nat) (len : Nat) (HLen : Hid (L.length = len)) (hreach : len ≤ 1000000) (hBs : Bs ∈ bs) (hvb : ∀ g, v.ownBlock = some g → g ∈ bs) (J Jx : List (Place len) → World → Prop)
    (hY : ∀ pre x W, J pre W → pre.length < len → YieldAt F (n - 1) Tryd.prog l (encL L x) W fun e W' =>
      (e = .returned (.bool true) ∧ J (pre ++ [x]) W' ∧ KeepB bs W W') ∨ (e = .returned (.bool false) ∧ Jx (pre ++ [x]) W'))
    (W : World) (hBox : Boxed W Bs 76 v) (hO : Own 0 W v L) (h0 : J [] W) :
    CallsIn F n Tryd.prog 100 #[.func (.yield l) #[] #[], .pointer (some ⟨Bs, 0, none⟩)] W fun e W' => (∃ v, e = .returned v) ∧
      ((∃ ys, places ys = downs len len ∧ J ys W') ∨ (∃ pre, (∃ k, k ≤ len ∧ places pre = downs len k) ∧ Jx pre W')) := by
  obtain ⟨ad, cap, hv, hcap, -, -⟩ := hO.view
  subst hv
  have hcB := hBox.cell
  rw [HLen.out] at hO hBox hcB hcap hvb
  have HY := Lib.hid hY
  clear hY
  refine callsIn_of_wp Tryd.func100 rfl h7 ?_ hro
  simp only [Tryd.ntmps100, List.size_toArray, List.length_cons, List.length_nil, Nat.reduceAdd, Nat.reduceSub, Array.replicate_succ, Array.replicate_zero, List.push_toArray, List.append_toArray, List.nil_append, List.cons_append]
  gi_wp2
  gi_loopw [3] (fun i wr => ∃ (k : Nat) (pre : List (Place len)), k ≤ len ∧ i = .int .i64 ((len : Int) - 1 - k) ∧ places pre = downs len k ∧ J pre wr ∧ KeepB bs W wr)
    (fun i _ => (intOf i + 1).toNat)
  case atStart => exact ⟨0, [], Nat.zero_le _, by go_num, rfl, h0, KeepB.refl _ _⟩
  case round =>
    obtain ⟨k, pre, hk, rfl, hpre, hJs, hnx⟩ := hrel
    have HPre := Lib.hid hpre
    clear hpre
    have hBr := (show Boxed wr Bs 76 _ from hnx Bs hBs _ hBox).cell
    have hOr := hO.keepB hnx hvb
    clear hcB
    by_cases hlt : k < len
    · obtain ⟨p, hp⟩ : ∃ p, p + k + 1 = len := ⟨len - 1 - k, by omega⟩
      have hpl : p < len := by omega
      obtain ⟨_, _, hv, -, -, hc⟩ := hOr.view
      have hv' := hv
      rw [HLen.out] at hv'
      simp only [Value.slice.injEq, true_and] at hv'
      obtain ⟨rfl, rfl⟩ := hv'
      clear hv
      obtain ⟨g, rfl, -, -, hcs⟩ := hc (by have := HLen.out; omega)
      have hc2 := hcs p (by have := HLen.out; omega)
      obtain ⟨fn, tmps, assign, body, hy, hR⟩ := HY.out pre ⟨p, hpl⟩ wr hJs (by have := congrArg List.length HPre.out; simp [places, downs, upto] at this; omega)
      have e : (len : Int) - 1 - k = p := by omega
      rw [e]
      dsimp only [encL] at hy
      obtain ⟨x, hx⟩ : ∃ x, L.getD p 0 = x := ⟨_, rfl⟩
      rw [hx] at hc2 hy
      have HP := Lib.hid hp
      clear hcs hx e hp
      gi_wp2
      refine hR.mono ?_
      rintro e W3 (⟨rfl, hJ3, hk3⟩ | ⟨rfl, hJx3⟩)
      · gi_wp2
        have hp := HP.out
        go_roundw
        case rel => exact ⟨k + 1, pre ++ [⟨p, hpl⟩], by omega, by go_num, by rw [downs, upto_succ, show len - 1 - k = p by omega]; have := HPre.out; simp only [places, List.map_append]; exact congrArg (· ++ [p]) this, hJ3, hnx.trans hk3⟩
        case measure => simp [intOf]; try omega
      · gi_wp2
        have hp := HP.out
        refine bodyPost_ret (results_none rfl _ _ _) rfl ?_
        exact ⟨⟨_, rfl⟩, .inr ⟨_, ⟨k + 1, by omega, by rw [downs, upto_succ, show len - 1 - k = p by omega]; have := HPre.out; simp only [places, List.map_append]; exact congrArg (· ++ [p]) this⟩, hJx3⟩⟩
    · obtain rfl : k = len := by omega
      gi_wp2
      go_end0
      exact ⟨⟨_, rfl⟩, .inl ⟨_, HPre.out, hJs⟩⟩

theorem fromLast_stops (F : Fence) (n : Nat) (h7 : F.fn 100) (hro : F.round = none) (hn : 1 ≤ n) (Bs : Nat) (v : Value) (L : List Nat) (hreach : L.length ≤ 1000000) (w : World) (hBox : Boxed w Bs 76 v) (hO : Own 0 w v L) :
    SeqStopsK F n Tryd.prog 100 #[.pointer (some ⟨Bs, 0, none⟩)] (encL (n := L.length) L) (KeepB (Bs :: v.ownBlock.toList)) (fun ys => places ys = downs L.length L.length)
      (fun pre => ∃ k, k ≤ L.length ∧ places pre = downs L.length k) L.length w := fun l J Jx W hW _ _ hY h0 =>
  each_in F n h7 hro hn l Bs (Bs :: v.ownBlock.toList) v L L.length (Lib.hid rfl) hreach List.mem_cons_self (fun g hg => by rw [hg]; simp) J Jx hY W ((hW.block Bs hBox.lt).trans hBox) (hO.below hW) h0

theorem blocks_lt {w : World} {Bs : Nat} {v : Value} {L : List Nat} (hBox : Boxed w Bs 76 v) (hO : Own 0 w v L) : ∀ b ∈ Bs :: v.ownBlock.toList, b < w.heap.size := by
  intro b hb
  rcases List.mem_cons.1 hb with rfl | hb
  · exact hBox.lt
  · exact (hO.lt (by simpa using hb)).2

end Go.Proofs.YtjgbhnbfojkhoaaDoor
namespace Go.Proofs.YtjgbhnbfojkhoaaDoor
open Go.RowKit
def Makes (lo : Nat) (w : World) (n : Nat) (e : Ending) (w' : World) : Prop := ∃ v, e = .returned v ∧ Sz lo w' v n ∧ Below lo w w'

end Go.Proofs.YtjgbhnbfojkhoaaDoor
