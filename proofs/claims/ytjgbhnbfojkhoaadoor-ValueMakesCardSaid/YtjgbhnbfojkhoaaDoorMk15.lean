/- value.Get of an object of scalars -/
import Derived.Test.YtjgbhnbfojkhoaaDoorMk14
namespace Go.Proofs.YtjgbhnbfojkhoaaDoor
open Go.RowKit Go.Sort Go.Shelf
set_option linter.unusedVariables false

/-- What owns texts holds them. -/
theorem strs_of_row {B : Nat} {W : World} {v : Value} {ks : List ByteArray} (h : W.ownsRow B 9 1 v ks.length (ks.map Value.string)) (hn : ks.length ≤ 140737488355328) : StrsAt W.heap.size W v ks := by
  have h0 := h
  rcases h.2 with ⟨rfl, h2⟩ | ⟨g, cap, cur, rfl, h3, h4, h5, h6, -⟩
  · exact ⟨none, 0, by rw [h2], by omega, hn, fun hp => by omega⟩
  · refine ⟨_, cap, rfl, h5, hn, fun hp => ⟨g, 0, rfl, (Array.getElem?_eq_some_iff.1 h4).1, fun j hj => ?_⟩⟩
    have := World.ownsRow.cells h0 (g := g) rfl j (.string ks[j]) (by simp [hj])
    rw [Lib.add_plain] at this
    exact this
/-- What owns scalars holds them. -/
theorem cells5_at {xs : List (Int × Bool × ByteArray)} {j i : Nat} (hj : j < xs.length) (hi : i < 5) : (xs.flatMap cells5)[j * 5 + i]? = (cells5 (xs.getD j noScal))[i]? := by
  induction xs generalizing j with
  | nil => simp at hj
  | cons x xs ih =>
    rw [List.flatMap_cons]
    cases j with
    | zero => rw [List.getElem?_append_left (by simp [cells5]; omega)]; simp
    | succ j =>
      have hl : (cells5 x).length = 5 := rfl
      rw [List.getElem?_append_right (by rw [hl]; omega), hl, show (j + 1) * 5 + i - 5 = j * 5 + i by omega, ih (by simpa using hj)]
      simp
theorem scals_of_row {B : Nat} {W : World} {v : Value} {xs : List (Int × Bool × ByteArray)} (h : W.ownsRow B 26 5 v xs.length (xs.flatMap cells5)) (hn : xs.length ≤ 140737488355328) : ScalsAt W.heap.size W v xs := by
  have h0 := h
  rcases h.2 with ⟨rfl, h2⟩ | ⟨g, cap, cur, rfl, h3, h4, h5, h6, -⟩
  · exact ⟨none, 0, by rw [h2], by omega, hn, fun hp => by omega⟩
  · have key : ∀ j i u, j < xs.length → i < 5 → (cells5 (xs.getD j noScal))[i]? = some u → W.cell? ⟨g, 0 + j * 5 + i, none⟩ = some u := fun j i u hj hi hu => by
      have := World.ownsRow.cells h0 (g := g) rfl (j * 5 + i) u (by rw [cells5_at hj hi]; exact hu)
      rw [Lib.add_plain, ← Nat.add_assoc] at this
      exact this
    refine ⟨_, cap, rfl, h5, hn, fun hp => ⟨g, 0, rfl, (Array.getElem?_eq_some_iff.1 h4).1, fun j hj => ⟨?_, ?_, ?_, ?_, ?_⟩⟩⟩
    · exact key j 0 _ hj (by omega) rfl
    · exact key j 1 _ hj (by omega) rfl
    · exact key j 2 _ hj (by omega) rfl
    · exact key j 3 _ hj (by omega) rfl
    · exact key j 4 _ hj (by omega) rfl

set_option maxRecDepth 100000 in
set_option maxHeartbeats 1000000 in
theorem members_obj {adk adi : Option Addr} {n capk capi : Nat} (hk : n ≤ capk) (hi : n ≤ capi) (w : World) (b : Bool) (t : ByteArray) :
    Calls Tryd.prog 37 #[.agg #[.int .i64 6, .bool b, .string t, .slice adi n capi, .slice adk n capk]] w fun e w' => e = .returned (.tuple #[.slice adk n capk, .slice adi n capi]) ∧ Below w.heap.size w w' := by
  have i1 : (0 : Int) ≤ (n : Int) := by omega
  have i2 : (n : Int) ≤ (capk : Int) := by omega
  have i3 : (n : Int) ≤ (capi : Int) := by omega
  go_enter Tryd.func37, Tryd.ntmps37
  go_wp2_with fail
  go_quiet (fail)
  go_wp2
  refine bodyPost_ret (v := .tuple #[.slice adk n capk, .slice adi n capi]) ?_ rfl ⟨rfl, Below.draws (below_new _ _) _⟩
  simp [results, Tryd.results37, go_sem]

/-- What Get answers of an object of scalars. -/
def Gets (w : World) (ks : List ByteArray) (xs : List (Int × Bool × ByteArray)) (key : ByteArray) (e : Ending) (w' : World) : Prop := ∃ p, KeyPlace ks key p ∧ e = .returned (.tuple #[if hasAt ks key p then scal (xs.getD p noScal).1 (xs.getD p noScal).2.1 (xs.getD p noScal).2.2 else scal 0 false ⟨#[]⟩, .bool (hasAt ks key p)]) ∧ Below w.heap.size w w'

set_option maxRecDepth 100000 in
set_option maxHeartbeats 2000000 in
theorem get_obj {w : World} {kv iv : Value} {ks : List ByteArray} {xs : List (Int × Bool × ByteArray)} (key : ByteArray) (hk : StrsAt w.heap.size w kv ks) (hx : ScalsAt w.heap.size w iv xs) (hl : xs.length = ks.length) (hr : Rising ks) :
    Calls Tryd.prog 23 #[.agg #[.int .i64 6, .bool false, .string ⟨#[]⟩, iv, kv], .string key] w fun e w' => Gets w ks xs key e w' := by
  have HSr := Lib.hid (fun W (hb : Below w.heap.size w W) => search_any key (hk.below hb) hr)
  obtain ⟨adk, capk, rfl, hnk, hck, -⟩ := hk
  obtain ⟨adi, capi, rfl, hni, hci, hxs⟩ := hx
  have HXS := Lib.hid hxs
  rw [hl] at hni ⊢
  have HL := Lib.hid hl
  obtain ⟨n, hn⟩ : ∃ n, ks.length = n := ⟨_, rfl⟩
  have HN := Lib.hid hn
  rw [hn] at hnk hck hni HSr ⊢
  have HM := Lib.hid (fun W => members_obj (adk := adk) (adi := adi) hnk hni W false ⟨#[]⟩)
  clear hxs hl hn hci
  have en : nil5 = #[.int .i64 0, .bool false, .string ⟨#[]⟩, .slice none 0 0, .slice none 0 0] := rfl
  have hB0 := (below_new w (.cells #[.int .i64 6, .bool false, .string ⟨#[]⟩, .slice adi n capi, .slice adk n capk] 26)).alloc (by simp) (.cells nil5 26)
  have hR0 := Blk.new (w.alloc (.cells #[.int .i64 6, .bool false, .string ⟨#[]⟩, .slice adi n capi, .slice adk n capk] 26)) nil5 26
  rw [show (w.alloc (.cells #[.int .i64 6, .bool false, .string ⟨#[]⟩, .slice adi n capi, .slice adk n capk] 26)).heap.size = w.heap.size + 1 by simp] at hR0
  rw [en] at hB0 hR0
  go_enter Tryd.func23, Tryd.ntmps23
  go_wp2_with fail
  go_at_call 37; refine (HM.out _).mono ?_; rintro e w1 ⟨rfl, hb1⟩
  have hB1 := hB0.trans (hb1.mono hB0.size)
  have hR1 := hR0.below hb1
  go_wp2_with fail
  go_at_call 38; refine (HSr.out _ hB1).mono ?_; rintro e w2 ⟨p, hp, rfl, rfl⟩
  have HP := Lib.hid hp
  clear hp hB0 hR0 hb1
  have q0 := hR1.cell 0
  have q1 := hR1.cell 1
  have q2 := hR1.cell 2
  have q3 := hR1.cell 3
  have q4 := hR1.cell 4
  have f0 := hR1.frozen 0
  have f1 := hR1.frozen 1
  have f2 := hR1.frozen 2
  have f3 := hR1.frozen 3
  have f4 := hR1.frozen 4
  cases hh : hasAt ks key p
  · have HH := Lib.hid hh
    have h5 := hR1.set5 (.int .i64 0) (.bool false) (.string ⟨#[]⟩) (.slice none 0 0) (.slice none 0 0)
    have d0 := h5.cell 0
    have d1 := h5.cell 1
    have d2 := h5.cell 2
    have d3 := h5.cell 3
    have d4 := h5.cell 4
    clear hh
    go_wp2
    refine bodyPost_ret (v := .tuple #[scal 0 false ⟨#[]⟩, .bool false]) ?_ rfl ⟨p, HP.out, by rw [HH.out]; rfl, below_set5 hB1 (by omega) _ _ _ _ _⟩
    simp [results, Tryd.results23, go_sem, scal, d0, d1, d2, d3, d4]
  · have HH := Lib.hid hh
    have hpn : p < n := by
      rcases Nat.lt_or_ge p ks.length with h | h
      · have := HN.out; omega
      · rw [hasAt_out h] at hh; cases hh
    have hpx : p < xs.length := by have := HL.out; have := HN.out; omega
    obtain ⟨g, o, rfl, hg, hcs⟩ := HXS.out (by omega)
    have hc := hcs p hpx
    obtain ⟨x, hx⟩ : ∃ x, xs.getD p noScal = x := ⟨_, rfl⟩
    obtain ⟨x1, x2, x3⟩ := x
    rw [hx] at hc
    have HXp := Lib.hid hx
    have cx0 := (hB1.cell (p := ⟨g, o + p * 5, none⟩) hg).trans hc.1
    have cx1 := (hB1.cell (p := ⟨g, o + p * 5 + 1, none⟩) hg).trans hc.2.1
    have cx2 := (hB1.cell (p := ⟨g, o + p * 5 + 2, none⟩) hg).trans hc.2.2.1
    have cx3 := (hB1.cell (p := ⟨g, o + p * 5 + 3, none⟩) hg).trans hc.2.2.2.1
    have cx4 := (hB1.cell (p := ⟨g, o + p * 5 + 4, none⟩) hg).trans hc.2.2.2.2
    have i1 : (0 : Int) ≤ (p : Int) := by omega
    have i2 : (p : Int) < (n : Int) := by omega
    have HCl := Lib.hid (fun W => clone_scal x1 x2 x3 W)
    unfold scal at HCl
    clear hh hc hcs hx
    go_wp2_with fail
    go_at_call 22; refine (HCl.out _).mono ?_; rintro e w3 ⟨rfl, hb3⟩
    have hB3 := hB1.trans (hb3.mono hB1.size)
    have hR3 := hR1.below hb3
    clear q0 q1 q2 q3 q4 f0 f1 f2 f3 f4
    have q0 := hR3.cell 0
    have q1 := hR3.cell 1
    have q2 := hR3.cell 2
    have q3 := hR3.cell 3
    have q4 := hR3.cell 4
    have f0 := hR3.frozen 0
    have f1 := hR3.frozen 1
    have f2 := hR3.frozen 2
    have f3 := hR3.frozen 3
    have f4 := hR3.frozen 4
    have h5 := hR3.set5 (.int .i64 x1) (.bool x2) (.string x3) (.slice none 0 0) (.slice none 0 0)
    have d0 := h5.cell 0
    have d1 := h5.cell 1
    have d2 := h5.cell 2
    have d3 := h5.cell 3
    have d4 := h5.cell 4
    go_wp2
    refine bodyPost_ret (v := .tuple #[scal x1 x2 x3, .bool true]) ?_ rfl ⟨p, HP.out, by rw [HH.out, HXp.out]; rfl, below_set5 hB3 (by omega) _ _ _ _ _⟩
    simp [results, Tryd.results23, go_sem, scal, d0, d1, d2, d3, d4]
end Go.Proofs.YtjgbhnbfojkhoaaDoor
