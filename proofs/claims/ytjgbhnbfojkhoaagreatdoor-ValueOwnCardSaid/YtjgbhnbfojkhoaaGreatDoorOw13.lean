/- spoil: all within a value in new memory is written over -/
import Derived.Deep.LoopGhost
import Derived.Deep.MidRow
import Derived.Test.YtjgbhnbfojkhoaaGreatDoorOw12
namespace Go.Proofs.YtjgbhnbfojkhoaaGreatDoor
open Go.RowKit
set_option linter.unusedVariables false

/-- A cell keeps its sort; a list is what it was, or none. -/
def Sort2 (u v : Value) : Prop := match u with
  | .string _ => ∃ s, v = .string s
  | .int k _ => ∃ z, v = .int k z
  | .bool _ => ∃ b, v = .bool b
  | .slice ad n cap => v = .slice ad n cap ∨ v = .slice none 0 0
  | _ => True
theorem Sort2.refl (u : Value) : Sort2 u u := by cases u <;> simp [Sort2]
/-- What spoiling leaves of blocks lo to B. -/
structure Spoilt (lo B : Nat) (w W : World) : Prop where
  below : Below lo w W
  sort : ∀ a u, lo ≤ a.block → a.block < B → w.cell? a = some u → ∃ v, W.cell? a = some v ∧ Sort2 u v
  thaw : ∀ a, lo ≤ a.block → a.block < B → w.frozen? a = false → W.frozen? a = false
theorem Spoilt.refl (lo B : Nat) (w : World) : Spoilt lo B w w := ⟨Below.refl _ _, fun a u _ _ h => ⟨u, h, Sort2.refl u⟩, fun _ _ _ h => h⟩
theorem Spoilt.later {lo B : Nat} {w W W' : World} (h : Spoilt lo B w W) (hb : Below W.heap.size W W') (hB : B ≤ W.heap.size) (hl : lo ≤ W.heap.size) : Spoilt lo B w W' :=
  ⟨h.below.trans (hb.mono hl), fun a u h1 h2 hu => by
    obtain ⟨v, hv, hs⟩ := h.sort a u h1 h2 hu
    exact ⟨v, (hb.cell (by omega)).trans hv, hs⟩, fun a h1 h2 hf => by
    have := h.thaw a h1 h2 hf
    unfold World.frozen? at this ⊢
    rw [hb.block a.block (by omega)]
    exact this⟩
theorem Spoilt.set {lo B : Nat} {w W : World} (h : Spoilt lo B w W) {a : Addr} {u : Value} (h1 : lo ≤ a.block) (hu : w.cell? a = some u) (h2 : a.block < B) {v : Value} (hs : Sort2 u v) : Spoilt lo B w (W.setCell a v) := by
  refine ⟨h.below.setCell h1 v, fun b x g1 g2 hx => ?_, fun b g1 g2 hb => by simpa using h.thaw b g1 g2 hb⟩
  obtain ⟨y, hy, hy2⟩ := h.sort b x g1 g2 hx
  by_cases e : a = b
  · subst e
    rw [hu] at hx
    cases hx
    exact ⟨v, World.cell?_setCell_same _ _ _ hy, hs⟩
  · exact ⟨y, (World.cell?_setCell_other _ _ _ _ e).trans hy, hy2⟩
/-- A value whose lists are those of another one, or none. -/
def Part5 (v v' : Value) : Prop := ∃ k b t ai ni ci ak nk ck k' b' t' ai' ni' ci' ak' nk' ck', v = .agg #[.int .i64 k, .bool b, .string t, .slice ai ni ci, .slice ak nk ck] ∧ v' = .agg #[.int .i64 k', .bool b', .string t', .slice ai' ni' ci', .slice ak' nk' ck'] ∧
  ((ai' = ai ∧ ni' = ni ∧ ci' = ci) ∨ (ai' = none ∧ ni' = 0 ∧ ci' = 0)) ∧ ((ak' = ak ∧ nk' = nk ∧ ck' = ck) ∨ (ak' = none ∧ nk' = 0 ∧ ck' = 0))
/-- What lies from B on stays. -/
structure Outside (B : Nat) (W W' : World) : Prop where
  size : W.heap.size ≤ W'.heap.size
  block : ∀ g, B ≤ g → g < W.heap.size → W'.heap[g]? = W.heap[g]?
theorem Outside.refl (B : Nat) (W : World) : Outside B W W := ⟨Nat.le_refl _, fun _ _ _ => rfl⟩
theorem Outside.trans {B : Nat} {a b c : World} (h : Outside B a b) (k : Outside B b c) : Outside B a c := ⟨Nat.le_trans h.size k.size, fun g h1 h2 => (k.block g h1 (Nat.lt_of_lt_of_le h2 h.size)).trans (h.block g h1 h2)⟩
theorem Outside.set {B : Nat} {W W' : World} (h : Outside B W W') {p : Addr} (hp : p.block < B) (u : Value) : Outside B W (W'.setCell p u) := ⟨by simpa using h.size, fun g h1 h2 => by rw [Below.heap_setCell _ _ _ _ (by omega)]; exact h.block g h1 h2⟩
theorem Blk.outside {B P : Nat} {W W' : World} {cs : Array Value} {t : TypeId} (h : Blk W P cs t) (ho : Outside B W W') (hB : B ≤ P) : Blk W' P cs t := (ho.block P hB h.lt).trans h
/-- What spoil does. -/
def Spoils (lo B : Nat) (w : World) (v : Value) : Prop := ∀ (W : World) (v' : Value), B ≤ W.heap.size → lo ≤ W.heap.size → Spoilt lo B w W → Part5 v v' → Calls Tryz.prog 27 #[v'] W fun e w' => e = .returned (.tuple #[]) ∧ Spoilt lo B w w' ∧ Outside B W w'
structure SpoilItem (lo B : Nat) (w : World) (g o : Nat) : Prop where
  cells : ∃ k b t ai ni ci ak nk ck, Five w g o (.int .i64 k) (.bool b) (.string t) (.slice ai ni ci) (.slice ak nk ck) ∧ Spoils lo B w (.agg #[.int .i64 k, .bool b, .string t, .slice ai ni ci, .slice ak nk ck])
  thaw : ∀ i, i < 5 → w.frozen? ⟨g, o + i, none⟩ = false
theorem sort_slice {a : Option Addr} {n c : Nat} {v : Value} (h : Sort2 (.slice a n c) v) : ∃ a' n' c', v = .slice a' n' c' ∧ ((a' = a ∧ n' = n ∧ c' = c) ∨ (a' = none ∧ n' = 0 ∧ c' = 0)) := by
  rcases h with h | h
  · exact ⟨a, n, c, h, .inl ⟨rfl, rfl, rfl⟩⟩
  · exact ⟨none, 0, 0, h, .inr ⟨rfl, rfl, rfl⟩⟩

set_option maxRecDepth 100000 in
set_option maxHeartbeats 8000000 in
theorem spoil_core {lo B : Nat} {w W : World} {k : Int} {b : Bool} {t : ByteArray} {adi adk : Option Addr} {ni ci nk ck : Nat} (hn1 : ni ≤ 140737488355328) (hn2 : nk ≤ 140737488355328) (hBW : B ≤ W.heap.size) (hlW : lo ≤ W.heap.size)
    (hk : 0 < nk → ∃ g o, adk = some ⟨g, o, none⟩ ∧ lo ≤ g ∧ g < B ∧ ∀ j, j < nk → (∃ s, w.cell? ⟨g, o + j, none⟩ = some (.string s)) ∧ w.frozen? ⟨g, o + j, none⟩ = false)
    (hi : 0 < ni → ∃ g o, adi = some ⟨g, o, none⟩ ∧ lo ≤ g ∧ g < B ∧ ∀ j, j < ni → SpoilItem lo B w g (o + j * 5)) (hW : Spoilt lo B w W) :
    Calls Tryz.prog 27 #[.agg #[.int .i64 k, .bool b, .string t, .slice adi ni ci, .slice adk nk ck]] W fun e w' => e = .returned (.tuple #[]) ∧ Spoilt lo B w w' ∧ Outside B W w' := by
  have HK := Lib.hid hk
  have HI := Lib.hid hi
  have HW := Lib.hid hW
  clear hk hi hW
  go_enter Tryz.func27, Tryz.ntmps27
  have hP := Blk.new W #[.int .i64 k, .bool b, .string t, .slice adi ni ci, .slice adk nk ck] 26
  have HS0 : Hid (Spoilt lo B w (W.alloc (.cells #[.int .i64 k, .bool b, .string t, .slice adi ni ci, .slice adk nk ck] 26))) := Lib.hid (HW.out.later (below_new _ _) hBW hlW)
  have HO0 : Hid (Outside B W (W.alloc (.cells #[.int .i64 k, .bool b, .string t, .slice adi ni ci, .slice adk nk ck] 26))) := Lib.hid ⟨by simp, fun g _ h2 => (below_new W _).block g h2⟩
  have HP := Lib.hid hP
  clear hP
  go_wp2_with fail
  go_loopg [7] nk (fun gf s7 wx => ∃ i : Nat, s7 = .int .i64 (i : Int) ∧ Hid (Spoilt lo B w wx) ∧ Hid (Outside B W wx) ∧ Hid (Blk wx W.heap.size #[.int .i64 k, .bool b, .string t, .slice adi ni ci, .slice adk nk ck] 26) ∧ i + gf = nk)
  case atStart => exact ⟨0, rfl, HS0, HO0, HP, by omega⟩
  case round =>
    obtain ⟨i, rfl, HS, HO, HB, hfi⟩ := hrel
    clear HS0 HO0 HP
    have d3 := HB.out.cell 3
    have d4 := HB.out.cell 4
    by_cases hin : i < nk
    · obtain ⟨g', rfl⟩ : ∃ g', gk = g' + 1 := ⟨gk - 1, by omega⟩
      obtain ⟨g, o, rfl, hg1, hg2, hc⟩ := HK.out (by omega)
      obtain ⟨⟨s, hs⟩, hth⟩ := hc i hin
      obtain ⟨v1, hv1, s1, rfl⟩ := HS.out.sort ⟨g, o + i, none⟩ _ hg1 hg2 hs
      have hf1 := HS.out.thaw ⟨g, o + i, none⟩ hg1 hg2 hth
      have HS2 := Lib.hid (HS.out.set (a := ⟨g, o + i, none⟩) hg1 hs hg2 (v := .string ⟨#[63]⟩) ⟨_, rfl⟩)
      have HO2 := Lib.hid (HO.out.set (p := ⟨g, o + i, none⟩) hg2 (.string ⟨#[63]⟩))
      have HB2 := Lib.hid (HB.out.other (p := ⟨g, o + i, none⟩) (by show W.heap.size ≠ g; omega) (.string ⟨#[63]⟩))
      have j1 : (i : Int) < (nk : Int) := by omega
      clear hc hs hth
      go_wp2_with fail
      go_roundg g'
      case measure => omega
      case rel => exact ⟨i + 1, by push_cast; rfl, HS2, HO2, HB2, by omega⟩
    · obtain rfl : i = nk := by omega
      have j1 : ¬ (i : Int) < (i : Int) := by omega
      go_wp2_with fail
      go_loopg [18] ni (fun gf s18 wy => ∃ j : Nat, s18 = .int .i64 (j : Int) ∧ Hid (Spoilt lo B w wy) ∧ Hid (Outside B W wy) ∧ Hid (Blk wy W.heap.size #[.int .i64 k, .bool b, .string t, .slice adi ni ci, .slice adk i ck] 26) ∧ j + gf = ni)
      case atStart => exact ⟨0, rfl, HS, HO, HB, by omega⟩
      case round =>
        obtain ⟨j, rfl, HSy, HOy, HBy, hfj⟩ := hrel
        have d3 := HBy.out.cell 3
        by_cases hjn : j < ni
        · obtain ⟨g', rfl⟩ : ∃ g', gk = g' + 1 := ⟨gk - 1, by omega⟩
          obtain ⟨g, o, rfl, hg1, hg2, hc⟩ := HI.out (by omega)
          obtain ⟨⟨k1, b1, t1, a1, n1, c1, a2, n2, c2, hF, hSp⟩, hth⟩ := hc j hjn
          have HF := Lib.hid hF
          have HTH := Lib.hid hth
          obtain ⟨hF0, hF1, hF2, hF3, hF4⟩ := hF
          obtain ⟨_, e0, k2, rfl⟩ := HSy.out.sort ⟨g, o + j * 5, none⟩ _ hg1 hg2 hF0
          obtain ⟨_, e1, b2, rfl⟩ := HSy.out.sort ⟨g, o + j * 5 + 1, none⟩ _ hg1 hg2 hF1
          obtain ⟨_, e2, t2, rfl⟩ := HSy.out.sort ⟨g, o + j * 5 + 2, none⟩ _ hg1 hg2 hF2
          obtain ⟨v3, e3, f3⟩ := HSy.out.sort ⟨g, o + j * 5 + 3, none⟩ _ hg1 hg2 hF3
          obtain ⟨v4, e4, f4⟩ := HSy.out.sort ⟨g, o + j * 5 + 4, none⟩ _ hg1 hg2 hF4
          obtain ⟨a3, n3, c3, rfl, p3⟩ := sort_slice f3
          obtain ⟨a4, n4, c4, rfl, p4⟩ := sort_slice f4
          have HC := Lib.hid (hSp wr _ (Nat.le_trans hBW HOy.out.size) (Nat.le_trans hlW HOy.out.size) HSy.out ⟨k1, b1, t1, a1, n1, c1, a2, n2, c2, k2, b2, t2, a3, n3, c3, a4, n4, c4, rfl, rfl, p3, p4⟩)
          have j1 : (j : Int) < (ni : Int) := by omega
          clear hc hF0 hF1 hF2 hF3 hF4 f3 f4 p3 p4 hSp hth
          go_wp2_with fail
          go_at_call 27; refine HC.out.mono ?_; rintro e w1 ⟨rfl, hs1, ho1⟩
          have HB1 := Lib.hid (HBy.out.outside ho1 (by omega))
          have d3 := HB1.out.cell 3
          obtain ⟨u0, x0, y0⟩ := hs1.sort ⟨g, o + j * 5, none⟩ _ hg1 hg2 HF.out.1
          obtain ⟨u1, x1, y1⟩ := hs1.sort ⟨g, o + j * 5 + 1, none⟩ _ hg1 hg2 HF.out.2.1
          obtain ⟨u2, x2, y2⟩ := hs1.sort ⟨g, o + j * 5 + 2, none⟩ _ hg1 hg2 HF.out.2.2.1
          obtain ⟨u3, x3, y3⟩ := hs1.sort ⟨g, o + j * 5 + 3, none⟩ _ hg1 hg2 HF.out.2.2.2.1
          obtain ⟨u4, x4, y4⟩ := hs1.sort ⟨g, o + j * 5 + 4, none⟩ _ hg1 hg2 HF.out.2.2.2.2
          have z0 := hs1.thaw ⟨g, o + j * 5, none⟩ hg1 hg2 (HTH.out 0 (by omega))
          have z1 := hs1.thaw ⟨g, o + j * 5 + 1, none⟩ hg1 hg2 (HTH.out 1 (by omega))
          have z2 := hs1.thaw ⟨g, o + j * 5 + 2, none⟩ hg1 hg2 (HTH.out 2 (by omega))
          have z3 := hs1.thaw ⟨g, o + j * 5 + 3, none⟩ hg1 hg2 (HTH.out 3 (by omega))
          have z4 := hs1.thaw ⟨g, o + j * 5 + 4, none⟩ hg1 hg2 (HTH.out 4 (by omega))
          have HS5 := Lib.hid (((((hs1.set (a := ⟨g, o + j * 5, none⟩) hg1 HF.out.1 hg2 (v := .int .i64 99) ⟨_, rfl⟩).set (a := ⟨g, o + j * 5 + 1, none⟩) hg1 HF.out.2.1 hg2 (v := .bool false) ⟨_, rfl⟩).set (a := ⟨g, o + j * 5 + 2, none⟩) hg1 HF.out.2.2.1 hg2 (v := .string ⟨#[]⟩) ⟨_, rfl⟩).set (a := ⟨g, o + j * 5 + 3, none⟩) hg1 HF.out.2.2.2.1 hg2 (v := .slice none 0 0) (.inr rfl)).set (a := ⟨g, o + j * 5 + 4, none⟩) hg1 HF.out.2.2.2.2 hg2 (v := .slice none 0 0) (.inr rfl))
          have HO5 := Lib.hid ((((((HOy.out.trans ho1).set (p := ⟨g, o + j * 5, none⟩) hg2 (.int .i64 99)).set (p := ⟨g, o + j * 5 + 1, none⟩) hg2 (.bool false)).set (p := ⟨g, o + j * 5 + 2, none⟩) hg2 (.string ⟨#[]⟩)).set (p := ⟨g, o + j * 5 + 3, none⟩) hg2 (.slice none 0 0)).set (p := ⟨g, o + j * 5 + 4, none⟩) hg2 (.slice none 0 0))
          have hne : W.heap.size ≠ g := by omega
          have HB5 := Lib.hid (((((HB1.out.other (p := ⟨g, o + j * 5, none⟩) hne (.int .i64 99)).other (p := ⟨g, o + j * 5 + 1, none⟩) hne (.bool false)).other (p := ⟨g, o + j * 5 + 2, none⟩) hne (.string ⟨#[]⟩)).other (p := ⟨g, o + j * 5 + 3, none⟩) hne (.slice none 0 0)).other (p := ⟨g, o + j * 5 + 4, none⟩) hne (.slice none 0 0))
          clear e0 e1 e2 e3 e4 y0 y1 y2 y3 y4 hs1 ho1
          go_wp2_with fail
          go_roundg g'
          case measure => omega
          case rel => exact ⟨j + 1, by push_cast; rfl, HS5, HO5, HB5, by omega⟩
        · obtain rfl : j = ni := by omega
          have j1 : ¬ (j : Int) < (j : Int) := by omega
          go_wp2
          go_end0
          exact ⟨rfl, HSy.out, HOy.out⟩
theorem spoil_any {lo B : Nat} {w : World} {v : Value} {T : VT} (h : Fresh lo B w v T) : Spoils lo B w v := by
  induction h with
  | mk k b t its ks ad cap kv g o ik ib it ii iv hk hc hn ha hcell hthaw hrec ih =>
    intro W v' hB hl hW hp
    obtain ⟨adk, capk, rfl, hkc, hkn, hks⟩ := hk
    obtain ⟨_, _, _, _, _, _, _, _, _, k', b', t', ai', ni', ci', ak', nk', ck', e1, rfl, hI, hK⟩ := hp
    simp only [Value.agg.injEq, Array.mk.injEq, List.cons.injEq, and_true, Value.int.injEq, Value.bool.injEq, Value.string.injEq, Value.slice.injEq, true_and] at e1
    obtain ⟨-, -, -, ⟨rfl, rfl, rfl⟩, rfl, rfl, rfl⟩ := e1
    refine spoil_core ?_ ?_ hB hl (fun h0 => ?_) (fun h0 => ?_) hW
    · rcases hI with ⟨-, rfl, -⟩ | ⟨-, rfl, -⟩ <;> omega
    · rcases hK with ⟨-, rfl, -⟩ | ⟨-, rfl, -⟩ <;> omega
    · rcases hK with ⟨rfl, rfl, rfl⟩ | ⟨-, rfl, -⟩
      · obtain ⟨g1, o1, e2, h1, h2, h3, h4⟩ := hks h0
        exact ⟨g1, o1, e2, h1, h2, fun j hj => ⟨⟨_, h3 j hj⟩, h4 j hj⟩⟩
      · omega
    · rcases hI with ⟨rfl, rfl, rfl⟩ | ⟨-, rfl, -⟩
      · obtain ⟨e2, h1, h2⟩ := ha h0
        refine ⟨g, o, e2, h1, h2, fun j hj => ⟨?_, fun i hi => hthaw j i hj hi⟩⟩
        obtain ⟨k1, b1, t1, ad1, n1, cap1, adk1, nk1, capk1, e3⟩ := (hrec j hj).shape
        have hc5 := hcell j hj
        have hih := ih j hj
        simp only [Value.agg.injEq, Array.mk.injEq, List.cons.injEq, and_true] at e3
        rw [e3.1, e3.2.1, e3.2.2.1, e3.2.2.2.1, e3.2.2.2.2] at hc5 hih
        exact ⟨k1, b1, t1, ad1, n1, cap1, adk1, nk1, capk1, hc5, hih⟩
      · omega
end Go.Proofs.YtjgbhnbfojkhoaaGreatDoor
