/- purlinref02.At · purlinref02.Object: how far it is · value.Object of no keys, and of lists of two lengths -/
import Derived.Handy
import Derived.Shelf.SlSortCmp.NoneTotal
import Derived.Test.YtblldoniagiboaaGreatDoorJl07
import Derived.Test.YtblldoniagiboaaGreatDoorJl12
import Derived.Test.YtblldoniagiboaaGreatDoorJl16
import Derived.Test.YtblldoniagiboaaGreatDoorJl40
import Derived.Test.YtblldoniagiboaaGreatDoorJl41
namespace Go.Proofs.YtblldoniagiboaaGreatDoor
open Go.RowKit Go.Sort Go.Shelf
set_option linter.unusedVariables false

/-- Where a key stands first; -1: nowhere. -/
def AtIs (ks : List ByteArray) (key : ByteArray) (r : Int) : Prop := (r = -1 ∧ ∀ i (h : i < ks.length), (ks[i].toList == key.toList) = false) ∨ ∃ (j : Nat) (h : j < ks.length), r = (j : Int) ∧ (ks[j].toList == key.toList) = true

set_option maxRecDepth 100000 in
set_option maxHeartbeats 2000000 in
theorem rAt_any {B : Nat} {w : World} {k : Int} {b : Bool} {t key : ByteArray} {ad : Option Addr} {len cap : Nat} {kv : Value} {ks : List ByteArray} (hkv : StrsAt B w kv ks)
    (W : World) (hb : Below B w W) (hBW : B ≤ W.heap.size) : Calls Tryz.prog 111 #[.agg #[.int .i64 k, .bool b, .string t, .slice ad len cap, kv], .string key] W fun e w' => (∃ r, e = .returned (.int .i64 r) ∧ AtIs ks key r) ∧ Below W.heap.size W w' := by
  obtain ⟨adk, capk, rfl, hkc, hkl, hkp⟩ := hkv.below hb
  have HKP := Lib.hid hkp
  have HBW := Lib.hid hBW
  obtain ⟨n, hn⟩ : ∃ n, ks.length = n := ⟨_, rfl⟩
  have HN := Lib.hid hn
  rw [hn] at hkc hkl ⊢
  clear hkp hn hkv hb
  have hk0 := Blk.new W #[.int .i64 k, .bool b, .string t, .slice ad len cap, .slice adk n capk] 26
  have hb0 := below_new W (.cells #[.int .i64 k, .bool b, .string t, .slice ad len cap, .slice adk n capk] 26)
  have HS0 : Hid (Below W.heap.size W (W.alloc (.cells #[.int .i64 k, .bool b, .string t, .slice ad len cap, .slice adk n capk] 26)) ∧ Blk (W.alloc (.cells #[.int .i64 k, .bool b, .string t, .slice ad len cap, .slice adk n capk] 26)) W.heap.size #[.int .i64 k, .bool b, .string t, .slice ad len cap, .slice adk n capk] 26) := Lib.hid ⟨hb0, hk0⟩
  clear hk0 hb0
  go_enter Tryz.func111, Tryz.ntmps111
  go_wp2_with fail
  go_loop [9] (fun jv => ∃ j : Nat, jv = .int .i64 j ∧ j ≤ n ∧ Hid (∀ i (h : i < ks.length), i < j → (ks[i].toList == key.toList) = false)) (fun jv => n - (intOf jv).toNat)
  case atStart => exact ⟨0, rfl, by omega, Lib.hid (fun i _ h => by omega)⟩
  case round =>
    obtain ⟨j, rfl, hj, HI⟩ := hrel
    have i1 : (0 : Int) ≤ (j : Int) := by omega
    by_cases hlt : j < n
    · have i2 : (j : Int) < (n : Int) := by omega
      have hjk : j < ks.length := by have := HN.out; omega
      obtain ⟨gk, ok, rfl, hgk, hck⟩ := HKP.out (by omega)
      have ck := (HS0.out.1.cell (p := ⟨gk, ok + j, none⟩) (by have := HBW.out; show gk < _; omega)).trans (hck j hjk)
      have q4 := HS0.out.2.cell 4
      obtain ⟨x, hx⟩ : ∃ x, ks[j] = x := ⟨_, rfl⟩
      rw [hx] at ck
      have HX := Lib.hid hx
      clear hck hx
      cases hd : (x.toList == key.toList)
      · have HD := Lib.hid hd
        go_wp2_with fail
        go_round
        case rel =>
          refine ⟨j + 1, by go_num, by omega, Lib.hid (fun i hi hij => ?_)⟩
          rcases Nat.eq_or_lt_of_le (show i ≤ j by omega) with h | h
          · subst h; rw [HX.out]; exact HD.out
          · exact HI.out i hi h
        case measure => simp [intOf]; omega
      · have HF : Hid (AtIs ks key (j : Int)) := Lib.hid (.inr ⟨j, hjk, rfl, by rw [HX.out]; exact hd⟩)
        go_wp2_with fail
        go_ret
        exact ⟨⟨_, rfl, HF.out⟩, HS0.out.1⟩
    · have HF : Hid (AtIs ks key (-1)) := Lib.hid (.inl ⟨rfl, fun i hi => HI.out i hi (by have := HN.out; omega)⟩)
      go_wp2_with fail
      go_ret
      exact ⟨⟨_, rfl, HF.out⟩, HS0.out.1⟩
end Go.Proofs.YtblldoniagiboaaGreatDoor
namespace Go.Proofs.YtblldoniagiboaaGreatDoor
open Go.RowKit
set_option linter.unusedVariables false

/-- How far the document's Object is: behind i keys. -/
structure DocSt (w wr : World) (ks : List ByteArray) (xs : List It) (i : Nat) (kv iv : Value) (K : List ByteArray) (yy : List It) : Prop where
  res : Blk wr w.heap.size nil5 26
  box : Blk wr (w.heap.size + 1) #[.int .i64 6, .bool false, .string ⟨#[]⟩, iv, kv] 26
  grown : Grown (w.heap.size + 2) wr kv iv K yy
  ok : ∀ e ∈ yy, e.Ok w.heap.size w
  len : K.length = yy.length
  num : yy.length = i
  below : Below w.heap.size w wr
  put : docObj ks (xs.map It.T) = putAll bLt (K.zip (yy.map It.T)) ((ks.zip (xs.map It.T)).drop i)
/-- What the document's Object answers. -/
def DocEnds (w : World) (ks : List ByteArray) (Ts : List VT) (e : Ending) (w' : World) : Prop :=
  (∃ v' z, docObj ks Ts = some z ∧ e = .returned (.tuple #[v', .int .i64 0]) ∧ Is w'.heap.size w' v' (.node 6 false ⟨#[]⟩ (z.map Prod.snd) (z.map Prod.fst)) ∧ Below w.heap.size w w') ∨
  (docObj ks Ts = none ∧ e = .returned (.tuple #[.agg #[.int .i64 0, .bool false, .string ⟨#[]⟩, .slice none 0 0, .slice none 0 0], .int .i64 2]) ∧ Below w.heap.size w w')
section
variable {w wr : World} {ks : List ByteArray} {xs : List It} {i : Nat} {kv iv : Value} {K : List ByteArray} {yy : List It}
theorem DocSt.later {W : World} (h : DocSt w wr ks xs i kv iv K yy) (hb : Below wr.heap.size wr W) : DocSt w W ks xs i kv iv K yy :=
  ⟨h.res.below hb, h.box.below hb, ⟨row_below h.grown.1 hb, row_below h.grown.2 hb⟩, h.ok, h.len, h.num, h.below.trans (hb.mono h.below.size), h.put⟩
theorem DocSt.strs (h : DocSt w wr ks xs i kv iv K yy) (hi : i ≤ 1000000) : StrsAt wr.heap.size wr kv K := strs_of_row h.grown.1 (by have := h.len; have := h.num; omega)
theorem DocSt.items (h : DocSt w wr ks xs i kv iv K yy) (hi : i ≤ 1000000) : ItemsAt wr.heap.size wr iv yy := items_of_row h.grown.2 (by have := h.num; omega) (fun e he => ((h.ok e he).later h.below).wide h.below.size)
theorem zip_drop {ks : List ByteArray} {Ts : List VT} {i : Nat} (h1 : i < ks.length) (h2 : i < Ts.length) : (ks.zip Ts).drop i = (ks[i], Ts[i]) :: (ks.zip Ts).drop (i + 1) := by
  rw [List.drop_eq_getElem_cons (by simp; omega)]
  simp
/-- The next key is there. -/
theorem DocSt.twice (h : DocSt w wr ks xs i kv iv K yy) (hk : i < ks.length) (hx : i < xs.length) (hm : ∃ (j : Nat) (hj : j < K.length), (K[j].toList == ks[i].toList) = true) : docObj ks (xs.map It.T) = none := by
  rw [h.put, zip_drop hk (by simpa using hx)]
  unfold putAll
  rw [if_pos]
  obtain ⟨j, hj, he⟩ := hm
  have e := key_eq.1 he
  have : ((K.zip (yy.map It.T)).map Prod.fst) = K := by rw [List.map_fst_zip]; have := h.len; simp; omega
  rw [this, ← e]
  exact List.getElem_mem hj
/-- The next key is put. -/
theorem DocSt.next {w3 : World} {kv' iv' : Value} {ex : It} (h : DocSt w wr ks xs i kv iv K yy) (hk : i < ks.length) (hx : i < xs.length) (hex : xs[i] = ex) (hok : ex.Ok w.heap.size w) (hm : ∀ (j : Nat) (hj : j < K.length), (K[j].toList == ks[i].toList) = false)
    (hb : Below wr.heap.size wr w3) (hg : Grown wr.heap.size w3 kv' iv' (insK ks[i] (dropK ks[i] K)) (insI ks[i] ex (dropK ks[i] K) (dropI ks[i] K yy))) :
    DocSt w (((((w3.setCell ⟨w.heap.size + 1, 0, none⟩ (.int .i64 6)).setCell ⟨w.heap.size + 1, 1, none⟩ (.bool false)).setCell ⟨w.heap.size + 1, 2, none⟩ (.string ⟨#[]⟩)).setCell ⟨w.heap.size + 1, 3, none⟩ iv').setCell ⟨w.heap.size + 1, 4, none⟩ kv') ks xs (i + 1) kv' iv' (insK ks[i] K) (insI ks[i] ex K yy) := by
  have hn : ∀ b ∈ K, (b.toList == ks[i].toList) = false := fun b hb => by
    obtain ⟨j, hj, rfl⟩ := List.getElem_of_mem hb
    exact hm j hj
  rw [dropK_none hn, dropI_none h.len hn] at hg
  have hl := h.len
  have hbx := h.box.lt
  have hR := h.res.below hb
  have hO := h.box.below hb
  have hbs := hb.size
  have hO5 := hO.set5 (.int .i64 6) (.bool false) (.string ⟨#[]⟩) iv' kv'
  have hfar : ∀ {v : Value} {E : TypeId} {s n : Nat} {us : List Value}, w3.ownsRow wr.heap.size E s v n us → v.ownBlock ≠ some (w.heap.size + 1) := fun h e => by have := (World.ownsRow.lt h _ e).1; omega
  have hres := ((((hR.other (p := ⟨w.heap.size + 1, 0, none⟩) (by show w.heap.size ≠ w.heap.size + 1; omega) (.int .i64 6)).other (p := ⟨w.heap.size + 1, 1, none⟩) (by show w.heap.size ≠ w.heap.size + 1; omega) (.bool false)).other (p := ⟨w.heap.size + 1, 2, none⟩) (by show w.heap.size ≠ w.heap.size + 1; omega) (.string ⟨#[]⟩)).other (p := ⟨w.heap.size + 1, 3, none⟩) (by show w.heap.size ≠ w.heap.size + 1; omega) iv').other (p := ⟨w.heap.size + 1, 4, none⟩) (by show w.heap.size ≠ w.heap.size + 1; omega) kv'
  have hk5 := row_set5 hg.1 (w.heap.size + 1) (.int .i64 6) (.bool false) (.string ⟨#[]⟩) iv' kv' (hfar hg.1)
  have hi5 := row_set5 hg.2 (w.heap.size + 1) (.int .i64 6) (.bool false) (.string ⟨#[]⟩) iv' kv' (hfar hg.2)
  have hup : ∀ {v : Value} {E : TypeId} {s n : Nat} {us : List Value} {W : World}, W.ownsRow wr.heap.size E s v n us → W.ownsRow (w.heap.size + 2) E s v n us := fun {v E s n us W} h => by
    obtain ⟨a, b | ⟨g, cap, cur, b1, b2, b3⟩⟩ := h
    · exact ⟨a, .inl b⟩
    · exact ⟨a, .inr ⟨g, cap, cur, b1, by omega, b3⟩⟩
  refine ⟨hres, hO5, ⟨hup hk5, hup hi5⟩, fun e he => ?_, ?_, ?_, below_set5 (h.below.trans (hb.mono h.below.size)) (by omega) _ _ _ _ _, ?_⟩
  · rcases insI_sub _ _ _ _ _ he with rfl | he
    · exact hok
    · exact h.ok e he
  · rw [insK_length, insI_length _ _ _ _ hl, insK_length]
  · rw [insI_length _ _ _ _ hl, insK_length, hl, h.num]
  · rw [h.put, zip_drop hk (by simpa using hx)]
    conv => lhs; unfold putAll
    have hf : ((K.zip (yy.map It.T)).map Prod.fst) = K := by rw [List.map_fst_zip]; simp; omega
    rw [if_neg (by rw [hf]; intro hmm; have := hn _ hmm; rw [key_eq.2 rfl] at this; cases this)]
    rw [insI_map, zip_ins _ _ _ _ (by simp; omega)]
    have hT : (xs.map It.T)[i]'(by simpa using hx) = ex.T := by rw [List.getElem_map, hex]
    rw [hT]
/-- All keys are put. -/
theorem DocSt.done (h : DocSt w wr ks xs i kv iv K yy) (hi : i ≤ 1000000) (hn : ks.length ≤ i) : ∃ z, docObj ks (xs.map It.T) = some z ∧ Is (set5 wr w.heap.size 0 (.int .i64 6) (.bool false) (.string ⟨#[]⟩) iv kv).heap.size (set5 wr w.heap.size 0 (.int .i64 6) (.bool false) (.string ⟨#[]⟩) iv kv) (.agg #[.int .i64 6, .bool false, .string ⟨#[]⟩, iv, kv]) (.node 6 false ⟨#[]⟩ (z.map Prod.snd) (z.map Prod.fst)) := by
  have hl := h.len
  have hnum := h.num
  have hp := h.put
  rw [List.drop_eq_nil_of_le (by simp; omega)] at hp
  unfold putAll at hp
  refine ⟨_, hp, ?_⟩
  have hf : ((K.zip (yy.map It.T)).map Prod.fst) = K := by rw [List.map_fst_zip]; simp; omega
  have hs : ((K.zip (yy.map It.T)).map Prod.snd) = yy.map It.T := by rw [List.map_snd_zip]; simp; omega
  rw [hf, hs]
  have hk5 := row_set5 h.grown.1 w.heap.size (.int .i64 6) (.bool false) (.string ⟨#[]⟩) iv kv (fun e => by have := (World.ownsRow.lt h.grown.1 _ e).1; omega)
  have hi5 := row_set5 h.grown.2 w.heap.size (.int .i64 6) (.bool false) (.string ⟨#[]⟩) iv kv (fun e => by have := (World.ownsRow.lt h.grown.2 _ e).1; omega)
  have hb := below_set5 h.below (B := w.heap.size) (Nat.le_refl _) (.int .i64 6) (.bool false) (.string ⟨#[]⟩) iv kv
  exact Is.of_parts (strs_of_row hk5 (by omega)) (items_of_row hi5 (by omega) (fun e he => ((h.ok e he).later hb).wide hb.size))
end
end Go.Proofs.YtblldoniagiboaaGreatDoor
namespace Go.Proofs.YtblldoniagiboaaGreatDoor
open Go.RowKit Go.Sort Go.Shelf
set_option linter.unusedVariables false

set_option maxRecDepth 100000 in
set_option maxHeartbeats 2000000 in
theorem places_loop2 {w : World} {kv : Value} {ks : List ByteArray} (hk : StrsAt w.heap.size w kv ks) (hn : ks.length ≤ 1000000) (Q : Ending → World → Prop)
    (hs : ∀ W, Below w.heap.size w W → W.ownsRow w.heap.size 3 1 (.slice (some ⟨w.heap.size + 1, 0, none⟩) ks.length ks.length) ks.length (counted ks.length ks.length) → W.cell? ⟨w.heap.size, 0, none⟩ = some kv →
      Calls Tryz.prog 205 #[.slice (some ⟨w.heap.size + 1, 0, none⟩) ks.length ks.length, .func (.func 206) #[] #[.pointer (some ⟨w.heap.size, 0, none⟩)] ] W fun e w' => e = .returned (.tuple #[]) ∧ Q (.returned (.slice (some ⟨w.heap.size + 1, 0, none⟩) ks.length ks.length)) w') :
    Calls Tryz.prog 174 #[kv] w Q := by
  obtain ⟨i0, hi, hz0, hz1, hz2⟩ := info_parts Tryz.infoI64
  obtain ⟨ad, cap, rfl, hnc, hcap, hc⟩ := hk
  have HS := Lib.hid hs
  obtain ⟨n, hnn⟩ : ∃ n, ks.length = n := ⟨_, rfl⟩
  rw [hnn] at HS hn hnc ⊢
  clear hs hc hnn
  have HK0 := Blk.new w #[.slice ad n cap] 24
  have HB0 := below_new w (.cells #[.slice ad n cap] 24)
  go_enter Tryz.func174, Tryz.ntmps174
  go_wp2_with (at_make; refine wpList_make_full _ rfl _ _ 46 rfl w.heap.size 3 i0 (.int .i64 0) 1 Tryz.underlying46 hi hz0 hz1 .i64 .i64 n n n rfl rfl rfl rfl (by rw [hz2]; omega) (by unfold maxLen; omega) (by simp) ?_; intro w1 hown1 hgrow1; have hb1 := (Below.refl (w.alloc (.cells #[.slice ad n cap] 24)).heap.size (w.alloc (.cells #[.slice ad n cap] 24))).grown hgrow1 (Nat.le_refl _) (fun k hk => by cases hk); have hk1 := HK0.below hb1; have hc0 := hk1.cell 0)
  rw [show (w.alloc (.cells #[.slice ad n cap] 24)).heap.size = w.heap.size + 1 by simp, Nat.mul_one] at hown1
  have hrow1 : w1.ownsRow w.heap.size 3 1 (.slice (some ⟨w.heap.size + 1, 0, none⟩) n n) n (counted n 0) := by
    rw [counted_zero]
    have e := toList_madeCells_one (.int .i64 0) n
    rw [← e]
    exact hown1
  have HB1 : Hid (Below w.heap.size w w1) := Lib.hid (HB0.trans (hb1.mono HB0.size))
  clear hgrow1 hb1 hown1
  go_loopw [4, 10] (fun _ iv wr => ∃ k : Nat, iv = .int .i64 k ∧ k ≤ n ∧ Hid (wr.ownsRow w.heap.size 3 1 (.slice (some ⟨w.heap.size + 1, 0, none⟩) n n) n (counted n k)) ∧ Hid (Below w.heap.size w wr) ∧ Hid (Blk wr w.heap.size #[.slice ad n cap] 24)) (fun _ iv _ => n - (intOf iv).toNat)
  case atStart => exact ⟨0, rfl, by omega, Lib.hid hrow1, HB1, Lib.hid hk1⟩
  case round =>
    obtain ⟨k, rfl, hk, HR, HB, HK⟩ := hrel
    clear hrow1 hk1 hc0
    by_cases hlt : k < n
    · have hfr := World.ownsRow.frozenAt HR.out k
      have hcell : wr.cell? ⟨w.heap.size + 1, k, none⟩ = some ((counted n k)[k]'(by rw [counted_length (by omega)]; exact hlt)) := by
        have := World.ownsRow.cells HR.out (g := w.heap.size + 1) rfl k _ (List.getElem?_eq_getElem (by rw [counted_length (by omega)]; exact hlt))
        rwa [Lib.add_plain, Nat.zero_add] at this
      generalize (counted n k)[k]'(by rw [counted_length (by omega)]; exact hlt) = old at hcell
      go_wp2
      go_roundw
      case rel =>
        refine ⟨k + 1, by go_num, by omega, Lib.hid ?_, Lib.hid (HB.out.setCell (p := ⟨w.heap.size + 1, k, none⟩) (by simp) _), Lib.hid (HK.out.other (p := ⟨w.heap.size + 1, k, none⟩) (by simp) _)⟩
        have h1 := (World.ownsRow.stored HR.out k (.int .i64 (k : Int))).1
        rw [counted_step hlt] at h1
        exact h1
      case measure => simp [intOf]; omega
    · obtain rfl : k = n := by omega
      have hc1 := HK.out.cell 0
      have HC := HS.out wr HB.out HR.out hc1
      have HCH := Lib.hid HC
      clear HC
      go_wp2_with (go_at_call 205; refine HCH.out.mono ?_; rintro e w2 ⟨rfl, hq⟩)
      exact hq

theorem strs_nil0 (B : Nat) (W : World) : StrsAt B W (.slice none 0 0) [] := ⟨none, 0, rfl, by simp, by simp, fun h => absurd h (by simp)⟩
theorem items_nil0 (B : Nat) (W : World) : ItemsAt B W (.slice none 0 0) [] := ⟨none, 0, rfl, by simp, by simp, fun h => absurd h (by simp), fun e he => by cases he⟩
theorem places_none {w : World} {kv : Value} (hk : StrsAt w.heap.size w kv []) : Calls Tryz.prog 174 #[kv] w fun e w' => e = .returned (.slice (some ⟨w.heap.size + 1, 0, none⟩) 0 0) ∧ Below w.heap.size w w' := by
  refine places_loop2 (ks := []) hk (by simp) _ (fun W hb hr hc => ?_)
  refine (AnyF.slices_SortFunc_none { Tryz.laysSlF6_f205 with } (some ⟨w.heap.size + 1, 0, none⟩) 0 _ W).mono ?_
  rintro e w' ⟨rfl, rfl⟩
  exact ⟨rfl, rfl, hb⟩

set_option maxRecDepth 100000 in
set_option maxHeartbeats 2000000 in
/-- No keys, no items. -/
theorem object_none {w : World} {kv : Value} {adx : Option Addr} {capx : Nat} (hk : StrsAt w.heap.size w kv []) : Calls Tryz.prog 143 #[kv, .slice adx 0 capx] w fun e w' => ∃ v', e = .returned (.tuple #[v', .int .i64 0]) ∧ Is w'.heap.size w' v' (.node 6 false ⟨#[]⟩ [] []) ∧ Below w.heap.size w w' := by
  have hk0 := hk
  obtain ⟨ad, cap, rfl, -⟩ := hk
  have HB0 := below_new w (.cells nil5 26)
  have HR0 := Blk.new w nil5 26
  have HB1 := HB0.alloc HB0.size (.cells #[.int .i64 6, .bool false, .string ⟨#[]⟩, .slice none 0 0, .slice none 0 0] 26)
  have HR1 := HR0.alloc (.cells #[.int .i64 6, .bool false, .string ⟨#[]⟩, .slice none 0 0, .slice none 0 0] 26)
  have HO1 := Blk.new (w.alloc (.cells nil5 26)) #[.int .i64 6, .bool false, .string ⟨#[]⟩, .slice none 0 0, .slice none 0 0] 26
  rw [show (w.alloc (.cells nil5 26)).heap.size = w.heap.size + 1 by simp] at HO1
  have HP := Lib.hid (places_none ((hk0.below HB1).mono HB1.size))
  have H1 := Lib.hid (And.intro HB1 (And.intro HR1 HO1))
  have en : nil5 = #[.int .i64 0, .bool false, .string ⟨#[]⟩, .slice none 0 0, .slice none 0 0] := rfl
  rw [en] at HP H1
  clear HB0 HR0 HB1 HR1 HO1 hk0
  change Calls _ _ #[.slice ad 0 cap, _] _ _
  have HP2 : Hid (Calls Tryz.prog 174 #[.slice ad 0 cap] _ _) := Lib.hid HP.out
  clear HP
  go_enter Tryz.func143, Tryz.ntmps143
  go_wp2_with (go_at_call 174; refine HP2.out.mono ?_; rintro e w1 ⟨rfl, hb⟩)
  have hB := H1.out.1.trans (hb.mono H1.out.1.size)
  have hR := H1.out.2.1.below hb
  have hO := H1.out.2.2.below hb
  clear H1 HP2 hb
  go_loopw [8, 9, 20] (fun _ _ iv wr => iv = .int .i64 0 ∧ wr = w1) (fun _ _ iv _ => 0 - (intOf iv).toNat)
  case atStart => exact ⟨rfl, rfl⟩
  case round =>
    obtain ⟨rfl, rfl⟩ := hrel
    have q0 := hR.cell 0
    have q1 := hR.cell 1
    have q2 := hR.cell 2
    have q3 := hR.cell 3
    have q4 := hR.cell 4
    have f0 := hR.frozen 0
    have f1 := hR.frozen 1
    have f2 := hR.frozen 2
    have f3 := hR.frozen 3
    have f4 := hR.frozen 4
    have o0 := hO.cell 0
    have o1 := hO.cell 1
    have o2 := hO.cell 2
    have o3 := hO.cell 3
    have o4 := hO.cell 4
    have h5 := hR.set5 (.int .i64 6) (.bool false) (.string ⟨#[]⟩) (.slice none 0 0) (.slice none 0 0)
    have d0 := h5.cell 0
    have d1 := h5.cell 1
    have d2 := h5.cell 2
    have d3 := h5.cell 3
    have d4 := h5.cell 4
    have HBR := Lib.hid (below_set5 hB (Nat.le_refl _) (.int .i64 6) (.bool false) (.string ⟨#[]⟩) (.slice none 0 0) (.slice none 0 0))
    clear hB hR hO
    go_wp2
    refine bodyPost_ret (v := .tuple #[.agg #[.int .i64 6, .bool false, .string ⟨#[]⟩, .slice none 0 0, .slice none 0 0], .int .i64 0]) ?_ rfl ⟨_, rfl, Is.of_parts (ys := []) (strs_nil0 _ _) (items_nil0 _ _), HBR.out⟩
    simp [results, Tryz.results143, go_sem, d0, d1, d2, d3, d4]
end Go.Proofs.YtblldoniagiboaaGreatDoor
