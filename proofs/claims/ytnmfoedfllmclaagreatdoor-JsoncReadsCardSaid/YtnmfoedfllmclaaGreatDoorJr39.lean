/- purlinref02.At · purlinref02.Object: how far it is · value.Object of no keys, and of lists of two lengths · object: a whole one; value, by its depth -/
import Derived.Handy
import Derived.Shelf.SlSortCmp.NoneTotal
import Derived.Carry
import Derived.Lib.SmallJoins
import Derived.Test.YtnmfoedfllmclaaGreatDoorJr04
import Derived.Test.YtnmfoedfllmclaaGreatDoorJr06
import Derived.Test.YtnmfoedfllmclaaGreatDoorJr09
import Derived.Test.YtnmfoedfllmclaaGreatDoorJr27
import Derived.Test.YtnmfoedfllmclaaGreatDoorJr35
import Derived.Test.YtnmfoedfllmclaaGreatDoorJr36
import Derived.Test.YtnmfoedfllmclaaGreatDoorJr37
import Derived.Test.YtnmfoedfllmclaaGreatDoorJr38
namespace Go.Proofs.YtnmfoedfllmclaaGreatDoor
open Go.RowKit Go.Sort Go.Shelf
set_option linter.unusedVariables false

/-- Where a key stands first; -1: nowhere. -/
def AtIs (ks : List ByteArray) (key : ByteArray) (r : Int) : Prop := (r = -1 ∧ ∀ i (h : i < ks.length), (ks[i].toList == key.toList) = false) ∨ ∃ (j : Nat) (h : j < ks.length), r = (j : Int) ∧ (ks[j].toList == key.toList) = true

set_option maxRecDepth 100000 in
set_option maxHeartbeats 2000000 in
theorem rAt_any {B : Nat} {w : World} {k : Int} {b : Bool} {t key : ByteArray} {ad : Option Addr} {len cap : Nat} {kv : Value} {ks : List ByteArray} (hkv : StrsAt B w kv ks)
    (W : World) (hb : Below B w W) (hBW : B ≤ W.heap.size) : Calls Tryz.prog 67 #[.agg #[.int .i64 k, .bool b, .string t, .slice ad len cap, kv], .string key] W fun e w' => (∃ r, e = .returned (.int .i64 r) ∧ AtIs ks key r) ∧ Below W.heap.size W w' := by
  obtain ⟨adk, capk, rfl, hkc, hkl, hkp⟩ := hkv.below hb
  have HKP := Lib.hid hkp
  have HBW := Lib.hid hBW
  obtain ⟨n, hn⟩ : ∃ n, ks.length = n := ⟨_, rfl⟩
  have HN := Lib.hid hn
  rw [hn] at hkc hkl ⊢
  clear hkp hn hkv hb
  have hk0 := Blk.new W #[.int .i64 k, .bool b, .string t, .slice ad len cap, .slice adk n capk] 26
  have hb0 := below_new W (.cells #[.int .i64 k, .bool b, .string t, .slice ad len cap, .slice adk n capk] 26)
  have HS0 : Hid (Below W.heap.size W (W.alloc (.cells #[.int .i64 k, .bool b, .string t, .slice ad len cap, .slice adk n capk] 26)) ∧ Blk (W.alloc (.cells #[.int .i64 k, .bool b, .string t, .slice ad len cap, .slice adk n capk] 26)) W.heap.size #[.int .i64 k, .bool b, .string t, .slice ad len cap, .slice adk n capk] 26) := Lib.hid ⟨hb0, hk0⟩
  clear hk0 hb0
  go_enter Tryz.func67, Tryz.ntmps67
  go_wp2_with fail
  go_loop [9] (fun jv => ∃ j : Nat, jv = .int .i64 j ∧ j ≤ n ∧ Hid (∀ i (h : i < ks.length), i < j → (ks[i].toList == key.toList) = false)) (fun jv => n - (intOf jv).toNat)
  case atStart => exact ⟨0, rfl, by omega, Lib.hid (fun i _ h => by omega)⟩
  case round =>
    obtain ⟨j, rfl, hj, HI⟩ := hrel
    have i1 : (0 : Int) ≤ (j : Int) := by omega
    by_cases hlt : j < n
    · have i2 : (j : Int) < (n : Int) := by omega
      have hjk : j < ks.length := by have := HN.out; omega
      obtain ⟨gk, ok, rfl, hgk, hck⟩ := HKP.out (by omega)
      have ck := (HS0.out.1.cell (p := ⟨gk, ok + j, none⟩) (by have := HBW.out; show gk < _; omega)).trans (hck j hjk)
      have q4 := HS0.out.2.cell 4
      obtain ⟨x, hx⟩ : ∃ x, ks[j] = x := ⟨_, rfl⟩
      rw [hx] at ck
      have HX := Lib.hid hx
      clear hck hx
      cases hd : (x.toList == key.toList)
      · have HD := Lib.hid hd
        go_wp2_with fail
        go_round
        case rel =>
          refine ⟨j + 1, by go_num, by omega, Lib.hid (fun i hi hij => ?_)⟩
          rcases Nat.eq_or_lt_of_le (show i ≤ j by omega) with h | h
          · subst h; rw [HX.out]; exact HD.out
          · exact HI.out i hi h
        case measure => simp [intOf]; omega
      · have HF : Hid (AtIs ks key (j : Int)) := Lib.hid (.inr ⟨j, hjk, rfl, by rw [HX.out]; exact hd⟩)
        go_wp2_with fail
        go_ret
        exact ⟨⟨_, rfl, HF.out⟩, HS0.out.1⟩
    · have HF : Hid (AtIs ks key (-1)) := Lib.hid (.inl ⟨rfl, fun i hi => HI.out i hi (by have := HN.out; omega)⟩)
      go_wp2_with fail
      go_ret
      exact ⟨⟨_, rfl, HF.out⟩, HS0.out.1⟩
end Go.Proofs.YtnmfoedfllmclaaGreatDoor
namespace Go.Proofs.YtnmfoedfllmclaaGreatDoor
open Go.RowKit
set_option linter.unusedVariables false

/-- How far the document's Object is: behind i keys. -/
structure DocSt (w wr : World) (ks : List ByteArray) (xs : List It) (i : Nat) (kv iv : Value) (K : List ByteArray) (yy : List It) : Prop where
  res : Blk wr w.heap.size nil5 26
  box : Blk wr (w.heap.size + 1) #[.int .i64 6, .bool false, .string ⟨#[]⟩, iv, kv] 26
  grown : Grown (w.heap.size + 2) wr kv iv K yy
  ok : ∀ e ∈ yy, e.Ok w.heap.size w
  len : K.length = yy.length
  num : yy.length = i
  below : Below w.heap.size w wr
  put : docObj ks (xs.map It.T) = putAll bLt (K.zip (yy.map It.T)) ((ks.zip (xs.map It.T)).drop i)
section
variable {w wr : World} {ks : List ByteArray} {xs : List It} {i : Nat} {kv iv : Value} {K : List ByteArray} {yy : List It}
theorem DocSt.later {W : World} (h : DocSt w wr ks xs i kv iv K yy) (hb : Below wr.heap.size wr W) : DocSt w W ks xs i kv iv K yy :=
  ⟨h.res.below hb, h.box.below hb, ⟨row_below h.grown.1 hb, row_below h.grown.2 hb⟩, h.ok, h.len, h.num, h.below.trans (hb.mono h.below.size), h.put⟩
theorem DocSt.strs (h : DocSt w wr ks xs i kv iv K yy) (hi : i ≤ 1000000) : StrsAt wr.heap.size wr kv K := strs_of_row h.grown.1 (by have := h.len; have := h.num; omega)
theorem DocSt.items (h : DocSt w wr ks xs i kv iv K yy) (hi : i ≤ 1000000) : ItemsAt wr.heap.size wr iv yy := items_of_row h.grown.2 (by have := h.num; omega) (fun e he => ((h.ok e he).later h.below).wide h.below.size)
theorem zip_drop {ks : List ByteArray} {Ts : List VT} {i : Nat} (h1 : i < ks.length) (h2 : i < Ts.length) : (ks.zip Ts).drop i = (ks[i], Ts[i]) :: (ks.zip Ts).drop (i + 1) := by
  rw [List.drop_eq_getElem_cons (by simp; omega)]
  simp
/-- The next key is put. -/
theorem DocSt.next {w3 : World} {kv' iv' : Value} {ex : It} (h : DocSt w wr ks xs i kv iv K yy) (hk : i < ks.length) (hx : i < xs.length) (hex : xs[i] = ex) (hok : ex.Ok w.heap.size w) (hm : ∀ (j : Nat) (hj : j < K.length), (K[j].toList == ks[i].toList) = false)
    (hb : Below wr.heap.size wr w3) (hg : Grown wr.heap.size w3 kv' iv' (insK ks[i] (dropK ks[i] K)) (insI ks[i] ex (dropK ks[i] K) (dropI ks[i] K yy))) :
    DocSt w (((((w3.setCell ⟨w.heap.size + 1, 0, none⟩ (.int .i64 6)).setCell ⟨w.heap.size + 1, 1, none⟩ (.bool false)).setCell ⟨w.heap.size + 1, 2, none⟩ (.string ⟨#[]⟩)).setCell ⟨w.heap.size + 1, 3, none⟩ iv').setCell ⟨w.heap.size + 1, 4, none⟩ kv') ks xs (i + 1) kv' iv' (insK ks[i] K) (insI ks[i] ex K yy) := by
  have hn : ∀ b ∈ K, (b.toList == ks[i].toList) = false := fun b hb => by
    obtain ⟨j, hj, rfl⟩ := List.getElem_of_mem hb
    exact hm j hj
  rw [dropK_none hn, dropI_none h.len hn] at hg
  have hl := h.len
  have hbx := h.box.lt
  have hR := h.res.below hb
  have hO := h.box.below hb
  have hbs := hb.size
  have hO5 := hO.set5 (.int .i64 6) (.bool false) (.string ⟨#[]⟩) iv' kv'
  have hfar : ∀ {v : Value} {E : TypeId} {s n : Nat} {us : List Value}, w3.ownsRow wr.heap.size E s v n us → v.ownBlock ≠ some (w.heap.size + 1) := fun h e => by have := (World.ownsRow.lt h _ e).1; omega
  have hres := ((((hR.other (p := ⟨w.heap.size + 1, 0, none⟩) (by show w.heap.size ≠ w.heap.size + 1; omega) (.int .i64 6)).other (p := ⟨w.heap.size + 1, 1, none⟩) (by show w.heap.size ≠ w.heap.size + 1; omega) (.bool false)).other (p := ⟨w.heap.size + 1, 2, none⟩) (by show w.heap.size ≠ w.heap.size + 1; omega) (.string ⟨#[]⟩)).other (p := ⟨w.heap.size + 1, 3, none⟩) (by show w.heap.size ≠ w.heap.size + 1; omega) iv').other (p := ⟨w.heap.size + 1, 4, none⟩) (by show w.heap.size ≠ w.heap.size + 1; omega) kv'
  have hk5 := row_set5 hg.1 (w.heap.size + 1) (.int .i64 6) (.bool false) (.string ⟨#[]⟩) iv' kv' (hfar hg.1)
  have hi5 := row_set5 hg.2 (w.heap.size + 1) (.int .i64 6) (.bool false) (.string ⟨#[]⟩) iv' kv' (hfar hg.2)
  have hup : ∀ {v : Value} {E : TypeId} {s n : Nat} {us : List Value} {W : World}, W.ownsRow wr.heap.size E s v n us → W.ownsRow (w.heap.size + 2) E s v n us := fun {v E s n us W} h => by
    obtain ⟨a, b | ⟨g, cap, cur, b1, b2, b3⟩⟩ := h
    · exact ⟨a, .inl b⟩
    · exact ⟨a, .inr ⟨g, cap, cur, b1, by omega, b3⟩⟩
  refine ⟨hres, hO5, ⟨hup hk5, hup hi5⟩, fun e he => ?_, ?_, ?_, below_set5 (h.below.trans (hb.mono h.below.size)) (by omega) _ _ _ _ _, ?_⟩
  · rcases insI_sub _ _ _ _ _ he with rfl | he
    · exact hok
    · exact h.ok e he
  · rw [insK_length, insI_length _ _ _ _ hl, insK_length]
  · rw [insI_length _ _ _ _ hl, insK_length, hl, h.num]
  · rw [h.put, zip_drop hk (by simpa using hx)]
    conv => lhs; unfold putAll
    have hf : ((K.zip (yy.map It.T)).map Prod.fst) = K := by rw [List.map_fst_zip]; simp; omega
    rw [if_neg (by rw [hf]; intro hmm; have := hn _ hmm; rw [key_eq.2 rfl] at this; cases this)]
    rw [insI_map, zip_ins _ _ _ _ (by simp; omega)]
    have hT : (xs.map It.T)[i]'(by simpa using hx) = ex.T := by rw [List.getElem_map, hex]
    rw [hT]
/-- All keys are put. -/
theorem DocSt.done (h : DocSt w wr ks xs i kv iv K yy) (hi : i ≤ 1000000) (hn : ks.length ≤ i) : ∃ z, docObj ks (xs.map It.T) = some z ∧ Is (set5 wr w.heap.size 0 (.int .i64 6) (.bool false) (.string ⟨#[]⟩) iv kv).heap.size (set5 wr w.heap.size 0 (.int .i64 6) (.bool false) (.string ⟨#[]⟩) iv kv) (.agg #[.int .i64 6, .bool false, .string ⟨#[]⟩, iv, kv]) (.node 6 false ⟨#[]⟩ (z.map Prod.snd) (z.map Prod.fst)) := by
  have hl := h.len
  have hnum := h.num
  have hp := h.put
  rw [List.drop_eq_nil_of_le (by simp; omega)] at hp
  unfold putAll at hp
  refine ⟨_, hp, ?_⟩
  have hf : ((K.zip (yy.map It.T)).map Prod.fst) = K := by rw [List.map_fst_zip]; simp; omega
  have hs : ((K.zip (yy.map It.T)).map Prod.snd) = yy.map It.T := by rw [List.map_snd_zip]; simp; omega
  rw [hf, hs]
  have hk5 := row_set5 h.grown.1 w.heap.size (.int .i64 6) (.bool false) (.string ⟨#[]⟩) iv kv (fun e => by have := (World.ownsRow.lt h.grown.1 _ e).1; omega)
  have hi5 := row_set5 h.grown.2 w.heap.size (.int .i64 6) (.bool false) (.string ⟨#[]⟩) iv kv (fun e => by have := (World.ownsRow.lt h.grown.2 _ e).1; omega)
  have hb := below_set5 h.below (B := w.heap.size) (Nat.le_refl _) (.int .i64 6) (.bool false) (.string ⟨#[]⟩) iv kv
  exact Is.of_parts (strs_of_row hk5 (by omega)) (items_of_row hi5 (by omega) (fun e he => ((h.ok e he).later hb).wide hb.size))
end
end Go.Proofs.YtnmfoedfllmclaaGreatDoor
namespace Go.Proofs.YtnmfoedfllmclaaGreatDoor
open Go.RowKit Go.Sort Go.Shelf
set_option linter.unusedVariables false

set_option maxRecDepth 100000 in
set_option maxHeartbeats 2000000 in
theorem places_loop2 {w : World} {kv : Value} {ks : List ByteArray} (hk : StrsAt w.heap.size w kv ks) (hn : ks.length ≤ 1000000) (Q : Ending → World → Prop)
    (hs : ∀ W, Below w.heap.size w W → W.ownsRow w.heap.size 3 1 (.slice (some ⟨w.heap.size + 1, 0, none⟩) ks.length ks.length) ks.length (counted ks.length ks.length) → W.cell? ⟨w.heap.size, 0, none⟩ = some kv →
      Calls Tryz.prog 109 #[.slice (some ⟨w.heap.size + 1, 0, none⟩) ks.length ks.length, .func (.func 110) #[] #[.pointer (some ⟨w.heap.size, 0, none⟩)] ] W fun e w' => e = .returned (.tuple #[]) ∧ Q (.returned (.slice (some ⟨w.heap.size + 1, 0, none⟩) ks.length ks.length)) w') :
    Calls Tryz.prog 101 #[kv] w Q := by
  obtain ⟨i0, hi, hz0, hz1, hz2⟩ := info_parts Tryz.infoI64
  obtain ⟨ad, cap, rfl, hnc, hcap, hc⟩ := hk
  have HS := Lib.hid hs
  obtain ⟨n, hnn⟩ : ∃ n, ks.length = n := ⟨_, rfl⟩
  rw [hnn] at HS hn hnc ⊢
  clear hs hc hnn
  have HK0 := Blk.new w #[.slice ad n cap] 24
  have HB0 := below_new w (.cells #[.slice ad n cap] 24)
  go_enter Tryz.func101, Tryz.ntmps101
  go_wp2_with (at_make; refine wpList_make_full _ rfl _ _ 43 rfl w.heap.size 3 i0 (.int .i64 0) 1 Tryz.underlying43 hi hz0 hz1 .i64 .i64 n n n rfl rfl rfl rfl (by rw [hz2]; omega) (by unfold maxLen; omega) (by simp) ?_; intro w1 hown1 hgrow1; have hb1 := (Below.refl (w.alloc (.cells #[.slice ad n cap] 24)).heap.size (w.alloc (.cells #[.slice ad n cap] 24))).grown hgrow1 (Nat.le_refl _) (fun k hk => by cases hk); have hk1 := HK0.below hb1; have hc0 := hk1.cell 0)
  rw [show (w.alloc (.cells #[.slice ad n cap] 24)).heap.size = w.heap.size + 1 by simp, Nat.mul_one] at hown1
  have hrow1 : w1.ownsRow w.heap.size 3 1 (.slice (some ⟨w.heap.size + 1, 0, none⟩) n n) n (counted n 0) := by
    rw [counted_zero]
    have e := toList_madeCells_one (.int .i64 0) n
    rw [← e]
    exact hown1
  have HB1 : Hid (Below w.heap.size w w1) := Lib.hid (HB0.trans (hb1.mono HB0.size))
  clear hgrow1 hb1 hown1
  go_loopw [4, 10] (fun _ iv wr => ∃ k : Nat, iv = .int .i64 k ∧ k ≤ n ∧ Hid (wr.ownsRow w.heap.size 3 1 (.slice (some ⟨w.heap.size + 1, 0, none⟩) n n) n (counted n k)) ∧ Hid (Below w.heap.size w wr) ∧ Hid (Blk wr w.heap.size #[.slice ad n cap] 24)) (fun _ iv _ => n - (intOf iv).toNat)
  case atStart => exact ⟨0, rfl, by omega, Lib.hid hrow1, HB1, Lib.hid hk1⟩
  case round =>
    obtain ⟨k, rfl, hk, HR, HB, HK⟩ := hrel
    clear hrow1 hk1 hc0
    by_cases hlt : k < n
    · have hfr := World.ownsRow.frozenAt HR.out k
      have hcell : wr.cell? ⟨w.heap.size + 1, k, none⟩ = some ((counted n k)[k]'(by rw [counted_length (by omega)]; exact hlt)) := by
        have := World.ownsRow.cells HR.out (g := w.heap.size + 1) rfl k _ (List.getElem?_eq_getElem (by rw [counted_length (by omega)]; exact hlt))
        rwa [Lib.add_plain, Nat.zero_add] at this
      generalize (counted n k)[k]'(by rw [counted_length (by omega)]; exact hlt) = old at hcell
      go_wp2
      go_roundw
      case rel =>
        refine ⟨k + 1, by go_num, by omega, Lib.hid ?_, Lib.hid (HB.out.setCell (p := ⟨w.heap.size + 1, k, none⟩) (by simp) _), Lib.hid (HK.out.other (p := ⟨w.heap.size + 1, k, none⟩) (by simp) _)⟩
        have h1 := (World.ownsRow.stored HR.out k (.int .i64 (k : Int))).1
        rw [counted_step hlt] at h1
        exact h1
      case measure => simp [intOf]; omega
    · obtain rfl : k = n := by omega
      have hc1 := HK.out.cell 0
      have HC := HS.out wr HB.out HR.out hc1
      have HCH := Lib.hid HC
      clear HC
      go_wp2_with (go_at_call 109; refine HCH.out.mono ?_; rintro e w2 ⟨rfl, hq⟩)
      exact hq

theorem strs_nil0 (B : Nat) (W : World) : StrsAt B W (.slice none 0 0) [] := ⟨none, 0, rfl, by simp, by simp, fun h => absurd h (by simp)⟩
theorem items_nil0 (B : Nat) (W : World) : ItemsAt B W (.slice none 0 0) [] := ⟨none, 0, rfl, by simp, by simp, fun h => absurd h (by simp), fun e he => by cases he⟩
theorem places_none {w : World} {kv : Value} (hk : StrsAt w.heap.size w kv []) : Calls Tryz.prog 101 #[kv] w fun e w' => e = .returned (.slice (some ⟨w.heap.size + 1, 0, none⟩) 0 0) ∧ Below w.heap.size w w' := by
  refine places_loop2 (ks := []) hk (by simp) _ (fun W hb hr hc => ?_)
  refine (AnyF.slices_SortFunc_none { Tryz.laysSlF6_f109 with } (some ⟨w.heap.size + 1, 0, none⟩) 0 _ W).mono ?_
  rintro e w' ⟨rfl, rfl⟩
  exact ⟨rfl, rfl, hb⟩

set_option maxRecDepth 100000 in
set_option maxHeartbeats 2000000 in
/-- No keys, no items. -/
theorem object_none {w : World} {kv : Value} {adx : Option Addr} {capx : Nat} (hk : StrsAt w.heap.size w kv []) : Calls Tryz.prog 82 #[kv, .slice adx 0 capx] w fun e w' => ∃ v', e = .returned (.tuple #[v', .int .i64 0]) ∧ Is w'.heap.size w' v' (.node 6 false ⟨#[]⟩ [] []) ∧ Below w.heap.size w w' := by
  have hk0 := hk
  obtain ⟨ad, cap, rfl, -⟩ := hk
  have HB0 := below_new w (.cells nil5 26)
  have HR0 := Blk.new w nil5 26
  have HB1 := HB0.alloc HB0.size (.cells #[.int .i64 6, .bool false, .string ⟨#[]⟩, .slice none 0 0, .slice none 0 0] 26)
  have HR1 := HR0.alloc (.cells #[.int .i64 6, .bool false, .string ⟨#[]⟩, .slice none 0 0, .slice none 0 0] 26)
  have HO1 := Blk.new (w.alloc (.cells nil5 26)) #[.int .i64 6, .bool false, .string ⟨#[]⟩, .slice none 0 0, .slice none 0 0] 26
  rw [show (w.alloc (.cells nil5 26)).heap.size = w.heap.size + 1 by simp] at HO1
  have HP := Lib.hid (places_none ((hk0.below HB1).mono HB1.size))
  have H1 := Lib.hid (And.intro HB1 (And.intro HR1 HO1))
  have en : nil5 = #[.int .i64 0, .bool false, .string ⟨#[]⟩, .slice none 0 0, .slice none 0 0] := rfl
  rw [en] at HP H1
  clear HB0 HR0 HB1 HR1 HO1 hk0
  change Calls _ _ #[.slice ad 0 cap, _] _ _
  have HP2 : Hid (Calls Tryz.prog 101 #[.slice ad 0 cap] _ _) := Lib.hid HP.out
  clear HP
  go_enter Tryz.func82, Tryz.ntmps82
  go_wp2_with (go_at_call 101; refine HP2.out.mono ?_; rintro e w1 ⟨rfl, hb⟩)
  have hB := H1.out.1.trans (hb.mono H1.out.1.size)
  have hR := H1.out.2.1.below hb
  have hO := H1.out.2.2.below hb
  clear H1 HP2 hb
  go_loopw [8, 9, 20] (fun _ _ iv wr => iv = .int .i64 0 ∧ wr = w1) (fun _ _ iv _ => 0 - (intOf iv).toNat)
  case atStart => exact ⟨rfl, rfl⟩
  case round =>
    obtain ⟨rfl, rfl⟩ := hrel
    have q0 := hR.cell 0
    have q1 := hR.cell 1
    have q2 := hR.cell 2
    have q3 := hR.cell 3
    have q4 := hR.cell 4
    have f0 := hR.frozen 0
    have f1 := hR.frozen 1
    have f2 := hR.frozen 2
    have f3 := hR.frozen 3
    have f4 := hR.frozen 4
    have o0 := hO.cell 0
    have o1 := hO.cell 1
    have o2 := hO.cell 2
    have o3 := hO.cell 3
    have o4 := hO.cell 4
    have h5 := hR.set5 (.int .i64 6) (.bool false) (.string ⟨#[]⟩) (.slice none 0 0) (.slice none 0 0)
    have d0 := h5.cell 0
    have d1 := h5.cell 1
    have d2 := h5.cell 2
    have d3 := h5.cell 3
    have d4 := h5.cell 4
    have HBR := Lib.hid (below_set5 hB (Nat.le_refl _) (.int .i64 6) (.bool false) (.string ⟨#[]⟩) (.slice none 0 0) (.slice none 0 0))
    clear hB hR hO
    go_wp2
    refine bodyPost_ret (v := .tuple #[.agg #[.int .i64 6, .bool false, .string ⟨#[]⟩, .slice none 0 0, .slice none 0 0], .int .i64 0]) ?_ rfl ⟨_, rfl, Is.of_parts (ys := []) (strs_nil0 _ _) (items_nil0 _ _), HBR.out⟩
    simp [results, Tryz.results82, go_sem, d0, d1, d2, d3, d4]
end Go.Proofs.YtnmfoedfllmclaaGreatDoor
namespace Go.Proofs.YtnmfoedfllmclaaGreatDoor
open Go.RowKit Go.Shelf Go.Sort Go.Maps
set_option linter.unusedVariables false

theorem reads_obj {H P d : Nat} {dep : Int} {t : ByteArray} (hP7 : 7 ≤ P) (hPH : P < H) (hd0 : 0 ≤ dep) (hd1 : dep ≤ 100)
    (hv : ∀ W a n, Rdr W P t a n → ReadyJ W → Calls Tryz.prog 41 #[.pointer (some ⟨P, 0, none⟩), .int .i64 (dep + 1)] W (VEnds W P t (valJ d (rest t a) n))) :
    ReadsC 79 #[.pointer (some ⟨H + 3, 0, none⟩), .pointer (some ⟨H, 0, none⟩), .pointer (some ⟨H + 6, 0, none⟩), .pointer (some ⟨H + 4, 0, none⟩), .pointer (some ⟨H + 1, 0, none⟩)] H P t (ObjSt2 H P dep) (pairJ (valJ d)) where
  enters := enters_of Tryz.func79 (by kernel_rfl) rfl
  stays := fun W W' st n ⟨kv, v, yy, h1, h2, h3, h4⟩ ha => ⟨kv, v, yy, h1.aside ha hPH, h2, h3, h4⟩
  reads := fun W a n st h hR hBW ⟨kv, v, yy, h1, h2, h3, h4⟩ => by
    have hn := h.2.2.2
    have hl : (st.map Prod.fst).length = st.length := by simp
    cases hk : keyJ (st.map Prod.fst) (rest t a) with
    | error b => exact pair_key (d := d) (n' := 0) h hR hP7 hPH rfl h2 h1 (by omega) hd0 hd1 h4 hk
    | ok y =>
      obtain ⟨kk, R1⟩ := y
      cases hc : Lib.hasPrefix (skipB R1) [58] with
      | false => exact pair_colon (d := d) (n' := 0) (R' := []) (T := noTree) (b := (0, 0)) h hR hP7 hPH rfl h2 h1 (by omega) hd0 hd1 h4 hk hc
      | true =>
        cases hvr : valJ d ((skipB R1).drop 1) n with
        | error b => exact pair_val (n' := 0) (R' := []) (T := noTree) h hR hP7 hPH rfl h2 h1 (by omega) hd0 hd1 h4 hk hc hvr hv
        | ok y =>
          obtain ⟨T, R', n'⟩ := y
          have := (valJ_on d _ _ _ _ _ hvr).2
          exact pair_ok (b := (0, 0)) h hR hP7 hPH rfl h2 h1 (by omega) hd0 hd1 h4 hk hc hvr (by omega) hv
  less := fun st R n st' R' n' h => (pairJ_on (valJ_on d) st _ _ _ _ _ h).1
theorem fresh_obj0 {lo B : Nat} {W : World} {v : Value} {k : Int} {b : Bool} {t : ByteArray} (h : Is B W v (.node k b t [] [])) : Fresh lo B W v (.node k b t [] []) := by
  cases h with
  | mk k b t its ks ad cap kv g o ik ib it ii iv hk hc hn ha hcell hrec =>
    obtain ⟨adk, capk, rfl, h1, h2, h3⟩ := hk
    exact Fresh.mk k b t [] [] ad cap _ 0 0 (fun _ => 0) (fun _ => false) (fun _ => ⟨#[]⟩) (fun _ => undef) (fun _ => undef) ⟨adk, capk, rfl, h1, h2, fun h => absurd h (by simp)⟩ hc hn (fun h => absurd h (by simp)) (fun j h => absurd h (by simp)) (fun j i h => absurd h (by simp)) (fun j h => absurd h (by simp))
theorem doc_some {ks : List ByteArray} {Ts : List VT} (h : Ts.length = ks.length) (hn : ks.Nodup) : ∃ z, docObj ks Ts = some z := by
  cases hz : docObj ks Ts with
  | some z => exact ⟨z, rfl⟩
  | none =>
    have := putAll_none _ _ hz (by simp)
    rw [List.nil_append, List.map_fst_zip (by omega)] at this
    exact absurd hn this
theorem getD_small {Ts : List VT} (h : ∀ T ∈ Ts, smallT T) (p : Nat) : smallT (Ts.getD p noTree) := by
  rw [List.getD]
  cases hp : Ts[p]? with
  | none => exact smallT_node.2 ⟨by simp, by simp, by simp⟩
  | some T => exact h T (List.mem_of_getElem? hp)
/-- value.Object of what was read. -/
theorem made_any {w : World} {kv iv : Value} {st : List (ByteArray × VT)} {xs : List It} (hk : StrsAt w.heap.size w kv (st.map Prod.fst)) (hx : ItemsAt w.heap.size w iv xs) (hsm : ∀ e ∈ xs, smallT e.T) (hxx : xs.map It.T = st.map Prod.snd) (hn : st.length ≤ 900000) (hnd : (st.map Prod.fst).Nodup) :
    Calls Tryz.prog 82 #[kv, iv] w fun e w' => ∃ v', e = .returned (.tuple #[v', .int .i64 0]) ∧ Fresh w.heap.size w'.heap.size w' v' (madeT st) ∧ smallT (madeT st) ∧ Below w.heap.size w w' := by
  have hxl : xs.length = st.length := by have := congrArg List.length hxx; simpa using this
  have hTl : (st.map Prod.snd).length = (st.map Prod.fst).length := by simp
  rcases Nat.eq_zero_or_pos st.length with h0 | h0
  · obtain rfl : st = [] := List.length_eq_zero_iff.1 h0
    obtain rfl : xs = [] := List.length_eq_zero_iff.1 (by omega)
    obtain ⟨adx, capx, rfl, -⟩ := hx
    refine (object_none (adx := adx) (capx := capx) hk).mono ?_
    rintro e w' ⟨v', rfl, hi, hb⟩
    exact ⟨v', rfl, fresh_obj0 hi, smallT_node.2 ⟨by simp, by simp, by simp⟩, hb⟩
  · refine (object_any hk hx hsm (by simp [hxl]) (by simpa using h0) (by simp; omega)).mono ?_
    rintro e w' ⟨ps, hp, ⟨⟨v', rfl, hf, hb⟩, hd⟩ | ⟨rfl, hb, hd⟩⟩
    · rw [hxx] at hf
      have hz := make_some hTl hp hd
      have h2 := keyL_all (ks := st.map Prod.fst) (Ts := st.map Prod.snd) (ps := ps)
      have hm : madeT st = objT (pairsOf (st.map Prod.fst) (st.map Prod.snd) ps) := by unfold madeT; rw [hz]
      have hpl : ps.length = st.length := by rw [hp.1.length_eq]; simp
      refine ⟨v', rfl, ?_, ?_, hb⟩
      · rw [hm]
        unfold objT
        rw [← h2.1, ← h2.2]
        exact hf
      · rw [hm]
        unfold objT
        refine smallT_node.2 ⟨by simp [pairs_length]; omega, by simp [pairs_length]; omega, fun x hx => ?_⟩
        rw [← h2.2] at hx
        unfold treeL at hx
        obtain ⟨p, -, rfl⟩ := List.mem_map.1 hx
        refine getD_small (fun T hT => ?_) p
        rw [← hxx] at hT
        obtain ⟨e, he, rfl⟩ := List.mem_map.1 hT
        exact hsm e he
    · have := make_none hTl hp hd
      obtain ⟨z, hz⟩ := doc_some hTl hnd
      rw [this] at hz
      cases hz
/-- What stays true of what was read. -/
theorem seqJ_inv {σ : Type} {rd : σ → RdJ σ} {q : UInt8} {p : σ → Prop} (h : ∀ st R n st' R' n', p st → rd st R n = .ok (st', R', n') → p st') : ∀ (f : Nat) (st : σ) (R : List UInt8) (n : Nat) (x : σ) (R' : List UInt8) (n' : Nat), p st → seqJ rd q f st R n = .ok (x, R', n') → p x
  | 0, st, R, n, x, R', n', hp, he => by unfold seqJ at he; cases he
  | f + 1, st, R, n, x, R', n', hp, he => by
    unfold seqJ at he
    split at he
    · cases he
    · rename_i st1 R1 n1 hr
      have h1 := h _ _ _ _ _ _ hp hr
      split at he
      · cases he; exact h1
      · split at he
        · exact seqJ_inv h f _ _ _ _ _ _ h1 he
        · cases he
theorem eachJ_inv {σ : Type} {rd : σ → RdJ σ} {q : UInt8} {p : σ → Prop} (h : ∀ st R n st' R' n', p st → rd st R n = .ok (st', R', n') → p st') {st x : σ} {R R' : List UInt8} {n n' : Nat} (hp : p st) (he : eachJ rd q st R n = .ok (x, R', n')) : p x := by
  unfold eachJ at he
  split at he
  · cases he; exact hp
  · exact seqJ_inv h _ _ _ _ _ _ _ hp he
theorem bytes_self (k : ByteArray) : (k == k) = true := by
  cases k with | mk x =>
  show (x == x) = true
  exact beq_self_eq_true x
theorem contains_mem {k : ByteArray} : ∀ {ks : List ByteArray}, k ∈ ks → ks.contains k = true
  | [], h => by cases h
  | a :: l, h => by
    rw [List.contains_cons]
    rcases List.mem_cons.1 h with rfl | h
    · rw [bytes_self]; rfl
    · rw [contains_mem h, Bool.or_true]
theorem pairJ_nodup {rd : RdJ VT} : ∀ st R n st' R' n', (st.map Prod.fst).Nodup → pairJ rd st R n = .ok (st', R', n') → (st'.map Prod.fst).Nodup := fun st R n st' R' n' hp he => by
  unfold pairJ at he
  split at he
  · cases he
  · rename_i k R1 hk
    split at he
    · split at he
      · cases he
      · cases he
        rw [List.map_append]
        refine List.nodup_append.2 ⟨hp, by simp, fun a ha b hb => ?_⟩
        simp at hb
        subst hb
        unfold keyJ at hk
        split at hk
        · split at hk
          · cases hk
          · split at hk
            · cases hk
            · rename_i hc
              cases hk
              intro e
              subst e
              exact hc (contains_mem ha)
        · cases hk
    · cases he
end Go.Proofs.YtnmfoedfllmclaaGreatDoor
