/- Paths. -/
import Derived.Test.YtoipmgdfhmochaaFIter
import Derived.Test.YtoipmgdfhmochaaFPut2
import Derived.Deep.Onto
namespace Go.Proofs.Ytoipmgdfhmochaa
open Go.RowKit Go.Maps Go.Sort Go.Shelf
set_option linter.unusedVariables false
set_option linter.unusedSimpArgs false

theorem MapAt.keys {w : World} {b n : Nat} {C : List UInt8 → Option FV} {D : DataW Value} (h : MapAt w b C n D) : (strKeys D).Nodup ∧ (∀ x, x ∈ strKeys D ↔ (C x).isSome = true) ∧ (strKeys D).length = n := by
  obtain ⟨es, hD, hpw, _⟩ := h.own.entries keyed
  obtain ⟨es', hD', hko⟩ := h.own.keysOf
  obtain rfl : es = es' := by rw [hD] at hD'; simpa using hD'
  have hk : ∀ p ∈ es, ∃ x, p.1 = .string x := fun p hp => by
    obtain ⟨v, hv⟩ := hko p hp
    obtain ⟨x, _, hx, _⟩ := Maps.keyOf_str Try.underlying9 hv
    exact ⟨x, hx⟩
  subst hD
  refine ⟨?_, fun x => ?_, ?_⟩
  · show (es.map fun p => strOf p.1).Nodup
    refine List.pairwise_map.2 (hpw.imp_of_mem fun {p q} hp' hq' hne e => hne ?_)
    obtain ⟨a, ha⟩ := hk p hp'
    obtain ⟨b, hb⟩ := hk q hq'
    rw [ha, hb] at e ⊢
    exact congrArg _ e
  · rw [← h.has x, Maps.has_eq, List.any_eq_true]
    show x ∈ (es.map fun p => strOf p.1) ↔ _
    rw [List.mem_map]
    constructor
    · rintro ⟨p, hp', rfl⟩
      obtain ⟨a, ha⟩ := hk p hp'
      exact ⟨p, hp', by rw [ha]; simp [Lit.sameKey, strOf]⟩
    · rintro ⟨p, hp', hs⟩
      obtain ⟨a, ha⟩ := hk p hp'
      rw [ha] at hs
      exact ⟨p, hp', by rw [ha]; simpa [Lit.sameKey, strOf] using hs⟩
  · show (es.map fun p => strOf p.1).length = n
    rw [List.length_map, ← h.size]
    rfl
/-- The paths of a file system. -/
structure PathsOf (s : FS) (ss : List (List UInt8)) : Prop where
  nodup : ss.Nodup
  mem : ∀ x, x ∈ ss ↔ (s.C x).isSome = true
  len : ss.length = s.n
  rises : ss.Pairwise (fun x y => x ≤ y)
  short : ∀ x ∈ ss, x.length ≤ 1000000
theorem row_setS {w : World} {B n : Nat} {v : Value} {xs : List Value} (h : w.ownsRow B 9 1 v n xs) {g : Nat} (hg : v.ownBlock = some g) {c : Nat} (hc : c < n) (u : Value) : (w.setCell ⟨g, c, none⟩ u).ownsRow B 9 1 v n (xs.set c u) := by
  obtain ⟨h1, ⟨rfl, h2⟩ | ⟨g', cap, cur, rfl, h3, h4, h5, h6, h7, h8⟩⟩ := h
  · cases hg
  · cases hg
    refine ⟨by rw [List.length_set]; exact h1, .inr ⟨g', cap, cur.setIfInBounds c u, rfl, h3, Blk.set h4 c u, h5, h6, by rw [Array.size_setIfInBounds]; exact h7, ?_⟩⟩
    rw [Array.toList_setIfInBounds, List.take_set, h8]
set_option maxRecDepth 100000 in
set_option maxHeartbeats 4000000 in
theorem paths_any {W : World} {lo p : Nat} {s : FS} (h : FsAt W lo p s) (hn : s.n ≤ 1000000) :
    Calls Try.prog 16 #[.pointer (some ⟨p, 0, none⟩)] W fun e w' => ∃ v ss, e = .returned v ∧ PathsOf s ss ∧ w'.ownsRow W.heap.size 9 1 v ss.length (ss.map encStr) ∧ Below W.heap.size W w' := by
  obtain ⟨h0, b, D, h1, hb, hm⟩ := h
  have k0 := hb.cell 0
  have HK := Lib.hid (keys_any b W)
  have HS := Lib.hid (sorted_any hm hn)
  have hks := hm.keys
  have HM := Lib.hid (And.intro hks hm.short)
  have hn1 := below_new W (.cells #[.map (some b)] 62)
  have HN1 := Lib.hid hn1
  have hsz1 : (W.alloc (.cells #[.map (some b)] 62)).heap.size = W.heap.size + 1 := by simp
  have HSZ := Lib.hid hsz1
  clear hb hm hks hn1 hsz1
  go_enter Try.func16, Try.ntmps16
  go_wp2_with fail
  go_at_call 40; refine HK.out.mono ?_; rintro r w1 ⟨rfl, rfl⟩
  go_wp2_with fail
  go_at_call 39; refine HS.out.mono ?_; rintro r w2 ⟨v, ss0, rfl, hperm, hrow, -, hb2⟩
  have htr : ∀ a b c : List UInt8, leB a b = true → leB b c = true → leB a c = true := fun a b c h1 h2 => by simp only [leB, decide_eq_true_eq] at *; exact List.le_trans h1 h2
  have hto : ∀ a b : List UInt8, (leB a b || leB b a) = true := fun a b => by simp only [leB, Bool.or_eq_true, decide_eq_true_eq]; exact List.le_total a b
  have hpm := List.mergeSort_perm ss0 leB
  have hpw := List.pairwise_mergeSort htr hto ss0
  obtain ⟨ss, hss⟩ : ∃ l, ss0.mergeSort (fun x y => decide (x ≤ y)) = l := ⟨_, rfl⟩
  have hss' : ss0.mergeSort leB = ss := hss
  rw [hss'] at hpm hpw
  rw [hss] at hrow
  have hpm2 := hpm.trans hperm
  have hP : PathsOf s ss := ⟨hpm2.nodup_iff.2 HM.out.1.1, fun x => (hpm2.mem_iff).trans (HM.out.1.2.1 x), hpm2.length_eq.trans HM.out.1.2.2, hpw.imp (fun hh => by simpa [leB] using hh), fun x hx => HM.out.2 x ((HM.out.1.2.1 x).1 (hpm2.mem_iff.1 hx))⟩
  rw [← hpm.length_eq] at hrow
  obtain ⟨m, hmm⟩ : ∃ m, ss.length = m := ⟨_, rfl⟩
  rw [hmm] at hrow
  have hmb : m ≤ 1000000 := by rw [← hmm, hP.len]; exact hn
  obtain ⟨ad, cap, rfl, hbase⟩ : ∃ ad cap, v = .slice ad m cap ∧ ∀ g, (Value.slice ad m cap).ownBlock = some g → (W.alloc (.cells #[.map (some b)] 62)).heap.size ≤ g := by
    have hr := hrow
    obtain ⟨-, ⟨rfl, h2⟩ | ⟨g, cap, cur, rfl, h3, -⟩⟩ := hr
    · exact ⟨none, 0, by rw [h2], fun g hg => by cases hg⟩
    · exact ⟨_, cap, rfl, fun g' hg => by cases hg; exact h3⟩
  have HP := Lib.hid (And.intro hP (And.intro hmm hbase))
  have HR : Hid (w2.ownsRow W.heap.size 9 1 (.slice ad m cap) m (ss.map encStr)) := Lib.hid (hrow.mono (by have := HSZ.out; omega))
  have HB : Hid (Below W.heap.size W w2) := Lib.hid (HN1.out.trans (hb2.mono HN1.out.size))
  clear htr hto hpm hpw hss hss' hpm2 hP hrow hb2 hperm hmm hbase
  go_wp2_with fail
  go_loopg [14] (m + 1) (fun gf s14 wx => ∃ j : Nat, s14 = .int .i64 (j : Int) ∧ j ≤ m ∧ Hid (wx.ownsRow W.heap.size 9 1 (.slice ad m cap) m (ss.map encStr)) ∧ Hid (Below W.heap.size W wx) ∧ j + gf = m + 1)
  case atStart => exact ⟨0, rfl, by omega, HR, HB, by omega⟩
  case round =>
    obtain ⟨j, rfl, hjm, HRj, HBj, hgf⟩ := hrel
    clear HR HB
    by_cases hj : j < m
    · obtain ⟨g', rfl⟩ : ∃ g', gk = g' + 1 := ⟨gk - 1, by omega⟩
      obtain ⟨x, hx⟩ : ∃ x, ss[j]? = some x := ⟨_, List.getElem?_eq_getElem (by rw [HP.out.2.1]; exact hj)⟩
      have hxl := HP.out.1.short x (List.mem_of_getElem? hx)
      have hv : (ss.map encStr)[j]? = some (.string ⟨x.toArray⟩) := by rw [List.getElem?_map, hx]; rfl
      obtain ⟨g, had⟩ : ∃ g, ad = some ⟨g, 0, none⟩ := by
        obtain ⟨-, ⟨e0, h2⟩ | ⟨g, cap', cur, e0, -⟩⟩ := HRj.out
        · omega
        · injection e0 with e1 _ _
          exact ⟨g, e1⟩
      subst had
      have r0 : wr.cell? ⟨g, j, none⟩ = some (.string ⟨x.toArray⟩) := by
        have := HRj.out.cellAt j (by omega)
        rw [this]; exact hv
      have HC := Lib.hid (clone_any (W := wr) ⟨x.toArray⟩ (by show x.toArray.size ≤ _; simp; omega))
      have hgb : W.heap.size ≤ g := by have := HP.out.2.2 g rfl; have := HSZ.out; omega
      have HG := Lib.hid (And.intro hgb hv)
      have u6 : (j : Int) < (m : Int) := by omega
      have u7 : (0 : Int) ≤ (j : Int) := by omega
      clear hx hv hxl hgb
      go_wp2_with fail
      go_at_call 41; refine HC.out.mono ?_; rintro r w4 ⟨rfl, hb4⟩
      have hrow4 : w4.ownsRow W.heap.size 9 1 (.slice (some ⟨g, 0, none⟩) m cap) m (ss.map encStr) := by
        obtain ⟨q1, q2⟩ := HRj.out
        refine ⟨q1, ?_⟩
        rcases q2 with q2 | ⟨g', cap', cur, e0, q3, q4, q5⟩
        · exact .inl q2
        · exact .inr ⟨g', cap', cur, e0, q3, (hb4.block _ (Array.getElem?_eq_some_iff.1 q4).1).trans q4, q5⟩
      have f4 := hrow4.frozenAt j
      have c4 : w4.cell? ⟨g, j, none⟩ = some (.string ⟨x.toArray⟩) := cells_keep hb4 r0
      have hset := row_setS hrow4 (g := g) rfl hj (.string ⟨x.toArray⟩)
      have hsame : (ss.map encStr).set j (.string ⟨x.toArray⟩) = ss.map encStr := by
        refine List.ext_getElem? fun i => ?_
        rw [List.getElem?_set]
        by_cases e : j = i
        · subst e
          rw [if_pos rfl]
          split
          · exact HG.out.2.symm
          · rename_i hh
            exact absurd (List.getElem?_eq_some_iff.1 HG.out.2).1 hh
        · rw [if_neg e]
      rw [hsame] at hset
      have HR9 := Lib.hid hset
      have HB9 : Hid (Below W.heap.size W (w4.setCell ⟨g, j, none⟩ (.string ⟨x.toArray⟩))) := Lib.hid ((HBj.out.trans (hb4.mono HBj.out.size)).setCell (by exact HG.out.1) _)
      clear hrow4 hset hsame hb4
      go_wp2_with fail
      go_roundg g'
      case measure => omega
      case rel => exact ⟨j + 1, by push_cast; rfl, by omega, HR9, HB9, by omega⟩
    · have u6 : ¬ (j : Int) < (m : Int) := by omega
      go_wp2_with fail
      go_ret
      exact ⟨_, rfl, ss, HP.out.1, by rw [HP.out.2.1]; exact HRj.out, HBj.out⟩
end Go.Proofs.Ytoipmgdfhmochaa
