/- purlinref01.Texts, purlinref02.Same · Clone of a scalar · Values in new memory; the keys' clone -/
import Derived.Deep.QuietTactic
import Derived.BigQuiet
import Derived.Deep.RegionHeld3
import Derived.Test.YtnmfoedfllmclaaGreatDoorJr02
import Derived.Test.YtnmfoedfllmclaaGreatDoorJr03
namespace Go.Proofs.YtnmfoedfllmclaaGreatDoor
open Go.RowKit
set_option linter.unusedVariables false

theorem below_new0 (w : World) (o : Obj) : Below w.heap.size w (w.alloc o) := (Below.refl _ _).alloc (Nat.le_refl _) _
theorem below_drawn {B : Nat} {a c : World} (h : Below B a c) (n : Nat) : Below B a (c.drewN n) := ⟨h.os, h.tape, h.output, h.size, h.block⟩
def textsB : List ByteArray → List ByteArray → Bool
  | [], [] => true
  | x :: l, y :: m => (x.toList == y.toList) && textsB l m
  | _, _ => false
theorem textsB_length : ∀ {l m : List ByteArray}, l.length ≠ m.length → textsB l m = false
  | [], [], h => absurd rfl h
  | [], _ :: _, _ => rfl
  | _ :: _, [], _ => rfl
  | x :: l, y :: m, h => by
    unfold textsB
    rw [textsB_length (l := l) (m := m) (by simpa using h), Bool.and_false]
theorem textsB_all : ∀ {l m : List ByteArray}, l.length = m.length → (∀ i (h : i < l.length) (h' : i < m.length), (l[i].toList == m[i].toList) = true) → textsB l m = true
  | [], [], _, _ => rfl
  | [], _ :: _, h, _ => by simp at h
  | _ :: _, [], h, _ => by simp at h
  | x :: l, y :: m, h, hh => by
    unfold textsB
    rw [textsB_all (l := l) (m := m) (by simpa using h) (fun i h1 h2 => hh (i + 1) (by simpa using h1) (by simpa using h2))]
    have := hh 0 (by simp) (by simp)
    simp only [List.getElem_cons_zero] at this
    rw [this]; rfl
theorem textsB_not : ∀ {l m : List ByteArray} {i : Nat} (h : i < l.length) (h' : i < m.length), (l[i].toList == m[i].toList) = false → textsB l m = false
  | x :: l, y :: m, 0, _, _, e => by
    simp only [List.getElem_cons_zero] at e
    unfold textsB
    rw [e]; rfl
  | x :: l, y :: m, i + 1, h, h', e => by
    unfold textsB
    rw [textsB_not (l := l) (m := m) (i := i) (by simpa using h) (by simpa using h') (by simpa using e), Bool.and_false]

set_option maxRecDepth 100000 in
set_option maxHeartbeats 2000000 in
theorem texts_any {B : Nat} {w : World} {u v : Value} {ks ms : List ByteArray} (hk : StrsAt B w u ks) (hm : StrsAt B w v ms) (W : World) (hb : Below B w W) : Calls Tryz.prog 28 #[u, v] W fun e w' => e = .returned (.bool (textsB ks ms)) ∧ Below W.heap.size W w' := by
  obtain ⟨adk, capk, rfl, hkc, hkl, hkp⟩ := hk
  obtain ⟨adm, capm, rfl, hmc, hml, hmp⟩ := hm
  have HKP := Lib.hid hkp
  have HMP := Lib.hid hmp
  obtain ⟨r, hr⟩ : ∃ r, textsB ks ms = r := ⟨_, rfl⟩
  rw [hr]
  have HR := Lib.hid hr
  obtain ⟨n, hn⟩ : ∃ n, ks.length = n := ⟨_, rfl⟩
  obtain ⟨m, hm⟩ : ∃ m, ms.length = m := ⟨_, rfl⟩
  have HN := Lib.hid hn
  have HM := Lib.hid hm
  rw [hn] at hkc hkl ⊢
  rw [hm] at hmc hml ⊢
  clear hkp hmp hr hn hm
  by_cases hnm : n = m
  · subst hnm
    go_enter Tryz.func28, Tryz.ntmps28
    go_wp2
    go_loopw [5, 13] (fun _ jv wr => ∃ j : Nat, jv = .int .i64 j ∧ j ≤ n ∧ Hid (∀ i (h : i < ks.length) (h' : i < ms.length), i < j → (ks[i].toList == ms[i].toList) = true) ∧ Hid (Below W.heap.size W wr)) (fun _ jv _ => n - (intOf jv).toNat)
    case atStart => exact ⟨0, rfl, by omega, Lib.hid (fun i _ _ h => by omega), Lib.hid (Below.refl _ _)⟩
    case round =>
      obtain ⟨j, rfl, hj, HI, HB⟩ := hrel
      by_cases hlt : j < n
      · have hjk : j < ks.length := by have := HN.out; omega
        have hjm : j < ms.length := by have := HM.out; omega
        obtain ⟨gk, ok, rfl, hgk, hck⟩ := HKP.out (by omega)
        obtain ⟨gm, om, rfl, hgm, hcm⟩ := HMP.out (by omega)
        have hBr : Below B w wr ∨ True := .inr trivial
        have ck := hck j hjk
        have cm := hcm j hjm
        have hBw : ∀ p : Addr, p.block < B → B ≤ W.heap.size ∨ True := fun _ _ => .inr trivial
        obtain ⟨x, hx⟩ : ∃ x, ks[j] = x := ⟨_, rfl⟩
        obtain ⟨y, hy⟩ : ∃ y, ms[j] = y := ⟨_, rfl⟩
        rw [hx] at ck
        rw [hy] at cm
        have HX := Lib.hid hx
        have HY := Lib.hid hy
        have lk : gk < W.heap.size := by
          have := World.block_lt_of_cell? w _ ck
          have h2 := (hb.cell (p := ⟨gk, ok + j, none⟩) hgk).trans ck
          exact World.block_lt_of_cell? W _ h2
        have lm : gm < W.heap.size := by
          have h2 := (hb.cell (p := ⟨gm, om + j, none⟩) hgm).trans cm
          exact World.block_lt_of_cell? W _ h2
        have ck' := (HB.out.cell (p := ⟨gk, ok + j, none⟩) lk).trans ((hb.cell (p := ⟨gk, ok + j, none⟩) hgk).trans ck)
        have cm' := (HB.out.cell (p := ⟨gm, om + j, none⟩) lm).trans ((hb.cell (p := ⟨gm, om + j, none⟩) hgm).trans cm)
        have i1 : (0 : Int) ≤ (j : Int) := by omega
        have i2 : (j : Int) < (n : Int) := by omega
        clear ck cm hx hy hck hcm hBr hBw
        obtain ⟨d, hd⟩ : ∃ d, (x.toList == y.toList) = d := ⟨_, rfl⟩
        cases d
        · have HF : Hid (r = false) := Lib.hid (by rw [← HR.out]; exact textsB_not hjk hjm (by rw [HX.out, HY.out]; exact hd))
          have hd2 : (x.toList != y.toList) = true := by simp only [bne, hd]; rfl
          go_wp2_with fail
          go_quiet (fail)
          go_wp2_with fail
          go_ret
          exact ⟨by rw [HF.out]; rfl, below_drawn HB.out _⟩
        · have HD := Lib.hid hd
          have hd2 : (x.toList != y.toList) = false := by simp only [bne, hd]; rfl
          go_wp2_with fail
          go_quiet (fail)
          go_wp2_with fail
          go_roundw
          case rel =>
            refine ⟨j + 1, by go_num, by omega, Lib.hid (fun i h1 h2 hij => ?_), Lib.hid (below_drawn HB.out _)⟩
            rcases Nat.eq_or_lt_of_le (show i ≤ j by omega) with h | h
            · subst h; rw [HX.out, HY.out]; exact HD.out
            · exact HI.out i h1 h2 h
          case measure => simp [intOf]; omega
      · have HT : Hid (r = true) := Lib.hid (by rw [← HR.out]; exact textsB_all (by rw [HN.out, HM.out]) (fun i h1 h2 => HI.out i h1 h2 (by have := HN.out; omega)))
        go_wp2
        go_ret
        exact ⟨by rw [HT.out]; rfl, HB.out⟩
  · have HF : Hid (r = false) := Lib.hid (by rw [← HR.out]; exact textsB_length (by rw [HN.out, HM.out]; exact hnm))
    have h1 : ((n : Int) == (m : Int)) = false := beq_eq_false_iff_ne.2 (by omega)
    have h2 : ((n : Int) != (m : Int)) = true := by simp only [bne, h1]; rfl
    go_enter Tryz.func28, Tryz.ntmps28
    go_wp2
    go_ret
    exact ⟨by rw [HF.out]; rfl, Below.refl _ _⟩

mutual
/-- The same, field by field. -/
def sameT : VT → VT → Bool
  | .node k b t its ks, .node k' b' t' its' ks' => (k == k') && (b == b') && (t.toList == t'.toList) && textsB ks ks' && sameL its its'
def sameL : List VT → List VT → Bool
  | [], [] => true
  | x :: l, y :: m => sameT x y && sameL l m
  | _, _ => false
end
theorem textsB_refl : ∀ l : List ByteArray, textsB l l = true
  | [] => rfl
  | x :: l => by unfold textsB; rw [textsB_refl l, beq_self_eq_true]; rfl
mutual
theorem sameT_refl : ∀ T : VT, sameT T T = true
  | .node k b t its ks => by
    unfold sameT
    rw [sameL_refl its, textsB_refl, beq_self_eq_true, beq_self_eq_true, beq_self_eq_true]; rfl
theorem sameL_refl : ∀ l : List VT, sameL l l = true
  | [] => by unfold sameL; rfl
  | x :: l => by unfold sameL; rw [sameT_refl x, sameL_refl l]; rfl
end
theorem sameL_length : ∀ {l m : List VT}, l.length ≠ m.length → sameL l m = false
  | [], [], h => absurd rfl h
  | [], _ :: _, _ => by unfold sameL; rfl
  | _ :: _, [], _ => by unfold sameL; rfl
  | x :: l, y :: m, h => by
    unfold sameL
    rw [sameL_length (l := l) (m := m) (by simpa using h), Bool.and_false]
theorem sameL_all : ∀ {l m : List VT}, l.length = m.length → (∀ i (h : i < l.length) (h' : i < m.length), sameT l[i] m[i] = true) → sameL l m = true
  | [], [], _, _ => by unfold sameL; rfl
  | [], _ :: _, h, _ => by simp at h
  | _ :: _, [], h, _ => by simp at h
  | x :: l, y :: m, h, hh => by
    unfold sameL
    rw [sameL_all (l := l) (m := m) (by simpa using h) (fun i h1 h2 => hh (i + 1) (by simpa using h1) (by simpa using h2))]
    have := hh 0 (by simp) (by simp)
    simp only [List.getElem_cons_zero] at this
    rw [this]; rfl
theorem sameL_not : ∀ {l m : List VT} {i : Nat} (h : i < l.length) (h' : i < m.length), sameT l[i] m[i] = false → sameL l m = false
  | x :: l, y :: m, 0, _, _, e => by
    simp only [List.getElem_cons_zero] at e
    unfold sameL
    rw [e]; rfl
  | x :: l, y :: m, i + 1, h, h', e => by
    unfold sameL
    rw [sameL_not (l := l) (m := m) (i := i) (by simpa using h) (by simpa using h') (by simpa using e), Bool.and_false]

/-- Two values stand boxed at the head of what is new. -/
theorem box2_below {W : World} {cs ds : Array Value} {t u : TypeId} : Below W.heap.size W ((W.alloc (.cells cs t)).alloc (.cells ds u)) := (below_new0 W _).alloc (by simp) _

theorem cells_keep {w1 w2 : World} (hb : Below w1.heap.size w1 w2) {p : Addr} {v : Value} (h : w1.cell? p = some v) : w2.cell? p = some v := (hb.cell (World.block_lt_of_cell? w1 _ h)).trans h

set_option maxRecDepth 100000 in
set_option maxHeartbeats 4000000 in
theorem same_any {B : Nat} {w : World} {v : Value} {T : VT} (h : Is B w v T) : ∀ (v' : Value) (T' : VT) (W : World), Is B w v' T' → Below B w W → B ≤ W.heap.size → Calls Tryz.prog 13 #[v, v'] W fun e w' => e = .returned (.bool (sameT T T')) ∧ Below W.heap.size W w' := by
  induction h with
  | mk k b t its ks ad cap kv g o ik ib it ii iv hk hc hnl ha hcell hrec ih =>
    intro v' T' W h' hb hBW
    cases h' with
    | mk k' b' t' its' ks' ad' cap' kv' g' o' ik' ib' it' ii' iv' hk' hc' hnl' ha' hcell' hrec' =>
    have HTx := Lib.hid (fun W' (hb' : Below B w W') => texts_any hk hk' W' hb')
    obtain ⟨adk, capk, rfl, -⟩ := hk
    obtain ⟨adk', capk', rfl, -⟩ := hk'
    have HA := Lib.hid ha
    have HC := Lib.hid hcell
    have IH := Lib.hid ih
    have HA' := Lib.hid ha'
    have HC' := Lib.hid hcell'
    have HIS' := Lib.hid hrec'
    obtain ⟨len, hlen⟩ : ∃ len, its.length = len := ⟨_, rfl⟩
    obtain ⟨nk, hnk⟩ : ∃ nk, ks.length = nk := ⟨_, rfl⟩
    obtain ⟨len', hlen'⟩ : ∃ len', its'.length = len' := ⟨_, rfl⟩
    obtain ⟨nk', hnk'⟩ : ∃ nk', ks'.length = nk' := ⟨_, rfl⟩
    have HL := Lib.hid hlen
    have HL' := Lib.hid hlen'
    rw [hlen] at hc hnl ⊢
    rw [hlen'] at hc' hnl' ⊢
    rw [hnk] at HTx ⊢
    rw [hnk'] at HTx ⊢
    clear ha hcell hrec ih hlen hnk ha' hcell' hrec' hlen' hnk'
    obtain ⟨r, hr⟩ : ∃ r, sameT (.node k b t its ks) (.node k' b' t' its' ks') = r := ⟨_, rfl⟩
    rw [hr]
    have HR : Hid (((k == k') && (b == b') && (t.toList == t'.toList) && textsB ks ks' && sameL its its') = r) := Lib.hid (by rw [← hr]; unfold sameT; rfl)
    clear hr
    have HB2 : Hid (Below W.heap.size W ((W.alloc (.cells #[.int .i64 k, .bool b, .string t, .slice ad len cap, .slice adk nk capk] 26)).alloc (.cells #[.int .i64 k', .bool b', .string t', .slice ad' len' cap', .slice adk' nk' capk'] 26))) := Lib.hid box2_below
    by_cases hkk : k = k'
    · subst hkk
      by_cases hbb : b = b'
      · subst hbb
        obtain ⟨d, hd⟩ : ∃ d, (t.toList == t'.toList) = d := ⟨_, rfl⟩
        cases d
        · have HF : Hid (r = false) := Lib.hid (by rw [← HR.out, hd]; simp)
          have hd2 : (t.toList != t'.toList) = true := by simp only [bne, hd]; rfl
          go_enter Tryz.func13, Tryz.ntmps13
          go_wp2_with fail
          go_ret
          exact ⟨by rw [HF.out]; rfl, HB2.out⟩
        · have HD := Lib.hid hd
          have hd2 : (t.toList != t'.toList) = false := by simp only [bne, hd]; rfl
          have HTx2 := Lib.hid (HTx.out _ (hb.trans (HB2.out.mono hBW)))
          obtain ⟨x, hx⟩ : ∃ x, textsB ks ks' = x := ⟨_, rfl⟩
          rw [hx] at HTx2
          have HX := Lib.hid hx
          clear hx
          have hbk := below_new0 W (.cells #[.int .i64 k, .bool b, .string t, .slice ad len cap, .slice adk nk capk] 26)
          have HK1 : Hid (Blk ((W.alloc (.cells #[.int .i64 k, .bool b, .string t, .slice ad len cap, .slice adk nk capk] 26)).alloc (.cells #[.int .i64 k, .bool b, .string t', .slice ad' len' cap', .slice adk' nk' capk'] 26)) W.heap.size #[.int .i64 k, .bool b, .string t, .slice ad len cap, .slice adk nk capk] 26) := Lib.hid ((Blk.new W _ _).alloc _)
          have HK2 : Hid (Blk ((W.alloc (.cells #[.int .i64 k, .bool b, .string t, .slice ad len cap, .slice adk nk capk] 26)).alloc (.cells #[.int .i64 k, .bool b, .string t', .slice ad' len' cap', .slice adk' nk' capk'] 26)) (W.heap.size + 1) #[.int .i64 k, .bool b, .string t', .slice ad' len' cap', .slice adk' nk' capk'] 26) := Lib.hid (by have := Blk.new (W.alloc (.cells #[.int .i64 k, .bool b, .string t, .slice ad len cap, .slice adk nk capk] 26)) #[.int .i64 k, .bool b, .string t', .slice ad' len' cap', .slice adk' nk' capk'] 26; simpa using this)
          clear hbk
          cases x
          · have HF : Hid (r = false) := Lib.hid (by rw [← HR.out, HX.out]; simp)
            go_enter Tryz.func13, Tryz.ntmps13
            go_wp2_with (go_at_call 28; refine HTx2.out.mono ?_; rintro e w2 ⟨rfl, hb2⟩)
            go_ret
            exact ⟨by rw [HF.out]; rfl, HB2.out.trans (hb2.mono HB2.out.size)⟩
          · go_enter Tryz.func13, Tryz.ntmps13
            go_wp2_with fail
            go_at_call 28; refine HTx2.out.mono ?_; rintro e w2 ⟨rfl, hb2⟩
            have HB3 := Lib.hid (HB2.out.trans (hb2.mono HB2.out.size))
            have HK3 := Lib.hid (HK1.out.below hb2)
            have HK4 := Lib.hid (HK2.out.below hb2)
            have p3 := HK3.out.cell 3
            have q3 := HK4.out.cell 3
            clear hb2 HTx2 HTx HB2
            by_cases hll : len = len'
            · subst hll
              go_wp2_with fail
              clear p3 q3
              have HRL : Hid (r = sameL its its') := Lib.hid (by rw [← HR.out, hd, HX.out, beq_self_eq_true, beq_self_eq_true]; simp)
              go_loopw [5, 45] (fun _ jv wr => ∃ j : Nat, jv = .int .i64 j ∧ j ≤ len ∧ Hid (∀ i (h : i < its.length) (h' : i < its'.length), i < j → sameT its[i] its'[i] = true) ∧ Hid (Below W.heap.size W wr) ∧ Hid (Blk wr W.heap.size #[.int .i64 k, .bool b, .string t, .slice ad len cap, .slice adk nk capk] 26) ∧ Hid (Blk wr (W.heap.size + 1) #[.int .i64 k, .bool b, .string t', .slice ad' len cap', .slice adk' nk' capk'] 26)) (fun _ jv _ => len - (intOf jv).toNat)
              case atStart => exact ⟨0, rfl, by omega, Lib.hid (fun i _ _ h => by omega), HB3, HK3, HK4⟩
              case round =>
                obtain ⟨j, rfl, hj, HI, HB, HKa, HKb⟩ := hrel
                clear HB3 HK3 HK4 HK1 HK2 hd hd2
                by_cases hlt : j < len
                · have hjl : j < its.length := by have := HL.out; omega
                  have hjm : j < its'.length := by have := HL'.out; omega
                  obtain ⟨rfl, hg⟩ := HA.out (by omega)
                  obtain ⟨rfl, hg'⟩ := HA'.out (by omega)
                  have hBr : Below B w wr := hb.trans (HB.out.mono hBW)
                  have h5 := (HC.out j hjl).below hg hBr
                  have h6 := (HC'.out j hjm).below hg' hBr
                  have e0 := h5.1
                  have e1 := h5.2.1
                  have e2 := h5.2.2.1
                  have e3 := h5.2.2.2.1
                  have e4 := h5.2.2.2.2
                  have d0 := h6.1
                  have d1 := h6.2.1
                  have d2 := h6.2.2.1
                  have d3 := h6.2.2.2.1
                  have d4 := h6.2.2.2.2
                  have p3 : wr.cell? ⟨W.heap.size, 3, none⟩ = some (.slice (some ⟨g, o, none⟩) len cap) := HKa.out.cell 3
                  have q3 : wr.cell? ⟨W.heap.size + 1, 3, none⟩ = some (.slice (some ⟨g', o', none⟩) len cap') := HKb.out.cell 3
                  have hBrd : Below B w wr.drew := ⟨hBr.os, hBr.tape, hBr.output, hBr.size, hBr.block⟩
                  have HBd : Hid (Below W.heap.size W wr.drew) := Lib.hid ⟨HB.out.os, HB.out.tape, HB.out.output, HB.out.size, HB.out.block⟩
                  have HKa' : Hid (Blk wr.drew W.heap.size #[.int .i64 k, .bool b, .string t, .slice (some ⟨g, o, none⟩) len cap, .slice adk nk capk] 26) := Lib.hid HKa.out
                  have HKb' : Hid (Blk wr.drew (W.heap.size + 1) #[.int .i64 k, .bool b, .string t', .slice (some ⟨g', o', none⟩) len cap', .slice adk' nk' capk'] 26) := Lib.hid HKb.out
                  have HCa := Lib.hid (IH.out j hjl _ _ wr.drew (HIS'.out j hjm) hBrd (by have := HBd.out.size; omega))
                  have i1 : (0 : Int) ≤ (j : Int) := by omega
                  have i2 : (j : Int) < (len : Int) := by omega
                  clear h5 h6 hBr hBrd HB
                  obtain ⟨x, hx⟩ : ∃ x, sameT its[j] its'[j] = x := ⟨_, rfl⟩
                  rw [hx] at HCa
                  have HXx := Lib.hid hx
                  clear hx
                  generalize hxi : ii j = vi at e3 HCa
                  generalize hxv : iv j = vv at e4 HCa
                  generalize hxi' : ii' j = vi' at d3 HCa
                  generalize hxv' : iv' j = vv' at d4 HCa
                  clear hxi hxv hxi' hxv'
                  go_wp2_with fail
                  go_region_held3 (fun w' => w'.cell? ⟨W.heap.size, 3, none⟩ = some (.slice (some ⟨g, o, none⟩) len cap) ∧ w'.cell? ⟨W.heap.size + 1, 3, none⟩ = some (.slice (some ⟨g', o', none⟩) len cap')
                      ∧ w'.cell? ⟨g, o + j * 5, none⟩ = some (.int .i64 (ik j)) ∧ w'.cell? ⟨g, o + j * 5 + 1, none⟩ = some (.bool (ib j)) ∧ w'.cell? ⟨g, o + j * 5 + 2, none⟩ = some (.string (it j)) ∧ w'.cell? ⟨g, o + j * 5 + 3, none⟩ = some vi ∧ w'.cell? ⟨g, o + j * 5 + 4, none⟩ = some vv
                      ∧ w'.cell? ⟨g', o' + j * 5, none⟩ = some (.int .i64 (ik' j)) ∧ w'.cell? ⟨g', o' + j * 5 + 1, none⟩ = some (.bool (ib' j)) ∧ w'.cell? ⟨g', o' + j * 5 + 2, none⟩ = some (.string (it' j)) ∧ w'.cell? ⟨g', o' + j * 5 + 3, none⟩ = some vi' ∧ w'.cell? ⟨g', o' + j * 5 + 4, none⟩ = some vv')
                    (first | exact ⟨p3, q3, e0, e1, e2, e3, e4, d0, d1, d2, d3, d4⟩ | exact ⟨cells_keep hb2 p3, cells_keep hb2 q3, cells_keep hb2 e0, cells_keep hb2 e1, cells_keep hb2 e2, cells_keep hb2 e3, cells_keep hb2 e4, cells_keep hb2 d0, cells_keep hb2 d1, cells_keep hb2 d2, cells_keep hb2 d3, cells_keep hb2 d4⟩ | go_keep)
                    (first | (go_at_call 13; refine HCa.out.mono ?_; rintro e w2 ⟨rfl, hb2⟩))
                  cases x
                  · have HF : Hid (r = false) := Lib.hid (by rw [HRL.out]; exact sameL_not hjl hjm HXx.out)
                    go_wp2_with fail
                    go_ret
                    exact ⟨by rw [HF.out]; rfl, HBd.out.trans (hb2.mono HBd.out.size)⟩
                  · go_wp2_with fail
                    go_roundw
                    case rel =>
                      refine ⟨j + 1, by go_num, by omega, Lib.hid (fun i h1 h2 hij => ?_), Lib.hid (HBd.out.trans (hb2.mono HBd.out.size)), Lib.hid (HKa'.out.below hb2), Lib.hid (HKb'.out.below hb2)⟩
                      rcases Nat.eq_or_lt_of_le (show i ≤ j by omega) with h | h
                      · subst h; exact HXx.out
                      · exact HI.out i h1 h2 h
                    case measure => simp [intOf]; omega
                · have HT : Hid (r = true) := Lib.hid (by rw [HRL.out]; exact sameL_all (by rw [HL.out, HL'.out]) (fun i h1 h2 => HI.out i h1 h2 (by have := HL.out; omega)))
                  have p3 := HKa.out.cell 3
                  go_wp2
                  go_ret
                  exact ⟨by rw [HT.out]; rfl, HB.out⟩
            · have HF : Hid (r = false) := Lib.hid (by rw [← HR.out, sameL_length (by rw [HL.out, HL'.out]; exact hll)]; simp)
              have h1 : ((len : Int) == (len' : Int)) = false := beq_eq_false_iff_ne.2 (by omega)
              have h2 : ((len : Int) != (len' : Int)) = true := by simp only [bne, h1]; rfl
              go_wp2_with fail
              go_ret
              exact ⟨by rw [HF.out]; rfl, HB3.out⟩
      · have h1 : (b == b') = false := beq_eq_false_iff_ne.2 hbb
        have h2 : (b != b') = true := by simp only [bne, h1]; rfl
        have HF : Hid (r = false) := Lib.hid (by rw [← HR.out, h1]; simp)
        go_enter Tryz.func13, Tryz.ntmps13
        go_wp2_with fail
        go_ret
        exact ⟨by rw [HF.out]; rfl, HB2.out⟩
    · have h1 : (k == k') = false := beq_eq_false_iff_ne.2 hkk
      have h2 : (k != k') = true := by simp only [bne, h1]; rfl
      have HF : Hid (r = false) := Lib.hid (by rw [← HR.out, h1]; simp)
      go_enter Tryz.func13, Tryz.ntmps13
      go_wp2_with fail
      go_ret
      exact ⟨by rw [HF.out]; rfl, HB2.out⟩
end Go.Proofs.YtnmfoedfllmclaaGreatDoor
namespace Go.Proofs.YtnmfoedfllmclaaGreatDoor
open Go.RowKit

end Go.Proofs.YtnmfoedfllmclaaGreatDoor
namespace Go.Proofs.YtnmfoedfllmclaaGreatDoor
open Go.RowKit
set_option linter.unusedVariables false

/-- A list of strings in blocks from lo on, below B. -/
def StrsF (lo B : Nat) (W : World) (v : Value) (ks : List ByteArray) : Prop := ∃ ad cap, v = .slice ad ks.length cap ∧ ks.length ≤ cap ∧ ks.length ≤ 140737488355328 ∧ (0 < ks.length → ∃ g o, ad = some ⟨g, o, none⟩ ∧ lo ≤ g ∧ g < B ∧ (∀ j (h : j < ks.length), W.cell? ⟨g, o + j, none⟩ = some (.string ks[j])) ∧ ∀ j, j < ks.length → W.frozen? ⟨g, o + j, none⟩ = false)
theorem cell_same {W W' : World} {g : Nat} (h : W'.heap[g]? = W.heap[g]?) (o : Nat) : W'.cell? ⟨g, o, none⟩ = W.cell? ⟨g, o, none⟩ := by
  simp [World.cell?, h]
theorem thaw_same {W W' : World} {g : Nat} (h : W'.heap[g]? = W.heap[g]?) (o : Nat) : W'.frozen? ⟨g, o, none⟩ = W.frozen? ⟨g, o, none⟩ := by
  simp [World.frozen?, h]
theorem StrsF.keep {lo lo' B B' : Nat} {W W' : World} {v : Value} {ks : List ByteArray} (h : StrsF lo B W v ks) (hs : ∀ g, lo ≤ g → g < B → W'.heap[g]? = W.heap[g]?) (hl : lo' ≤ lo) (hB : B ≤ B') : StrsF lo' B' W' v ks := by
  obtain ⟨ad, cap, h1, h2, h3, h4⟩ := h
  refine ⟨ad, cap, h1, h2, h3, fun hp => ?_⟩
  obtain ⟨g, o, h5, h6, h7, h8, h9⟩ := h4 hp
  exact ⟨g, o, h5, by omega, by omega, fun j hj => (cell_same (hs g h6 h7) _).trans (h8 j hj), fun j hj => (thaw_same (hs g h6 h7) _).trans (h9 j hj)⟩
theorem StrsF.at {lo B : Nat} {W : World} {v : Value} {ks : List ByteArray} (h : StrsF lo B W v ks) : StrsAt B W v ks := by
  obtain ⟨ad, cap, h1, h2, h3, h4⟩ := h
  refine ⟨ad, cap, h1, h2, h3, fun hp => ?_⟩
  obtain ⟨g, o, h5, h6, h7, h8, -⟩ := h4 hp
  exact ⟨g, o, h5, h7, h8⟩

/-- The value v is the tree, its memory in blocks from lo on, below B. -/
inductive Fresh (lo B : Nat) (W : World) : Value → VT → Prop where
  | mk (k : Int) (b : Bool) (t : ByteArray) (its : List VT) (ks : List ByteArray) (ad : Option Addr) (cap : Nat) (kv : Value) (g o : Nat) (ik : Nat → Int) (ib : Nat → Bool) (it : Nat → ByteArray) (ii iv : Nat → Value)
      (hk : StrsF lo B W kv ks) (hc : its.length ≤ cap) (hn : its.length ≤ 140737488355328)
      (ha : 0 < its.length → ad = some ⟨g, o, none⟩ ∧ lo ≤ g ∧ g < B)
      (hcell : ∀ j, j < its.length → Five W g (o + j * 5) (.int .i64 (ik j)) (.bool (ib j)) (.string (it j)) (ii j) (iv j))
      (hthaw : ∀ j i, j < its.length → i < 5 → W.frozen? ⟨g, o + j * 5 + i, none⟩ = false)
      (hrec : ∀ j (h : j < its.length), Fresh lo B W (.agg #[.int .i64 (ik j), .bool (ib j), .string (it j), ii j, iv j]) its[j]) :
      Fresh lo B W (.agg #[.int .i64 k, .bool b, .string t, .slice ad its.length cap, kv]) (.node k b t its ks)
theorem Fresh.at {lo B : Nat} {W : World} {v : Value} {T : VT} (h : Fresh lo B W v T) : Is B W v T := by
  induction h with
  | mk k b t its ks ad cap kv g o ik ib it ii iv hk hc hn ha hcell hthaw hrec ih =>
    exact Is.mk k b t its ks ad cap kv g o ik ib it ii iv hk.at hc hn (fun hp => ⟨(ha hp).1, (ha hp).2.2⟩) hcell ih
theorem Five.same {W W' : World} {g o : Nat} {c0 c1 c2 c3 c4 : Value} (h : Five W g o c0 c1 c2 c3 c4) (hs : W'.heap[g]? = W.heap[g]?) : Five W' g o c0 c1 c2 c3 c4 :=
  ⟨(cell_same hs _).trans h.1, (cell_same hs _).trans h.2.1, (cell_same hs _).trans h.2.2.1, (cell_same hs _).trans h.2.2.2.1, (cell_same hs _).trans h.2.2.2.2⟩
theorem Fresh.keep {lo lo' B B' : Nat} {W W' : World} {v : Value} {T : VT} (h : Fresh lo B W v T) (hs : ∀ g, lo ≤ g → g < B → W'.heap[g]? = W.heap[g]?) (hl : lo' ≤ lo) (hB : B ≤ B') : Fresh lo' B' W' v T := by
  induction h with
  | mk k b t its ks ad cap kv g o ik ib it ii iv hk hc hn ha hcell hthaw hrec ih =>
    exact Fresh.mk k b t its ks ad cap kv g o ik ib it ii iv (hk.keep hs hl hB) hc hn (fun hp => ⟨(ha hp).1, by have := (ha hp).2; omega, by have := (ha hp).2; omega⟩) (fun j hj => (hcell j hj).same (hs g (ha (by omega)).2.1 (ha (by omega)).2.2)) (fun j i hj hi => (thaw_same (hs g (ha (by omega)).2.1 (ha (by omega)).2.2) _).trans (hthaw j i hj hi)) ih
theorem Fresh.shape {lo B : Nat} {W : World} {v : Value} {T : VT} (h : Fresh lo B W v T) : ∃ k b t ad n cap adk nk capk, v = .agg #[.int .i64 k, .bool b, .string t, .slice ad n cap, .slice adk nk capk] := h.at.shape

/-- Nothing in the tree is long. -/
def smallT : VT → Prop
  | .node _ _ _ its ks => its.length ≤ 1000000 ∧ ks.length ≤ 1000000 ∧ ∀ x ∈ its, smallT x
theorem smallT_node {k : Int} {b : Bool} {t : ByteArray} {its : List VT} {ks : List ByteArray} : smallT (.node k b t its ks) ↔ its.length ≤ 1000000 ∧ ks.length ≤ 1000000 ∧ ∀ x ∈ its, smallT x := by
  conv => lhs; unfold smallT

/-- The keys' clone. -/
def ClonesKeys (ks : List ByteArray) (W : World) (e : Ending) (w' : World) : Prop := ∃ kv', e = .returned kv' ∧ StrsF W.heap.size w'.heap.size w' kv' ks ∧ Below W.heap.size W w'

theorem cloneKeys_any {B : Nat} {w : World} {kv : Value} {ks : List ByteArray} (hk : StrsAt B w kv ks) (hs : ks.length ≤ 1000000) (W : World) (hb : Below B w W) (hBW : B ≤ W.heap.size) : Calls Tryz.prog 112 #[kv] W (ClonesKeys ks W) := by
  obtain ⟨ad, cap, rfl, hc, hl, hp⟩ := hk
  cases ad with
  | none =>
    have h0 : ks.length = 0 := by
      rcases Nat.eq_zero_or_pos ks.length with h | h
      · exact h
      · obtain ⟨_, _, h', _⟩ := hp h; cases h'
    obtain rfl : ks = [] := List.length_eq_zero_iff.1 h0
    refine (Tryz.slices_Clone_string_nil _ _ W).mono ?_
    rintro e w' ⟨rfl, rfl⟩
    exact ⟨_, rfl, ⟨none, 0, rfl, by simp, by simp, fun h => absurd h (by simp)⟩, Below.refl _ _⟩
  | some a =>
    rcases Nat.eq_zero_or_pos ks.length with h | h
    · obtain rfl : ks = [] := List.length_eq_zero_iff.1 h
      refine (Tryz.slices_Clone_string_zero a _ W).mono ?_
      rintro e w' ⟨v', rfl, hown, -, hb'⟩
      obtain ⟨-, ⟨rfl, -⟩ | ⟨g, cap', cur, rfl, -⟩⟩ := hown
      · exact ⟨_, rfl, ⟨none, 0, rfl, by simp, by simp, fun h => absurd h (by simp)⟩, hb'⟩
      · exact ⟨_, rfl, ⟨_, cap', rfl, by simp, by simp, fun h => absurd h (by simp)⟩, hb'⟩
    · obtain ⟨g, o, h1, h2, h3⟩ := hp h
      cases h1
      have hcon := Tryz.slices_Clone_string g o ks.length cap ks W (Nat.le_refl _) (by omega) (fun j hj => by
        have := (hb.cell (p := ⟨g, o + j, none⟩) h2).trans (h3 j hj)
        rw [this]
        simp [List.getD, hj])
      refine hcon.mono ?_
      rintro e w' ⟨v', rfl, hown, -, hb'⟩
      obtain ⟨hx, ⟨rfl, h0⟩ | ⟨g', cap', cur, rfl, hg', hblk, hnc, hcm, hcs, htk⟩⟩ := hown
      · omega
      · refine ⟨_, rfl, ⟨_, cap', rfl, hnc, hl, fun _ => ⟨g', 0, rfl, hg', (Array.getElem?_eq_some_iff.1 hblk).1, fun j hj => ?_, fun j hj => by simp [World.frozen?, hblk]⟩⟩, hb'⟩
        have hcj : cur[0 + j]? = some (.string ks[j]) := by
          have h4 : (cur.toList.take (ks.length * 1))[j]? = ((ks.take ks.length).map Value.string)[j]? := by rw [htk]
          rw [List.getElem?_take_of_lt (by omega), List.take_length, List.getElem?_map, List.getElem?_eq_getElem hj, Array.getElem?_toList] at h4
          rw [Nat.zero_add, h4]; rfl
        simp only [World.cell?, hblk]
        first | exact hcj | simpa using hcj
end Go.Proofs.YtnmfoedfllmclaaGreatDoor
