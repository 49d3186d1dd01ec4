/- value.Cmp and value.Equal of any plain values · purlinref02.Cmp of any plain values; value.Equal -/
import Derived.Test.YthmojhfakmdlfaaGreatDoorOr13
import Derived.Test.YthmojhfakmdlfaaGreatDoorOr22
import Derived.Test.YthmojhfakmdlfaaGreatDoorOr23
namespace Go.Proofs.YthmojhfakmdlfaaGreatDoor
open Go.RowKit
set_option linter.unusedVariables false

theorem truths_any (a b : Bool) (w : World) : Calls Tryz.prog 42 #[.bool a, .bool b] w fun e w' => e = .returned (.int .i64 (cmpB a b)) ∧ w = w' := by
  cases a <;> cases b <;>
  · go_enter Tryz.func42, Tryz.ntmps42
    go_wp2
    go_ret
    exact ⟨by first | rfl | simp [cmpB], rfl⟩

set_option maxRecDepth 100000 in
set_option maxHeartbeats 4000000 in
theorem compareObjects_of {B : Nat} {w : World} {k k' : Int} {b b' : Bool} {t t' : ByteArray} {ad adk ad' adk' : Option Addr} {n cap nk capk n' cap' nk' capk' : Nat} {ck ci : Int}
    (HKeys : Hid (∀ W, Below B w W → Calls Tryz.prog 78 #[.slice adk nk capk, .slice adk' nk' capk'] W fun e w' => e = .returned (.int .i64 ck) ∧ W = w'))
    (HItems : Hid (∀ W, Below B w W → B ≤ W.heap.size → Calls Tryz.prog 45 #[.slice ad n cap, .slice ad' n' cap', .func (.func 13) #[] #[]] W fun e w' => e = .returned (.int .i64 ci) ∧ Below W.heap.size W w'))
    (W : World) (hb : Below B w W) (hBW : B ≤ W.heap.size) :
    Calls Tryz.prog 46 #[.agg #[.int .i64 k, .bool b, .string t, .slice ad n cap, .slice adk nk capk], .agg #[.int .i64 k', .bool b', .string t', .slice ad' n' cap', .slice adk' nk' capk']] W fun e w' => e = .returned (.int .i64 (if ck = 0 then ci else ck)) ∧ Below W.heap.size W w' := by
  have HB2 : Hid (Below W.heap.size W ((W.alloc (.cells #[.int .i64 k, .bool b, .string t, .slice ad n cap, .slice adk nk capk] 26)).alloc (.cells #[.int .i64 k', .bool b', .string t', .slice ad' n' cap', .slice adk' nk' capk'] 26))) := Lib.hid box2_below
  have HK1 := Lib.hid ((Blk.new W #[.int .i64 k, .bool b, .string t, .slice ad n cap, .slice adk nk capk] 26).alloc (.cells #[.int .i64 k', .bool b', .string t', .slice ad' n' cap', .slice adk' nk' capk'] 26))
  have HK2 : Hid (Blk ((W.alloc (.cells #[.int .i64 k, .bool b, .string t, .slice ad n cap, .slice adk nk capk] 26)).alloc (.cells #[.int .i64 k', .bool b', .string t', .slice ad' n' cap', .slice adk' nk' capk'] 26)) (W.heap.size + 1) #[.int .i64 k', .bool b', .string t', .slice ad' n' cap', .slice adk' nk' capk'] 26) := Lib.hid (by have := Blk.new (W.alloc (.cells #[.int .i64 k, .bool b, .string t, .slice ad n cap, .slice adk nk capk] 26)) #[.int .i64 k', .bool b', .string t', .slice ad' n' cap', .slice adk' nk' capk'] 26; simpa using this)
  have p3 := HK1.out.cell 3
  have p4 := HK1.out.cell 4
  have q3 := HK2.out.cell 3
  have q4 := HK2.out.cell 4
  have HKy := Lib.hid (HKeys.out _ (hb.trans (HB2.out.mono hBW)))
  have HIt := Lib.hid (HItems.out _ (hb.trans (HB2.out.mono hBW)) (Nat.le_trans hBW HB2.out.size))
  clear hb hBW HKeys HItems HK1 HK2
  by_cases hz : ck = 0
  · subst hz
    rw [if_pos rfl]
    go_enter Tryz.func46, Tryz.ntmps46
    go_wp2_with (first
      | (go_at_call 78; refine HKy.out.mono ?_; rintro e w' ⟨rfl, rfl⟩)
      | (go_at_call 45; refine HIt.out.mono ?_; rintro e w2 ⟨rfl, hb2⟩))
    go_ret
    exact ⟨rfl, HB2.out.trans (hb2.mono HB2.out.size)⟩
  · rw [if_neg hz]
    have hz1 : (ck == 0) = false := beq_eq_false_iff_ne.2 hz
    have hz2 : (ck != 0) = true := by simp only [bne, hz1]; rfl
    clear HIt
    go_enter Tryz.func46, Tryz.ntmps46
    go_wp2_with (go_at_call 78; refine HKy.out.mono ?_; rintro e w' ⟨rfl, rfl⟩)
    go_ret
    exact ⟨rfl, HB2.out⟩

set_option maxRecDepth 100000 in
set_option maxHeartbeats 4000000 in
theorem vCmp_any {B : Nat} {w : World} {v : Value} {T : VT} (h : Is B w v T) : plainT T = true → ∀ (v' : Value) (T' : VT) (W : World), Is B w v' T' → plainT T' = true → Below B w W → B ≤ W.heap.size → Calls Tryz.prog 13 #[v, v'] W fun e w' => e = .returned (.int .i64 (cmpT T T')) ∧ Below W.heap.size W w' := by
  induction h with
  | mk k b t its ks ad cap kv g o ik ib it ii iv hk hc hnl ha hcell hrec ih =>
    intro hp v' T' W h' hp' hb hBW
    cases h' with
    | mk k' b' t' its' ks' ad' cap' kv' g' o' ik' ib' it' ii' iv' hk' hc' hnl' ha' hcell' hrec' =>
    unfold plainT at hp hp'
    obtain ⟨hal, hpl⟩ := Bool.and_eq_true_iff.1 hp
    obtain ⟨hal', hpl'⟩ := Bool.and_eq_true_iff.1 hp'
    have HItems := Lib.hid (fun (W' : World) (hb' : Below B w W') (hB' : B ≤ W'.heap.size) => cmpItems_of (cap := cap) (cap' := cap') ha hcell hrec ha' hcell' hrec' hnl hnl' (fun j hj hj' W hb hBW => ih j hj (plainL_at hj hpl) _ _ W (hrec' j hj') (plainL_at hj' hpl') hb hBW) W' hb' hB')
    have HKeys := Lib.hid (fun (W' : World) (hb' : Below B w W') => compareKeys_any hk hk' W' hb')
    obtain ⟨adk, capk, rfl, -⟩ := hk
    obtain ⟨adk', capk', rfl, -⟩ := hk'
    clear ha hcell hrec ih ha' hcell' hrec' hp hp' hpl hpl' hc hc' hnl hnl'
    obtain ⟨len, hlen⟩ : ∃ len, its.length = len := ⟨_, rfl⟩
    obtain ⟨nk, hnk⟩ : ∃ nk, ks.length = nk := ⟨_, rfl⟩
    obtain ⟨len', hlen'⟩ : ∃ len', its'.length = len' := ⟨_, rfl⟩
    obtain ⟨nk', hnk'⟩ : ∃ nk', ks'.length = nk' := ⟨_, rfl⟩
    rw [hlen, hlen'] at HItems
    rw [hnk, hnk'] at HKeys
    rw [hlen, hlen', hnk, hnk']
    have HB2 : Hid (Below W.heap.size W ((W.alloc (.cells #[.int .i64 k, .bool b, .string t, .slice ad len cap, .slice adk nk capk] 26)).alloc (.cells #[.int .i64 k', .bool b', .string t', .slice ad' len' cap', .slice adk' nk' capk'] 26))) := Lib.hid box2_below
    have HK1 := Lib.hid ((Blk.new W #[.int .i64 k, .bool b, .string t, .slice ad len cap, .slice adk nk capk] 26).alloc (.cells #[.int .i64 k', .bool b', .string t', .slice ad' len' cap', .slice adk' nk' capk'] 26))
    have HK2 : Hid (Blk ((W.alloc (.cells #[.int .i64 k, .bool b, .string t, .slice ad len cap, .slice adk nk capk] 26)).alloc (.cells #[.int .i64 k', .bool b', .string t', .slice ad' len' cap', .slice adk' nk' capk'] 26)) (W.heap.size + 1) #[.int .i64 k', .bool b', .string t', .slice ad' len' cap', .slice adk' nk' capk'] 26) := Lib.hid (by have := Blk.new (W.alloc (.cells #[.int .i64 k, .bool b, .string t, .slice ad len cap, .slice adk nk capk] 26)) #[.int .i64 k', .bool b', .string t', .slice ad' len' cap', .slice adk' nk' capk'] 26; simpa using this)
    have HBb := Lib.hid hb
    have HBW := Lib.hid hBW
    clear hb hBW
    have p0 := HK1.out.cell 0
    have q0 := HK2.out.cell 0
    by_cases hkk : k = k'
    · subst hkk
      have e0 : cmpT (.node k b t its ks) (.node k b' t' its' ks') = (if k = 2 then cmpB b b' else if k = 3 then sgnI (textVal t.data.toList) (textVal t'.data.toList) else if k = 4 then cmpS t t' else if cmpKs ks ks' = 0 then cmpL its its' else cmpKs ks ks') := by
        unfold cmpT; rw [if_pos rfl]
      rw [e0]
      clear e0
      rcases alone_cases hal with ⟨k0, rfl, e1, rfl, rfl⟩ | ⟨rfl, e1, rfl, rfl⟩ | ⟨rfl, rfl, e1, rfl, rfl⟩ | ⟨rfl, rfl, e1, rfl, rfl⟩ | ⟨rfl, rfl, e1, rfl⟩ | ⟨rfl, rfl, e1, e2, e3⟩ <;>
        rcases alone_cases hal' with ⟨k0', rfl, f1, rfl, rfl⟩ | ⟨q, f1, rfl, rfl⟩ | ⟨q, rfl, f1, rfl, rfl⟩ | ⟨q, rfl, f1, rfl, rfl⟩ | ⟨q, rfl, f1, rfl⟩ | ⟨q, rfl, f1, f2, f3⟩
      all_goals first | (exfalso; omega) | skip
      · rw [if_neg (by omega), if_neg (by omega), if_neg (by omega)]
        have hz : (if cmpKs [] [] = 0 then cmpL [] [] else cmpKs [] []) = 0 := by simp [cmpKs, cmpL]
        rw [hz]
        clear hal hal' HKeys HItems e1 f1 hz hlen hlen' hnk hnk'
        rcases k0 with rfl | rfl <;>
        · go_enter Tryz.func13, Tryz.ntmps13
          go_wp2_with fail
          go_ret
          exact ⟨rfl, HB2.out⟩
      · rw [if_pos rfl]
        have p1 := HK1.out.cell 1
        have q1 := HK2.out.cell 1
        have HC := Lib.hid (fun W => truths_any b b' W)
        clear hal hal' HKeys HItems e1 f1 hlen hlen' hnk hnk'
        generalize cmpB b b' = z at HC
        go_enter Tryz.func13, Tryz.ntmps13
        go_wp2_with (go_at_call 42; refine (HC.out _).mono ?_; rintro e w' ⟨rfl, rfl⟩)
        go_ret
        exact ⟨rfl, HB2.out⟩
      · rw [if_neg (by omega), if_pos rfl]
        have p1 := HK1.out.cell 2
        have q1 := HK2.out.cell 2
        have HC := Lib.hid (fun W : World => Cmp_good (str_fits e1) (str_fits f1) (w := W))
        rw [← str_val e1, ← str_val f1] at HC
        generalize sgnI (textVal t.data.toList) (textVal t'.data.toList) = z at HC ⊢
        clear hal hal' HKeys HItems e1 f1 hlen hlen' hnk hnk'
        go_enter Tryz.func13, Tryz.ntmps13
        go_wp2_with (go_at_call 43; refine (HC.out _).mono ?_; rintro e w2 ⟨rfl, hb2⟩)
        go_ret
        exact ⟨rfl, HB2.out.trans (hb2.mono HB2.out.size)⟩
      · rw [if_neg (by omega), if_neg (by omega), if_pos rfl]
        have p1 := HK1.out.cell 2
        have q1 := HK2.out.cell 2
        have HC := Lib.hid (fun W => Tryz.strings_Compare t t' W)
        unfold cmpS
        generalize Lib.compareBytes t.data.toList t'.data.toList = z at HC ⊢
        clear hal hal' HKeys HItems e1 f1 hlen hlen' hnk hnk'
        go_enter Tryz.func13, Tryz.ntmps13
        go_wp2_with (go_at_call 44; refine (HC.out _).mono ?_; rintro e w' ⟨rfl, rfl⟩)
        go_ret
        exact ⟨rfl, HB2.out⟩
      · rw [if_neg (by omega), if_neg (by omega), if_neg (by omega)]
        have hz : cmpKs [] [] = 0 := by simp [cmpKs]
        rw [if_pos hz]
        have p1 := HK1.out.cell 3
        have q1 := HK2.out.cell 3
        have HC := Lib.hid (HItems.out _ (HBb.out.trans (HB2.out.mono HBW.out)) (Nat.le_trans HBW.out HB2.out.size))
        generalize cmpL its its' = z at HC ⊢
        clear hal hal' HKeys HItems e1 f1 hlen hlen' hnk hnk' hz
        go_enter Tryz.func13, Tryz.ntmps13
        go_wp2_with (go_at_call 45; refine HC.out.mono ?_; rintro e w2 ⟨rfl, hb2⟩)
        go_ret
        exact ⟨rfl, HB2.out.trans (hb2.mono HB2.out.size)⟩
      · rw [if_neg (by omega), if_neg (by omega), if_neg (by omega)]
        have p1 := HK1.out.cell 1
        have p2 := HK1.out.cell 2
        have p3 := HK1.out.cell 3
        have p4 := HK1.out.cell 4
        have q1 := HK2.out.cell 1
        have q2 := HK2.out.cell 2
        have q3 := HK2.out.cell 3
        have q4 := HK2.out.cell 4
        have HC := Lib.hid (compareObjects_of (k := 6) (b := false) (t := t) (k' := 6) (b' := false) (t' := t') HKeys HItems _ (HBb.out.trans (HB2.out.mono HBW.out)) (Nat.le_trans HBW.out HB2.out.size))
        generalize (if cmpKs ks ks' = 0 then cmpL its its' else cmpKs ks ks') = z at HC ⊢
        clear hal hal' HKeys HItems e1 f1 hlen hlen' hnk hnk' e2 e3 f2 f3
        go_enter Tryz.func13, Tryz.ntmps13
        go_wp2_with (go_at_call 46; refine HC.out.mono ?_; rintro e w2 ⟨rfl, hb2⟩)
        go_ret
        exact ⟨rfl, HB2.out.trans (hb2.mono HB2.out.size)⟩
    · have e0 : cmpT (.node k b t its ks) (.node k' b' t' its' ks') = sgnI k k' := by unfold cmpT; rw [if_neg hkk]
      rw [e0]
      have HC := Lib.hid (fun W => cmpKind_any k k' W)
      generalize sgnI k k' = z at HC ⊢
      have hne : (k == k') = false := beq_eq_false_iff_ne.2 hkk
      clear e0 hal hal' HKeys HItems hlen hlen' hnk hnk'
      go_enter Tryz.func13, Tryz.ntmps13
      go_wp2_with (go_at_call 41; refine (HC.out _).mono ?_; rintro e w' ⟨rfl, rfl⟩)
      go_ret
      exact ⟨rfl, HB2.out⟩

end Go.Proofs.YthmojhfakmdlfaaGreatDoor
namespace Go.Proofs.YthmojhfakmdlfaaGreatDoor
open Go.RowKit
set_option linter.unusedVariables false

theorem nDigits_fits {n : Int} (h : Fits n) : Lib.nDigits n.natAbs ≤ 100000 := Nat.le_trans (fits_digits h) (by omega)
set_option maxRecDepth 100000 in
set_option maxHeartbeats 4000000 in
theorem rCmp_any {B : Nat} {w : World} {v : Value} {T : VT} (h : Is B w v T) : plainT T = true → ∀ (v' : Value) (T' : VT) (W : World), Is B w v' T' → plainT T' = true → Below B w W → B ≤ W.heap.size → Calls Tryz.prog 14 #[v, v'] W fun e w' => e = .returned (.int .i64 (cmpT T T')) ∧ Below W.heap.size W w' := by
  induction h with
  | mk k b t its ks ad cap kv g o ik ib it ii iv hk hc hnl ha hcell hrec ih =>
    intro hp v' T' W h' hp' hb hBW
    cases h' with
    | mk k' b' t' its' ks' ad' cap' kv' g' o' ik' ib' it' ii' iv' hk' hc' hnl' ha' hcell' hrec' =>
    unfold plainT at hp hp'
    obtain ⟨hal, hpl⟩ := Bool.and_eq_true_iff.1 hp
    obtain ⟨hal', hpl'⟩ := Bool.and_eq_true_iff.1 hp'
    by_cases hkk : k = k'
    · subst hkk
      have e0 : cmpT (.node k b t its ks) (.node k b' t' its' ks') = (if k = 2 then cmpB b b' else if k = 3 then sgnI (textVal t.data.toList) (textVal t'.data.toList) else if k = 4 then cmpS t t' else if cmpKs ks ks' = 0 then cmpL its its' else cmpKs ks ks') := by
        conv => lhs; unfold cmpT
        rw [if_pos rfl]
      rw [e0]
      clear e0
      by_cases h234 : k = 2 ∨ k = 3 ∨ k = 4
      · obtain ⟨adk, capk, rfl, -⟩ := hk
        obtain ⟨adk', capk', rfl, -⟩ := hk'
        clear ha hcell hrec ih ha' hcell' hrec' hp hp' hpl hpl' hc hc' hnl hnl'
        generalize its.length = len
        generalize ks.length = nk
        generalize its'.length = len'
        generalize ks'.length = nk'
        have HB2 : Hid (Below W.heap.size W ((W.alloc (.cells #[.int .i64 k, .bool b, .string t, .slice ad len cap, .slice adk nk capk] 26)).alloc (.cells #[.int .i64 k, .bool b', .string t', .slice ad' len' cap', .slice adk' nk' capk'] 26))) := Lib.hid box2_below
        have HK1 := Lib.hid ((Blk.new W #[.int .i64 k, .bool b, .string t, .slice ad len cap, .slice adk nk capk] 26).alloc (.cells #[.int .i64 k, .bool b', .string t', .slice ad' len' cap', .slice adk' nk' capk'] 26))
        have HK2 : Hid (Blk ((W.alloc (.cells #[.int .i64 k, .bool b, .string t, .slice ad len cap, .slice adk nk capk] 26)).alloc (.cells #[.int .i64 k, .bool b', .string t', .slice ad' len' cap', .slice adk' nk' capk'] 26)) (W.heap.size + 1) #[.int .i64 k, .bool b', .string t', .slice ad' len' cap', .slice adk' nk' capk'] 26) := Lib.hid (by have := Blk.new (W.alloc (.cells #[.int .i64 k, .bool b, .string t, .slice ad len cap, .slice adk nk capk] 26)) #[.int .i64 k, .bool b', .string t', .slice ad' len' cap', .slice adk' nk' capk'] 26; simpa using this)
        have p0 := HK1.out.cell 0
        have q0 := HK2.out.cell 0
        rcases h234 with rfl | rfl | rfl
        · rw [if_pos rfl]
          have p1 := HK1.out.cell 1
          have q1 := HK2.out.cell 1
          clear hal hal' hb hBW
          cases b <;> cases b' <;>
          · go_enter Tryz.func14, Tryz.ntmps14
            go_wp2_with fail
            go_ret
            exact ⟨by first | rfl | simp [cmpB], HB2.out⟩
        · rw [if_neg (by omega), if_pos rfl]
          have p1 := HK1.out.cell 2
          have q1 := HK2.out.cell 2
          have e1 : goodB t.data.toList = true := by rcases alone_cases hal with ⟨h, _⟩ | ⟨h, _⟩ | ⟨_, _, h, _⟩ | ⟨h, _⟩ | ⟨h, _⟩ | ⟨h, _⟩ <;> first | exact h | omega
          have f1 : goodB t'.data.toList = true := by rcases alone_cases hal' with ⟨h, _⟩ | ⟨h, _⟩ | ⟨_, _, h, _⟩ | ⟨h, _⟩ | ⟨h, _⟩ | ⟨h, _⟩ <;> first | exact h | omega
          have HC := Lib.hid (fun W : World => refCmp_any (nDigits_fits (str_fits e1)) (nDigits_fits (str_fits f1)) W)
          rw [← str_val e1, ← str_val f1] at HC
          generalize sgnI (textVal t.data.toList) (textVal t'.data.toList) = z at HC ⊢
          clear hal hal' e1 f1 hb hBW
          go_enter Tryz.func14, Tryz.ntmps14
          go_wp2_with (go_at_call 47; refine (HC.out _).mono ?_; rintro e w2 ⟨rfl, hb2⟩)
          go_ret
          exact ⟨rfl, HB2.out.trans (hb2.mono HB2.out.size)⟩
        · rw [if_neg (by omega), if_neg (by omega), if_pos rfl]
          have p1 := HK1.out.cell 2
          have q1 := HK2.out.cell 2
          have HC := Lib.hid (fun W => order_any t t' W)
          generalize cmpS t t' = z at HC ⊢
          clear hal hal' hb hBW
          go_enter Tryz.func14, Tryz.ntmps14
          go_wp2_with (go_at_call 48; refine (HC.out _).mono ?_; rintro e w' ⟨rfl, rfl⟩)
          go_ret
          exact ⟨rfl, HB2.out⟩
      · rw [if_neg (by omega), if_neg (by omega), if_neg (by omega)]
        exact rCmp_many (by omega) (by omega) (by omega) hk hk' ha hcell ha' hcell' hnl hnl' (fun j hj hj' W hb hBW => ih j hj (plainL_at hj hpl) _ _ W (hrec' j hj') (plainL_at hj' hpl') hb hBW) W hb hBW
    · have e0 : cmpT (.node k b t its ks) (.node k' b' t' its' ks') = sgnI k k' := by unfold cmpT; rw [if_neg hkk]
      rw [e0]
      obtain ⟨adk, capk, rfl, -⟩ := hk
      obtain ⟨adk', capk', rfl, -⟩ := hk'
      have hne : (k == k') = false := beq_eq_false_iff_ne.2 hkk
      have hne2 : (k != k') = true := by simp only [bne, hne]; rfl
      clear ha hcell hrec ih ha' hcell' hrec' hp hp' hpl hpl' hc hc' hnl hnl' e0 hal hal' hb hBW
      generalize its.length = len
      generalize ks.length = nk
      generalize its'.length = len'
      generalize ks'.length = nk'
      have HB2 : Hid (Below W.heap.size W ((W.alloc (.cells #[.int .i64 k, .bool b, .string t, .slice ad len cap, .slice adk nk capk] 26)).alloc (.cells #[.int .i64 k', .bool b', .string t', .slice ad' len' cap', .slice adk' nk' capk'] 26))) := Lib.hid box2_below
      unfold sgnI
      by_cases hlt : k < k'
      · rw [if_pos hlt]
        go_enter Tryz.func14, Tryz.ntmps14
        go_wp2_with fail
        go_ret
        exact ⟨rfl, HB2.out⟩
      · rw [if_neg hlt, if_pos (by omega)]
        go_enter Tryz.func14, Tryz.ntmps14
        go_wp2_with fail
        go_ret
        exact ⟨rfl, HB2.out⟩

theorem vEqual_any {B : Nat} {w : World} {v v' : Value} {T T' : VT} (h : Is B w v T) (hp : plainT T = true) (h' : Is B w v' T') (hp' : plainT T' = true) (W : World) (hb : Below B w W) (hBW : B ≤ W.heap.size) : Calls Tryz.prog 15 #[v, v'] W fun e w' => e = .returned (.bool (cmpT T T' == 0)) ∧ Below W.heap.size W w' := by
  obtain ⟨k, b, t, ad, n, cap, adk, nk, capk, rfl⟩ := h.shape
  obtain ⟨k', b', t', ad', n', cap', adk', nk', capk', rfl⟩ := h'.shape
  have HB2 : Hid (Below W.heap.size W ((W.alloc (.cells #[.int .i64 k, .bool b, .string t, .slice ad n cap, .slice adk nk capk] 26)).alloc (.cells #[.int .i64 k', .bool b', .string t', .slice ad' n' cap', .slice adk' nk' capk'] 26))) := Lib.hid box2_below
  have HC := Lib.hid (vCmp_any h hp _ T' _ h' hp' (hb.trans (HB2.out.mono hBW)) (Nat.le_trans hBW HB2.out.size))
  generalize cmpT T T' = z at HC ⊢
  clear h h' hb hBW hp hp'
  go_enter Tryz.func15, Tryz.ntmps15
  go_wp2_with (go_at_call 13; refine HC.out.mono ?_; rintro e w2 ⟨rfl, hb2⟩)
  go_ret
  exact ⟨by first | rfl | simp, HB2.out.trans (hb2.mono HB2.out.size)⟩
end Go.Proofs.YthmojhfakmdlfaaGreatDoor
