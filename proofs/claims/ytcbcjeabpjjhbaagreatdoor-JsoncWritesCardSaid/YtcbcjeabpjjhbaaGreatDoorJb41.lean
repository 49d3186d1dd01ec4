/- What is read is fine: any value · purlinref01.Good in value's seat -/
import Derived.Deep.CutRange
import Derived.Lib.IndexBytes
import Derived.Lib.Split
import Derived.Test.YtcbcjeabpjjhbaaGreatDoorJb04
import Derived.Test.YtcbcjeabpjjhbaaGreatDoorJb40
namespace Go.Proofs.YtcbcjeabpjjhbaaGreatDoor
set_option linter.unusedVariables false

theorem fineL_all {d : Nat} : ∀ {l : List VT}, (∀ y ∈ l, Fine d y) → FineL d l
  | [], h => fineL_nil d
  | x :: l, h => fineL_cons (h x (by simp)) (fineL_all (fun y hy => h y (List.mem_cons_of_mem _ hy)))
theorem sizeL_sum : ∀ l : List VT, sizeL l = (l.map sizeT).sum
  | [] => by unfold sizeL; rfl
  | x :: l => by unfold sizeL; rw [sizeL_sum l, List.map_cons, List.sum_cons]
theorem keysOk_sorted : ∀ {ks : List ByteArray}, ks.Pairwise (fun a b => bLt a b = true) → (∀ k ∈ ks, k.size ≤ 16384) → keysOk ks = true
  | [], _, _ => rfl
  | [a], _, h => by unfold keysOk; simpa using h a (by simp)
  | a :: b :: l, hp, h => by
    rw [List.pairwise_cons] at hp
    unfold keysOk
    rw [keysOk_sorted hp.2 (fun k hk => h k (List.mem_cons_of_mem _ hk)), hp.1 b (by simp)]
    simpa using h a (by simp)
def pairLen (p : ByteArray × VT) : Nat := (jsQ p.1).length + (jsT p.2).length + 2
theorem jsP_sum : ∀ l : List (ByteArray × VT), (jsP (l.map Prod.fst) (l.map Prod.snd) false).length = (l.map pairLen).sum
  | [] => by unfold jsP; rfl
  | p :: l => by
    rw [List.map_cons, List.map_cons, List.map_cons, List.sum_cons, ← jsP_sum l]
    conv => lhs; unfold jsP
    unfold pairLen
    simp
    omega
theorem perm_sum {l m : List Nat} (h : l.Perm m) : l.sum = m.sum := by
  induction h with
  | nil => rfl
  | cons x _ ih => rw [List.sum_cons, List.sum_cons, ih]
  | swap x y l => simp only [List.sum_cons]; omega
  | trans _ _ ih1 ih2 => rw [ih1, ih2]
theorem made_fine {d : Nat} {l : List (ByteArray × VT)} (hnd : (l.map Prod.fst).Nodup) (hk : ∀ p ∈ l, KeyOk p.1) (hf : ∀ p ∈ l, Fine d p.2) :
    Fine (d + 1) (madeT l) ∧ sizeT (madeT l) = 1 + sizeL (l.map Prod.snd) ∧ (jsT (madeT l)).length ≤ 2 + (l.map pairLen).sum := by
  have hz : (l.map Prod.fst).zip (l.map Prod.snd) = l := by
    induction l with
    | nil => rfl
    | cons p l ih => rw [List.map_cons, List.map_cons, List.zip_cons_cons, ih (by rw [List.map_cons, List.nodup_cons] at hnd; exact hnd.2) (fun p hp => hk p (List.mem_cons_of_mem _ hp)) (fun p hp => hf p (List.mem_cons_of_mem _ hp))]
  unfold madeT
  cases hd : docObj (l.map Prod.fst) (l.map Prod.snd) with
  | none =>
    exfalso
    unfold docObj at hd
    rw [hz] at hd
    exact putAll_none l [] hd (by simp) (by simpa using hnd)
  | some z =>
    unfold docObj at hd
    rw [hz] at hd
    obtain ⟨h1, h2⟩ := putAll_some (lt := bLt) (fun a b c h h' => bLt_trans h h') (fun a b h => bLt_total h) l [] z hd List.Pairwise.nil
    have h2 : z.Perm l := by simpa using h2
    have hkz : ∀ p ∈ z, KeyOk p.1 := fun p hp => hk p (h2.subset hp)
    have hfz : ∀ y ∈ z.map Prod.snd, Fine d y := fun y hy => by
      obtain ⟨p, hp, rfl⟩ := List.mem_map.1 hy
      exact hf p (h2.subset hp)
    obtain ⟨f1, f2, f3, f4⟩ := fineL_all hfz
    have hok : keysOk (z.map Prod.fst) = true := by
      refine keysOk_sorted ?_ (fun k hk => ?_)
      · rw [List.pairwise_map]
        exact h1
      · obtain ⟨p, hp, rfl⟩ := List.mem_map.1 hk
        exact (hkz p hp).2
    have hut : (z.map Prod.fst).all utfS = true := by
      rw [List.all_eq_true]
      intro k hk
      obtain ⟨p, hp, rfl⟩ := List.mem_map.1 hk
      exact (hkz p hp).1
    simp only [objT]
    refine ⟨⟨?_, ?_, ?_, ?_⟩, ?_, ?_⟩
    · unfold deepT; exact f1
    · unfold plainT
      rw [f2, Bool.and_true]
      unfold aloneT
      simp [hok]
    · unfold knownT
      rw [f3]
      rfl
    · unfold utfT
      rw [f4, hut]
      rfl
    · unfold sizeT
      rw [sizeL_sum, sizeL_sum]
      congr 1
      exact perm_sum ((h2.map Prod.snd).map sizeT)
    · unfold jsT
      rw [if_neg (by decide), if_neg (by decide), if_neg (by decide), if_neg (by decide), if_pos rfl]
      have h3 := jsP_tail (z.map Prod.fst) (z.map Prod.snd)
      rw [jsP_sum, perm_sum (h2.map pairLen)] at h3
      simp only [List.length_cons, List.length_append, List.length_nil]
      omega
theorem ascii_valid : ∀ l : List UInt8, (∀ c ∈ l, c.toNat < 128) → Lib.validD l = true
  | [], _ => rfl
  | c :: l, h => by
    rw [Lib.validD_cons c l (h c (by simp))]
    exact ascii_valid l (fun x hx => h x (List.mem_cons_of_mem _ hx))
theorem good_bytes {l : List UInt8} (h : goodB l = true) : ∀ c ∈ l, c = 45 ∨ digJ c = true := by
  unfold goodB at h
  simp only [Bool.and_eq_true, decide_eq_true_eq] at h
  obtain ⟨⟨h1, h2⟩, h3⟩ := h
  have hall : ∀ D : List UInt8, (if D.head? = some 48 then decide (l = [48]) else D.all fun c => decide (48 ≤ c.toNat) && decide (c.toNat ≤ 57)) = true → l = [48] ∨ ∀ c ∈ D, digJ c = true := by
    intro D hD
    split at hD
    · exact .inl (of_decide_eq_true hD)
    · refine .inr (fun c hc => ?_)
      rw [digJ_nat]
      exact List.all_eq_true.1 hD c hc
  rcases hall _ h3 with e | h4
  · intro c hc
    rw [e] at hc
    obtain rfl : c = 48 := by simpa using hc
    exact .inr rfl
  · rcases trim_minus l with ⟨D, rfl, e, -⟩ | ⟨hne, e, -⟩
    · rw [e] at h4
      intro c hc
      rcases List.mem_cons.1 hc with rfl | hc
      · exact .inl rfl
      · exact .inr (h4 c hc)
    · rw [e] at h4
      exact fun c hc => .inr (h4 c hc)
theorem num_utf {t : ByteArray} (h : goodB t.data.toList = true) : utfS t = true := by
  refine ascii_valid _ (fun c hc => ?_)
  rcases good_bytes h c hc with rfl | hd
  · decide
  · rw [digJ_nat] at hd
    unfold digN at hd
    simp at hd
    omega
theorem val_fine : ∀ (d : Nat) (R : List UInt8) (n : Nat) (T : VT) (R' : List UInt8) (n' : Nat), n ≤ 2000 → valJ d R n = .ok (T, R', n') → FineJ d T R R' n n'
  | 0, R, n, T, R', n', hn, h => by unfold valJ at h; cases h
  | d + 1, R, n, T, R', n', hn, h => by
    have ih := val_fine d
    have hsk := skipB_le R
    have e0 : utfS ⟨#[]⟩ = true := rfl
    have k0 : knownL [] = true := by unfold knownL; rfl
    have u0 : utfL [] = true := by unfold utfL; rfl
    have d0 : deepL d [] = true := by unfold deepL; rfl
    have p0 : plainL [] = true := by unfold plainL; rfl
    have s0 : sizeL [] = 0 := by unfold sizeL; rfl
    unfold valJ at h
    split at h
    · cases h
    · rename_i hn2
      split at h
      · cases h
      · rename_i c r hs
        rw [hs] at hsk
        split at h
        · rename_i hc
          split at h
          · cases h
          · rename_i t R1 hq
            cases h
            obtain ⟨q1, q2⟩ := quoted_pos hq (by rw [hc]; exact pre_yes 34 r)
            refine ⟨⟨by unfold textT deepT; exact d0, ?_, by unfold textT knownT; rw [k0]; rfl, by unfold textT utfT; rw [q1.1, u0]; rfl⟩, by unfold textT sizeT; rw [s0], by omega, ?_⟩
            · unfold textT plainT aloneT
              rw [p0]
              simp [q1.2]
            · have : jsT (textT t) = jsQ t := by unfold textT jsT; rfl
              rw [this]
              omega
        · split at h
          · rename_i hc
            split at h
            · cases h
            · rename_i l R1 n1 he
              cases h
              rw [hc] at he hsk
              obtain ⟨⟨f1, f2, f3, f4⟩, g1, g2, g3⟩ := each_fine ih (by omega) he
              refine ⟨⟨by unfold listT deepT; exact f1, ?_, by unfold listT knownT; rw [f3]; rfl, by unfold listT utfT; rw [e0, f4]; rfl⟩, by unfold listT sizeT; omega, g2, ?_⟩
              · unfold listT plainT aloneT
                rw [f2]
                simp
              · have : jsT (listT l) = 91 :: (jsI l true ++ [93]) := by unfold listT jsT; rfl
                rw [this]
                simp only [List.length_cons, List.length_append, List.length_nil] at *
                omega
          · split at h
            · rename_i hc
              split at h
              · cases h
              · rename_i l R1 n1 he
                cases h
                rw [hc] at he hsk
                unfold eachJ at he
                rw [List.drop_succ_cons, List.drop_zero] at he
                have hskr := skipB_le r
                split at he
                · cases he
                  refine ⟨⟨by unfold deepT; exact d0, by show plainT (.node 6 false ⟨#[]⟩ [] []) = true; unfold plainT aloneT; rw [p0]; simp [keysOk], rfl, rfl⟩, by rfl, by omega, ?_⟩
                  have : (jsT (madeT [])).length = 2 := rfl
                  rw [this]
                  simp only [List.length_cons, List.length_drop] at *
                  omega
                · obtain ⟨m, e1, e2, e3, e4, e5, e6, e7⟩ := seqp_fine ih _ _ _ _ _ _ _ (by omega) he (by simp)
                  have e1 : l = m := by simpa using e1
                  subst e1
                  obtain ⟨m1, m2, m3⟩ := made_fine e2 e3 e4
                  refine ⟨m1, by rw [m2]; omega, e6, ?_⟩
                  have hsum : (l.map fun p => (jsQ p.1).length + (jsT p.2).length + 2).sum = (l.map pairLen).sum := rfl
                  rw [hsum] at e7
                  simp only [List.length_cons] at *
                  omega
            · split at h
              · split at h
                · cases h
                · rename_i t R1 hq
                  cases h
                  obtain ⟨q1, q2⟩ := numJ_fine hq
                  have hu : utfS t = true := num_utf q1
                  refine ⟨⟨by unfold intT deepT; exact d0, ?_, by unfold intT knownT; rw [k0]; rfl, by unfold intT utfT; rw [hu, u0]; rfl⟩, by unfold intT sizeT; rw [s0], by omega, ?_⟩
                  · unfold intT plainT aloneT
                    rw [p0]
                    simp [q1]
                  · have : jsT (intT t) = t.data.toList := by unfold intT jsT; rfl
                    rw [this]
                    omega
              · split at h
                · cases h
                · rename_i T1 R1 hw
                  cases h
                  unfold wordJ at hw
                  split at hw
                  · rename_i hp
                    have hl := List.IsPrefix.length_le (List.isPrefixOf_iff_prefix.1 hp)
                    cases hw
                    refine ⟨⟨by unfold nullT deepT; exact d0, by unfold nullT plainT aloneT; rw [p0]; simp, rfl, rfl⟩, rfl, by omega, ?_⟩
                    have : (jsT nullT).length = 4 := rfl
                    rw [this]
                    simp only [List.length_cons, List.length_drop, List.length_nil] at *
                    omega
                  · split at hw
                    · rename_i hp
                      have hl := List.IsPrefix.length_le (List.isPrefixOf_iff_prefix.1 hp)
                      cases hw
                      refine ⟨⟨by unfold boolT deepT; exact d0, by unfold boolT plainT aloneT; rw [p0]; simp, rfl, rfl⟩, rfl, by omega, ?_⟩
                      have : (jsT (boolT true)).length = 4 := rfl
                      rw [this]
                      simp only [List.length_cons, List.length_drop, List.length_nil] at *
                      omega
                    · split at hw
                      · rename_i hp
                        have hl := List.IsPrefix.length_le (List.isPrefixOf_iff_prefix.1 hp)
                        cases hw
                        refine ⟨⟨by unfold boolT deepT; exact d0, by unfold boolT plainT aloneT; rw [p0]; simp, rfl, rfl⟩, rfl, by omega, ?_⟩
                        have : (jsT (boolT false)).length = 5 := rfl
                        rw [this]
                        simp only [List.length_cons, List.length_drop, List.length_nil] at *
                        omega
                      · cases hw
/-- A text that is read: its value is fine, and its JSON no longer than so. -/
theorem whole_fine {t : ByteArray} {T : VT} (h : wholeJ t = .ok T) : Fine 24 T ∧ sizeT T ≤ 2000 ∧ (jsT T).length ≤ 24 * t.size := by
  unfold wholeJ at h
  split at h
  · cases h
  · split at h
    · cases h
    · rename_i T1 R n' hv
      split at h
      · cases h
        obtain ⟨h1, h2, h3, h4⟩ := val_fine _ _ _ _ _ _ (by omega) hv
        have hz : t.data.toList.length = t.size := by simp
        exact ⟨h1, by omega, by omega⟩
      · cases h
end Go.Proofs.YtcbcjeabpjjhbaaGreatDoor
namespace Go.Proofs.YtcbcjeabpjjhbaaGreatDoor
open Go.RowKit
set_option linter.unusedVariables false

/-- Good's own telling: what the loop is asked. -/
def goodR (s D : ByteArray) : Bool := if D.size = 0 then false else if 100 < D.size then false else if D.data.toList.head? = some 48 ∧ 1 < s.size then false else D.data.toList.all digB

set_option maxHeartbeats 1000000 in
theorem refGood_minus {s D : ByteArray} (hs : s.size = D.size + 1) (hm : ∀ h : 0 < s.size, (s[0].toNat : Int) = 45) (hD : s.extract 1 (D.size + 1) = D) (w : World) :
    Calls Tryz.prog 51 #[.string s] w fun e w' => e = .returned (.bool (goodR s D)) ∧ w = w' := by
  have h0 : 0 < s.size := by omega
  have hm0 := beq_iff_eq.2 (hm h0)
  have hm1 : s[0].toNat = 45 := by have := hm h0; omega
  clear hm
  by_cases e0 : D.size = 0
  · have HR : Hid (goodR s D = false) := Lib.hid (by unfold goodR; rw [if_pos e0])
    go_enter Tryz.func51, Tryz.ntmps51
    go_wp2
    go_ret
    exact ⟨by rw [HR.out]; rfl, rfl⟩
  · have e0' : 0 < D.size := by omega
    have e1 : ((D.size : Int) == 0) = false := beq_eq_false_iff_ne.2 (by omega)
    by_cases e2 : 100 < D.size
    · have HR : Hid (goodR s D = false) := Lib.hid (by unfold goodR; rw [if_neg e0, if_pos e2])
      clear e0
      go_enter Tryz.func51, Tryz.ntmps51
      go_wp2
      go_ret
      exact ⟨by rw [HR.out]; rfl, rfl⟩
    · have e2' : D.size ≤ 100 := by omega
      have hh := head_byte e0'
      by_cases e3 : D[0].toNat = 48
      · have HR : Hid (goodR s D = false) := Lib.hid (by
          unfold goodR
          rw [if_neg e0, if_neg e2, if_pos]
          rw [hh]
          exact ⟨congrArg some (UInt8.toNat_inj.1 e3), by omega⟩)
        clear e0 e2 hh
        have hs1 : 1 < s.size := by omega
        go_enter Tryz.func51, Tryz.ntmps51
        go_wp2
        all_goals
          go_ret
          exact ⟨by rw [HR.out]; rfl, rfl⟩
      · have e3' : ((D[0].toNat : Int) == 48) = false := beq_eq_false_iff_ne.2 (by omega)
        have HR : Hid (goodR s D = D.data.toList.all digB) := Lib.hid (by
          unfold goodR
          rw [if_neg e0, if_neg e2, if_neg]
          rw [hh]
          rintro ⟨h, -⟩
          simp at h
          rw [h] at e3
          exact e3 rfl)
        obtain ⟨r, hr⟩ : ∃ r, D.data.toList.all digB = r := ⟨_, rfl⟩
        rw [HR.out, hr]
        clear e0 e2 hh e3 HR
        have HR := Lib.hid hr
        clear hr
        go_enter Tryz.func51, Tryz.ntmps51
        go_wp2
        go_loop [4] (fun i => ∃ k : Nat, k ≤ D.size ∧ i = .int .i64 k ∧ Hid ((D.data.toList.take k).all digB = true)) (fun i => D.size - (intOf i).toNat)
        case atStart => exact ⟨0, Nat.zero_le _, rfl, Lib.hid rfl⟩
        case round =>
          obtain ⟨k, hk, rfl, HK⟩ := hrel
          by_cases hlt : k < D.size
          · have HS : Hid ((D.data.toList.take (k + 1)).all digB = digB D[k]) := Lib.hid (by
              rw [List.take_succ_eq_append_getElem (by rw [bytes_len]; exact hlt), List.all_append, HK.out]
              simp
              rfl)
            by_cases hd : 48 ≤ D[k].toNat ∧ D[k].toNat ≤ 57
            · obtain ⟨hd1, hd2⟩ := hd
              have HS2 : Hid (digB D[k] = true) := Lib.hid (by unfold digB; simp [hd1, hd2])
              go_wp2
              go_round
              case rel => exact ⟨k + 1, by omega, by go_num, Lib.hid (by rw [HS.out, HS2.out])⟩
              case measure => simp [intOf]; omega
            · have HF2 : Hid (D.data.toList.all digB = false) := Lib.hid (by
                rw [List.all_eq_false]
                refine ⟨D[k], ?_, ?_⟩
                · exact bytes_mem D k hlt
                · unfold digB; simp; omega)
              rcases (show D[k].toNat < 48 ∨ (48 ≤ D[k].toNat ∧ 57 < D[k].toNat) by omega) with h | ⟨h, h'⟩
              all_goals
                clear hd
                go_wp2
                go_ret
                exact ⟨by rw [← HR.out, HF2.out]; rfl, rfl⟩
          · go_wp2
            go_ret
            exact ⟨by have := HK.out; rw [List.take_of_length_le (by rw [bytes_len]; omega)] at this; rw [← HR.out, this]; rfl, rfl⟩

set_option maxHeartbeats 1000000 in
theorem refGood_plain {s : ByteArray} (h0 : 0 < s.size) (hm : (s[0].toNat : Int) ≠ 45) (w : World) :
    Calls Tryz.prog 51 #[.string s] w fun e w' => e = .returned (.bool (goodR s s)) ∧ w = w' := by
  have hm0 : ((s[0].toNat : Int) == 45) = false := beq_eq_false_iff_ne.2 hm
  have e0 : s.size ≠ 0 := by omega
  have e1 : ((s.size : Int) == 0) = false := beq_eq_false_iff_ne.2 (by omega)
  by_cases e2 : 100 < s.size
  · have HR : Hid (goodR s s = false) := Lib.hid (by unfold goodR; rw [if_neg e0, if_pos e2])
    clear e0
    go_enter Tryz.func51, Tryz.ntmps51
    go_wp2
    go_ret
    exact ⟨by rw [HR.out]; rfl, rfl⟩
  · have e2' : s.size ≤ 100 := by omega
    have hh := head_byte h0
    by_cases e3 : s[0].toNat = 48
    · by_cases e4 : 1 < s.size
      · have HR : Hid (goodR s s = false) := Lib.hid (by
          unfold goodR
          rw [if_neg e0, if_neg e2, if_pos]
          rw [hh]
          exact ⟨congrArg some (UInt8.toNat_inj.1 e3), by omega⟩)
        clear e0 e2 hh
        go_enter Tryz.func51, Tryz.ntmps51
        go_wp2
        go_ret
        exact ⟨by rw [HR.out]; rfl, rfl⟩
      · have HR : Hid (goodR s s = s.data.toList.all digB) := Lib.hid (by
          unfold goodR
          rw [if_neg e0, if_neg e2, if_neg]
          rintro ⟨-, h⟩
          exact e4 h)
        obtain ⟨r, hr⟩ : ∃ r, s.data.toList.all digB = r := ⟨_, rfl⟩
        rw [HR.out, hr]
        clear e0 e2 hh HR
        have HR := Lib.hid hr
        clear hr
        go_enter Tryz.func51, Tryz.ntmps51
        go_wp2
        go_loop [4] (fun i => ∃ k : Nat, k ≤ s.size ∧ i = .int .i64 k ∧ Hid ((s.data.toList.take k).all digB = true)) (fun i => s.size - (intOf i).toNat)
        case atStart => exact ⟨0, Nat.zero_le _, rfl, Lib.hid rfl⟩
        case round =>
          obtain ⟨k, hk, rfl, HK⟩ := hrel
          by_cases hlt : k < s.size
          · have HS : Hid ((s.data.toList.take (k + 1)).all digB = digB s[k]) := Lib.hid (by
              rw [List.take_succ_eq_append_getElem (by rw [bytes_len]; exact hlt), List.all_append, HK.out]
              simp
              rfl)
            by_cases hd : 48 ≤ s[k].toNat ∧ s[k].toNat ≤ 57
            · obtain ⟨hd1, hd2⟩ := hd
              have HS2 : Hid (digB s[k] = true) := Lib.hid (by unfold digB; simp [hd1, hd2])
              go_wp2
              go_round
              case rel => exact ⟨k + 1, by omega, by go_num, Lib.hid (by rw [HS.out, HS2.out])⟩
              case measure => simp [intOf]; omega
            · have HF2 : Hid (s.data.toList.all digB = false) := Lib.hid (by
                rw [List.all_eq_false]
                refine ⟨s[k], ?_, ?_⟩
                · exact bytes_mem s k hlt
                · unfold digB; simp; omega)
              rcases (show s[k].toNat < 48 ∨ (48 ≤ s[k].toNat ∧ 57 < s[k].toNat) by omega) with h | ⟨h, h'⟩
              all_goals
                clear hd
                go_wp2
                go_ret
                exact ⟨by rw [← HR.out, HF2.out]; rfl, rfl⟩
          · go_wp2
            go_ret
            exact ⟨by have := HK.out; rw [List.take_of_length_le (by rw [bytes_len]; omega)] at this; rw [← HR.out, this]; rfl, rfl⟩
    · have e3' : ((s[0].toNat : Int) == 48) = false := beq_eq_false_iff_ne.2 (by omega)
      have HR : Hid (goodR s s = s.data.toList.all digB) := Lib.hid (by
        unfold goodR
        rw [if_neg e0, if_neg e2, if_neg]
        rw [hh]
        rintro ⟨h, -⟩
        simp at h
        rw [h] at e3
        exact e3 rfl)
      obtain ⟨r, hr⟩ : ∃ r, s.data.toList.all digB = r := ⟨_, rfl⟩
      rw [HR.out, hr]
      clear e0 e2 hh e3 HR
      have HR := Lib.hid hr
      clear hr
      go_enter Tryz.func51, Tryz.ntmps51
      go_wp2
      go_loop [4] (fun i => ∃ k : Nat, k ≤ s.size ∧ i = .int .i64 k ∧ Hid ((s.data.toList.take k).all digB = true)) (fun i => s.size - (intOf i).toNat)
      case atStart => exact ⟨0, Nat.zero_le _, rfl, Lib.hid rfl⟩
      case round =>
        obtain ⟨k, hk, rfl, HK⟩ := hrel
        by_cases hlt : k < s.size
        · have HS : Hid ((s.data.toList.take (k + 1)).all digB = digB s[k]) := Lib.hid (by
            rw [List.take_succ_eq_append_getElem (by rw [bytes_len]; exact hlt), List.all_append, HK.out]
            simp
            rfl)
          by_cases hd : 48 ≤ s[k].toNat ∧ s[k].toNat ≤ 57
          · obtain ⟨hd1, hd2⟩ := hd
            have HS2 : Hid (digB s[k] = true) := Lib.hid (by unfold digB; simp [hd1, hd2])
            go_wp2
            go_round
            case rel => exact ⟨k + 1, by omega, by go_num, Lib.hid (by rw [HS.out, HS2.out])⟩
            case measure => simp [intOf]; omega
          · have HF2 : Hid (s.data.toList.all digB = false) := Lib.hid (by
              rw [List.all_eq_false]
              refine ⟨s[k], ?_, ?_⟩
              · exact bytes_mem s k hlt
              · unfold digB; simp; omega)
            rcases (show s[k].toNat < 48 ∨ (48 ≤ s[k].toNat ∧ 57 < s[k].toNat) by omega) with h | ⟨h, h'⟩
            all_goals
              clear hd
              go_wp2
              go_ret
              exact ⟨by rw [← HR.out, HF2.out]; rfl, rfl⟩
        · go_wp2
          go_ret
          exact ⟨by have := HK.out; rw [List.take_of_length_le (by rw [bytes_len]; omega)] at this; rw [← HR.out, this]; rfl, rfl⟩

theorem goodR_plain {s : ByteArray} (h : bare s = s) : goodR s s = goodB s.data.toList := by
  rw [good_bare h]
  unfold goodR
  by_cases e0 : s.size = 0
  · have : s.data.toList = [] := List.length_eq_zero_iff.1 (by rw [bytes_len]; exact e0)
    rw [if_pos e0, this]; rfl
  · have hne : s.data.toList ≠ [] := by intro h'; exact e0 (by rw [← bytes_len, h']; rfl)
    rw [if_neg e0, decide_eq_true hne, bytes_len]
    by_cases e2 : 100 < s.size
    · rw [if_pos e2, decide_eq_false (show ¬ s.size ≤ 100 by omega)]; rfl
    · rw [if_neg e2, decide_eq_true (show s.size ≤ 100 by omega)]
      by_cases e3 : s.data.toList.head? = some 48
      · rw [if_pos e3]
        by_cases e4 : 1 < s.size
        · rw [if_pos ⟨e3, e4⟩, decide_eq_false (by intro h'; rw [← bytes_len, h'] at e4; simp at e4)]; rfl
        · rw [if_neg (fun h' => e4 h'.2)]
          have hl := bytes_len s
          have h48 : s.data.toList = [48] := by
            generalize s.data.toList = l at e3 hl hne
            match l, e3, hl with
            | [x], e3, _ => simp at e3; rw [e3]
            | x :: y :: l, _, hl => simp at hl; omega
          rw [h48]; rfl
      · rw [if_neg e3, if_neg (fun h' => e3 h'.1)]; rfl
theorem goodR_minus {s D : ByteArray} (h : bare s = D) (hs : s.size = D.size + 1) (h45 : s.data.toList.head? = some 45) : goodR s D = goodB s.data.toList := by
  rw [good_bare h]
  unfold goodR
  by_cases e0 : D.size = 0
  · have : D.data.toList = [] := List.length_eq_zero_iff.1 (by rw [bytes_len]; exact e0)
    rw [if_pos e0, this]; rfl
  · have hne : D.data.toList ≠ [] := by intro h'; exact e0 (by rw [← bytes_len, h']; rfl)
    rw [if_neg e0, decide_eq_true hne, bytes_len]
    by_cases e2 : 100 < D.size
    · rw [if_pos e2, decide_eq_false (show ¬ D.size ≤ 100 by omega)]; rfl
    · rw [if_neg e2, decide_eq_true (show D.size ≤ 100 by omega)]
      by_cases e3 : D.data.toList.head? = some 48
      · rw [if_pos e3, if_pos ⟨e3, by omega⟩, decide_eq_false (by intro h'; rw [h'] at h45; simp at h45)]; rfl
      · rw [if_neg e3, if_neg (fun h' => e3 h'.1)]; rfl
theorem refGood_empty (w : World) : Calls Tryz.prog 51 #[.string ⟨#[]⟩] w fun e w' => e = .returned (.bool false) ∧ w = w' := by
  go_enter Tryz.func51, Tryz.ntmps51
  go_wp2
  go_ret
  exact ⟨rfl, rfl⟩
theorem refGood_any (s : ByteArray) (w : World) : Calls Tryz.prog 51 #[.string s] w fun e w' => e = .returned (.bool (goodB s.data.toList)) ∧ w = w' := by
  rcases trim_minus s.data.toList with ⟨r, h1, h2, -⟩ | ⟨h1, h2, -⟩
  · have hD : s.extract 1 s.size = bare s := WideShapes.bytes_inj (by rw [Lib.extract_to_end, bare_list, h2, h1]; rfl)
    have hs : s.size = (bare s).size + 1 := by rw [← bytes_len, ← bytes_len, bare_list, h2, h1]; rfl
    have hh : s.data.toList.head? = some 45 := by rw [h1]; rfl
    rw [← goodR_minus rfl hs hh]
    refine refGood_minus hs (fun h => ?_) (hs ▸ hD) w
    have := head_byte h
    rw [hh] at this
    rw [← Option.some.inj this]
    rfl
  · have hD : bare s = s := WideShapes.bytes_inj (by rw [bare_list, h2])
    rcases Nat.eq_zero_or_pos s.size with h0 | h0
    · obtain rfl : s = ⟨#[]⟩ := WideShapes.bytes_inj (by
        have : s.data.toList = [] := List.length_eq_zero_iff.1 (by rw [bytes_len]; exact h0)
        rw [this])
      exact refGood_empty w
    · rw [← goodR_plain hD]
      refine refGood_plain h0 (fun h => h1 ?_) w
      rw [head_byte h0]
      exact congrArg some (UInt8.toNat_inj.1 (by have h' : s[0].toNat = 45 := by omega
                                                 rw [h']; rfl))

end Go.Proofs.YtcbcjeabpjjhbaaGreatDoor
