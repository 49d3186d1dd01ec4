/- purlinref02.plain · purlinref02.Good; that it says what value.Good says · What a good tree is · What Encode says of a tree that is fine; what Decode says of its JSON -/
import Derived.Deep.CutRange
import Derived.Test.YtcbcjeabpjjhbaaGreatDoorJb06
import Derived.Test.YtcbcjeabpjjhbaaGreatDoorJb22
import Derived.Test.YtcbcjeabpjjhbaaGreatDoorJb41
namespace Go.Proofs.YtcbcjeabpjjhbaaGreatDoor
open Go.RowKit
set_option linter.unusedVariables false

/-- plain's first test: what the kind forbids. -/
def bars1 (k : Int) (b tb ib kb : Bool) : Bool := decide (k < 0) || decide (6 < k) || (b && !(k == 2)) || (!tb && !(k == 3) && !(k == 4)) || (!ib && decide (k < 5)) || (!(k == 6) && !kb)

/-- plain's second test. -/
def bars2 (k : Int) (good short eqn : Bool) : Bool := (k == 3 && !good) || (k == 4 && !short) || (k == 6 && !eqn)

theorem plain_keys_no {k : Int} {b : Bool} {t : ByteArray} {its : List VT} {ks : List ByteArray} {j : Nat} (h6 : k ≠ 6 → ks = []) (hj : j < ks.length) (h : ¬ keyOk ks j) : plainT (.node k b t its ks) = false := by
  unfold plainT
  have : aloneT (.node k b t its ks) = false := by
    have h6 : k = 6 := Decidable.byContradiction (fun hk => by rw [h6 hk] at hj; exact absurd hj (by simp))
    subst h6
    rw [aloneT_B]
    simp [aloneB, keysOk_no hj h]
  rw [this]; rfl
theorem plainL_not : ∀ {l : List VT} {j : Nat} (h : j < l.length), plainT l[j] = false → plainL l = false
  | x :: l, 0, _, e => by
    unfold plainL
    have : plainT x = false := e
    rw [this]; rfl
  | x :: l, j + 1, h, e => by
    unfold plainL
    rw [plainL_not (l := l) (by simpa using h) e]
    simp
theorem plain_item_no {k : Int} {b : Bool} {t : ByteArray} {its : List VT} {ks : List ByteArray} {j : Nat} (hj : j < its.length) (h : plainT its[j] = false) : plainT (.node k b t its ks) = false := by
  unfold plainT
  rw [plainL_not hj h, Bool.and_false]
theorem alone_tests (k : Int) (b tb gd sh ib kb qn kok : Bool) (hk0 : kb = true → kok = true) (hq : qn = true → kb = ib) : aloneB k b tb gd sh ib kb qn kok = (!bars1 k b tb ib kb && !bars2 k gd sh qn && kok) := by
  rcases (show k < 0 ∨ 6 < k ∨ k = 0 ∨ k = 1 ∨ k = 2 ∨ k = 3 ∨ k = 4 ∨ k = 5 ∨ k = 6 by omega) with h | h | rfl | rfl | rfl | rfl | rfl | rfl | rfl
  · have e : aloneB k b tb gd sh ib kb qn kok = false := by
      unfold aloneB
      rw [if_neg (by omega), if_neg (by omega), if_neg (by omega), if_neg (by omega), if_neg (by omega), Bool.and_false]
    rw [e]
    simp [bars1, h]
  · have e : aloneB k b tb gd sh ib kb qn kok = false := by
      unfold aloneB
      rw [if_neg (by omega), if_neg (by omega), if_neg (by omega), if_neg (by omega), if_neg (by omega), Bool.and_false]
    rw [e]
    simp [bars1, h]
  all_goals
    revert hk0 hq
    cases b <;> cases tb <;> cases gd <;> cases sh <;> cases ib <;> cases kb <;> cases qn <;> cases kok <;> decide
/-- What plain asks of a value alone. -/
theorem alone_bars {k : Int} {b : Bool} {t : ByteArray} {its : List VT} {ks : List ByteArray} {len nk : Nat} {tb lb kb gd qn : Bool} (htb : (t.toList == []) = tb) (hlb : ((len : Int) == 0) = lb) (hkb : ((nk : Int) == 0) = kb) (hgd : goodB t.data.toList = gd) (hqn : ((nk : Int) == (len : Int)) = qn) (hl : its.length = len) (hn : ks.length = nk) :
    aloneT (.node k b t its ks) = (!bars1 k b tb lb kb && !bars2 k gd (decide (t.size ≤ 16384)) qn && keysOk ks) := by
  subst hl hn
  rw [aloneT_B, htb, hlb, hkb, hgd, hqn]
  refine alone_tests k b tb gd _ lb kb qn _ (fun h => ?_) (fun h => ?_)
  · rw [h, beq_iff_eq] at hkb
    rw [List.length_eq_zero_iff.1 (show ks.length = 0 by omega)]; rfl
  · rw [h, beq_iff_eq] at hqn
    rw [← hkb, ← hlb, hqn]
theorem plain_no1 {k : Int} {b : Bool} {t : ByteArray} {its : List VT} {ks : List ByteArray} {len nk : Nat} {tb lb kb : Bool} (h : bars1 k b tb lb kb = true) (htb : (t.toList == []) = tb) (hlb : ((len : Int) == 0) = lb) (hkb : ((nk : Int) == 0) = kb) (hl : its.length = len) (hn : ks.length = nk) : plainT (.node k b t its ks) = false := by
  unfold plainT
  rw [alone_bars htb hlb hkb rfl rfl hl hn, h]; rfl
theorem plain_no2 {k : Int} {b : Bool} {t : ByteArray} {its : List VT} {ks : List ByteArray} {len nk : Nat} {gd qn : Bool} (h : bars2 k gd (decide (t.size ≤ 16384)) qn = true) (hgd : goodB t.data.toList = gd) (hqn : ((nk : Int) == (len : Int)) = qn) (hl : its.length = len) (hn : ks.length = nk) : plainT (.node k b t its ks) = false := by
  unfold plainT
  rw [alone_bars rfl rfl rfl hgd hqn hl hn, h]; simp
theorem plain_yes {k : Int} {b : Bool} {t : ByteArray} {its : List VT} {ks : List ByteArray} {len nk : Nat} {tb lb kb gd qn : Bool} (h1 : bars1 k b tb lb kb = false) (h2 : bars2 k gd (decide (t.size ≤ 16384)) qn = false) (htb : (t.toList == []) = tb) (hlb : ((len : Int) == 0) = lb) (hkb : ((nk : Int) == 0) = kb) (hgd : goodB t.data.toList = gd) (hqn : ((nk : Int) == (len : Int)) = qn) (hl : its.length = len) (hn : ks.length = nk) (hks : keysOk ks = true) (hits : ∀ j (h : j < its.length), plainT its[j] = true) : plainT (.node k b t its ks) = true := by
  unfold plainT
  rw [alone_bars htb hlb hkb hgd hqn hl hn, h1, h2, hks, plainL_all hits]; rfl
theorem Blk.draws {W : World} {p : Nat} {cs : Array Value} {ty : Nat} (h : Blk W p cs ty) (n : Nat) : Blk (W.drewN n) p cs ty := h
theorem len_cases {n : Nat} {b : Bool} (h : ((n : Int) == 0) = b) : (b = true ∧ n = 0) ∨ (b = false ∧ 0 < n) := by
  subst h
  rcases Nat.eq_zero_or_pos n with h | h
  · exact .inl ⟨by rw [h]; rfl, h⟩
  · exact .inr ⟨beq_eq_false_iff_ne.2 (by omega), h⟩

/-- A quiet region's walk behind a veil: nothing looks through it ahead of its step. -/
theorem quiet_veil {P : Program} {ops : Array Oper} {C : World → Prop} {Q : Act → Prop} {l : List Oper} {a : Act} (h : ∀ V : List Oper → Act → Prop, Hid (∀ o rest a, (∀ K : Act → Prop, (∀ a, V rest a → K a) → if Region.wanted o (yielded ops a.tmps) then o.quiet P a C K else K (a.put o.dst undef)) → V (o :: rest) a) → Hid (∀ a, Q a → V [] a) → V l a) : wpQuiet P ops C Q l a :=
  h _ (Lib.hid fun _ _ _ h => wpQuiet_step h) (Lib.hid fun _ h => h)

set_option maxRecDepth 100000 in
set_option maxHeartbeats 20000000 in
theorem plain_any {B : Nat} {w : World} {v : Value} {T : VT} (h : Is B w v T) : ∀ (W : World), Below B w W → B ≤ W.heap.size → Calls Tryz.prog 31 #[v] W fun e w' => e = .returned (.bool (plainT T)) ∧ Below W.heap.size W w' := by
  induction h with
  | mk k b t its ks ad cap kv g o ik ib it ii iv hk hc hnl ha hcell hrec ih =>
    intro W hb hBW
    have HSt := Lib.hid hk
    obtain ⟨adk, capk, rfl, -⟩ := hk
    have HA := Lib.hid ha
    have HC := Lib.hid hcell
    have IH := Lib.hid ih
    obtain ⟨len, hlen⟩ : ∃ len, its.length = len := ⟨_, rfl⟩
    obtain ⟨nk, hnk⟩ : ∃ nk, ks.length = nk := ⟨_, rfl⟩
    have HL := Lib.hid hlen
    have HNK := Lib.hid hnk
    rw [hlen] at hc hnl ⊢
    rw [hnk] at HSt ⊢
    clear ha hcell hrec ih hlen hnk
    have hk0 := Blk.new W #[.int .i64 k, .bool b, .string t, .slice ad len cap, .slice adk nk capk] 26
    have hb0 := below_new W (.cells #[.int .i64 k, .bool b, .string t, .slice ad len cap, .slice adk nk capk] 26)
    obtain ⟨tb, htb⟩ : ∃ tb, (t.toList == []) = tb := ⟨_, rfl⟩
    obtain ⟨lb, hlb⟩ : ∃ lb, ((len : Int) == 0) = lb := ⟨_, rfl⟩
    obtain ⟨kb, hkb⟩ : ∃ kb, ((nk : Int) == 0) = kb := ⟨_, rfl⟩
    go_enter Tryz.func31, Tryz.ntmps31
    go_upto_region 2 with fail
    go_cut [54] from 8 to 54 (fun s wx => s = .bool (bars1 k b tb lb kb) ∧ wx = W.alloc (.cells #[.int .i64 k, .bool b, .string t, .slice ad len cap, .slice adk nk capk] 26))
    case first =>
      clear HSt HA HC IH HL HNK hc hnl hb hBW
      rcases (show k < 0 ∨ 6 < k ∨ k = 0 ∨ k = 1 ∨ k = 2 ∨ k = 3 ∨ k = 4 ∨ k = 5 ∨ k = 6 by omega) with h | h | rfl | rfl | rfl | rfl | rfl | rfl | rfl
      · go_wp2_with fail
        go_meet
        exact ⟨by simp [bars1, h], rfl⟩
      · have h1 : ¬ k < 0 := by omega
        go_wp2_with fail
        go_meet
        exact ⟨by simp [bars1, h], rfl⟩
      all_goals
        rcases len_cases hlb with ⟨rfl, rfl⟩ | ⟨rfl, hl⟩ <;> rcases len_cases hkb with ⟨rfl, rfl⟩ | ⟨rfl, hn⟩ <;> cases b <;> cases tb
        all_goals
          go_wp2_with fail
          go_meet
          exact ⟨rfl, rfl⟩
    case rest =>
      obtain ⟨rfl, rfl⟩ := hcut
      obtain ⟨gd, hgd⟩ : ∃ gd, goodB t.data.toList = gd := ⟨_, rfl⟩
      obtain ⟨qn, hqn⟩ : ∃ qn, ((nk : Int) == (len : Int)) = qn := ⟨_, rfl⟩
      have HG := Lib.hid (fun W => refGood_any t W)
      rw [hgd] at HG
      cases hb1 : bars1 k b tb lb kb
      · go_upto_region 4 with fail
        go_cut [85] from 55 to 85 (fun s wx => s = .bool (bars2 k gd (decide (t.size ≤ 16384)) qn) ∧ wx = W.alloc (.cells #[.int .i64 k, .bool b, .string t, .slice ad len cap, .slice adk nk capk] 26))
        case first =>
          clear HSt HA HC IH HL HNK hc hnl hb hBW
          by_cases k3 : k = 3
          · subst k3
            cases gd
            · go_wp2_with (go_at_call 51; refine (HG.out _).mono ?_; rintro e w2 ⟨rfl, rfl⟩)
              go_meet
              exact ⟨rfl, rfl⟩
            · go_wp2_with (go_at_call 51; refine (HG.out _).mono ?_; rintro e w2 ⟨rfl, rfl⟩)
              go_meet
              exact ⟨rfl, rfl⟩
          · by_cases k4 : k = 4
            · subst k4
              by_cases hsz : t.size ≤ 16384
              · go_wp2_with fail
                go_meet
                exact ⟨by rw [decide_eq_true hsz, decide_eq_false (show ¬ 16384 < (t.size : Int) by omega)]; rfl, rfl⟩
              · go_wp2_with fail
                go_meet
                exact ⟨by rw [decide_eq_false hsz]; rfl, rfl⟩
            · by_cases k6 : k = 6
              · subst k6
                cases qn
                · go_wp2_with fail
                  go_meet
                  exact ⟨by show Value.bool (!((nk : Int) == (len : Int))) = _; rw [hqn]; rfl, rfl⟩
                · go_wp2_with fail
                  go_meet
                  exact ⟨by show Value.bool (!((nk : Int) == (len : Int))) = _; rw [hqn]; rfl, rfl⟩
              · go_wp2_with fail
                go_meet
                exact ⟨by simp [bars2, k3, k4, k6], rfl⟩
        case rest =>
          obtain ⟨rfl, rfl⟩ := hcut
          cases hb2 : bars2 k gd (decide (t.size ≤ 16384)) qn
          · have HKS : Hid (nk ≤ capk ∧ nk ≤ 140737488355328 ∧ (0 < nk → ∃ g o, adk = some ⟨g, o, none⟩ ∧ g < B ∧ ∀ j (h : j < ks.length), w.cell? ⟨g, o + j, none⟩ = some (.string ks[j]))) := Lib.hid (by
              obtain ⟨ad', cap', e1, e2, e3, e4⟩ := HSt.out
              injection e1 with e5 e6 e7
              subst e5; subst e7; subst e6
              exact ⟨e2, e3, e4⟩)
            obtain ⟨hnc, hnkl, -⟩ := HKS.out
            have H6 : Hid (k ≠ 6 → ks = []) := Lib.hid (fun h6 => by
              have e : ((k == 6) = false) := beq_eq_false_iff_ne.2 h6
              rcases len_cases hkb with ⟨rfl, hz⟩ | ⟨rfl, hz⟩
              · exact List.length_eq_zero_iff.1 (HNK.out.trans hz)
              · simp [bars1, e] at hb1)
            have HB1 := Lib.hid hb1
            have HB2 := Lib.hid hb2
            have HTB := Lib.hid htb
            have HLB := Lib.hid hlb
            have HKB := Lib.hid hkb
            have HQN := Lib.hid hqn
            have HGD := Lib.hid hgd
            clear HSt htb hlb hkb hqn hgd HG hb1 hb2
            go_wp2_with fail
            go_loopw [4, 89] (fun _ jv wr => ∃ j : Nat, jv = .int .i64 j ∧ j ≤ nk ∧ Hid (∀ i, i < j → keyOk ks i) ∧ Hid (Below W.heap.size W wr) ∧ Hid (Blk wr W.heap.size #[.int .i64 k, .bool b, .string t, .slice ad len cap, .slice adk nk capk] 26)) (fun _ jv _ => nk - (intOf jv).toNat)
            case atStart => exact ⟨0, rfl, by omega, Lib.hid (fun i h => by omega), Lib.hid hb0, Lib.hid hk0⟩
            case round =>
              obtain ⟨j, rfl, hj, HI, HB, HK⟩ := hrel
              clear hk0 hb0
              by_cases hlt : j < nk
              · have hjl : j < ks.length := by have := HNK.out; omega
                obtain ⟨gk, ok, rfl, hgk, hcs⟩ := HKS.out.2.2 (by omega)
                have hBr : Below B w wr := hb.trans (HB.out.mono hBW)
                have hcell := (hBr.cell (p := ⟨gk, ok + j, none⟩) hgk).trans (hcs j hjl)
                have ed : ks.getD j ⟨#[]⟩ = ks[j] := by simp [List.getD, hjl]
                obtain ⟨kj, hkj⟩ : ∃ kj, ks[j] = kj := ⟨_, rfl⟩
                rw [hkj] at hcell ed
                have HE := Lib.hid ed
                have i1 : (0 : Int) ≤ (j : Int) := by omega
                have i2 : (j : Int) < (nk : Int) := by omega
                have q4 := HK.out.cell 4
                have hwr : W.heap.size < wr.heap.size := HK.out.lt
                clear ed hkj
                by_cases hsz : kj.size ≤ 16384
                · rcases Nat.eq_zero_or_pos j with hj0 | hj0
                  · have hj1 : ¬ 0 < j := by omega
                    have HJ0 := Lib.hid hj0
                    clear hj0
                    have hszI : (kj.size : Int) ≤ 16384 := by omega
                    clear hcs
                    go_wp2_with fail
                    refine wp_region_quiet_lit (by kernel_rfl) (by kernel_rfl) ?_
                    refine quiet_veil ?_
                    intro V HV HN
                    repeat (refine HV.out _ _ _ (fun K hK => ?_); go_simp; refine hK _ ?_; clear hK K)
                    refine HN.out _ ?_
                    intro _ hw'
                    obtain ⟨nq, hw''⟩ := hw'
                    subst hw''
                    clear HV HN
                    go_wp2_with fail
                    go_roundw
                    case rel =>
                      refine ⟨j + 1, by go_num, by omega, Lib.hid (fun i hi => ?_), Lib.hid (below_draws HB.out _), Lib.hid (HK.out.draws _)⟩
                      have hij : i = j := by have := HJ0.out; omega
                      subst hij
                      exact ⟨by rw [HE.out]; exact hsz, fun h => by have := HJ0.out; omega⟩
                    case measure => simp [intOf]; omega
                  · obtain ⟨l, rfl⟩ : ∃ l, j = l + 1 := ⟨j - 1, by omega⟩
                    have hll : l < ks.length := by omega
                    have hcl := (hBr.cell (p := ⟨gk, ok + l, none⟩) hgk).trans (hcs l hll)
                    have edl : ks.getD l ⟨#[]⟩ = ks[l] := by simp [List.getD, hll]
                    obtain ⟨kl, hkl⟩ : ∃ kl, ks[l] = kl := ⟨_, rfl⟩
                    rw [hkl] at hcl edl
                    have HEl := Lib.hid edl
                    have i3 : (0 : Int) ≤ (l : Int) := by omega
                    have i4 : (l : Int) < (nk : Int) := by omega
                    have i5 : (0 : Int) ≤ (l : Int) + 1 := by omega
                    have i6 : (l : Int) + 1 < (nk : Int) := by omega
                    have i7 : (0 : Int) < (l : Int) + 1 := by omega
                    have i8 : IntKind.i64.wrap (l : Int) = (l : Int) := by simp [IntKind.wrap, IntKind.bits, IntKind.signed]; omega
                    have hbl := bLess_eq kl kj
                    have hszI : (kj.size : Int) ≤ 16384 := by omega
                    clear edl hkl hcs
                    cases hlt2 : bLt kl kj
                    · have HLt := Lib.hid hlt2
                      have HF : Hid (plainT (.node k b t its ks) = false) := Lib.hid (by
                        refine plain_keys_no H6.out hjl (fun h => ?_)
                        have := h.2 (by omega)
                        rw [Nat.add_sub_cancel, HEl.out, HE.out, HLt.out] at this
                        cases this)
                      rw [hlt2] at hbl
                      clear hlt2
                      go_wp2_with fail
                      go_quiet (fail)
                      go_wp2_with fail
                      go_ret
                      exact ⟨by rw [HF.out]; rfl, below_draws HB.out _⟩
                    · have HLt := Lib.hid hlt2
                      rw [hlt2] at hbl
                      clear hlt2
                      go_wp2_with fail
                      go_quiet (fail)
                      go_wp2_with fail
                      go_roundw
                      case rel =>
                        refine ⟨l + 1 + 1, by go_num, by omega, Lib.hid (fun i hi => ?_), Lib.hid (below_draws HB.out _), Lib.hid (HK.out.draws _)⟩
                        rcases Nat.eq_or_lt_of_le (show i ≤ l + 1 by omega) with h | h
                        · subst h; exact ⟨by rw [HE.out]; exact hsz, fun _ => by rw [Nat.add_sub_cancel, HEl.out, HE.out]; exact HLt.out⟩
                        · exact HI.out i h
                      case measure => simp [intOf]; omega
                · have HF : Hid (plainT (.node k b t its ks) = false) := Lib.hid (by
                    refine plain_keys_no H6.out hjl (fun h => hsz ?_)
                    have := h.1
                    rw [HE.out] at this
                    exact this)
                  have hszI : ¬ (kj.size : Int) ≤ 16384 := by omega
                  clear hcs
                  go_wp2_with fail
                  go_quiet (fail)
                  go_wp2_with fail
                  go_ret
                  exact ⟨by rw [HF.out]; rfl, below_draws HB.out _⟩
              · have HKO : Hid (keysOk ks = true) := Lib.hid (keysOk_yes (fun i hi => HI.out i (by have := HNK.out; omega)))
                clear HI hj
                have q3 := HK.out.cell 3
                have hwr : W.heap.size < wr.heap.size := HK.out.lt
                have HB' := HB
                have HK' := HK
                clear HB HK
                go_wp2_with fail
                clear hnc hnkl hwr q3
                go_loopw [5, 121] (fun _ jv wr => ∃ j : Nat, jv = .int .i64 j ∧ j ≤ len ∧ Hid (∀ i (h : i < its.length), i < j → plainT its[i] = true) ∧ Hid (Below W.heap.size W wr) ∧ Hid (Blk wr W.heap.size #[.int .i64 k, .bool b, .string t, .slice ad len cap, .slice adk nk capk] 26)) (fun _ jv _ => len - (intOf jv).toNat)
                case atStart => exact ⟨0, rfl, by omega, Lib.hid (fun i _ h => by omega), HB', HK'⟩
                case round =>
                  obtain ⟨j, rfl, hj, HI, HB, HK⟩ := hrel
                  clear HB' HK'
                  by_cases hlt : j < len
                  · have hjl : j < its.length := by have := HL.out; omega
                    obtain ⟨rfl, hg⟩ := HA.out (by omega)
                    have hBr : Below B w wr := hb.trans (HB.out.mono hBW)
                    have h5 := (HC.out j hjl).below hg hBr
                    have e0 := h5.1
                    have e1 := h5.2.1
                    have e2 := h5.2.2.1
                    have e3 := h5.2.2.2.1
                    have e4 := h5.2.2.2.2
                    have q3 := HK.out.cell 3
                    have hwr : W.heap.size < wr.heap.size := HK.out.lt
                    have HCa := Lib.hid (IH.out j hjl wr hBr (by have := HB.out.size; omega))
                    have i1 : (0 : Int) ≤ (j : Int) := by omega
                    have i2 : (j : Int) < (len : Int) := by omega
                    have HBr := Lib.hid hBr
                    clear h5 hBr
                    obtain ⟨d, hd⟩ : ∃ d, plainT its[j] = d := ⟨_, rfl⟩
                    rw [hd] at HCa
                    have HDd := Lib.hid hd
                    clear hd
                    generalize hxi : ii j = vi at e3 HCa
                    generalize hxv : iv j = vv at e4 HCa
                    have HB2 := HB
                    cases d
                    · have HF : Hid (plainT (.node k b t its ks) = false) := Lib.hid (plain_item_no hjl HDd.out)
                      go_wp2_with (go_at_call 31; refine HCa.out.mono ?_; rintro e w2 ⟨rfl, hb2⟩)
                      go_ret
                      exact ⟨by rw [HF.out]; rfl, HB2.out.trans (hb2.mono HB2.out.size)⟩
                    · go_wp2_with (go_at_call 31; refine HCa.out.mono ?_; rintro e w2 ⟨rfl, hb2⟩)
                      go_roundw
                      case rel =>
                        refine ⟨j + 1, by go_num, by omega, Lib.hid (fun i hi hij => ?_), Lib.hid (HB2.out.trans (hb2.mono HB2.out.size)), Lib.hid (HK.out.below hb2)⟩
                        rcases Nat.eq_or_lt_of_le (show i ≤ j by omega) with h | h
                        · subst h; exact HDd.out
                        · exact HI.out i hi h
                      case measure => simp [intOf]; omega
                  · have HT : Hid (plainT (.node k b t its ks) = true) := Lib.hid (plain_yes HB1.out HB2.out HTB.out HLB.out HKB.out HGD.out HQN.out HL.out HNK.out HKO.out (fun i hi => HI.out i hi (by have := HL.out; omega)))
                    go_wp2
                    go_ret
                    exact ⟨by rw [HT.out]; rfl, HB.out⟩
          · have HF : Hid (plainT (.node k b t its ks) = false) := Lib.hid (plain_no2 hb2 hgd hqn HL.out HNK.out)
            go_wp2_with fail
            go_ret
            exact ⟨by rw [HF.out]; rfl, hb0⟩
      · have HF : Hid (plainT (.node k b t its ks) = false) := Lib.hid (plain_no1 hb1 htb hlb hkb HL.out HNK.out)
        go_wp2_with fail
        go_ret
        exact ⟨by rw [HF.out]; rfl, hb0⟩
end Go.Proofs.YtcbcjeabpjjhbaaGreatDoor
namespace Go.Proofs.YtcbcjeabpjjhbaaGreatDoor
open Go.RowKit
set_option linter.unusedVariables false

/-- A good tree, as the document has it. -/
def goodT (T : VT) : Bool := decide (sizeT T ≤ 2000) && deepT 24 T && plainT T
theorem goodT_long {T : VT} {z : Int} (h : SizeIs T z) (hz : ¬ z ≤ 2000) : goodT T = false := by
  unfold goodT
  cases hd : deepT 24 T
  · simp
  · obtain ⟨-, -, h3, -⟩ := h 24 (by omega) hd
    have : ¬ sizeT T ≤ 2000 := fun hs => hz (by have := h3 hs; omega)
    simp [this]
theorem goodT_deep {T : VT} (hd : deepT 24 T = false) : goodT T = false := by unfold goodT; rw [hd]; simp
theorem goodT_plain {T : VT} {z : Int} {p : Bool} (h : SizeIs T z) (hz : z ≤ 2000) (hd : deepT 24 T = true) (hp : plainT T = p) : goodT T = p := by
  obtain ⟨-, -, -, h4⟩ := h 24 (by omega) hd
  have : sizeT T ≤ 2000 := by
    rcases Nat.lt_or_ge 2000 (sizeT T) with hs | hs
    · have := h4 hs; omega
    · exact hs
  unfold goodT
  rw [hd, hp]
  simp [this]
theorem goodT_within (T : VT) : goodT T = decide (within 24 1999 T) := by
  rw [Bool.eq_iff_iff, decide_eq_true_iff]
  unfold goodT within
  rw [Bool.and_eq_true, Bool.and_eq_true, decide_eq_true_iff]
  constructor
  · rintro ⟨⟨a, b⟩, c⟩; exact ⟨b, by omega, c⟩
  · rintro ⟨a, b, c⟩; exact ⟨⟨by omega, a⟩, c⟩

set_option maxRecDepth 100000 in
set_option maxHeartbeats 2000000 in
theorem rGood_any {B : Nat} {w : World} {v : Value} {T : VT} (h : Is B w v T) (W : World) (hb : Below B w W) (hBW : B ≤ W.heap.size) : Calls Tryz.prog 14 #[v] W fun e w' => e = .returned (.bool (goodT T)) ∧ Below W.heap.size W w' := by
  have HS := Lib.hid (fun W' (hb' : Below B w W') (hB' : B ≤ W'.heap.size) => size_any h W' hb' hB')
  have HD := Lib.hid (fun W' (hb' : Below B w W') (hB' : B ≤ W'.heap.size) => deep_any h 24 W' (by omega) hb' hB')
  have HP := Lib.hid (fun W' (hb' : Below B w W') (hB' : B ≤ W'.heap.size) => plain_any h W' hb' hB')
  obtain ⟨k, b, t, ad, n, cap, adk, nk, capk, rfl⟩ := h.shape
  obtain ⟨g, hg⟩ : ∃ g, goodT T = g := ⟨_, rfl⟩
  have HG := Lib.hid hg
  rw [hg]
  clear hg h
  have hb0 := below_new W (.cells #[.int .i64 k, .bool b, .string t, .slice ad n cap, .slice adk nk capk] 26)
  have hk0 := Blk.new W #[.int .i64 k, .bool b, .string t, .slice ad n cap, .slice adk nk capk] 26
  have HB0 := Lib.hid hb0
  have HK0 := Lib.hid hk0
  have HS1 := Lib.hid (HS.out _ (hb.trans (hb0.mono hBW)) (Nat.le_trans hBW hb0.size))
  clear hb0 hk0 HS
  have HBW := Lib.hid hBW
  have HBb := Lib.hid hb
  clear hBW hb
  go_enter Tryz.func14, Tryz.ntmps14
  go_wp2_with fail
  go_at_call 29; refine HS1.out.mono ?_; rintro e w2 ⟨⟨z, rfl, hz⟩, hb2⟩
  have HZ := Lib.hid hz
  have HB2 := Lib.hid (HB0.out.trans (hb2.mono HB0.out.size))
  have HK2 := Lib.hid (HK0.out.below hb2)
  have HD2 := Lib.hid (HD.out w2 (HBb.out.trans (HB2.out.mono HBW.out)) (Nat.le_trans HBW.out HB2.out.size))
  have hw2 : W.heap.size < w2.heap.size := HK2.out.lt
  have q0 := HK2.out.cell 0
  have q1 := HK2.out.cell 1
  have q2 := HK2.out.cell 2
  have q3 := HK2.out.cell 3
  have q4 := HK2.out.cell 4
  clear hz hb2
  by_cases hz2 : z ≤ 2000
  · obtain ⟨d, hd⟩ : ∃ d, deepT 24 T = d := ⟨_, rfl⟩
    rw [hd] at HD2
    have HDd := Lib.hid hd
    clear hd
    cases d
    · have HF : Hid (g = false) := Lib.hid (HG.out.symm.trans (goodT_deep HDd.out))
      go_wp2_with (go_at_call 30; refine HD2.out.mono ?_; rintro e w3 ⟨rfl, hb3⟩)
      go_ret
      exact ⟨by rw [HF.out]; rfl, HB2.out.trans (hb3.mono HB2.out.size)⟩
    · go_wp2_with fail
      go_at_call 30; refine HD2.out.mono ?_; rintro e w3 ⟨rfl, hb3⟩
      clear q0 q1 q2 q3 q4 hw2
      have HB3 := Lib.hid (HB2.out.trans (hb3.mono HB2.out.size))
      have HK3 := Lib.hid (HK2.out.below hb3)
      have HP3 := Lib.hid (HP.out w3 (HBb.out.trans (HB3.out.mono HBW.out)) (Nat.le_trans HBW.out HB3.out.size))
      have hw3 : W.heap.size < w3.heap.size := HK3.out.lt
      have q0 := HK3.out.cell 0
      have q1 := HK3.out.cell 1
      have q2 := HK3.out.cell 2
      have q3 := HK3.out.cell 3
      have q4 := HK3.out.cell 4
      clear hb3
      obtain ⟨p, hp⟩ : ∃ p, plainT T = p := ⟨_, rfl⟩
      rw [hp] at HP3
      have HF : Hid (g = p) := Lib.hid (HG.out.symm.trans (goodT_plain HZ.out hz2 HDd.out hp))
      clear hp
      go_wp2_with (go_at_call 31; refine HP3.out.mono ?_; rintro e w4 ⟨rfl, hb4⟩)
      go_ret
      exact ⟨by rw [HF.out]; rfl, HB3.out.trans (hb4.mono HB3.out.size)⟩
  · have HF : Hid (g = false) := Lib.hid (HG.out.symm.trans (goodT_long HZ.out hz2))
    have hz3 : decide (z ≤ 2000) = false := decide_eq_false hz2
    go_wp2_with fail
    go_ret
    exact ⟨by rw [HF.out]; rfl, HB2.out⟩
end Go.Proofs.YtcbcjeabpjjhbaaGreatDoor
namespace Go.Proofs.YtcbcjeabpjjhbaaGreatDoor
open Go.RowKit
set_option linter.unusedVariables false

/-- A good tree is small. -/
theorem small_good : ∀ (n : Nat) (T : VT), deepT n T = true → plainT T = true → sizeT T ≤ 2000 → smallT T
  | 0, .node k b t its ks, h, _, _ => by unfold deepT at h; cases h
  | n + 1, .node k b t its ks, hd, hp, hs => by
    have e : sizeT (.node k b t its ks) = 1 + sizeL its := by unfold sizeT; rfl
    rw [e] at hs
    have hge := sizeL_ge its
    unfold deepT at hd
    unfold plainT at hp
    obtain ⟨hal, hpl⟩ := Bool.and_eq_true_iff.1 hp
    rw [smallT_node]
    refine ⟨by omega, ?_, fun x hx => ?_⟩
    · unfold aloneT at hal
      have hal2 := (Bool.and_eq_true_iff.1 hal).2
      split at hal2
      · simp at hal2; rw [hal2.2]; simp
      · split at hal2
        · simp at hal2; rw [hal2.2]; simp
        · split at hal2
          · simp at hal2; rw [hal2.2]; simp
          · split at hal2
            · simp at hal2; rw [hal2.2]; simp
            · split at hal2
              · simp at hal2; omega
              · cases hal2
    · obtain ⟨j, hj, rfl⟩ := List.mem_iff_getElem.1 hx
      have h1 := sizeL_split its (j + 1)
      have h2 := sizeL_take hj
      exact small_good n _ (deepL_at hj hd) (plainL_at hj hpl) (by omega)
theorem goodT_parts {T : VT} (h : goodT T = true) : sizeT T ≤ 2000 ∧ deepT 24 T = true ∧ plainT T = true := by
  unfold goodT at h
  simp only [Bool.and_eq_true, decide_eq_true_eq] at h
  exact ⟨h.1.1, h.1.2, h.2⟩
theorem goodT_small {T : VT} (h : goodT T = true) : smallT T := by
  obtain ⟨a, b, c⟩ := goodT_parts h
  exact small_good 24 T b c a

end Go.Proofs.YtcbcjeabpjjhbaaGreatDoor
namespace Go.Proofs.YtcbcjeabpjjhbaaGreatDoor
set_option linter.unusedVariables false

def jsB (T : VT) : ByteArray := ⟨(jsT T).toArray⟩
theorem jsB_size (T : VT) : (jsB T).size = (jsT T).length := by unfold jsB; simp [ByteArray.size]
theorem fine_within {T : VT} (h : Fine 24 T) (hs : sizeT T ≤ 2000) : within 24 1999 T := ⟨h.1, hs, h.2.1⟩
theorem enc_fine {T : VT} (h : Fine 24 T) (hs : sizeT T ≤ 2000) : encR T = if 65536 < (jsT T).length then (⟨#[]⟩, 3) else (jsB T, 0) := by
  unfold encR
  rw [if_pos (fine_within h hs), if_pos h.2.2.1, if_pos h.2.2.2]
  rcases appV_agree T [] with e | ⟨e1, e2⟩
  · rw [e, List.nil_append]; rfl
  · rw [List.nil_append] at e2
    rw [if_pos e1, if_pos e2]
theorem enc_ok {T : VT} (h : (encR T).2 = 0) : Fine 24 T ∧ sizeT T ≤ 2000 ∧ (jsT T).length ≤ 65536 ∧ encR T = (jsB T, 0) := by
  have hf : Fine 24 T ∧ sizeT T ≤ 2000 := by
    unfold encR at h
    split at h
    · rename_i hw
      split at h
      · rename_i hk
        split at h
        · rename_i hu
          exact ⟨⟨hw.1, hw.2.2, hk, hu⟩, hw.2.1⟩
        · cases h
      · cases h
    · cases h
  refine ⟨hf.1, hf.2, ?_⟩
  rw [enc_fine hf.1 hf.2] at h ⊢
  split at h
  · cases h
  · rename_i hl
    rw [if_neg hl]
    exact ⟨by omega, rfl⟩
theorem back_whole {T : VT} (h : Fine 24 T) (hs : sizeT T ≤ 2000) (hl : (jsT T).length ≤ 65536) : wholeJ (jsB T) = .ok T :=
  whole_back (pr := fun _ => []) (po := fun _ => []) (fun _ c hc => by cases hc) (fun _ c hc => by cases hc) h hs (by rw [spT_plain]; unfold jsB; simp) (by rw [jsB_size]; exact hl)
theorem fine_good {T : VT} (h : Fine 24 T) (hs : sizeT T ≤ 2000) : goodT T = true := by
  have hw := fine_within h hs
  have := goodT_within T
  simpa [hw] using this
end Go.Proofs.YtcbcjeabpjjhbaaGreatDoor
