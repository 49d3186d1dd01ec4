/- value.Drop of any value -/
import Derived.Deep.DeepCutAuto
import Derived.Test.YtjgbhnbfojkhoaaGreatDoorOw36
import Derived.Test.YtjgbhnbfojkhoaaGreatDoorOw38
namespace Go.Proofs.YtjgbhnbfojkhoaaGreatDoor
open Go.RowKit
set_option linter.unusedVariables false

/-- What Drop makes. -/
def DropIs (k : Int) (b : Bool) (t : ByteArray) (ks : List ByteArray) (its : List VT) (key : ByteArray) (T : VT) : Prop :=
  (k = 6 ∧ ∃ p, KeyPlace ks key p ∧ hasAt ks key p = true ∧ T = .node 6 false ⟨#[]⟩ (its.take p ++ its.drop (p + 1)) (ks.take p ++ ks.drop (p + 1))) ∨ ((k = 6 → ∃ p, KeyPlace ks key p ∧ hasAt ks key p = false) ∧ T = .node k b t its ks)

set_option maxRecDepth 100000 in
set_option maxHeartbeats 20000000 in
theorem vDrop_any {B : Nat} {w : World} {v : Value} {k : Int} {b : Bool} {t key : ByteArray} {its : List VT} {ks : List ByteArray} (h : Is B w v (.node k b t its ks)) (hl : k = 6 → ks.length = its.length) (hr : k = 6 → Rising ks) (hsm : smallT (.node k b t its ks)) (h9 : ks.length ≤ 900000)
    (W : World) (hb : Below B w W) (hBW : B ≤ W.heap.size) : Calls Tryz.prog 21 #[v, .string key] W fun e w' => (∃ v' T, e = .returned v' ∧ Fresh W.heap.size w'.heap.size w' v' T ∧ DropIs k b t ks its key T) ∧ Below W.heap.size W w' := by
  obtain ⟨kvm, ivm, km, ym, hM, hS, hI, hlen, hrel⟩ := memb_any h hl
  have hrm : Rising km := by
    rcases hrel with ⟨e1, rfl, -⟩ | ⟨-, rfl, -⟩
    · exact hr e1
    · exact fun i j hi _ _ => by simp at hi
  have hsm3 := (smallT_node.1 hsm).2.2
  have hsmy : ∀ e ∈ ym, smallT e.T := by
    rcases hrel with ⟨-, -, rfl⟩ | ⟨-, -, rfl⟩
    · exact fun e he => hsm3 _ (List.mem_map.2 ⟨e, he, rfl⟩)
    · exact fun e he => by cases he
  have hkm9 : km.length ≤ 900000 := by
    rcases hrel with ⟨-, rfl, -⟩ | ⟨-, rfl, -⟩
    · exact h9
    · simp
  have HCLO := Lib.hid (fun W' (hb' : Below B w W') (hB' : B ≤ W'.heap.size) => clone_any h hsm W' hb' hB')
  have HSTR := Lib.hid hS
  have HITM := Lib.hid hI
  have HREL := Lib.hid hrel
  have HRM := Lib.hid hrm
  have HSMY := Lib.hid hsmy
  have HSr := Lib.hid (fun W (hb : Below B w W) => search_any key (hS.below hb) hrm)
  have HM := Lib.hid hM
  obtain ⟨adk, capk, rfl, hkc, hkl, -⟩ := hS
  obtain ⟨adi, capi, rfl, hic, hil, hip, hok⟩ := hI
  rw [← hlen] at hic hil HM
  have HLE := Lib.hid hlen
  obtain ⟨n, hn⟩ : ∃ n, km.length = n := ⟨_, rfl⟩
  have HN := Lib.hid hn
  rw [hn] at hkc hkl hic hil HSr HM
  obtain ⟨kb, bb, tb, adb, nb, capb, adbk, nbk, capbk, rfl⟩ := h.shape
  have hn9 : n ≤ 900000 := by omega
  have HBb := Lib.hid hb
  have HBW := Lib.hid hBW
  rw [← hlen, hn] at HITM
  rw [hn] at HSTR
  clear hM hip hok hrel hrm hlen hn hsm hl hr h hb hBW hsm3 hsmy hkm9 h9
  have en : nil5 = #[.int .i64 0, .bool false, .string ⟨#[]⟩, .slice none 0 0, .slice none 0 0] := rfl
  have hb0 : Below W.heap.size W ((W.alloc (.cells #[.int .i64 kb, .bool bb, .string tb, .slice adb nb capb, .slice adbk nbk capbk] 26)).alloc (.cells nil5 26)) := box2_below
  have hK0 : Blk ((W.alloc (.cells #[.int .i64 kb, .bool bb, .string tb, .slice adb nb capb, .slice adbk nbk capbk] 26)).alloc (.cells nil5 26)) W.heap.size #[.int .i64 kb, .bool bb, .string tb, .slice adb nb capb, .slice adbk nbk capbk] 26 := (Blk.new W _ _).alloc _
  have hR0 : Blk ((W.alloc (.cells #[.int .i64 kb, .bool bb, .string tb, .slice adb nb capb, .slice adbk nbk capbk] 26)).alloc (.cells nil5 26)) (W.heap.size + 1) nil5 26 := by have := Blk.new (W.alloc (.cells #[.int .i64 kb, .bool bb, .string tb, .slice adb nb capb, .slice adbk nbk capbk] 26)) nil5 26; simpa using this
  have HB0 := Lib.hid hb0
  have HK0 := Lib.hid hK0
  have HR0 := Lib.hid hR0
  rw [en] at HB0 HR0 HK0
  clear hb0 hR0 hK0
  go_enter Tryz.func21, Tryz.ntmps21
  go_wp2_with fail
  go_at_call 50; refine (HM.out _).mono ?_; rintro e w1 ⟨rfl, hb1⟩
  have HS1 : Hid (Below W.heap.size W w1 ∧ Blk w1 (W.heap.size + 1) #[.int .i64 0, .bool false, .string ⟨#[]⟩, .slice none 0 0, .slice none 0 0] 26) := Lib.hid ⟨HB0.out.trans (hb1.mono HB0.out.size), HR0.out.below hb1⟩
  have HK1 := Lib.hid (HK0.out.below hb1)
  clear hb1 HB0 HR0 HK0
  go_wp2_with fail
  go_at_call 51; refine (HSr.out _ (HBb.out.trans (HS1.out.1.mono HBW.out))).mono ?_; rintro e w2 ⟨p, hp, rfl, rfl⟩
  have HP := Lib.hid hp
  have hpn : p ≤ n := by have := hp.1; have := HN.out; omega
  clear hp
  have hlt2 : W.heap.size + 1 < w1.heap.size := HS1.out.2.lt
  cases hh : hasAt km key p
  · have HDROP : Hid (DropIs k b t ks its key (.node k b t its ks)) := Lib.hid (.inr ⟨fun e6 => by
      rcases HREL.out with ⟨e1, e2, -⟩ | ⟨e1, -⟩
      · subst e2; exact ⟨p, HP.out, hh⟩
      · exact absurd e6 e1, rfl⟩)
    have HCl := Lib.hid (HCLO.out w1 (HBb.out.trans (HS1.out.1.mono HBW.out)) (Nat.le_trans HBW.out HS1.out.1.size))
    have q0 := HK1.out.cell 0
    have q1 := HK1.out.cell 1
    have q2 := HK1.out.cell 2
    have q3 := HK1.out.cell 3
    have q4 := HK1.out.cell 4
    clear hh HSTR HITM HREL HSMY
    go_wp2_with fail
    go_at_call 25; refine HCl.out.mono ?_; rintro e w3 ⟨v', rfl, hf, hb3⟩
    obtain ⟨k', b', t', ad', n', cap', adk', nk', capk', rfl⟩ := hf.shape
    have HB3 := Lib.hid (HS1.out.1.trans (hb3.mono HS1.out.1.size))
    have HR3 := Lib.hid (HS1.out.2.below hb3)
    have HF := Lib.hid hf
    have HW1 := Lib.hid HS1.out.1.size
    clear q0 q1 q2 q3 q4 hb3 hf HS1 HK1
    have q0 := HR3.out.cell 0
    have q1 := HR3.out.cell 1
    have q2 := HR3.out.cell 2
    have q3 := HR3.out.cell 3
    have q4 := HR3.out.cell 4
    have f0 := HR3.out.frozen 0
    have f1 := HR3.out.frozen 1
    have f2 := HR3.out.frozen 2
    have f3 := HR3.out.frozen 3
    have f4 := HR3.out.frozen 4
    have h5 := HR3.out.set5 (.int .i64 k') (.bool b') (.string t') (.slice ad' n' cap') (.slice adk' nk' capk')
    have d0 := h5.cell 0
    have d1 := h5.cell 1
    have d2 := h5.cell 2
    have d3 := h5.cell 3
    have d4 := h5.cell 4
    go_wp2
    refine bodyPost_ret (v := .agg #[.int .i64 k', .bool b', .string t', .slice ad' n' cap', .slice adk' nk' capk']) ?_ rfl ⟨⟨_, _, rfl, HF.out.keep (fun g h1 h2 => set5_other w3 (W.heap.size + 1) 0 _ _ _ _ _ (by omega)) HW1.out (by simp), HDROP.out⟩, below_set5 HB3.out (by omega) _ _ _ _ _⟩
    simp [results, Tryz.results21, go_sem, d0, d1, d2, d3, d4]
  · have HH := Lib.hid hh
    have hpk : p < km.length := by
      rcases Nat.lt_or_ge p km.length with h | h
      · exact h
      · rw [hasAt_out h] at hh; cases hh
    obtain ⟨q, hqe⟩ : ∃ q, p + 1 = q := ⟨_, rfl⟩
    have HQ := Lib.hid hqe
    have hqn : q ≤ n := by have := HN.out; omega
    have hpq : p ≤ q := by omega
    have hw1 : wrap64 ((p : Int) + 1) = (q : Int) := by unfold wrap64; omega
    have hw2 : IntKind.i64.wrap ((p : Int) + 1) = (q : Int) := by rw [IntKind.wrap_i64]; omega
    clear hpk hqe
    clear hh HCLO HK1
    have hA := fun W => headK_run adk n capk p hpn hkc W
    have hB := fun W => tailK_run adk n capk q hqn hkc W
    have hC := fun W => headV_run adi n capi p hpn hic W
    have hD := fun W => tailV_run adi n capi q hqn hic W
    have HCS : Hid (∀ (Wc : World) (S : Nat), Below w1.heap.size w1 Wc → S < Wc.heap.size → (Wc.cell? ⟨S, 0, none⟩ = some (.slice adk p capk) ∧ Wc.cell? ⟨S, 1, none⟩ = some (.slice (if capk = q then adk else adk.map (·.add (q * 1))) (n - q) (capk - q))) → Calls Tryz.prog 53 #[.slice (some ⟨S, 0, none⟩) 2 2] Wc fun e w' => (∃ ad cap, e = .returned (.slice ad (p + (n - q)) cap) ∧ w'.ownsRow w1.heap.size 9 1 (.slice ad (p + (n - q)) cap) (p + (n - q)) ((km.take p ++ km.drop q).map Value.string)) ∧ Below Wc.heap.size Wc w' ∧ Below w1.heap.size w1 w') := Lib.hid (fun Wc S hwc hS hc => dropKeys HSTR.out hpq hqn hn9 (HBb.out.trans (HS1.out.1.mono HBW.out)) (Nat.le_trans HBW.out HS1.out.1.size) Wc S hwc ⟨hS, hc⟩)
    have HCV : Hid (∀ (w5 Wc : World) (S : Nat), Below w1.heap.size w1 Wc → Below w5.heap.size w5 Wc → S < Wc.heap.size → (Wc.cell? ⟨S, 0, none⟩ = some (.slice adi p capi) ∧ Wc.cell? ⟨S, 1, none⟩ = some (.slice (if capi = q then adi else adi.map (·.add (q * 5))) (n - q) (capi - q))) → Calls Tryz.prog 55 #[.slice (some ⟨S, 0, none⟩) 2 2] Wc fun e w' => (∃ ad cap, e = .returned (.slice ad (p + (n - q)) cap) ∧ ∀ W2, Below w'.heap.size w' W2 → Calls Tryz.prog 54 #[.slice ad (p + (n - q)) cap] W2 (ClonesAll ((ym.map It.T).take p ++ (ym.map It.T).drop q) W2)) ∧ Below w5.heap.size w5 w' ∧ Below w1.heap.size w1 w') := Lib.hid (fun w5 Wc S hwc h5 hS hc => dropItems HITM.out HSMY.out hpq hqn hn9 (HBb.out.trans (HS1.out.1.mono HBW.out)) (Nat.le_trans HBW.out HS1.out.1.size) w5 Wc S hwc h5 ⟨hS, hc⟩)
    have HLK : Hid ((km.take p ++ km.drop q).length = p + (n - q)) := Lib.hid (by have := HN.out; simp; omega)
    have HLI : Hid (((ym.map It.T).take p ++ (ym.map It.T).drop q).length ≤ 1000000) := Lib.hid (by have := HN.out; have := HLE.out; simp; omega)
    have HPUT : Hid (DropIs k b t ks its key (.node 6 false ⟨#[]⟩ ((ym.map It.T).take p ++ (ym.map It.T).drop q) (km.take p ++ km.drop q))) := Lib.hid (by
      rcases HREL.out with ⟨e1, e2, e3⟩ | ⟨e1, e2, e3⟩
      · subst e2
        subst e3
        exact .inl ⟨e1, p, HP.out, HH.out, by rw [← HQ.out]⟩
      · subst e2
        subst e3
        exfalso; have h1 := HH.out; simp [hasAt] at h1)
    generalize (ym.map It.T).take p ++ (ym.map It.T).drop q = its2 at HCV HLI HPUT
    generalize km.take p ++ km.drop q = ks2 at HCS HLK HPUT
    obtain ⟨tk, htk⟩ : ∃ tk, (if capk = q then adk else adk.map (·.add (q * 1))) = tk := ⟨_, rfl⟩
    obtain ⟨tv, htv⟩ : ∃ tv, (if capi = q then adi else adi.map (·.add (q * 5))) = tv := ⟨_, rfl⟩
    obtain ⟨m2, hm2⟩ : ∃ m2, n - q = m2 := ⟨_, rfl⟩
    obtain ⟨ck2, hck2⟩ : ∃ m2, capk - q = m2 := ⟨_, rfl⟩
    obtain ⟨ci2, hci2⟩ : ∃ m2, capi - q = m2 := ⟨_, rfl⟩
    unfold tailOf at hB hD
    rw [htk, hm2, hck2] at hB HCS
    rw [htv, hm2, hci2] at hD HCV
    rw [hm2] at HLK
    obtain ⟨n5, hn5⟩ : ∃ n5, p + m2 = n5 := ⟨_, rfl⟩
    have hn59 : n5 ≤ 1000000 := by omega
    rw [hn5] at HCS HCV HLK
    clear htk htv hm2 hck2 hci2 hn5 HSTR HITM HSMY
    go_upto_region 5 with fail
    go_cut [4] (fun s6 wx => s6 = .pointer (some ⟨W.heap.size + 1, 0, none⟩) ∧ PutEnd W wx (W.heap.size + 1) n5 its2 ks2)
    case first =>
      go_region_law (first
        | (go_simp; go_at_call 53; refine (HCS.out _ _ ?_ ?_ ?_).mono ?_; (first | exact ((Below.refl _ w1).alloc (by first | exact Nat.le_refl _ | (simp only [sz0, sz1]; omega) | (simp; omega) | omega) _).drew | exact ((Below.refl _ w1).alloc (by first | exact Nat.le_refl _ | (simp only [sz0, sz1]; omega) | (simp; omega) | omega) _) | exact (((Below.refl _ w1).alloc (by first | exact Nat.le_refl _ | (simp only [sz0, sz1]; omega) | (simp; omega) | omega) _).alloc (by first | exact Nat.le_refl _ | (simp only [sz0, sz1]; omega) | (simp; omega) | omega) _).drew | exact (((Below.refl _ w1).alloc (by first | exact Nat.le_refl _ | (simp only [sz0, sz1]; omega) | (simp; omega) | omega) _).alloc (by first | exact Nat.le_refl _ | (simp only [sz0, sz1]; omega) | (simp; omega) | omega) _) | exact ((((Below.refl _ w1).alloc (by first | exact Nat.le_refl _ | (simp only [sz0, sz1]; omega) | (simp; omega) | omega) _).alloc (by first | exact Nat.le_refl _ | (simp only [sz0, sz1]; omega) | (simp; omega) | omega) _).alloc (by first | exact Nat.le_refl _ | (simp only [sz0, sz1]; omega) | (simp; omega) | omega) _).drew | exact ((((Below.refl _ w1).alloc (by first | exact Nat.le_refl _ | (simp only [sz0, sz1]; omega) | (simp; omega) | omega) _).alloc (by first | exact Nat.le_refl _ | (simp only [sz0, sz1]; omega) | (simp; omega) | omega) _).alloc (by first | exact Nat.le_refl _ | (simp only [sz0, sz1]; omega) | (simp; omega) | omega) _) | exact (((((Below.refl _ w1).alloc (by first | exact Nat.le_refl _ | (simp only [sz0, sz1]; omega) | (simp; omega) | omega) _).alloc (by first | exact Nat.le_refl _ | (simp only [sz0, sz1]; omega) | (simp; omega) | omega) _).alloc (by first | exact Nat.le_refl _ | (simp only [sz0, sz1]; omega) | (simp; omega) | omega) _).alloc (by first | exact Nat.le_refl _ | (simp only [sz0, sz1]; omega) | (simp; omega) | omega) _).drew | exact (((((Below.refl _ w1).alloc (by first | exact Nat.le_refl _ | (simp only [sz0, sz1]; omega) | (simp; omega) | omega) _).alloc (by first | exact Nat.le_refl _ | (simp only [sz0, sz1]; omega) | (simp; omega) | omega) _).alloc (by first | exact Nat.le_refl _ | (simp only [sz0, sz1]; omega) | (simp; omega) | omega) _).alloc (by first | exact Nat.le_refl _ | (simp only [sz0, sz1]; omega) | (simp; omega) | omega) _)); (first | (go_simp; done) | (simp only [sz0, sz1]; omega) | (simp only [sz0, sz1] at *; omega) | omega); (refine ⟨?_, ?_⟩ <;> (first | (go_simp; done) | (simp only [sz0, sz1]; omega) | omega)); rintro e w5 ⟨⟨ad5, cap5, rfl, hrow5⟩, hb5, hw5⟩; have hs5 := hb5.size; (try simp at hs5))
        | (go_simp; go_at_call 55; refine (HCV.out w5 _ _ ?_ ?_ ?_ ?_).mono ?_; (have h5s := hw5.size; first | exact hw5 | exact hw5.drew | exact hw5.alloc (by omega) _ | exact (hw5.alloc (by omega) _).drew | exact (hw5.alloc (by omega) _).alloc (by simp; omega) _ | exact ((hw5.alloc (by omega) _).alloc (by simp; omega) _).drew); (first | exact Below.refl _ _ | exact (Below.refl _ _).drew | exact ((Below.refl _ w5).alloc (by first | exact Nat.le_refl _ | (simp only [sz0, sz1]; omega) | (simp; omega) | omega) _).drew | exact ((Below.refl _ w5).alloc (by first | exact Nat.le_refl _ | (simp only [sz0, sz1]; omega) | (simp; omega) | omega) _) | exact (((Below.refl _ w5).alloc (by first | exact Nat.le_refl _ | (simp only [sz0, sz1]; omega) | (simp; omega) | omega) _).alloc (by first | exact Nat.le_refl _ | (simp only [sz0, sz1]; omega) | (simp; omega) | omega) _).drew | exact (((Below.refl _ w5).alloc (by first | exact Nat.le_refl _ | (simp only [sz0, sz1]; omega) | (simp; omega) | omega) _).alloc (by first | exact Nat.le_refl _ | (simp only [sz0, sz1]; omega) | (simp; omega) | omega) _)); (first | (go_simp; done) | (simp only [sz0, sz1]; omega) | (simp only [sz0, sz1] at *; omega) | omega); (refine ⟨?_, ?_⟩ <;> (first | (go_simp; done) | (refine cells_keep hb5 ?_; go_simp; done) | (refine cells_keep (below_new _ _) (cells_keep hb5 ?_); go_simp; done) | (simp only [sz0, sz1]; omega) | (simp only [sz0, sz1] at *; omega) | omega)); rintro e w6 ⟨⟨ad6, cap6, rfl, hca6⟩, hb6, hw6⟩)
        | (go_simp; go_at_call 54; refine (hca6 _ ?_).mono ?_; (first | exact Below.refl _ _ | exact (Below.refl _ _).drew); rintro e w7 ⟨ad7, cap7, rfl, hit7, hb7⟩; have hr7 := HS1.out.2.below (hw6.trans (hb7.mono hw6.size)); have f0 := hr7.frozen 0; have f1 := hr7.frozen 1; have f2 := hr7.frozen 2; have f3 := hr7.frozen 3; have f4 := hr7.frozen 4; have q0 := hr7.cell 0; have q1 := hr7.cell 1; have q2 := hr7.cell 2; have q3 := hr7.cell 3; have q4 := hr7.cell 4))
      all_goals
        have HEND := Lib.hid (putEnd_of ⟨hr7, put_end (R := W.heap.size + 1) HS1.out.1 (by omega) hlt2 hrow5 HLK.out hn59 (hb6.trans (hb7.mono hb6.size)) (hw6.trans (hb7.mono hw6.size)) hit7 hw6.size HLI.out⟩)
        clear f0 f1 f2 f3 f4 q0 q1 q2 q3 q4 hA hB hC hD HCS HCV hca6 hs5 hrow5 hit7 hb5 hw5 hb6 hw6 hb7 hr7
        go_wp2_with fail
        go_meet
        exact ⟨rfl, HEND.out⟩
    case rest =>
      obtain ⟨rfl, hx⟩ := hcut
      obtain ⟨ad5, cap5, ad7, cap7, d0, d1, d2, d3, d4, hfr, hbl⟩ := hx
      have HD := Lib.hid (And.intro hfr hbl)
      clear hfr hbl hA hB hC hD HCS HCV HP HH HLK HLI HS1
      go_wp2
      refine bodyPost_ret (v := .agg #[.int .i64 6, .bool false, .string ⟨#[]⟩, .slice ad7 its2.length cap7, .slice ad5 n5 cap5]) ?_ rfl ⟨⟨_, _, rfl, HD.out.1, HPUT.out⟩, HD.out.2⟩
      simp [results, Tryz.results21, go_sem, d0, d1, d2, d3, d4]
end Go.Proofs.YtjgbhnbfojkhoaaGreatDoor
