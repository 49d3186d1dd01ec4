/- value.members and value.Get of any value -/
import Derived.Test.YtjgbhnbfojkhoaaGreatDoorOw28
import Derived.Test.YtjgbhnbfojkhoaaGreatDoorOw30
import Derived.Test.YtjgbhnbfojkhoaaGreatDoorOw31
namespace Go.Proofs.YtjgbhnbfojkhoaaGreatDoor
open Go.RowKit
set_option linter.unusedVariables false

set_option maxRecDepth 100000 in
set_option maxHeartbeats 1000000 in
theorem members_other {k : Int} (hk6 : k ≠ 6) {adk adi : Option Addr} {n nk capk capi : Nat} (w : World) (b : Bool) (t : ByteArray) :
    Calls Tryz.prog 50 #[.agg #[.int .i64 k, .bool b, .string t, .slice adi n capi, .slice adk nk capk]] w fun e w' => e = .returned (.tuple #[.slice none 0 0, .slice none 0 0]) ∧ Below w.heap.size w w' := by
  have kk6 : (k == 6) = false := beq_eq_false_iff_ne.2 hk6
  have kk6' : (k != 6) = true := by simp only [bne, kk6]; rfl
  go_enter Tryz.func50, Tryz.ntmps50
  go_wp2
  refine bodyPost_ret (v := .tuple #[.slice none 0 0, .slice none 0 0]) ?_ rfl ⟨rfl, below_new _ _⟩
  simp [results, Tryz.results50, go_sem]
theorem strs_nil (B : Nat) (W : World) : StrsAt B W (.slice none 0 0) [] := ⟨none, 0, rfl, by simp, by simp, fun h => absurd h (by simp)⟩
theorem items_nil (B : Nat) (W : World) : ItemsAt B W (.slice none 0 0) [] := ⟨none, 0, rfl, by simp, by simp, fun h => absurd h (by simp), fun e he => by cases he⟩
/-- What members answers. -/
theorem memb_any {B : Nat} {w : World} {v : Value} {k : Int} {b : Bool} {t : ByteArray} {its : List VT} {ks : List ByteArray} (h : Is B w v (.node k b t its ks)) (hl : k = 6 → ks.length = its.length) :
    ∃ kvm ivm km ym, (∀ W, Calls Tryz.prog 50 #[v] W fun e w' => e = .returned (.tuple #[kvm, ivm]) ∧ Below W.heap.size W w') ∧ StrsAt B w kvm km ∧ ItemsAt B w ivm ym ∧ km.length = ym.length ∧ ((k = 6 ∧ km = ks ∧ ym.map It.T = its) ∨ (k ≠ 6 ∧ km = [] ∧ ym = [])) := by
  obtain ⟨kv, iv, ys, rfl, hkv, hiv, rfl⟩ := h.parts
  by_cases hk6 : k = 6
  · subst hk6
    have hll : ks.length = ys.length := by simpa using hl rfl
    refine ⟨kv, iv, ks, ys, fun W => ?_, hkv, hiv, hll, .inl ⟨rfl, rfl, rfl⟩⟩
    obtain ⟨adk, capk, rfl, hkc, -⟩ := hkv
    obtain ⟨adi, capi, rfl, hic, -⟩ := hiv
    rw [← hll] at hic ⊢
    exact members_obj hkc hic W b t
  · obtain ⟨adk, capk, rfl, -⟩ := hkv
    obtain ⟨adi, capi, rfl, -⟩ := hiv
    exact ⟨_, _, [], [], fun W => members_other hk6 W b t, strs_nil B w, items_nil B w, rfl, .inr ⟨hk6, rfl, rfl⟩⟩

theorem null_fresh (lo B : Nat) (W : World) : Fresh lo B W (.agg nil5) (.node 0 false ⟨#[]⟩ [] []) :=
  Fresh.mk 0 false ⟨#[]⟩ [] [] none 0 (.slice none 0 0) 0 0 (fun _ => 0) (fun _ => false) (fun _ => ⟨#[]⟩) (fun _ => undef) (fun _ => undef) ⟨none, 0, rfl, by simp, by simp, fun h => absurd h (by simp)⟩ (by simp) (by simp) (fun h => absurd h (by simp)) (fun j h => absurd h (by simp)) (fun j i h => absurd h (by simp)) (fun j h => absurd h (by simp))
set_option maxRecDepth 100000 in
set_option maxHeartbeats 4000000 in
theorem vGet_any {B : Nat} {w : World} {v : Value} {k : Int} {b : Bool} {t key : ByteArray} {its : List VT} {ks : List ByteArray} (h : Is B w v (.node k b t its ks)) (hl : k = 6 → ks.length = its.length) (hr : k = 6 → Rising ks) (hsm : smallT (.node k b t its ks))
    (W : World) (hb : Below B w W) (hBW : B ≤ W.heap.size) : Calls Tryz.prog 17 #[v, .string key] W fun e w' => (∃ v' T ok, e = .returned (.tuple #[v', .bool ok]) ∧ Fresh W.heap.size w'.heap.size w' v' T ∧ Got k ks its key T ok) ∧ Below W.heap.size W w' := by
  obtain ⟨kvm, ivm, km, ym, hM, hS, hI, hlen, hrel⟩ := memb_any h hl
  have hrm : Rising km := by
    rcases hrel with ⟨e1, rfl, -⟩ | ⟨-, rfl, -⟩
    · exact hr e1
    · exact fun i j hi _ _ => by simp at hi
  obtain ⟨-, -, hsm3⟩ := smallT_node.1 hsm
  have hsmy : ∀ e ∈ ym, smallT e.T := by
    rcases hrel with ⟨-, -, rfl⟩ | ⟨-, -, rfl⟩
    · exact fun e he => hsm3 _ (List.mem_map.2 ⟨e, he, rfl⟩)
    · exact fun e he => by cases he
  have HSr := Lib.hid (fun W (hb : Below B w W) => search_any key (hS.below hb) hrm)
  have HM := Lib.hid hM
  obtain ⟨adk, capk, rfl, hkc, hkl, -⟩ := hS
  obtain ⟨adi, capi, rfl, hic, hil, hip, hok⟩ := hI
  have HIP := Lib.hid hip
  have HCL := Lib.hid (fun (e : It) (he : e ∈ ym) (W' : World) (hb' : Below B w W') (hB' : B ≤ W'.heap.size) => clone_any (hok e he) (hsmy e he) W' hb' hB')
  have HOK := Lib.hid hok
  have HREL := Lib.hid hrel
  have HRM := Lib.hid hrm
  rw [← hlen] at hic hil HM
  have HLE := Lib.hid hlen
  obtain ⟨n, hn⟩ : ∃ n, km.length = n := ⟨_, rfl⟩
  have HN := Lib.hid hn
  rw [hn] at hkc hkl hic hil HSr HM
  obtain ⟨kb, bb, tb, adb, nb, capb, adbk, nbk, capbk, rfl⟩ := h.shape
  have HBb := Lib.hid hb
  have HBW := Lib.hid hBW
  clear hM hip hok hrel hrm hsm3 hsmy hlen hn hsm hl hr h hb hBW
  have en : nil5 = #[.int .i64 0, .bool false, .string ⟨#[]⟩, .slice none 0 0, .slice none 0 0] := rfl
  have hb0 : Below W.heap.size W ((W.alloc (.cells #[.int .i64 kb, .bool bb, .string tb, .slice adb nb capb, .slice adbk nbk capbk] 26)).alloc (.cells nil5 26)) := box2_below
  have hR0 : Blk ((W.alloc (.cells #[.int .i64 kb, .bool bb, .string tb, .slice adb nb capb, .slice adbk nbk capbk] 26)).alloc (.cells nil5 26)) (W.heap.size + 1) nil5 26 := by have := Blk.new (W.alloc (.cells #[.int .i64 kb, .bool bb, .string tb, .slice adb nb capb, .slice adbk nbk capbk] 26)) nil5 26; simpa using this
  have HB0 := Lib.hid hb0
  have HR0 := Lib.hid hR0
  rw [en] at HB0 HR0
  clear hb0 hR0
  go_enter Tryz.func17, Tryz.ntmps17
  go_wp2_with fail
  go_at_call 50; refine (HM.out _).mono ?_; rintro e w1 ⟨rfl, hb1⟩
  have HB1 := Lib.hid (HB0.out.trans (hb1.mono HB0.out.size))
  have HR1 := Lib.hid (HR0.out.below hb1)
  clear hb1 HB0 HR0
  go_wp2_with fail
  go_at_call 51; refine (HSr.out _ (HBb.out.trans (HB1.out.mono HBW.out))).mono ?_; rintro e w2 ⟨p, hp, rfl, rfl⟩
  have HP := Lib.hid hp
  clear hp
  have q0 := HR1.out.cell 0
  have q1 := HR1.out.cell 1
  have q2 := HR1.out.cell 2
  have q3 := HR1.out.cell 3
  have q4 := HR1.out.cell 4
  have f0 := HR1.out.frozen 0
  have f1 := HR1.out.frozen 1
  have f2 := HR1.out.frozen 2
  have f3 := HR1.out.frozen 3
  have f4 := HR1.out.frozen 4
  cases hh : hasAt km key p
  · have HGOT : Hid (Got k ks its key (.node 0 false ⟨#[]⟩ [] []) false) := Lib.hid (.inr ⟨rfl, rfl, by
      rcases HREL.out with ⟨e1, e2, -⟩ | ⟨e1, -⟩
      · refine .inr ?_
        rw [← e2]
        exact none_of_place HRM.out HP.out hh
      · exact .inl e1⟩)
    have h5 := HR1.out.set5 (.int .i64 0) (.bool false) (.string ⟨#[]⟩) (.slice none 0 0) (.slice none 0 0)
    have d0 := h5.cell 0
    have d1 := h5.cell 1
    have d2 := h5.cell 2
    have d3 := h5.cell 3
    have d4 := h5.cell 4
    clear hh
    go_wp2
    refine bodyPost_ret (v := .tuple #[.agg #[.int .i64 0, .bool false, .string ⟨#[]⟩, .slice none 0 0, .slice none 0 0], .bool false]) ?_ rfl ⟨⟨_, _, _, rfl, null_fresh _ _ _, HGOT.out⟩, below_set5 HB1.out (by omega) _ _ _ _ _⟩
    simp [results, Tryz.results17, go_sem, d0, d1, d2, d3, d4]
  · have hpk : p < km.length := by
      rcases Nat.lt_or_ge p km.length with h | h
      · exact h
      · rw [hasAt_out h] at hh; cases hh
    have hpn : p < n := by have := HN.out; omega
    have hpy : p < ym.length := by have := HLE.out; omega
    have hey : (km[p].toList == key.toList) = true := by rw [hasAt_in hpk] at hh; exact hh
    have HGOT : Hid (Got k ks its key ym[p].T true) := Lib.hid (by
      rcases HREL.out with ⟨e1, e2, e3⟩ | ⟨-, e2, -⟩
      · subst e2
        subst e3
        exact .inl ⟨rfl, e1, p, hpk, by simpa using hpy, hey, by simp⟩
      · subst e2; simp at hpk)
    obtain ⟨g, o, rfl, hg, hcs⟩ := HIP.out (by omega)
    have hc := (hcs p hpy).below hg (HBb.out.trans (HB1.out.mono HBW.out))
    have hoke := HOK.out ym[p] (List.getElem_mem hpy)
    have hcl := HCL.out ym[p] (List.getElem_mem hpy) w1 (HBb.out.trans (HB1.out.mono HBW.out)) (Nat.le_trans HBW.out HB1.out.size)
    obtain ⟨e, he⟩ : ∃ e, ym[p] = e := ⟨_, rfl⟩
    rw [he] at hc hoke hcl HGOT
    obtain ⟨ai, ni, ci, ak, nk2, ck2, exi, exy⟩ := hoke.shape
    unfold It.val at hcl
    rw [exi, exy] at hc hcl
    have HCl := Lib.hid hcl
    generalize e.k = y0 at hc HCl
    generalize e.b = y1 at hc HCl
    generalize e.t = y2 at hc HCl
    obtain ⟨e0, e1, e2, e3, e4⟩ := hc
    have i1 : (0 : Int) ≤ (p : Int) := by omega
    have i2 : (p : Int) < (n : Int) := by omega
    clear hh hcs he hoke hcl exi exy hey HSr HCL
    go_wp2_with fail
    go_at_call 25; refine HCl.out.mono ?_; rintro e w3 ⟨v', rfl, hf, hb3⟩
    obtain ⟨k', b', t', ad', n', cap', adk', nk', capk', rfl⟩ := hf.shape
    have HB3 := Lib.hid (HB1.out.trans (hb3.mono HB1.out.size))
    have HR3 := Lib.hid (HR1.out.below hb3)
    have HF := Lib.hid hf
    have hlt1 := HR1.out.lt
    clear q0 q1 q2 q3 q4 f0 f1 f2 f3 f4 e0 e1 e2 e3 e4 hb3 hf
    have q0 := HR3.out.cell 0
    have q1 := HR3.out.cell 1
    have q2 := HR3.out.cell 2
    have q3 := HR3.out.cell 3
    have q4 := HR3.out.cell 4
    have f0 := HR3.out.frozen 0
    have f1 := HR3.out.frozen 1
    have f2 := HR3.out.frozen 2
    have f3 := HR3.out.frozen 3
    have f4 := HR3.out.frozen 4
    have h5 := HR3.out.set5 (.int .i64 k') (.bool b') (.string t') (.slice ad' n' cap') (.slice adk' nk' capk')
    have d0 := h5.cell 0
    have d1 := h5.cell 1
    have d2 := h5.cell 2
    have d3 := h5.cell 3
    have d4 := h5.cell 4
    go_wp2
    refine bodyPost_ret (v := .tuple #[.agg #[.int .i64 k', .bool b', .string t', .slice ad' n' cap', .slice adk' nk' capk'], .bool true]) ?_ rfl ⟨⟨_, _, _, rfl, HF.out.keep (fun g h1 h2 => set5_other w3 (W.heap.size + 1) 0 _ _ _ _ _ (by omega)) HB1.out.size (by simp), HGOT.out⟩, below_set5 HB3.out (by omega) _ _ _ _ _⟩
    simp [results, Tryz.results17, go_sem, d0, d1, d2, d3, d4]
end Go.Proofs.YtjgbhnbfojkhoaaGreatDoor
