/- How Put and Drop end · value.Put of a value that has not the key -/
import Derived.Deep.DeepCutAuto
import Derived.Test.YtjgbhnbfojkhoaaGreatDoorOw35
namespace Go.Proofs.YtjgbhnbfojkhoaaGreatDoor
open Go.RowKit
set_option linter.unusedVariables false

/-- What Put makes. -/
def PutIs (k : Int) (ks : List ByteArray) (its : List VT) (key : ByteArray) (X : VT) (T : VT) : Prop :=
  (k = 6 ∧ ∃ p, KeyPlace ks key p ∧ T = .node 6 false ⟨#[]⟩ (its.take p ++ X :: its.drop (p + one (hasAt ks key p))) (ks.take p ++ key :: ks.drop (p + one (hasAt ks key p)))) ∨ (k ≠ 6 ∧ T = .node 6 false ⟨#[]⟩ [X] [key])

/-- What lies behind Put's last call. -/
def PutDone (W w7 : World) (R n5 : Nat) (its : List VT) (kk : List ByteArray) (ad5 : Option Addr) (cap5 : Nat) (ad7 : Option Addr) (cap7 : Nat) : Prop :=
  Blk w7 R #[.int .i64 0, .bool false, .string ⟨#[]⟩, .slice none 0 0, .slice none 0 0] 26 ∧
  Fresh W.heap.size (((((w7.setCell ⟨R, 0, none⟩ (.int .i64 6)).setCell ⟨R, 1, none⟩ (.bool false)).setCell ⟨R, 2, none⟩ (.string ⟨#[]⟩)).setCell ⟨R, 3, none⟩ (.slice ad7 its.length cap7)).setCell ⟨R, 4, none⟩ (.slice ad5 n5 cap5)).heap.size (((((w7.setCell ⟨R, 0, none⟩ (.int .i64 6)).setCell ⟨R, 1, none⟩ (.bool false)).setCell ⟨R, 2, none⟩ (.string ⟨#[]⟩)).setCell ⟨R, 3, none⟩ (.slice ad7 its.length cap7)).setCell ⟨R, 4, none⟩ (.slice ad5 n5 cap5)) (.agg #[.int .i64 6, .bool false, .string ⟨#[]⟩, .slice ad7 its.length cap7, .slice ad5 n5 cap5]) (.node 6 false ⟨#[]⟩ its kk) ∧
  Below W.heap.size W (((((w7.setCell ⟨R, 0, none⟩ (.int .i64 6)).setCell ⟨R, 1, none⟩ (.bool false)).setCell ⟨R, 2, none⟩ (.string ⟨#[]⟩)).setCell ⟨R, 3, none⟩ (.slice ad7 its.length cap7)).setCell ⟨R, 4, none⟩ (.slice ad5 n5 cap5))

/-- What lies behind the result's stores. -/
def PutEnd (W wx : World) (R n5 : Nat) (its : List VT) (kk : List ByteArray) : Prop := ∃ (ad5 : Option Addr) (cap5 : Nat) (ad7 : Option Addr) (cap7 : Nat),
  wx.cell? ⟨R, 0, none⟩ = some (.int .i64 6) ∧ wx.cell? ⟨R, 1, none⟩ = some (.bool false) ∧ wx.cell? ⟨R, 2, none⟩ = some (.string ⟨#[]⟩) ∧ wx.cell? ⟨R, 3, none⟩ = some (.slice ad7 its.length cap7) ∧ wx.cell? ⟨R, 4, none⟩ = some (.slice ad5 n5 cap5) ∧
  Fresh W.heap.size wx.heap.size wx (.agg #[.int .i64 6, .bool false, .string ⟨#[]⟩, .slice ad7 its.length cap7, .slice ad5 n5 cap5]) (.node 6 false ⟨#[]⟩ its kk) ∧ Below W.heap.size W wx
theorem putEnd_of {W w7 : World} {R n5 : Nat} {its : List VT} {kk : List ByteArray} {ad5 : Option Addr} {cap5 : Nat} {ad7 : Option Addr} {cap7 : Nat} (h : PutDone W w7 R n5 its kk ad5 cap5 ad7 cap7) : PutEnd W (((((w7.setCell ⟨R, 0, none⟩ (.int .i64 6)).setCell ⟨R, 1, none⟩ (.bool false)).setCell ⟨R, 2, none⟩ (.string ⟨#[]⟩)).setCell ⟨R, 3, none⟩ (.slice ad7 its.length cap7)).setCell ⟨R, 4, none⟩ (.slice ad5 n5 cap5)) R n5 its kk := by
  obtain ⟨h1, h2, h3⟩ := h
  have h5 := h1.set5 (.int .i64 6) (.bool false) (.string ⟨#[]⟩) (.slice ad7 its.length cap7) (.slice ad5 n5 cap5)
  exact ⟨ad5, cap5, ad7, cap7, h5.cell 0, h5.cell 1, h5.cell 2, h5.cell 3, h5.cell 4, h2, h3⟩

end Go.Proofs.YtjgbhnbfojkhoaaGreatDoor
namespace Go.Proofs.YtjgbhnbfojkhoaaGreatDoor
open Go.RowKit
set_option linter.unusedVariables false

set_option maxRecDepth 100000 in
set_option maxHeartbeats 20000000 in
theorem vPut_no {B : Nat} {w : World} {v x : Value} {k : Int} {b : Bool} {t key : ByteArray} {its : List VT} {ks : List ByteArray} {X : VT} (h : Is B w v (.node k b t its ks)) (hx : Is B w x X) (hl : k = 6 → ks.length = its.length) (hr : k = 6 → Rising ks) (hsm : smallT (.node k b t its ks)) (hsx : smallT X) (h9 : ks.length ≤ 900000) (hno : k = 6 → ∀ p, KeyPlace ks key p → hasAt ks key p = false)
    (W : World) (hb : Below B w W) (hBW : B ≤ W.heap.size) : Calls Tryz.prog 19 #[v, .string key, x] W fun e w' => (∃ v' T, e = .returned v' ∧ Fresh W.heap.size w'.heap.size w' v' T ∧ PutIs k ks its key X T) ∧ Below W.heap.size W w' := by
  obtain ⟨kvm, ivm, km, ym, hM, hS, hI, hlen, hrel⟩ := memb_any h hl
  have hrm : Rising km := by
    rcases hrel with ⟨e1, rfl, -⟩ | ⟨-, rfl, -⟩
    · exact hr e1
    · exact fun i j hi _ _ => by simp at hi
  have hsm3 := (smallT_node.1 hsm).2.2
  have hsmy : ∀ e ∈ ym, smallT e.T := by
    rcases hrel with ⟨-, -, rfl⟩ | ⟨-, -, rfl⟩
    · exact fun e he => hsm3 _ (List.mem_map.2 ⟨e, he, rfl⟩)
    · exact fun e he => by cases he
  have hkm9 : km.length ≤ 900000 := by
    rcases hrel with ⟨-, rfl, -⟩ | ⟨-, rfl, -⟩
    · exact h9
    · simp
  have HNO := Lib.hid hno
  clear hno
  have HSTR := Lib.hid hS
  have HITM := Lib.hid hI
  have HREL := Lib.hid hrel
  have HRM := Lib.hid hrm
  have HSMY := Lib.hid hsmy
  have HSr := Lib.hid (fun W (hb : Below B w W) => search_any key (hS.below hb) hrm)
  have HM := Lib.hid hM
  obtain ⟨adk, capk, rfl, hkc, hkl, -⟩ := hS
  obtain ⟨adi, capi, rfl, hic, hil, hip, hok⟩ := hI
  rw [← hlen] at hic hil HM
  have HLE := Lib.hid hlen
  obtain ⟨n, hn⟩ : ∃ n, km.length = n := ⟨_, rfl⟩
  have HN := Lib.hid hn
  rw [hn] at hkc hkl hic hil HSr HM
  obtain ⟨kb, bb, tb, adb, nb, capb, adbk, nbk, capbk, rfl⟩ := h.shape
  obtain ⟨kx, bx, tx, adx, nx, capx, adxk, nxk, capxk, rfl⟩ := hx.shape
  have HEX : Hid ((It.mk kx bx tx (.slice adx nx capx) (.slice adxk nxk capxk) X).Ok B w) := Lib.hid hx
  have HSX := Lib.hid hsx
  have hn9 : n ≤ 900000 := by omega
  have HBb := Lib.hid hb
  have HBW := Lib.hid hBW
  rw [← hlen, hn] at HITM
  rw [hn] at HSTR
  clear hM hip hok hrel hrm hlen hn hsm hl hr h hb hBW hx hsm3 hsmy hkm9 h9 hsx
  have en : nil5 = #[.int .i64 0, .bool false, .string ⟨#[]⟩, .slice none 0 0, .slice none 0 0] := rfl
  have h3 := box3_new W #[.int .i64 kb, .bool bb, .string tb, .slice adb nb capb, .slice adbk nbk capbk] #[.int .i64 kx, .bool bx, .string tx, .slice adx nx capx, .slice adxk nxk capxk] nil5 26
  have H3 := Lib.hid h3
  rw [en] at H3
  clear h3
  go_enter Tryz.func19, Tryz.ntmps19
  go_wp2_with fail
  go_at_call 50; refine (HM.out _).mono ?_; rintro e w1 ⟨rfl, hb1⟩
  have HS1 : Hid (Below W.heap.size W w1 ∧ Blk w1 (W.heap.size + 1) #[.int .i64 kx, .bool bx, .string tx, .slice adx nx capx, .slice adxk nxk capxk] 26 ∧ Blk w1 (W.heap.size + 2) #[.int .i64 0, .bool false, .string ⟨#[]⟩, .slice none 0 0, .slice none 0 0] 26) := Lib.hid ⟨H3.out.1.trans (hb1.mono H3.out.1.size), H3.out.2.1.below hb1, H3.out.2.2.below hb1⟩
  clear hb1 H3
  go_wp2_with fail
  go_at_call 51; refine (HSr.out _ (HBb.out.trans (HS1.out.1.mono HBW.out))).mono ?_; rintro e w2 ⟨p, hp, rfl, rfl⟩
  have HP := Lib.hid hp
  have hpn : p ≤ n := by have := hp.1; have := HN.out; omega
  have hh : hasAt km key p = false := by
    rcases HREL.out with ⟨e1, e2, -⟩ | ⟨-, e2, -⟩
    · subst e2; exact HNO.out e1 p hp
    · rw [e2]; simp [hasAt]
  clear hp
  simp only [hh]
  have HH := Lib.hid hh
  have hqn : p ≤ n := hpn
  have hpq : p ≤ p := Nat.le_refl _
  clear hh
  have hA := fun W => headK_run adk n capk p hpn hkc W
  have hB := fun W => tailK_run adk n capk p hqn hkc W
  have hC := fun W => headV_run adi n capi p hpn hic W
  have hD := fun W => tailV_run adi n capi p hqn hic W
  have HCS : Hid (∀ (Wc : World) (S : Nat), Below w1.heap.size w1 Wc → S < Wc.heap.size → (Wc.cell? ⟨S, 0, none⟩ = some (.slice adk p capk) ∧ Wc.cell? ⟨S, 2, none⟩ = some (.slice (if capk = p then adk else adk.map (·.add (p * 1))) (n - p) (capk - p)) ∧ ∃ K, K < Wc.heap.size ∧ Wc.cell? ⟨S, 1, none⟩ = some (.slice (some ⟨K, 0, none⟩) 1 1) ∧ Wc.cell? ⟨K, 0, none⟩ = some (.string key)) → Calls Tryz.prog 53 #[.slice (some ⟨S, 0, none⟩) 3 3] Wc fun e w' => (∃ ad cap, e = .returned (.slice ad (p + 1 + (n - p)) cap) ∧ w'.ownsRow w1.heap.size 9 1 (.slice ad (p + 1 + (n - p)) cap) (p + 1 + (n - p)) ((km.take p ++ key :: km.drop p).map Value.string)) ∧ Below Wc.heap.size Wc w' ∧ Below w1.heap.size w1 w') := Lib.hid (fun Wc S hwc hS hc => putKeys HSTR.out hpq hqn hn9 (HBb.out.trans (HS1.out.1.mono HBW.out)) (Nat.le_trans HBW.out HS1.out.1.size) Wc S hwc (trioS hS hc))
  have HCV : Hid (∀ (w5 Wc : World) (S : Nat), Below w1.heap.size w1 Wc → Below w5.heap.size w5 Wc → S < Wc.heap.size → (Wc.cell? ⟨S, 0, none⟩ = some (.slice adi p capi) ∧ Wc.cell? ⟨S, 2, none⟩ = some (.slice (if capi = p then adi else adi.map (·.add (p * 5))) (n - p) (capi - p)) ∧ ∃ K, K < Wc.heap.size ∧ Wc.cell? ⟨S, 1, none⟩ = some (.slice (some ⟨K, 0, none⟩) 1 1) ∧ Wc.cell? ⟨K, 0, none⟩ = some (.int .i64 kx) ∧ Wc.cell? ⟨K, 1, none⟩ = some (.bool bx) ∧ Wc.cell? ⟨K, 2, none⟩ = some (.string tx) ∧ Wc.cell? ⟨K, 3, none⟩ = some (.slice adx nx capx) ∧ Wc.cell? ⟨K, 4, none⟩ = some (.slice adxk nxk capxk)) → Calls Tryz.prog 55 #[.slice (some ⟨S, 0, none⟩) 3 3] Wc fun e w' => (∃ ad cap, e = .returned (.slice ad (p + 1 + (n - p)) cap) ∧ ∀ W2, Below w'.heap.size w' W2 → Calls Tryz.prog 54 #[.slice ad (p + 1 + (n - p)) cap] W2 (ClonesAll ((ym.map It.T).take p ++ X :: (ym.map It.T).drop p) W2)) ∧ Below w5.heap.size w5 w' ∧ Below w1.heap.size w1 w') := Lib.hid (fun w5 Wc S hwc h5 hS hc => putItems (ex := It.mk kx bx tx (.slice adx nx capx) (.slice adxk nxk capxk) X) HITM.out HSMY.out HEX.out HSX.out hpq hqn hn9 (HBb.out.trans (HS1.out.1.mono HBW.out)) (Nat.le_trans HBW.out HS1.out.1.size) w5 Wc S hwc h5 (trioV hS hc))
  have HLK : Hid ((km.take p ++ key :: km.drop p).length = p + 1 + (n - p)) := Lib.hid (by have := HN.out; simp; omega)
  have HLI : Hid (((ym.map It.T).take p ++ X :: (ym.map It.T).drop p).length ≤ 1000000) := Lib.hid (by have := HN.out; have := HLE.out; simp; omega)
  have HPUT : Hid (PutIs k ks its key X (.node 6 false ⟨#[]⟩ ((ym.map It.T).take p ++ X :: (ym.map It.T).drop p) (km.take p ++ key :: km.drop p))) := Lib.hid (by
    rcases HREL.out with ⟨e1, e2, e3⟩ | ⟨e1, e2, e3⟩
    · subst e2
      subst e3
      exact .inl ⟨e1, p, HP.out, by rw [HH.out]; simp [one]⟩
    · subst e2
      subst e3
      exact .inr ⟨e1, by simp⟩)
  generalize (ym.map It.T).take p ++ X :: (ym.map It.T).drop p = its2 at HCV HLI HPUT
  generalize km.take p ++ key :: km.drop p = ks2 at HCS HLK HPUT
  obtain ⟨tk, htk⟩ : ∃ tk, (if capk = p then adk else adk.map (·.add (p * 1))) = tk := ⟨_, rfl⟩
  obtain ⟨tv, htv⟩ : ∃ tv, (if capi = p then adi else adi.map (·.add (p * 5))) = tv := ⟨_, rfl⟩
  obtain ⟨m2, hm2⟩ : ∃ m2, n - p = m2 := ⟨_, rfl⟩
  obtain ⟨ck2, hck2⟩ : ∃ m2, capk - p = m2 := ⟨_, rfl⟩
  obtain ⟨ci2, hci2⟩ : ∃ m2, capi - p = m2 := ⟨_, rfl⟩
  unfold tailOf at hB hD
  rw [htk, hm2, hck2] at hB HCS
  rw [htv, hm2, hci2] at hD HCV
  rw [hm2] at HLK
  obtain ⟨n5, hn5⟩ : ∃ n5, p + 1 + m2 = n5 := ⟨_, rfl⟩
  have hn59 : n5 ≤ 1000000 := by omega
  rw [hn5] at HCS HCV HLK
  clear htk htv hm2 hck2 hci2 hn5 HSTR HITM HSMY HEX HSX
  have x0 := HS1.out.2.1.cell 0
  have xa0 := fun o => (HS1.out.2.1.alloc o).cell 0
  have xb0 := fun o o' => ((HS1.out.2.1.alloc o).alloc o').cell 0
  have x1 := HS1.out.2.1.cell 1
  have xa1 := fun o => (HS1.out.2.1.alloc o).cell 1
  have xb1 := fun o o' => ((HS1.out.2.1.alloc o).alloc o').cell 1
  have x2 := HS1.out.2.1.cell 2
  have xa2 := fun o => (HS1.out.2.1.alloc o).cell 2
  have xb2 := fun o o' => ((HS1.out.2.1.alloc o).alloc o').cell 2
  have x3 := HS1.out.2.1.cell 3
  have xa3 := fun o => (HS1.out.2.1.alloc o).cell 3
  have xb3 := fun o o' => ((HS1.out.2.1.alloc o).alloc o').cell 3
  have x4 := HS1.out.2.1.cell 4
  have xa4 := fun o => (HS1.out.2.1.alloc o).cell 4
  have xb4 := fun o o' => ((HS1.out.2.1.alloc o).alloc o').cell 4
  have hlt1 : W.heap.size + 1 < w1.heap.size := HS1.out.2.1.lt
  have hlt2 : W.heap.size + 2 < w1.heap.size := HS1.out.2.2.lt
  go_upto_region 6 with fail
  go_cut [6] (fun s6 wx => s6 = .pointer (some ⟨W.heap.size + 2, 0, none⟩) ∧ PutEnd W wx (W.heap.size + 2) n5 its2 ks2)
  case first =>
    go_region_law (first
      | (go_simp; go_at_call 53; refine (HCS.out _ _ ?_ ?_ ?_).mono ?_; (first | exact (((Below.refl _ w1).alloc (by first | exact Nat.le_refl _ | (simp only [sz0, sz1]; omega) | (simp; omega) | omega) _).alloc (by first | exact Nat.le_refl _ | (simp only [sz0, sz1]; omega) | (simp; omega) | omega) _).drew | exact (((Below.refl _ w1).alloc (by first | exact Nat.le_refl _ | (simp only [sz0, sz1]; omega) | (simp; omega) | omega) _).alloc (by first | exact Nat.le_refl _ | (simp only [sz0, sz1]; omega) | (simp; omega) | omega) _) | exact ((((Below.refl _ w1).alloc (by first | exact Nat.le_refl _ | (simp only [sz0, sz1]; omega) | (simp; omega) | omega) _).alloc (by first | exact Nat.le_refl _ | (simp only [sz0, sz1]; omega) | (simp; omega) | omega) _).alloc (by first | exact Nat.le_refl _ | (simp only [sz0, sz1]; omega) | (simp; omega) | omega) _).drew | exact ((((Below.refl _ w1).alloc (by first | exact Nat.le_refl _ | (simp only [sz0, sz1]; omega) | (simp; omega) | omega) _).alloc (by first | exact Nat.le_refl _ | (simp only [sz0, sz1]; omega) | (simp; omega) | omega) _).alloc (by first | exact Nat.le_refl _ | (simp only [sz0, sz1]; omega) | (simp; omega) | omega) _) | exact (((((Below.refl _ w1).alloc (by first | exact Nat.le_refl _ | (simp only [sz0, sz1]; omega) | (simp; omega) | omega) _).alloc (by first | exact Nat.le_refl _ | (simp only [sz0, sz1]; omega) | (simp; omega) | omega) _).alloc (by first | exact Nat.le_refl _ | (simp only [sz0, sz1]; omega) | (simp; omega) | omega) _).alloc (by first | exact Nat.le_refl _ | (simp only [sz0, sz1]; omega) | (simp; omega) | omega) _).drew | exact (((((Below.refl _ w1).alloc (by first | exact Nat.le_refl _ | (simp only [sz0, sz1]; omega) | (simp; omega) | omega) _).alloc (by first | exact Nat.le_refl _ | (simp only [sz0, sz1]; omega) | (simp; omega) | omega) _).alloc (by first | exact Nat.le_refl _ | (simp only [sz0, sz1]; omega) | (simp; omega) | omega) _).alloc (by first | exact Nat.le_refl _ | (simp only [sz0, sz1]; omega) | (simp; omega) | omega) _)); (first | (go_simp; done) | (simp only [sz0, sz1]; omega) | (simp only [sz0, sz1] at *; omega) | omega); (first | (refine ⟨?_, ?_, w1.heap.size, ?_, ?_, ?_⟩ <;> (first | (go_simp; done) | (simp only [sz0, sz1]; omega) | omega)) | (refine ⟨?_, ?_, w1.heap.size + 1, ?_, ?_, ?_⟩ <;> (first | (go_simp; done) | (simp only [sz0, sz1]; omega) | omega)) | (refine ⟨?_, ?_, w1.heap.size + 1 + 1, ?_, ?_, ?_⟩ <;> (first | (go_simp; done) | (simp only [sz0, sz1]; omega) | omega))); rintro e w5 ⟨⟨ad5, cap5, rfl, hrow5⟩, hb5, hw5⟩; have hx5 := HS1.out.2.1.below hw5; have hs5 := hb5.size; (try simp at hs5); have hl5 : W.heap.size + 1 < w5.heap.size := hx5.lt; have g0 := hx5.cell 0; have g1 := hx5.cell 1; have g2 := hx5.cell 2; have g3 := hx5.cell 3; have g4 := hx5.cell 4)
      | (go_simp; go_at_call 55; refine (HCV.out w5 _ _ ?_ ?_ ?_ ?_).mono ?_; (have h5s := hw5.size; first | exact hw5 | exact hw5.drew | exact hw5.alloc (by omega) _ | exact (hw5.alloc (by omega) _).drew | exact (hw5.alloc (by omega) _).alloc (by simp; omega) _ | exact ((hw5.alloc (by omega) _).alloc (by simp; omega) _).drew); (first | exact Below.refl _ _ | exact (Below.refl _ _).drew | exact ((Below.refl _ w5).alloc (by first | exact Nat.le_refl _ | (simp only [sz0, sz1]; omega) | (simp; omega) | omega) _).drew | exact ((Below.refl _ w5).alloc (by first | exact Nat.le_refl _ | (simp only [sz0, sz1]; omega) | (simp; omega) | omega) _) | exact (((Below.refl _ w5).alloc (by first | exact Nat.le_refl _ | (simp only [sz0, sz1]; omega) | (simp; omega) | omega) _).alloc (by first | exact Nat.le_refl _ | (simp only [sz0, sz1]; omega) | (simp; omega) | omega) _).drew | exact (((Below.refl _ w5).alloc (by first | exact Nat.le_refl _ | (simp only [sz0, sz1]; omega) | (simp; omega) | omega) _).alloc (by first | exact Nat.le_refl _ | (simp only [sz0, sz1]; omega) | (simp; omega) | omega) _)); (first | (go_simp; done) | (simp only [sz0, sz1]; omega) | (simp only [sz0, sz1] at *; omega) | omega); (first | (refine ⟨?_, ?_, w5.heap.size, ?_, ?_, ?_, ?_, ?_, ?_, ?_⟩ <;> (first | (go_simp; done) | (refine cells_keep hb5 ?_; go_simp; done) | (refine cells_keep (below_new _ _) (cells_keep hb5 ?_); go_simp; done) | (simp only [sz0, sz1]; omega) | (simp only [sz0, sz1] at *; omega) | omega)) | (refine ⟨?_, ?_, w1.heap.size, ?_, ?_, ?_, ?_, ?_, ?_, ?_⟩ <;> (first | (go_simp; done) | (refine cells_keep hb5 ?_; go_simp; done) | (refine cells_keep (below_new _ _) (cells_keep hb5 ?_); go_simp; done) | (simp only [sz0, sz1]; omega) | (simp only [sz0, sz1] at *; omega) | omega)) | (refine ⟨?_, ?_, w1.heap.size + 1, ?_, ?_, ?_, ?_, ?_, ?_, ?_⟩ <;> (first | (go_simp; done) | (refine cells_keep hb5 ?_; go_simp; done) | (refine cells_keep (below_new _ _) (cells_keep hb5 ?_); go_simp; done) | (simp only [sz0, sz1]; omega) | (simp only [sz0, sz1] at *; omega) | omega)) | (refine ⟨?_, ?_, w1.heap.size + 1 + 1, ?_, ?_, ?_, ?_, ?_, ?_, ?_⟩ <;> (first | (go_simp; done) | (refine cells_keep hb5 ?_; go_simp; done) | (refine cells_keep (below_new _ _) (cells_keep hb5 ?_); go_simp; done) | (simp only [sz0, sz1]; omega) | (simp only [sz0, sz1] at *; omega) | omega))); rintro e w6 ⟨⟨ad6, cap6, rfl, hca6⟩, hb6, hw6⟩)
      | (go_simp; go_at_call 54; refine (hca6 _ ?_).mono ?_; (first | exact Below.refl _ _ | exact (Below.refl _ _).drew); rintro e w7 ⟨ad7, cap7, rfl, hit7, hb7⟩; have hr7 := HS1.out.2.2.below (hw6.trans (hb7.mono hw6.size)); have f0 := hr7.frozen 0; have f1 := hr7.frozen 1; have f2 := hr7.frozen 2; have f3 := hr7.frozen 3; have f4 := hr7.frozen 4; have q0 := hr7.cell 0; have q1 := hr7.cell 1; have q2 := hr7.cell 2; have q3 := hr7.cell 3; have q4 := hr7.cell 4))
    all_goals
      have HEND := Lib.hid (putEnd_of ⟨hr7, put_end (R := W.heap.size + 2) HS1.out.1 (by omega) hlt2 hrow5 HLK.out hn59 (hb6.trans (hb7.mono hb6.size)) (hw6.trans (hb7.mono hw6.size)) hit7 hw6.size HLI.out⟩)
      clear f0 f1 f2 f3 f4 q0 q1 q2 q3 q4 hA hB hC hD HCS HCV hca6 hs5 hrow5 hit7 hb5 hw5 hb6 hw6 hb7 hr7
      go_wp2_with fail
      go_meet
      exact ⟨rfl, HEND.out⟩
  case rest =>
    obtain ⟨rfl, hx⟩ := hcut
    obtain ⟨ad5, cap5, ad7, cap7, d0, d1, d2, d3, d4, hfr, hbl⟩ := hx
    have HD := Lib.hid (And.intro hfr hbl)
    clear hfr hbl hA hB hC hD HCS HCV HP HH HLK HLI HS1
    go_wp2
    refine bodyPost_ret (v := .agg #[.int .i64 6, .bool false, .string ⟨#[]⟩, .slice ad7 its2.length cap7, .slice ad5 n5 cap5]) ?_ rfl ⟨⟨_, _, rfl, HD.out.1, HPUT.out⟩, HD.out.2⟩
    simp [results, Tryz.results19, go_sem, d0, d1, d2, d3, d4]

end Go.Proofs.YtjgbhnbfojkhoaaGreatDoor
