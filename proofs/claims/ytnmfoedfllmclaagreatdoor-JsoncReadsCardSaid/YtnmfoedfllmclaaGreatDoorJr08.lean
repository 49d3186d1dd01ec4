/- value.Object of any items: the walk -/
import Derived.Test.YtnmfoedfllmclaaGreatDoorJr07
namespace Go.Proofs.YtnmfoedfllmclaaGreatDoor
open Go.RowKit Go.Sort Go.Shelf
set_option linter.unusedVariables false

/-- What Object answers: the keys in order, and clones of their items. -/
def ObjectIs (w : World) (ks : List ByteArray) (Ts : List VT) (ps : List Nat) (e : Ending) (w' : World) : Prop := ∃ v', e = .returned (.tuple #[v', .int .i64 0]) ∧ Fresh w.heap.size w'.heap.size w' v' (.node 6 false ⟨#[]⟩ (treeL Ts ps ps.length) (keyL ks ps ps.length)) ∧ Below w.heap.size w w'

/-- Two keys that stand side by side differ. -/
def Differ (ks : List ByteArray) (ps : List Nat) (j : Nat) : Prop := ((ks.getD (ps.getD j 0) ⟨#[]⟩).toList == (ks.getD (ps.getD (j + 1) 0) ⟨#[]⟩).toList) = false
/-- How Object ends: by whatever order the places came. -/
def ObjectEnds (w : World) (ks : List ByteArray) (Ts : List VT) (PO : List Nat → Prop) (e : Ending) (w' : World) : Prop := ∃ ps, PO ps ∧ ((ObjectIs w ks Ts ps e w' ∧ ∀ j, j + 1 < ps.length → Differ ks ps j) ∨ (e = .returned (.tuple #[.agg #[.int .i64 0, .bool false, .string ⟨#[]⟩, .slice none 0 0, .slice none 0 0], .int .i64 2]) ∧ Below w.heap.size w w' ∧ ∃ j, j + 1 < ps.length ∧ ¬ Differ ks ps j))

set_option maxRecDepth 100000 in
set_option maxHeartbeats 16000000 in
theorem object_gen {w : World} {kv iv : Value} {ks : List ByteArray} {xs : List It} {PO : List Nat → Prop} (hPO : ∀ ps, PO ps → ps.length = ks.length ∧ ∀ k, k < ps.length → ps.getD k 0 < ks.length) (hk : StrsAt w.heap.size w kv ks) (hx : ItemsAt w.heap.size w iv xs) (hsm : ∀ e ∈ xs, smallT e.T) (hl : xs.length = ks.length) (h0 : 0 < ks.length) (hbig : ks.length ≤ 1000000)
    (HP : Hid (∀ W, Below w.heap.size w W → Calls Tryz.prog 101 #[kv] W fun e w' => ∃ ps, PO ps ∧ e = .returned (.slice (some ⟨W.heap.size + 1, 0, none⟩) ks.length ks.length) ∧ Below W.heap.size W w' ∧ W.heap.size + 1 < w'.heap.size ∧ ∀ j, j < ks.length → w'.cell? ⟨W.heap.size + 1, j, none⟩ = some (.int .i64 ((ps.getD j 0 : Nat) : Int)))) :
    Calls Tryz.prog 82 #[kv, iv] w fun e w' => ObjectEnds w ks (xs.map It.T) PO e w' := by
  obtain ⟨ad, cap, rfl, hnc, hcap, hks⟩ := hk
  obtain ⟨adx, capx, rfl, hncx, hcapx, hxs, hok⟩ := hx
  obtain ⟨iS, hiS, hzS, hsS, hbS⟩ := info_parts Tryz.infoStr
  obtain ⟨iV, zV, hiV, hzV, hzV5, hsV, hbV⟩ := info_val
  obtain ⟨g, o, rfl, hg, hkc⟩ := hks h0
  obtain ⟨gx, ox, rfl, hgx, hxc⟩ := hxs (by omega)
  have HK := Lib.hid hkc
  have HX := Lib.hid hxc
  have HPO := Lib.hid hPO
  have HL := Lib.hid hl
  have HOK := Lib.hid hok
  have HCl := Lib.hid (fun (e : It) (he : e ∈ xs) (W : World) (hb : Below w.heap.size w W) => clone_any (hok e he) (hsm e he) W hb hb.size)
  obtain ⟨Ts, hTs⟩ : ∃ Ts, xs.map It.T = Ts := ⟨_, rfl⟩
  rw [hTs]
  have HTs := Lib.hid hTs
  obtain ⟨n, hn⟩ : ∃ n, ks.length = n := ⟨_, rfl⟩
  rw [hl] at hncx ⊢
  rw [hn] at hnc hncx HP h0 hbig ⊢
  have HN := Lib.hid hn
  clear hks hxs hkc hxc hPO hl hn hok hsm hTs
  have HB0 := below_new w (.cells nil5 26)
  have HR0 := Blk.new w nil5 26
  have HB1 := HB0.alloc HB0.size (.cells #[.int .i64 6, .bool false, .string ⟨#[]⟩, .slice none 0 0, .slice none 0 0] 26)
  have HPl := Lib.hid (HP.out _ HB1)
  have en : nil5 = #[.int .i64 0, .bool false, .string ⟨#[]⟩, .slice none 0 0, .slice none 0 0] := rfl
  rw [en] at HB0 HR0 HB1 HPl
  go_enter Tryz.func82, Tryz.ntmps82
  go_wp2_with (go_at_call 101; refine HPl.out.mono ?_; rintro e w1 ⟨ps, hpo, rfl, hb, hsz, hcells⟩)
  have hps : ps.length = n := ((HPO.out ps hpo).1).trans HN.out
  have HPP := Lib.hid (HPO.out ps hpo).2
  have HOKP := Lib.hid hpo
  clear hpo
  have e2 : ((w.alloc (.cells #[.int .i64 0, .bool false, .string ⟨#[]⟩, .slice none 0 0, .slice none 0 0] 26)).alloc (.cells #[.int .i64 6, .bool false, .string ⟨#[]⟩, .slice none 0 0, .slice none 0 0] 26)).heap.size = w.heap.size + 2 := by simp
  have HO0 := Blk.new (w.alloc (.cells #[.int .i64 0, .bool false, .string ⟨#[]⟩, .slice none 0 0, .slice none 0 0] 26)) #[.int .i64 6, .bool false, .string ⟨#[]⟩, .slice none 0 0, .slice none 0 0] 26
  have hR1 := (HR0.alloc (.cells #[.int .i64 6, .bool false, .string ⟨#[]⟩, .slice none 0 0, .slice none 0 0] 26)).below hb
  have hO1 := HO0.below hb
  rw [show (w.alloc (.cells #[.int .i64 0, .bool false, .string ⟨#[]⟩, .slice none 0 0, .slice none 0 0] 26)).heap.size = w.heap.size + 1 by simp] at hO1
  have hBw : Below w.heap.size w w1 := HB1.trans (hb.mono HB1.size)
  rw [e2] at hsz hcells
  rw [← en] at hR1
  have hobj : ObjSt w w1 ks Ts ps 0 0 (.slice none 0 0) (.slice none 0 0) [] := ⟨⟨hR1, hO1, ⟨rfl, .inl ⟨rfl, rfl⟩⟩, ⟨rfl, .inl ⟨rfl, rfl⟩⟩, fun a u hF => by obtain ⟨j, hj, rfl, rfl⟩ := hF; exact hcells j (by omega), fun a u hF => by obtain ⟨j, hj, rfl, rfl⟩ := hF; exact ⟨Nat.le_refl _, by show w.heap.size + 3 ≠ w.heap.size + 1; omega⟩, hBw, fun g h => (by cases h), fun g h => (by cases h), fun g h => (by cases h), by omega, by omega, by omega, by omega, by omega, by omega⟩, by omega, rfl, rfl, fun e he => by cases he⟩
  clear hcells hO1 HO0 HR0 HB0 HB1 HPl hb hR1 hBw hsz e2
  go_loopw [8, 9, 20] (fun _ _ iv wr => ∃ (k : Nat) (kv iv2 : Value) (yy : List It), iv = .int .i64 k ∧ k ≤ n ∧ Hid (ObjSt w wr ks Ts ps k k kv iv2 yy) ∧ Hid (∀ j, j + 1 < k → Differ ks ps j)) (fun _ _ iv _ => n - (intOf iv).toNat)
  case atStart => exact ⟨0, _, _, _, rfl, by omega, Lib.hid hobj, Lib.hid (fun j h => by omega)⟩
  case round =>
    obtain ⟨k, kv, iv2, yy, rfl, hkn, HO, HDF⟩ := hrel
    clear hobj
    obtain ⟨adk, capk, rfl⟩ := row_shape HO.out.keys
    obtain ⟨adi, capi, rfl⟩ := row_shape HO.out.items
    have hb0 := HO.out.grow.box.cell 0
    have hb1 := HO.out.grow.box.cell 1
    have hb2 := HO.out.grow.box.cell 2
    have hb3 := HO.out.grow.box.cell 3
    have hb4 := HO.out.grow.box.cell 4
    by_cases hlt : k < n
    · obtain ⟨p, hpk⟩ : ∃ p, ps.getD k 0 = p := ⟨_, rfl⟩
      have hpl : k < ps.length := by omega
      have hpn : p < n := by rw [← hpk, ← HN.out]; exact HPP.out k hpl
      have hcp := HO.out.places k hpl
      rw [hpk] at hcp
      have hkp : wr.cell? ⟨g, o + p, none⟩ = some (.string (ks.getD p ⟨#[]⟩)) := by
        have h1 : p < ks.length := by rw [HN.out]; exact hpn
        rw [show ks.getD p ⟨#[]⟩ = ks[p] by simp [List.getD, h1]]
        exact (HO.out.grow.below.cell (p := ⟨g, o + p, none⟩) hg).trans (HK.out p h1)
      obtain ⟨kp, hkpe⟩ : ∃ kp, ks.getD p ⟨#[]⟩ = kp := ⟨_, rfl⟩
      rw [hkpe] at hkp
      have i1 : (0 : Int) ≤ (k : Int) := by omega
      have i2 : (k : Int) < (n : Int) := by omega
      have i3 : (0 : Int) ≤ (p : Int) := by omega
      have i4 : (p : Int) < (n : Int) := by omega
      rcases Nat.eq_zero_or_pos k with hk0 | hk0
      · subst hk0
        have HDF2 : Hid (∀ j, j + 1 < 0 + 1 → Differ ks ps j) := Lib.hid (fun j h => by omega)
        go_wp2_with fail
        go_quiet (fail)
        go_wp2_with fail
        obtain ⟨W2, hW2⟩ : ∃ W2, (wr.drewN nq).drew = W2 := ⟨_, rfl⟩
        have HO2 : Hid (ObjSt w W2 ks Ts ps 0 0 (.slice adk 0 capk) (.slice adi 0 capi) yy) := by rw [← hW2]; exact (HO.out.drewN nq).drew
        have ck : W2.cell? ⟨g, o + p, none⟩ = some (.string kp) := by rw [← hW2]; exact hkp
        have c4 := HO2.out.grow.box.cell 4
        have f4 := (HO2.out.grow.box.alloc (.cells #[.string kp] 9)).frozen 4
        have hrow := HO2.out.keys.alloc (.cells #[.string kp] 9)
        have hOlt : w.heap.size + 1 < W2.heap.size := HO2.out.grow.box.lt
        have hglt : g < W2.heap.size := by omega
        have c4a := (HO2.out.grow.box.alloc (.cells #[.string kp] 9)).cell 4
        have hle2 := HO2.out.grow.below.size
        clear hb0 hb1 hb2 hb3 hb4 hkp hcp
        refine have AFTER : (∀ (w3 : World) (g2 cap2 : Nat), (w3.ownsRow w.heap.size 9 1 (.slice (some ⟨g2, 0, none⟩) (0 + 1) cap2) (0 + 1) (keysOf ks ps 0 ++ [.string kp])) ∧ (W2.alloc (.cells #[.string kp] 9)).grownBy w3 (Value.slice adk 0 capk).ownBlock ∧ ((Value.slice adk 0 capk).ownBlock = some g2 ∨ g2 = (W2.alloc (.cells #[.string kp] 9)).heap.size) ∧ g2 < w3.heap.size → (?G : World → Nat → Nat → Prop) w3 g2 cap2) := ?later; ?main
        case main =>
          go_region_law (refine step_append_lies _ rfl (.tmp 44) (.tmp 49) 24 rfl w.heap.size 9 iS (.string ⟨#[]⟩) 1 16 Tryz.underlying24 hiS hzS hsS hbS rfl (by decide) _ _ _ rfl hrow ⟨W2.heap.size, 0, none⟩ 1 1 [.string kp] rfl rfl (cell_box _ _ _) (by intro u hu; simp at hu; subst hu; rfl) (by decide) (by unfold maxLen; omega) (by omega) (by simp; omega) _ rfl ?_; intro g2 cap2 w3 hown3 hgrow3 hat3 hlt3; have hbx3 := (HO2.out.grow.box.alloc (.cells #[.string kp] 9)).grows hgrow3 (ne_row HO2.out.grow.kfar (by omega)); have c34 := hbx3.cell 4; have f34 := hbx3.frozen 4)
          all_goals exact AFTER w3 g2 cap2 ⟨hown3, hgrow3, hat3, hlt3⟩
        case later =>
          intro w3 g2 cap2 ⟨hown3, hgrow3, hat3, hlt3⟩
          clear hrow f4 c4a ck c4
          have HO3 : Hid (ObjSt w (w3.setCell ⟨w.heap.size + 1, 4, none⟩ (.slice (some ⟨g2, 0, none⟩) (0 + 1) cap2)) ks Ts ps (0 + 1) 0 (.slice (some ⟨g2, 0, none⟩) (0 + 1) cap2) (.slice adi 0 capi) yy) := Lib.hid (HO2.out.key hpl (by rw [hpk]; exact hkpe) hown3 hgrow3 hat3 hlt3)
          obtain ⟨W4, hW4⟩ : ∃ W4, w3.setCell ⟨w.heap.size + 1, 4, none⟩ (.slice (some ⟨g2, 0, none⟩) (0 + 1) cap2) = W4 := ⟨_, rfl⟩
          rw [hW4] at HO3
          clear hown3 hgrow3 hat3 hlt3 hglt hOlt
          go_wp2_with fail
          obtain ⟨W5, hW5⟩ : ∃ W5, W4.drew = W5 := ⟨_, rfl⟩
          have HO5 : Hid (ObjSt w W5 ks Ts ps (0 + 1) 0 (.slice (some ⟨g2, 0, none⟩) (0 + 1) cap2) (.slice adi 0 capi) yy) := by rw [← hW5]; exact HO3.out.drew
          have hxl : p < xs.length := by have := HL.out; have := HN.out; omega
          have hxc := HX.out p hxl
          obtain ⟨x, hxp⟩ : ∃ x, xs[p]'hxl = x := ⟨_, rfl⟩
          have hxm : x ∈ xs := by rw [← hxp]; exact List.getElem_mem hxl
          rw [hxp] at hxc
          obtain ⟨sa, sn, sc, sk, sm, sd, sh1, sh2⟩ := (HOK.out x hxm).shape
          have hTx : Ts.getD p noTree = x.T := by rw [← HTs.out, List.getD, List.getElem?_map, List.getElem?_eq_getElem hxl, hxp]; rfl
          have HTX := Lib.hid hTx
          have HCx := Lib.hid (HCl.out x hxm W5 HO5.out.grow.below)
          obtain ⟨x1, x2, x3, x4, x5, xT⟩ := x
          simp only at sh1 sh2 hxc
          subst sh1
          subst sh2
          unfold It.val at HCx
          simp only at HCx HTX
          have cx0 := (HO5.out.grow.below.cell (p := ⟨gx, ox + p * 5, none⟩) hgx).trans hxc.1
          have cx1 := (HO5.out.grow.below.cell (p := ⟨gx, ox + p * 5 + 1, none⟩) hgx).trans hxc.2.1
          have cx2 := (HO5.out.grow.below.cell (p := ⟨gx, ox + p * 5 + 2, none⟩) hgx).trans hxc.2.2.1
          have cx3 := (HO5.out.grow.below.cell (p := ⟨gx, ox + p * 5 + 3, none⟩) hgx).trans hxc.2.2.2.1
          have cx4 := (HO5.out.grow.below.cell (p := ⟨gx, ox + p * 5 + 4, none⟩) hgx).trans hxc.2.2.2.2
          have c3 := HO5.out.grow.box.cell 3
          clear hxc hxp hTx hxm
          refine have AFTER2 : (∀ (W6 w7 : World) (g3 cap3 : Nat) (y1 : Int) (y2 : Bool) (y3 : ByteArray) (ya : Option Addr) (yn yc : Nat) (yk : Option Addr) (ym yd : Nat), Below W5.heap.size W5 W6 ∧ Fresh W5.heap.size W6.heap.size W6 (.agg #[.int .i64 y1, .bool y2, .string y3, .slice ya yn yc, .slice yk ym yd]) xT ∧ (w7.ownsRow w.heap.size 26 5 (.slice (some ⟨g3, 0, none⟩) (0 + 1) cap3) (0 + 1) (yy.flatMap It.cells ++ [.int .i64 y1, .bool y2, .string y3, .slice ya yn yc, .slice yk ym yd])) ∧ (W6.alloc (.cells #[.int .i64 y1, .bool y2, .string y3, .slice ya yn yc, .slice yk ym yd] 26)).grownBy w7 (Value.slice adi 0 capi).ownBlock ∧ ((Value.slice adi 0 capi).ownBlock = some g3 ∨ g3 = (W6.alloc (.cells #[.int .i64 y1, .bool y2, .string y3, .slice ya yn yc, .slice yk ym yd] 26)).heap.size) ∧ g3 < w7.heap.size → (?G2 : World → World → Nat → Nat → Int → Bool → ByteArray → Option Addr → Nat → Nat → Option Addr → Nat → Nat → Prop) W6 w7 g3 cap3 y1 y2 y3 ya yn yc yk ym yd) := ?later2; ?main2
          case main2 =>
            go_region_law (first
              | (refine step_append_lies _ rfl (.tmp 53) (.tmp 59) 23 rfl w.heap.size 26 iV zV 5 80 Tryz.underlying23 hiV hzV hsV hbV (by rw [hzV5]; rfl) (by decide) _ _ _ rfl hrow6 ⟨W6.heap.size, 0, none⟩ 1 1 [.int .i64 y1, .bool y2, .string y3, .slice ya yn yc, .slice yk ym yd] rfl rfl (World.news_of_block hblk6) (by intro u hu; simp at hu; rcases hu with rfl | rfl | rfl | rfl | rfl <;> rfl) (by decide) (by unfold maxLen; omega) (by omega) (by have := HO6.out.grow.below.size; simp; omega) _ rfl ?_; intro g3 cap3 w7 hown7 hgrow7 hat7 hlt7; have hbx7 := (HO6.out.grow.box.alloc (.cells #[.int .i64 y1, .bool y2, .string y3, .slice ya yn yc, .slice yk ym yd] 26)).grows hgrow7 (ne_row HO6.out.grow.ifar (by omega)); have c37 := hbx7.cell 3; have f37 := hbx7.frozen 3)
              | (go_simp; go_at_call 102; refine HCx.out.mono ?_; rintro e W6 ⟨yv, rfl, hfr6, hb6⟩; obtain ⟨y1, y2, y3, ya, yn, yc, yk, ym, yd, rfl⟩ := hfr6.shape; have HFR6 := Lib.hid hfr6; have HO6 := Lib.hid (HO5.out.later hb6); have c36 := HO6.out.grow.box.cell 3; have hrow6 := HO6.out.items.alloc (.cells #[.int .i64 y1, .bool y2, .string y3, .slice ya yn yc, .slice yk ym yd] 26); have hblk6 := World.alloc_heap_new W6 (.cells #[.int .i64 y1, .bool y2, .string y3, .slice ya yn yc, .slice yk ym yd] 26); have c36a := (HO6.out.grow.box.alloc (.cells #[.int .i64 y1, .bool y2, .string y3, .slice ya yn yc, .slice yk ym yd] 26)).cell 3; have hle6 := HO6.out.grow.box.lt; clear hfr6))
            all_goals exact AFTER2 W6 w7 g3 cap3 y1 y2 y3 ya yn yc yk ym yd ⟨hb6, HFR6.out, hown7, hgrow7, hat7, hlt7⟩
          case later2 =>
            intro W6 w7 g3 cap3 y1 y2 y3 ya yn yc yk ym yd ⟨hb6, hfr6, hown7, hgrow7, hat7, hlt7⟩
            have HO7 : Hid (ObjSt w (w7.setCell ⟨w.heap.size + 1, 3, none⟩ (.slice (some ⟨g3, 0, none⟩) (0 + 1) cap3)) ks Ts ps (0 + 1) (0 + 1) (.slice (some ⟨g2, 0, none⟩) (0 + 1) cap2) (.slice (some ⟨g3, 0, none⟩) (0 + 1) cap3) (yy ++ [⟨y1, y2, y3, .slice ya yn yc, .slice yk ym yd, xT⟩])) := Lib.hid (HO5.out.item (e := ⟨y1, y2, y3, .slice ya yn yc, .slice yk ym yd, xT⟩) hb6 hfr6 hpl (by rw [hpk]; exact HTX.out) hown7 hgrow7 hat7 hlt7)
            clear cx0 cx1 cx2 cx3 cx4 c3 hown7 hgrow7 hat7 hlt7 hb6 hfr6
            go_wp2
            go_roundw
            case rel => exact ⟨0 + 1, _, _, _, by go_num, by omega, HO7, HDF2⟩
            case measure => simp [intOf]; omega
      · have hfm := World.ownsRow.form HO.out.keys hk0
        obtain ⟨gk, capk', e1, hgk1, hgk2⟩ := hfm
        cases e1
        have hck := World.ownsRow.cells HO.out.keys (g := gk) rfl (k - 1) _ (keysOf_at (by omega) (by omega))
        rw [Lib.add_plain, Nat.zero_add] at hck
        obtain ⟨l, hkl1⟩ : ∃ l, k = l + 1 := ⟨k - 1, by omega⟩
        subst hkl1
        rw [Nat.add_sub_cancel] at hck
        have HDFe : Hid (Differ ks ps l ↔ ((ks.getD (ps.getD l 0) ⟨#[]⟩).toList == (ks.getD p ⟨#[]⟩).toList) = false) := Lib.hid (by unfold Differ; rw [hpk])
        obtain ⟨kl, hkl⟩ : ∃ kl, ks.getD (ps.getD l 0) ⟨#[]⟩ = kl := ⟨_, rfl⟩
        rw [hkl, hkpe] at HDFe
        rw [hkl] at hck
        have i5 : (0 : Int) ≤ (l : Int) := by omega
        have i6 : (l : Int) < ((l + 1 : Nat) : Int) := by omega
        have i7 : (l : Int) < (l : Int) + 1 := by omega
        have i8 : (l : Int) < (n : Int) := by omega
        have ck0 : wr.cell? ⟨g, o + p, none⟩ = some (.string kp) := hkp
        cases hdf : (kl.toList == kp.toList)
        · have HDF2 : Hid (∀ j, j + 1 < (l + 1) + 1 → Differ ks ps j) := Lib.hid (fun j h => by
            rcases Nat.lt_or_ge (j + 1) (l + 1) with h1 | h1
            · exact HDF.out j h1
            · obtain rfl : j = l := by omega
              exact HDFe.out.2 hdf)
          go_wp2_with fail
          go_quiet (fail)
          go_wp2_with fail
          obtain ⟨W2, hW2⟩ : ∃ W2, (wr.drewN nq).drew = W2 := ⟨_, rfl⟩
          have HO2 : Hid (ObjSt w W2 ks Ts ps (l + 1) (l + 1) (.slice (some ⟨gk, 0, none⟩) (l + 1) capk) (.slice adi (l + 1) capi) yy) := by rw [← hW2]; exact (HO.out.drewN nq).drew
          have ck : W2.cell? ⟨g, o + p, none⟩ = some (.string kp) := by rw [← hW2]; exact hkp
          have c4 := HO2.out.grow.box.cell 4
          have f4 := (HO2.out.grow.box.alloc (.cells #[.string kp] 9)).frozen 4
          have hrow := HO2.out.keys.alloc (.cells #[.string kp] 9)
          have hOlt : w.heap.size + 1 < W2.heap.size := HO2.out.grow.box.lt
          have hglt : g < W2.heap.size := by omega
          have c4a := (HO2.out.grow.box.alloc (.cells #[.string kp] 9)).cell 4
          have hle2 := HO2.out.grow.below.size
          clear hb0 hb1 hb2 hb3 hb4 hkp hcp
          refine have AFTER : (∀ (w3 : World) (g2 cap2 : Nat), (w3.ownsRow w.heap.size 9 1 (.slice (some ⟨g2, 0, none⟩) ((l + 1) + 1) cap2) ((l + 1) + 1) (keysOf ks ps (l + 1) ++ [.string kp])) ∧ (W2.alloc (.cells #[.string kp] 9)).grownBy w3 (Value.slice (some ⟨gk, 0, none⟩) (l + 1) capk).ownBlock ∧ ((Value.slice (some ⟨gk, 0, none⟩) (l + 1) capk).ownBlock = some g2 ∨ g2 = (W2.alloc (.cells #[.string kp] 9)).heap.size) ∧ g2 < w3.heap.size → (?Gc : World → Nat → Nat → Prop) w3 g2 cap2) := ?laterc; ?mainc
          case mainc =>
            go_region_law (refine step_append_lies _ rfl (.tmp 44) (.tmp 49) 24 rfl w.heap.size 9 iS (.string ⟨#[]⟩) 1 16 Tryz.underlying24 hiS hzS hsS hbS rfl (by decide) _ _ _ rfl hrow ⟨W2.heap.size, 0, none⟩ 1 1 [.string kp] rfl rfl (cell_box _ _ _) (by intro u hu; simp at hu; subst hu; rfl) (by decide) (by unfold maxLen; omega) (by omega) (by simp; omega) _ rfl ?_; intro g2 cap2 w3 hown3 hgrow3 hat3 hlt3; have hbx3 := (HO2.out.grow.box.alloc (.cells #[.string kp] 9)).grows hgrow3 (ne_row HO2.out.grow.kfar (by omega)); have c34 := hbx3.cell 4; have f34 := hbx3.frozen 4)
            all_goals exact AFTER w3 g2 cap2 ⟨hown3, hgrow3, hat3, hlt3⟩
          case laterc =>
            intro w3 g2 cap2 ⟨hown3, hgrow3, hat3, hlt3⟩
            clear hrow f4 c4a ck c4
            have HO3 : Hid (ObjSt w (w3.setCell ⟨w.heap.size + 1, 4, none⟩ (.slice (some ⟨g2, 0, none⟩) ((l + 1) + 1) cap2)) ks Ts ps ((l + 1) + 1) (l + 1) (.slice (some ⟨g2, 0, none⟩) ((l + 1) + 1) cap2) (.slice adi (l + 1) capi) yy) := Lib.hid (HO2.out.key hpl (by rw [hpk]; exact hkpe) hown3 hgrow3 hat3 hlt3)
            obtain ⟨W4, hW4⟩ : ∃ W4, w3.setCell ⟨w.heap.size + 1, 4, none⟩ (.slice (some ⟨g2, 0, none⟩) ((l + 1) + 1) cap2) = W4 := ⟨_, rfl⟩
            rw [hW4] at HO3
            clear hown3 hgrow3 hat3 hlt3 hglt hOlt
            go_wp2_with fail
            obtain ⟨W5, hW5⟩ : ∃ W5, W4.drew = W5 := ⟨_, rfl⟩
            have HO5 : Hid (ObjSt w W5 ks Ts ps ((l + 1) + 1) (l + 1) (.slice (some ⟨g2, 0, none⟩) ((l + 1) + 1) cap2) (.slice adi (l + 1) capi) yy) := by rw [← hW5]; exact HO3.out.drew
            have hxl : p < xs.length := by have := HL.out; have := HN.out; omega
            have hxc := HX.out p hxl
            obtain ⟨x, hxp⟩ : ∃ x, xs[p]'hxl = x := ⟨_, rfl⟩
            have hxm : x ∈ xs := by rw [← hxp]; exact List.getElem_mem hxl
            rw [hxp] at hxc
            obtain ⟨sa, sn, sc, sk, sm, sd, sh1, sh2⟩ := (HOK.out x hxm).shape
            have hTx : Ts.getD p noTree = x.T := by rw [← HTs.out, List.getD, List.getElem?_map, List.getElem?_eq_getElem hxl, hxp]; rfl
            have HTX := Lib.hid hTx
            have HCx := Lib.hid (HCl.out x hxm W5 HO5.out.grow.below)
            obtain ⟨x1, x2, x3, x4, x5, xT⟩ := x
            simp only at sh1 sh2 hxc
            subst sh1
            subst sh2
            unfold It.val at HCx
            simp only at HCx HTX
            have cx0 := (HO5.out.grow.below.cell (p := ⟨gx, ox + p * 5, none⟩) hgx).trans hxc.1
            have cx1 := (HO5.out.grow.below.cell (p := ⟨gx, ox + p * 5 + 1, none⟩) hgx).trans hxc.2.1
            have cx2 := (HO5.out.grow.below.cell (p := ⟨gx, ox + p * 5 + 2, none⟩) hgx).trans hxc.2.2.1
            have cx3 := (HO5.out.grow.below.cell (p := ⟨gx, ox + p * 5 + 3, none⟩) hgx).trans hxc.2.2.2.1
            have cx4 := (HO5.out.grow.below.cell (p := ⟨gx, ox + p * 5 + 4, none⟩) hgx).trans hxc.2.2.2.2
            have c3 := HO5.out.grow.box.cell 3
            clear hxc hxp hTx hxm
            refine have AFTER2 : (∀ (W6 w7 : World) (g3 cap3 : Nat) (y1 : Int) (y2 : Bool) (y3 : ByteArray) (ya : Option Addr) (yn yc : Nat) (yk : Option Addr) (ym yd : Nat), Below W5.heap.size W5 W6 ∧ Fresh W5.heap.size W6.heap.size W6 (.agg #[.int .i64 y1, .bool y2, .string y3, .slice ya yn yc, .slice yk ym yd]) xT ∧ (w7.ownsRow w.heap.size 26 5 (.slice (some ⟨g3, 0, none⟩) ((l + 1) + 1) cap3) ((l + 1) + 1) (yy.flatMap It.cells ++ [.int .i64 y1, .bool y2, .string y3, .slice ya yn yc, .slice yk ym yd])) ∧ (W6.alloc (.cells #[.int .i64 y1, .bool y2, .string y3, .slice ya yn yc, .slice yk ym yd] 26)).grownBy w7 (Value.slice adi (l + 1) capi).ownBlock ∧ ((Value.slice adi (l + 1) capi).ownBlock = some g3 ∨ g3 = (W6.alloc (.cells #[.int .i64 y1, .bool y2, .string y3, .slice ya yn yc, .slice yk ym yd] 26)).heap.size) ∧ g3 < w7.heap.size → (?Gd : World → World → Nat → Nat → Int → Bool → ByteArray → Option Addr → Nat → Nat → Option Addr → Nat → Nat → Prop) W6 w7 g3 cap3 y1 y2 y3 ya yn yc yk ym yd) := ?laterd; ?maind
            case maind =>
              go_region_law (first
                | (refine step_append_lies _ rfl (.tmp 53) (.tmp 59) 23 rfl w.heap.size 26 iV zV 5 80 Tryz.underlying23 hiV hzV hsV hbV (by rw [hzV5]; rfl) (by decide) _ _ _ rfl hrow6 ⟨W6.heap.size, 0, none⟩ 1 1 [.int .i64 y1, .bool y2, .string y3, .slice ya yn yc, .slice yk ym yd] rfl rfl (World.news_of_block hblk6) (by intro u hu; simp at hu; rcases hu with rfl | rfl | rfl | rfl | rfl <;> rfl) (by decide) (by unfold maxLen; omega) (by omega) (by have := HO6.out.grow.below.size; simp; omega) _ rfl ?_; intro g3 cap3 w7 hown7 hgrow7 hat7 hlt7; have hbx7 := (HO6.out.grow.box.alloc (.cells #[.int .i64 y1, .bool y2, .string y3, .slice ya yn yc, .slice yk ym yd] 26)).grows hgrow7 (ne_row HO6.out.grow.ifar (by omega)); have c37 := hbx7.cell 3; have f37 := hbx7.frozen 3)
                | (go_simp; go_at_call 102; refine HCx.out.mono ?_; rintro e W6 ⟨yv, rfl, hfr6, hb6⟩; obtain ⟨y1, y2, y3, ya, yn, yc, yk, ym, yd, rfl⟩ := hfr6.shape; have HFR6 := Lib.hid hfr6; have HO6 := Lib.hid (HO5.out.later hb6); have c36 := HO6.out.grow.box.cell 3; have hrow6 := HO6.out.items.alloc (.cells #[.int .i64 y1, .bool y2, .string y3, .slice ya yn yc, .slice yk ym yd] 26); have hblk6 := World.alloc_heap_new W6 (.cells #[.int .i64 y1, .bool y2, .string y3, .slice ya yn yc, .slice yk ym yd] 26); have c36a := (HO6.out.grow.box.alloc (.cells #[.int .i64 y1, .bool y2, .string y3, .slice ya yn yc, .slice yk ym yd] 26)).cell 3; have hle6 := HO6.out.grow.box.lt; clear hfr6))
              all_goals exact AFTER2 W6 w7 g3 cap3 y1 y2 y3 ya yn yc yk ym yd ⟨hb6, HFR6.out, hown7, hgrow7, hat7, hlt7⟩
            case laterd =>
              intro W6 w7 g3 cap3 y1 y2 y3 ya yn yc yk ym yd ⟨hb6, hfr6, hown7, hgrow7, hat7, hlt7⟩
              have HO7 : Hid (ObjSt w (w7.setCell ⟨w.heap.size + 1, 3, none⟩ (.slice (some ⟨g3, 0, none⟩) ((l + 1) + 1) cap3)) ks Ts ps ((l + 1) + 1) ((l + 1) + 1) (.slice (some ⟨g2, 0, none⟩) ((l + 1) + 1) cap2) (.slice (some ⟨g3, 0, none⟩) ((l + 1) + 1) cap3) (yy ++ [⟨y1, y2, y3, .slice ya yn yc, .slice yk ym yd, xT⟩])) := Lib.hid (HO5.out.item (e := ⟨y1, y2, y3, .slice ya yn yc, .slice yk ym yd, xT⟩) hb6 hfr6 hpl (by rw [hpk]; exact HTX.out) hown7 hgrow7 hat7 hlt7)
              clear cx0 cx1 cx2 cx3 cx4 c3 hown7 hgrow7 hat7 hlt7 hb6 hfr6
              go_wp2
              go_roundw
              case rel => exact ⟨(l + 1) + 1, _, _, _, by go_num, by omega, HO7, HDF2⟩
              case measure => simp [intOf]; omega
        · have HEQ : Hid (¬ Differ ks ps l) := Lib.hid (fun h => by rw [HDFe.out.1 h] at hdf; cases hdf)
          have hle2 := HO.out.grow.below.size
          have hr := HO.out.grow.ranks
          have f0 := HO.out.grow.res.frozen 0
          have f1 := HO.out.grow.res.frozen 1
          have f2 := HO.out.grow.res.frozen 2
          have f3 := HO.out.grow.res.frozen 3
          have f4 := HO.out.grow.res.frozen 4
          have q0 := HO.out.grow.res.cell 0
          have q1 := HO.out.grow.res.cell 1
          have q2 := HO.out.grow.res.cell 2
          have q3 := HO.out.grow.res.cell 3
          have q4 := HO.out.grow.res.cell 4
          unfold nil5 at q0 q1 q2 q3 q4
          have HBL := Lib.hid HO.out.grow.below
          have HRS := Lib.hid HO.out.grow.res
          have HPL := Lib.hid hpl
          clear HO hr
          go_wp2_with fail
          go_quiet (fail)
          have HB9 : Hid (Below w.heap.size w (wr.drewN nq)) := Lib.hid (HBL.out.trans ⟨rfl, rfl, rfl, Nat.le_refl _, fun _ _ => rfl⟩)
          have HR9 : Hid (Blk (wr.drewN nq) w.heap.size nil5 26) := Lib.hid HRS.out
          have h5 := HR9.out.set5 (.int .i64 0) (.bool false) (.string ⟨#[]⟩) (.slice none 0 0) (.slice none 0 0)
          have d0 := h5.cell 0
          have d1 := h5.cell 1
          have d2 := h5.cell 2
          have d3 := h5.cell 3
          have d4 := h5.cell 4
          go_wp2
          refine bodyPost_ret (v := .tuple #[.agg #[.int .i64 0, .bool false, .string ⟨#[]⟩, .slice none 0 0, .slice none 0 0], .int .i64 2]) ?_ rfl ⟨ps, HOKP.out, .inr ⟨rfl, below_set5 HB9.out (Nat.le_refl _) _ _ _ _ _, l, HPL.out, HEQ.out⟩⟩
          simp [results, Tryz.results82, go_sem, d0, d1, d2, d3, d4]
    · obtain rfl : k = n := by omega
      have h5 := HO.out.grow.res.set5 (.int .i64 6) (.bool false) (.string ⟨#[]⟩) (.slice adi k capi) (.slice adk k capk)
      have hr := HO.out.grow.ranks
      have f0 := HO.out.grow.res.frozen 0
      have f1 := HO.out.grow.res.frozen 1
      have f2 := HO.out.grow.res.frozen 2
      have f3 := HO.out.grow.res.frozen 3
      have f4 := HO.out.grow.res.frozen 4
      have q0 := HO.out.grow.res.cell 0
      have q1 := HO.out.grow.res.cell 1
      have q2 := HO.out.grow.res.cell 2
      have q3 := HO.out.grow.res.cell 3
      have q4 := HO.out.grow.res.cell 4
      unfold nil5 at q0 q1 q2 q3 q4
      have HFIN := Lib.hid (HO.out.done5 (by omega))
      go_wp2
      have d0 := h5.cell 0
      have d1 := h5.cell 1
      have d2 := h5.cell 2
      have d3 := h5.cell 3
      have d4 := h5.cell 4
      refine bodyPost_ret (v := .tuple #[.agg #[.int .i64 6, .bool false, .string ⟨#[]⟩, .slice adi k capi, .slice adk k capk], .int .i64 0]) ?_ rfl ⟨ps, HOKP.out, .inl ⟨⟨_, rfl, by rw [hps]; exact HFIN.out, below_set5 HO.out.grow.below (Nat.le_refl _) _ _ _ _ _⟩, by rw [hps]; exact HDF.out⟩⟩
      simp [results, Tryz.results82, go_sem, d0, d1, d2, d3, d4]
end Go.Proofs.YtnmfoedfllmclaaGreatDoor
