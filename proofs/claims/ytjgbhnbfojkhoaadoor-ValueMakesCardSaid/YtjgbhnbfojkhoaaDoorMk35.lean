/- value.Object of scalars with keys that differ: the walk -/
import Derived.Test.YtjgbhnbfojkhoaaDoorMk14
namespace Go.Proofs.YtjgbhnbfojkhoaaDoor
open Go.RowKit Go.Sort Go.Shelf
set_option linter.unusedVariables false

/-- What Object answers: the keys in order, their items. -/
def Objects (w : World) (ks : List ByteArray) (xs : List (Int × Bool × ByteArray)) (ps : List Nat) (e : Ending) (w' : World) : Prop := ∃ kv iv, e = .returned (.tuple #[.agg #[.int .i64 6, .bool false, .string ⟨#[]⟩, iv, kv], .int .i64 0]) ∧ w'.ownsRow w.heap.size 9 1 kv ps.length (keysOf ks ps ps.length) ∧ w'.ownsRow w.heap.size 26 5 iv ps.length (itemsOf xs ps ps.length) ∧ Below w.heap.size w w'

set_option maxRecDepth 100000 in
set_option maxHeartbeats 4000000 in
theorem object_go {w : World} {kv iv : Value} {ks : List ByteArray} {xs : List (Int × Bool × ByteArray)} {ps : List Nat} (hk : StrsAt w.heap.size w kv ks) (hx : ScalsAt w.heap.size w iv xs) (hl : xs.length = ks.length) (h0 : 0 < ks.length) (hps : ps.length = ks.length) (hp : ∀ k, k < ps.length → ps.getD k 0 < ks.length)
    (hdiff : ∀ k, k + 1 < ps.length → ((ks.getD (ps.getD k 0) ⟨#[]⟩).toList == (ks.getD (ps.getD (k + 1) 0) ⟨#[]⟩).toList) = false) (hbig : ks.length ≤ 1000000)
    (HP : Hid (∀ W, Below w.heap.size w W → Calls Tryd.prog 29 #[kv] W fun e w' => e = .returned (.slice (some ⟨W.heap.size + 1, 0, none⟩) ks.length ks.length) ∧ Below W.heap.size W w' ∧ W.heap.size + 1 < w'.heap.size ∧ ∀ j, j < ks.length → w'.cell? ⟨W.heap.size + 1, j, none⟩ = some (.int .i64 ((ps.getD j 0 : Nat) : Int)))) :
    Calls Tryd.prog 9 #[kv, iv] w fun e w' => Objects w ks xs ps e w' := by
  obtain ⟨ad, cap, rfl, hnc, hcap, hks⟩ := hk
  obtain ⟨adx, capx, rfl, hncx, hcapx, hxs⟩ := hx
  obtain ⟨iS, hiS, hzS, hsS, hbS⟩ := info_parts Tryd.infoStr
  obtain ⟨iV, zV, hiV, hzV, hzV5, hsV, hbV⟩ := info_val
  obtain ⟨g, o, rfl, hg, hkc⟩ := hks h0
  obtain ⟨gx, ox, rfl, hgx, hxc⟩ := hxs (by omega)
  have HK := Lib.hid hkc
  have HX := Lib.hid hxc
  have HD := Lib.hid hdiff
  have HPP := Lib.hid hp
  have HL := Lib.hid hl
  have HCl := Lib.hid (fun k b t W => clone_scal k b t W)
  obtain ⟨n, hn⟩ : ∃ n, ks.length = n := ⟨_, rfl⟩
  rw [hl] at hncx ⊢
  rw [hn] at hnc hncx HP hps h0 hbig ⊢
  have HN := Lib.hid hn
  clear hks hxs hkc hxc hdiff hp hl hn
  have HB0 := below_new w (.cells nil5 26)
  have HR0 := Blk.new w nil5 26
  have HB1 := HB0.alloc HB0.size (.cells #[.int .i64 6, .bool false, .string ⟨#[]⟩, .slice none 0 0, .slice none 0 0] 26)
  have HPl := Lib.hid (HP.out _ HB1)
  have en : nil5 = #[.int .i64 0, .bool false, .string ⟨#[]⟩, .slice none 0 0, .slice none 0 0] := rfl
  rw [en] at HB0 HR0 HB1 HPl
  go_enter Tryd.func9, Tryd.ntmps9
  go_wp2_with (go_at_call 29; refine HPl.out.mono ?_; rintro e w1 ⟨rfl, hb, hsz, hcells⟩)
  have e2 : ((w.alloc (.cells #[.int .i64 0, .bool false, .string ⟨#[]⟩, .slice none 0 0, .slice none 0 0] 26)).alloc (.cells #[.int .i64 6, .bool false, .string ⟨#[]⟩, .slice none 0 0, .slice none 0 0] 26)).heap.size = w.heap.size + 2 := by simp
  have HO0 := Blk.new (w.alloc (.cells #[.int .i64 0, .bool false, .string ⟨#[]⟩, .slice none 0 0, .slice none 0 0] 26)) #[.int .i64 6, .bool false, .string ⟨#[]⟩, .slice none 0 0, .slice none 0 0] 26
  have hR1 := (HR0.alloc (.cells #[.int .i64 6, .bool false, .string ⟨#[]⟩, .slice none 0 0, .slice none 0 0] 26)).below hb
  have hO1 := HO0.below hb
  rw [show (w.alloc (.cells #[.int .i64 0, .bool false, .string ⟨#[]⟩, .slice none 0 0, .slice none 0 0] 26)).heap.size = w.heap.size + 1 by simp] at hO1
  have hBw : Below w.heap.size w w1 := HB1.trans (hb.mono HB1.size)
  rw [e2] at hsz hcells
  rw [← en] at hR1
  have hobj : ObjAt w w1 w.heap.size (w.heap.size + 1) (w.heap.size + 3) ks xs ps 0 0 (.slice none 0 0) (.slice none 0 0) := ⟨hR1, hO1, ⟨rfl, .inl ⟨rfl, rfl⟩⟩, ⟨rfl, .inl ⟨rfl, rfl⟩⟩, fun j hj => hcells j (by omega), hBw, fun g h => (by cases h), fun g h => (by cases h), fun g h => (by cases h), hsz, by omega⟩
  clear hcells hO1 HO0 HR0 HB0 HB1 HPl hb hR1 hBw hsz e2
  go_loopw [8, 9, 20] (fun _ _ iv wr => ∃ (k : Nat) (kv iv2 : Value), iv = .int .i64 k ∧ k ≤ n ∧ Hid (ObjAt w wr w.heap.size (w.heap.size + 1) (w.heap.size + 3) ks xs ps k k kv iv2)) (fun _ _ iv _ => n - (intOf iv).toNat)
  case atStart => exact ⟨0, _, _, rfl, by omega, Lib.hid hobj⟩
  case round =>
    obtain ⟨k, kv, iv2, rfl, hkn, HO⟩ := hrel
    clear hobj
    obtain ⟨adk, capk, rfl⟩ := row_shape HO.out.keys
    obtain ⟨adi, capi, rfl⟩ := row_shape HO.out.items
    have hb0 := HO.out.box.cell 0
    have hb1 := HO.out.box.cell 1
    have hb2 := HO.out.box.cell 2
    have hb3 := HO.out.box.cell 3
    have hb4 := HO.out.box.cell 4
    by_cases hlt : k < n
    · obtain ⟨p, hpk⟩ : ∃ p, ps.getD k 0 = p := ⟨_, rfl⟩
      have hpl : k < ps.length := by omega
      have hpn : p < n := by rw [← hpk, ← HN.out]; exact HPP.out k hpl
      have hcp := HO.out.places k hpl
      rw [hpk] at hcp
      have hkp : wr.cell? ⟨g, o + p, none⟩ = some (.string (ks.getD p ⟨#[]⟩)) := by
        have h1 : p < ks.length := by rw [HN.out]; exact hpn
        rw [show ks.getD p ⟨#[]⟩ = ks[p] by simp [List.getD, h1]]
        exact (HO.out.below.cell (p := ⟨g, o + p, none⟩) hg).trans (HK.out p h1)
      obtain ⟨kp, hkpe⟩ : ∃ kp, ks.getD p ⟨#[]⟩ = kp := ⟨_, rfl⟩
      rw [hkpe] at hkp
      have i1 : (0 : Int) ≤ (k : Int) := by omega
      have i2 : (k : Int) < (n : Int) := by omega
      have i3 : (0 : Int) ≤ (p : Int) := by omega
      have i4 : (p : Int) < (n : Int) := by omega
      rcases Nat.eq_zero_or_pos k with hk0 | hk0
      · subst hk0
        go_wp2_with fail
        go_quiet (fail)
        go_wp2_with fail
        obtain ⟨W2, hW2⟩ : ∃ W2, (wr.drewN nq).drew = W2 := ⟨_, rfl⟩
        have HO2 : Hid (ObjAt w W2 w.heap.size (w.heap.size + 1) (w.heap.size + 3) ks xs ps 0 0 (.slice adk 0 capk) (.slice adi 0 capi)) := by rw [← hW2]; exact (HO.out.drewN nq).drew
        have ck : W2.cell? ⟨g, o + p, none⟩ = some (.string kp) := by rw [← hW2]; exact hkp
        have c4 := HO2.out.box.cell 4
        have f4 := (HO2.out.box.alloc (.cells #[.string kp] 9)).frozen 4
        have hrow := HO2.out.keys.alloc (.cells #[.string kp] 9)
        have hOlt : w.heap.size + 1 < W2.heap.size := HO2.out.box.lt
        have hglt : g < W2.heap.size := by omega
        have c4a := (HO2.out.box.alloc (.cells #[.string kp] 9)).cell 4
        have hle2 := HO2.out.below.size
        clear hb0 hb1 hb2 hb3 hb4 hkp hcp
        refine have AFTER : (∀ (w3 : World) (g2 cap2 : Nat), (w3.ownsRow w.heap.size 9 1 (.slice (some ⟨g2, 0, none⟩) (0 + 1) cap2) (0 + 1) (keysOf ks ps 0 ++ [.string kp])) ∧ (W2.alloc (.cells #[.string kp] 9)).grownBy w3 (Value.slice adk 0 capk).ownBlock ∧ ((Value.slice adk 0 capk).ownBlock = some g2 ∨ g2 = (W2.alloc (.cells #[.string kp] 9)).heap.size) ∧ g2 < w3.heap.size → (?G : World → Nat → Nat → Prop) w3 g2 cap2) := ?later; ?main
        case main =>
          go_region_law (refine step_append_lies _ rfl (.tmp 44) (.tmp 49) 24 rfl w.heap.size 9 iS (.string ⟨#[]⟩) 1 16 Tryd.underlying24 hiS hzS hsS hbS rfl (by decide) _ _ _ rfl hrow ⟨W2.heap.size, 0, none⟩ 1 1 [.string kp] rfl rfl (cell_box _ _ _) (by intro u hu; simp at hu; subst hu; rfl) (by decide) (by unfold maxLen; omega) (by omega) (by simp; omega) _ rfl ?_; intro g2 cap2 w3 hown3 hgrow3 hat3 hlt3; have hbx3 := (HO2.out.box.alloc (.cells #[.string kp] 9)).grows hgrow3 (ne_row HO2.out.kfar (by omega)); have c34 := hbx3.cell 4; have f34 := hbx3.frozen 4)
          all_goals exact AFTER w3 g2 cap2 ⟨hown3, hgrow3, hat3, hlt3⟩
        case later =>
          intro w3 g2 cap2 ⟨hown3, hgrow3, hat3, hlt3⟩
          clear hrow f4 c4a ck c4
          have HO3 : Hid (ObjAt w (w3.setCell ⟨w.heap.size + 1, 4, none⟩ (.slice (some ⟨g2, 0, none⟩) (0 + 1) cap2)) w.heap.size (w.heap.size + 1) (w.heap.size + 3) ks xs ps (0 + 1) 0 (.slice (some ⟨g2, 0, none⟩) (0 + 1) cap2) (.slice adi 0 capi)) := Lib.hid (HO2.out.key hpl (by rw [hpk]; exact hkpe) hown3 hgrow3 hat3 hlt3)
          obtain ⟨W4, hW4⟩ : ∃ W4, w3.setCell ⟨w.heap.size + 1, 4, none⟩ (.slice (some ⟨g2, 0, none⟩) (0 + 1) cap2) = W4 := ⟨_, rfl⟩
          rw [hW4] at HO3
          clear hown3 hgrow3 hat3 hlt3 hglt hOlt
          go_wp2_with fail
          obtain ⟨W5, hW5⟩ : ∃ W5, W4.drew = W5 := ⟨_, rfl⟩
          have HO5 : Hid (ObjAt w W5 w.heap.size (w.heap.size + 1) (w.heap.size + 3) ks xs ps (0 + 1) 0 (.slice (some ⟨g2, 0, none⟩) (0 + 1) cap2) (.slice adi 0 capi)) := by rw [← hW5]; exact HO3.out.drew
          obtain ⟨x, hxp⟩ : ∃ x, xs.getD p noScal = x := ⟨_, rfl⟩
          obtain ⟨x1, x2, x3⟩ := x
          have hxl : p < xs.length := by have := HL.out; have := HN.out; omega
          have hxc := HX.out p hxl
          rw [hxp] at hxc
          have cx0 := (HO5.out.below.cell (p := ⟨gx, ox + p * 5, none⟩) hgx).trans hxc.1
          have cx1 := (HO5.out.below.cell (p := ⟨gx, ox + p * 5 + 1, none⟩) hgx).trans hxc.2.1
          have cx2 := (HO5.out.below.cell (p := ⟨gx, ox + p * 5 + 2, none⟩) hgx).trans hxc.2.2.1
          have cx3 := (HO5.out.below.cell (p := ⟨gx, ox + p * 5 + 3, none⟩) hgx).trans hxc.2.2.2.1
          have cx4 := (HO5.out.below.cell (p := ⟨gx, ox + p * 5 + 4, none⟩) hgx).trans hxc.2.2.2.2
          have HCx := Lib.hid (HCl.out x1 x2 x3 W5)
          have c3 := HO5.out.box.cell 3
          have HXP := Lib.hid hxp
          unfold scal at HCx
          clear hxc hxp
          refine have AFTER2 : (∀ (W6 w7 : World) (g3 cap3 : Nat), Below W5.heap.size W5 W6 ∧ (w7.ownsRow w.heap.size 26 5 (.slice (some ⟨g3, 0, none⟩) (0 + 1) cap3) (0 + 1) (itemsOf xs ps 0 ++ cells5 (x1, x2, x3))) ∧ (W6.alloc (.cells #[.int .i64 x1, .bool x2, .string x3, .slice none 0 0, .slice none 0 0] 26)).grownBy w7 (Value.slice adi 0 capi).ownBlock ∧ ((Value.slice adi 0 capi).ownBlock = some g3 ∨ g3 = (W6.alloc (.cells #[.int .i64 x1, .bool x2, .string x3, .slice none 0 0, .slice none 0 0] 26)).heap.size) ∧ g3 < w7.heap.size → (?G2 : World → World → Nat → Nat → Prop) W6 w7 g3 cap3) := ?later2; ?main2
          case main2 =>
            go_region_law (first
              | (refine step_append_lies _ rfl (.tmp 53) (.tmp 59) 23 rfl w.heap.size 26 iV zV 5 80 Tryd.underlying23 hiV hzV hsV hbV (by rw [hzV5]; rfl) (by decide) _ _ _ rfl hrow6 ⟨W6.heap.size, 0, none⟩ 1 1 (cells5 (x1, x2, x3)) rfl rfl (World.news_of_block hblk6) (by intro u hu; simp [cells5] at hu; rcases hu with rfl | rfl | rfl | rfl | rfl <;> rfl) (by decide) (by unfold maxLen; omega) (by omega) (by have := HO6.out.below.size; simp; omega) _ rfl ?_; intro g3 cap3 w7 hown7 hgrow7 hat7 hlt7; have hbx7 := (HO6.out.box.alloc (.cells #[.int .i64 x1, .bool x2, .string x3, .slice none 0 0, .slice none 0 0] 26)).grows hgrow7 (ne_row HO6.out.ifar (by omega)); have c37 := hbx7.cell 3; have f37 := hbx7.frozen 3)
              | (go_simp; go_at_call 22; refine HCx.out.mono ?_; rintro e W6 ⟨rfl, hb6⟩; have HO6 := Lib.hid (HO5.out.later hb6); have c36 := HO6.out.box.cell 3; have hrow6 := HO6.out.items.alloc (.cells #[.int .i64 x1, .bool x2, .string x3, .slice none 0 0, .slice none 0 0] 26); have hblk6 := World.alloc_heap_new W6 (.cells #[.int .i64 x1, .bool x2, .string x3, .slice none 0 0, .slice none 0 0] 26); have c36a := (HO6.out.box.alloc (.cells #[.int .i64 x1, .bool x2, .string x3, .slice none 0 0, .slice none 0 0] 26)).cell 3; have hle6 := HO6.out.box.lt))
            all_goals exact AFTER2 W6 w7 g3 cap3 ⟨hb6, hown7, hgrow7, hat7, hlt7⟩
          case later2 =>
            intro W6 w7 g3 cap3 ⟨hb6, hown7, hgrow7, hat7, hlt7⟩
            have HO7 : Hid (ObjAt w (w7.setCell ⟨w.heap.size + 1, 3, none⟩ (.slice (some ⟨g3, 0, none⟩) (0 + 1) cap3)) w.heap.size (w.heap.size + 1) (w.heap.size + 3) ks xs ps (0 + 1) (0 + 1) (.slice (some ⟨g2, 0, none⟩) (0 + 1) cap2) (.slice (some ⟨g3, 0, none⟩) (0 + 1) cap3)) := Lib.hid ((HO5.out.later hb6).item hpl (by rw [hpk]; exact HXP.out) hown7 hgrow7 hat7 hlt7)
            clear cx0 cx1 cx2 cx3 cx4 c3 hown7 hgrow7 hat7 hlt7 hb6
            go_wp2
            go_roundw
            case rel => exact ⟨0 + 1, _, _, by go_num, by omega, HO7⟩
            case measure => simp [intOf]; omega
      · have hfm := World.ownsRow.form HO.out.keys hk0
        obtain ⟨gk, capk', e1, hgk1, hgk2⟩ := hfm
        cases e1
        have hck := World.ownsRow.cells HO.out.keys (g := gk) rfl (k - 1) _ (keysOf_at (by omega) (by omega))
        rw [Lib.add_plain, Nat.zero_add] at hck
        have hdf := HD.out (k - 1) (by omega)
        rw [show k - 1 + 1 = k by omega, hpk, hkpe] at hdf
        obtain ⟨kl, hkl⟩ : ∃ kl, ks.getD (ps.getD (k - 1) 0) ⟨#[]⟩ = kl := ⟨_, rfl⟩
        rw [hkl] at hck hdf
        obtain ⟨l, hkl1⟩ : ∃ l, k = l + 1 := ⟨k - 1, by omega⟩
        subst hkl1
        rw [Nat.add_sub_cancel] at hck hkl
        have i5 : (0 : Int) ≤ (l : Int) := by omega
        have i6 : (l : Int) < ((l + 1 : Nat) : Int) := by omega
        have i7 : (l : Int) < (l : Int) + 1 := by omega
        have i8 : (l : Int) < (n : Int) := by omega
        have ck0 : wr.cell? ⟨g, o + p, none⟩ = some (.string kp) := hkp
        go_wp2_with fail
        go_quiet (fail)
        go_wp2_with fail
        obtain ⟨W2, hW2⟩ : ∃ W2, (wr.drewN nq).drew = W2 := ⟨_, rfl⟩
        have HO2 : Hid (ObjAt w W2 w.heap.size (w.heap.size + 1) (w.heap.size + 3) ks xs ps (l + 1) (l + 1) (.slice (some ⟨gk, 0, none⟩) (l + 1) capk) (.slice adi (l + 1) capi)) := by rw [← hW2]; exact (HO.out.drewN nq).drew
        have ck : W2.cell? ⟨g, o + p, none⟩ = some (.string kp) := by rw [← hW2]; exact hkp
        have c4 := HO2.out.box.cell 4
        have f4 := (HO2.out.box.alloc (.cells #[.string kp] 9)).frozen 4
        have hrow := HO2.out.keys.alloc (.cells #[.string kp] 9)
        have hOlt : w.heap.size + 1 < W2.heap.size := HO2.out.box.lt
        have hglt : g < W2.heap.size := by omega
        have c4a := (HO2.out.box.alloc (.cells #[.string kp] 9)).cell 4
        have hle2 := HO2.out.below.size
        clear hb0 hb1 hb2 hb3 hb4 hkp hcp
        refine have AFTER : (∀ (w3 : World) (g2 cap2 : Nat), (w3.ownsRow w.heap.size 9 1 (.slice (some ⟨g2, 0, none⟩) ((l + 1) + 1) cap2) ((l + 1) + 1) (keysOf ks ps (l + 1) ++ [.string kp])) ∧ (W2.alloc (.cells #[.string kp] 9)).grownBy w3 (Value.slice (some ⟨gk, 0, none⟩) (l + 1) capk).ownBlock ∧ ((Value.slice (some ⟨gk, 0, none⟩) (l + 1) capk).ownBlock = some g2 ∨ g2 = (W2.alloc (.cells #[.string kp] 9)).heap.size) ∧ g2 < w3.heap.size → (?Gc : World → Nat → Nat → Prop) w3 g2 cap2) := ?laterc; ?mainc
        case mainc =>
          go_region_law (refine step_append_lies _ rfl (.tmp 44) (.tmp 49) 24 rfl w.heap.size 9 iS (.string ⟨#[]⟩) 1 16 Tryd.underlying24 hiS hzS hsS hbS rfl (by decide) _ _ _ rfl hrow ⟨W2.heap.size, 0, none⟩ 1 1 [.string kp] rfl rfl (cell_box _ _ _) (by intro u hu; simp at hu; subst hu; rfl) (by decide) (by unfold maxLen; omega) (by omega) (by simp; omega) _ rfl ?_; intro g2 cap2 w3 hown3 hgrow3 hat3 hlt3; have hbx3 := (HO2.out.box.alloc (.cells #[.string kp] 9)).grows hgrow3 (ne_row HO2.out.kfar (by omega)); have c34 := hbx3.cell 4; have f34 := hbx3.frozen 4)
          all_goals exact AFTER w3 g2 cap2 ⟨hown3, hgrow3, hat3, hlt3⟩
        case laterc =>
          intro w3 g2 cap2 ⟨hown3, hgrow3, hat3, hlt3⟩
          clear hrow f4 c4a ck c4
          have HO3 : Hid (ObjAt w (w3.setCell ⟨w.heap.size + 1, 4, none⟩ (.slice (some ⟨g2, 0, none⟩) ((l + 1) + 1) cap2)) w.heap.size (w.heap.size + 1) (w.heap.size + 3) ks xs ps ((l + 1) + 1) (l + 1) (.slice (some ⟨g2, 0, none⟩) ((l + 1) + 1) cap2) (.slice adi (l + 1) capi)) := Lib.hid (HO2.out.key hpl (by rw [hpk]; exact hkpe) hown3 hgrow3 hat3 hlt3)
          obtain ⟨W4, hW4⟩ : ∃ W4, w3.setCell ⟨w.heap.size + 1, 4, none⟩ (.slice (some ⟨g2, 0, none⟩) ((l + 1) + 1) cap2) = W4 := ⟨_, rfl⟩
          rw [hW4] at HO3
          clear hown3 hgrow3 hat3 hlt3 hglt hOlt
          go_wp2_with fail
          obtain ⟨W5, hW5⟩ : ∃ W5, W4.drew = W5 := ⟨_, rfl⟩
          have HO5 : Hid (ObjAt w W5 w.heap.size (w.heap.size + 1) (w.heap.size + 3) ks xs ps ((l + 1) + 1) (l + 1) (.slice (some ⟨g2, 0, none⟩) ((l + 1) + 1) cap2) (.slice adi (l + 1) capi)) := by rw [← hW5]; exact HO3.out.drew
          obtain ⟨x, hxp⟩ : ∃ x, xs.getD p noScal = x := ⟨_, rfl⟩
          obtain ⟨x1, x2, x3⟩ := x
          have hxl : p < xs.length := by have := HL.out; have := HN.out; omega
          have hxc := HX.out p hxl
          rw [hxp] at hxc
          have cx0 := (HO5.out.below.cell (p := ⟨gx, ox + p * 5, none⟩) hgx).trans hxc.1
          have cx1 := (HO5.out.below.cell (p := ⟨gx, ox + p * 5 + 1, none⟩) hgx).trans hxc.2.1
          have cx2 := (HO5.out.below.cell (p := ⟨gx, ox + p * 5 + 2, none⟩) hgx).trans hxc.2.2.1
          have cx3 := (HO5.out.below.cell (p := ⟨gx, ox + p * 5 + 3, none⟩) hgx).trans hxc.2.2.2.1
          have cx4 := (HO5.out.below.cell (p := ⟨gx, ox + p * 5 + 4, none⟩) hgx).trans hxc.2.2.2.2
          have HCx := Lib.hid (HCl.out x1 x2 x3 W5)
          have c3 := HO5.out.box.cell 3
          have HXP := Lib.hid hxp
          unfold scal at HCx
          clear hxc hxp
          refine have AFTER2 : (∀ (W6 w7 : World) (g3 cap3 : Nat), Below W5.heap.size W5 W6 ∧ (w7.ownsRow w.heap.size 26 5 (.slice (some ⟨g3, 0, none⟩) ((l + 1) + 1) cap3) ((l + 1) + 1) (itemsOf xs ps (l + 1) ++ cells5 (x1, x2, x3))) ∧ (W6.alloc (.cells #[.int .i64 x1, .bool x2, .string x3, .slice none 0 0, .slice none 0 0] 26)).grownBy w7 (Value.slice adi (l + 1) capi).ownBlock ∧ ((Value.slice adi (l + 1) capi).ownBlock = some g3 ∨ g3 = (W6.alloc (.cells #[.int .i64 x1, .bool x2, .string x3, .slice none 0 0, .slice none 0 0] 26)).heap.size) ∧ g3 < w7.heap.size → (?Gd : World → World → Nat → Nat → Prop) W6 w7 g3 cap3) := ?laterd; ?maind
          case maind =>
            go_region_law (first
              | (refine step_append_lies _ rfl (.tmp 53) (.tmp 59) 23 rfl w.heap.size 26 iV zV 5 80 Tryd.underlying23 hiV hzV hsV hbV (by rw [hzV5]; rfl) (by decide) _ _ _ rfl hrow6 ⟨W6.heap.size, 0, none⟩ 1 1 (cells5 (x1, x2, x3)) rfl rfl (World.news_of_block hblk6) (by intro u hu; simp [cells5] at hu; rcases hu with rfl | rfl | rfl | rfl | rfl <;> rfl) (by decide) (by unfold maxLen; omega) (by omega) (by have := HO6.out.below.size; simp; omega) _ rfl ?_; intro g3 cap3 w7 hown7 hgrow7 hat7 hlt7; have hbx7 := (HO6.out.box.alloc (.cells #[.int .i64 x1, .bool x2, .string x3, .slice none 0 0, .slice none 0 0] 26)).grows hgrow7 (ne_row HO6.out.ifar (by omega)); have c37 := hbx7.cell 3; have f37 := hbx7.frozen 3)
              | (go_simp; go_at_call 22; refine HCx.out.mono ?_; rintro e W6 ⟨rfl, hb6⟩; have HO6 := Lib.hid (HO5.out.later hb6); have c36 := HO6.out.box.cell 3; have hrow6 := HO6.out.items.alloc (.cells #[.int .i64 x1, .bool x2, .string x3, .slice none 0 0, .slice none 0 0] 26); have hblk6 := World.alloc_heap_new W6 (.cells #[.int .i64 x1, .bool x2, .string x3, .slice none 0 0, .slice none 0 0] 26); have c36a := (HO6.out.box.alloc (.cells #[.int .i64 x1, .bool x2, .string x3, .slice none 0 0, .slice none 0 0] 26)).cell 3; have hle6 := HO6.out.box.lt))
            all_goals exact AFTER2 W6 w7 g3 cap3 ⟨hb6, hown7, hgrow7, hat7, hlt7⟩
          case laterd =>
            intro W6 w7 g3 cap3 ⟨hb6, hown7, hgrow7, hat7, hlt7⟩
            have HO7 : Hid (ObjAt w (w7.setCell ⟨w.heap.size + 1, 3, none⟩ (.slice (some ⟨g3, 0, none⟩) ((l + 1) + 1) cap3)) w.heap.size (w.heap.size + 1) (w.heap.size + 3) ks xs ps ((l + 1) + 1) ((l + 1) + 1) (.slice (some ⟨g2, 0, none⟩) ((l + 1) + 1) cap2) (.slice (some ⟨g3, 0, none⟩) ((l + 1) + 1) cap3)) := Lib.hid ((HO5.out.later hb6).item hpl (by rw [hpk]; exact HXP.out) hown7 hgrow7 hat7 hlt7)
            clear cx0 cx1 cx2 cx3 cx4 c3 hown7 hgrow7 hat7 hlt7 hb6
            go_wp2
            go_roundw
            case rel => exact ⟨(l + 1) + 1, _, _, by go_num, by omega, HO7⟩
            case measure => simp [intOf]; omega
    · obtain rfl : k = n := by omega
      have h5 := HO.out.res.set5 (.int .i64 6) (.bool false) (.string ⟨#[]⟩) (.slice adi k capi) (.slice adk k capk)
      have hr := HO.out.ranks
      have f0 := HO.out.res.frozen 0
      have f1 := HO.out.res.frozen 1
      have f2 := HO.out.res.frozen 2
      have f3 := HO.out.res.frozen 3
      have f4 := HO.out.res.frozen 4
      have q0 := HO.out.res.cell 0
      have q1 := HO.out.res.cell 1
      have q2 := HO.out.res.cell 2
      have q3 := HO.out.res.cell 3
      have q4 := HO.out.res.cell 4
      unfold nil5 at q0 q1 q2 q3 q4
      go_wp2
      have d0 := h5.cell 0
      have d1 := h5.cell 1
      have d2 := h5.cell 2
      have d3 := h5.cell 3
      have d4 := h5.cell 4
      have hk5 := row_set5 HO.out.keys w.heap.size (.int .i64 6) (.bool false) (.string ⟨#[]⟩) (.slice adi k capi) (.slice adk k capk) (fun e => by have := HO.out.kfar _ e; omega)
      have hi5 := row_set5 HO.out.items w.heap.size (.int .i64 6) (.bool false) (.string ⟨#[]⟩) (.slice adi k capi) (.slice adk k capk) (fun e => by have := HO.out.ifar _ e; omega)
      refine bodyPost_ret (v := .tuple #[.agg #[.int .i64 6, .bool false, .string ⟨#[]⟩, .slice adi k capi, .slice adk k capk], .int .i64 0]) ?_ rfl ⟨_, _, rfl, by rw [hps]; exact hk5, by rw [hps]; exact hi5, below_set5 HO.out.below (Nat.le_refl _) _ _ _ _ _⟩
      simp [results, Tryd.results9, go_sem, d0, d1, d2, d3, d4]
end Go.Proofs.YtjgbhnbfojkhoaaDoor
