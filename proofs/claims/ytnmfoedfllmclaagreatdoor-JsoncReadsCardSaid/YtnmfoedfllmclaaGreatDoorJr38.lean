/- purlinref02.Put -/
import Derived.Test.YtnmfoedfllmclaaGreatDoorJr37
namespace Go.Proofs.YtnmfoedfllmclaaGreatDoor
open Go.RowKit Go.Sort Go.Shelf
set_option linter.unusedVariables false

/-- What stands in a world, one block aside, up to a block. -/
def stands (Wd : World) (L O : Nat) (a : Addr) (u : Value) : Prop := a.block ≤ L ∧ a.block ≠ O ∧ Wd.cell? a = some u
/-- How far Put is. -/
def PutSt (put : Bool) (key : ByteArray) (e : It) (K : List ByteArray) (Y : List It) (kk : List ByteArray) (xx : List It) (j : Nat) : Prop :=
  (put = true → insK key K = kk ++ K.drop j ∧ insI key e K Y = xx ++ Y.drop j) ∧ (put = false → insK key K = kk ++ insK key (K.drop j) ∧ insI key e K Y = xx ++ insI key e (K.drop j) (Y.drop j) ∧ kk.length ≤ j) ∧ kk.length ≤ j + 1 ∧ xx.length = kk.length
/-- Four blocks at the head of what is new. -/
theorem four_new (W : World) (A C D E : Array Value) (ty : TypeId) : Below W.heap.size W ((((W.alloc (.cells A ty)).alloc (.cells C ty)).alloc (.cells D ty)).alloc (.cells E ty)) ∧ Blk ((((W.alloc (.cells A ty)).alloc (.cells C ty)).alloc (.cells D ty)).alloc (.cells E ty)) W.heap.size A ty ∧ Blk ((((W.alloc (.cells A ty)).alloc (.cells C ty)).alloc (.cells D ty)).alloc (.cells E ty)) (W.heap.size + 1) C ty ∧ Blk ((((W.alloc (.cells A ty)).alloc (.cells C ty)).alloc (.cells D ty)).alloc (.cells E ty)) (W.heap.size + 2) D ty ∧ Blk ((((W.alloc (.cells A ty)).alloc (.cells C ty)).alloc (.cells D ty)).alloc (.cells E ty)) (W.heap.size + 3) E ty ∧ ((((W.alloc (.cells A ty)).alloc (.cells C ty)).alloc (.cells D ty)).alloc (.cells E ty)).heap.size = W.heap.size + 4 := by
  have h1 := below_new0 W (.cells A ty)
  have h2 := h1.alloc h1.size (.cells C ty)
  have h3 := h2.alloc h2.size (.cells D ty)
  have h4 := h3.alloc h3.size (.cells E ty)
  have k1 := (((Blk.new W A ty).alloc (.cells C ty)).alloc (.cells D ty)).alloc (.cells E ty)
  have k2 := ((Blk.new (W.alloc (.cells A ty)) C ty).alloc (.cells D ty)).alloc (.cells E ty)
  have k3 := (Blk.new ((W.alloc (.cells A ty)).alloc (.cells C ty)) D ty).alloc (.cells E ty)
  have k4 := Blk.new (((W.alloc (.cells A ty)).alloc (.cells C ty)).alloc (.cells D ty)) E ty
  exact ⟨h4, k1, by simpa using k2, by simpa using k3, by simpa using k4, by simp⟩
theorem blk_set5 {W : World} {G B : Nat} {cs : Array Value} {t : TypeId} (h : Blk W G cs t) (hne : G ≠ B) (b0 b1 b2 b3 b4 : Value) : Blk (((((W.setCell ⟨B, 0, none⟩ b0).setCell ⟨B, 1, none⟩ b1).setCell ⟨B, 2, none⟩ b2).setCell ⟨B, 3, none⟩ b3).setCell ⟨B, 4, none⟩ b4) G cs t :=
  ((((h.other (p := ⟨B, 0, none⟩) hne _).other (p := ⟨B, 1, none⟩) hne _).other (p := ⟨B, 2, none⟩) hne _).other (p := ⟨B, 3, none⟩) hne _).other (p := ⟨B, 4, none⟩) hne _

set_option maxRecDepth 100000 in
set_option maxHeartbeats 8000000 in
theorem rPut_obj {B : Nat} {w : World} {b : Bool} {t key : ByteArray} {kv iv : Value} {ks : List ByteArray} {ys : List It} {ex : It} (hkv : StrsAt B w kv ks) (hiv : ItemsAt B w iv ys) (hl : ks.length = ys.length) (hbig : ks.length ≤ 900000) (hx : ex.Ok B w)
    (W : World) (hb : Below B w W) (hBW : B ≤ W.heap.size) : Calls Tryz.prog 68 #[.agg #[.int .i64 6, .bool b, .string t, iv, kv], .string key, ex.val] W fun e w' =>
      ∃ kv' iv', e = .returned (.agg #[.int .i64 6, .bool false, .string ⟨#[]⟩, iv', kv']) ∧ Grown W.heap.size w' kv' iv' (insK key (dropK key ks)) (insI key ex (dropK key ks) (dropI key ks ys)) ∧ Below W.heap.size W w' := by
  have HDR := Lib.hid (fun W' (hb' : Below W.heap.size W W') => rDrop_obj (b := b) (t := t) (key := key) hkv hiv hl (by omega) W' (hb.trans (hb'.mono hBW)) (Nat.le_trans hBW hb'.size))
  have HOK : Hid (∀ e ∈ dropI key ks ys, e.Ok B w) := Lib.hid (fun e he => by
    obtain ⟨_, _, _, _, _, _, hok⟩ := hiv
    exact hok e (dropI_sub key ks ys e he))
  have HLL : Hid ((dropK key ks).length = (dropI key ks ys).length ∧ (dropK key ks).length ≤ 900000) := Lib.hid ⟨(dropI_length key ks ys hl).symm, Nat.le_trans (dropK_le key ks) hbig⟩
  obtain ⟨adk, capk, rfl, -⟩ := hkv
  obtain ⟨adi, capi, rfl, -⟩ := hiv
  rw [← hl] at HDR ⊢
  generalize hKK : dropK key ks = K at HDR HOK HLL ⊢
  generalize hYY : dropI key ks ys = Y at HDR HOK HLL ⊢
  generalize ks.length = n at HDR ⊢
  clear hl hbig hKK hYY
  obtain ⟨iS, hiS, hzS, hsS, hbS⟩ := info_parts Tryz.infoStr
  obtain ⟨iV, zV, hiV, hzV, hzV5, hsV, hbV⟩ := info_val
  obtain ⟨a3, n3, c3, a4, n4, c4, exx, exy⟩ := hx.shape
  have HEX : Hid (ex.cells = [.int .i64 ex.k, .bool ex.b, .string ex.t, .slice a3 n3 c3, .slice a4 n4 c4]) := Lib.hid (by unfold It.cells; rw [exx, exy])
  have hval : ex.val = .agg #[.int .i64 ex.k, .bool ex.b, .string ex.t, .slice a3 n3 c3, .slice a4 n4 c4] := by unfold It.val; rw [exx, exy]
  rw [hval]
  generalize ex.k = z0 at HEX ⊢
  generalize ex.b = z1 at HEX ⊢
  generalize ex.t = z2 at HEX ⊢
  clear exx exy hval
  have en : nil5 = #[.int .i64 0, .bool false, .string ⟨#[]⟩, .slice none 0 0, .slice none 0 0] := rfl
  obtain ⟨hb0, hB0, hB1, hR, hO, hsz⟩ := four_new W #[.int .i64 6, .bool b, .string t, .slice adi n capi, .slice adk n capk] #[.int .i64 z0, .bool z1, .string z2, .slice a3 n3 c3, .slice a4 n4 c4] nil5 #[.int .i64 6, .bool false, .string ⟨#[]⟩, .slice none 0 0, .slice none 0 0] 26
  have HDc := Lib.hid (HDR.out _ hb0)
  have H4 : Hid (Below W.heap.size W ((((W.alloc (.cells #[.int .i64 6, .bool b, .string t, .slice adi n capi, .slice adk n capk] 26)).alloc (.cells #[.int .i64 z0, .bool z1, .string z2, .slice a3 n3 c3, .slice a4 n4 c4] 26)).alloc (.cells nil5 26)).alloc (.cells #[.int .i64 6, .bool false, .string ⟨#[]⟩, .slice none 0 0, .slice none 0 0] 26)) ∧ Blk ((((W.alloc (.cells #[.int .i64 6, .bool b, .string t, .slice adi n capi, .slice adk n capk] 26)).alloc (.cells #[.int .i64 z0, .bool z1, .string z2, .slice a3 n3 c3, .slice a4 n4 c4] 26)).alloc (.cells nil5 26)).alloc (.cells #[.int .i64 6, .bool false, .string ⟨#[]⟩, .slice none 0 0, .slice none 0 0] 26)) W.heap.size #[.int .i64 6, .bool b, .string t, .slice adi n capi, .slice adk n capk] 26 ∧ Blk ((((W.alloc (.cells #[.int .i64 6, .bool b, .string t, .slice adi n capi, .slice adk n capk] 26)).alloc (.cells #[.int .i64 z0, .bool z1, .string z2, .slice a3 n3 c3, .slice a4 n4 c4] 26)).alloc (.cells nil5 26)).alloc (.cells #[.int .i64 6, .bool false, .string ⟨#[]⟩, .slice none 0 0, .slice none 0 0] 26)) (W.heap.size + 1) #[.int .i64 z0, .bool z1, .string z2, .slice a3 n3 c3, .slice a4 n4 c4] 26 ∧ Blk ((((W.alloc (.cells #[.int .i64 6, .bool b, .string t, .slice adi n capi, .slice adk n capk] 26)).alloc (.cells #[.int .i64 z0, .bool z1, .string z2, .slice a3 n3 c3, .slice a4 n4 c4] 26)).alloc (.cells nil5 26)).alloc (.cells #[.int .i64 6, .bool false, .string ⟨#[]⟩, .slice none 0 0, .slice none 0 0] 26)) (W.heap.size + 2) nil5 26 ∧ Blk ((((W.alloc (.cells #[.int .i64 6, .bool b, .string t, .slice adi n capi, .slice adk n capk] 26)).alloc (.cells #[.int .i64 z0, .bool z1, .string z2, .slice a3 n3 c3, .slice a4 n4 c4] 26)).alloc (.cells nil5 26)).alloc (.cells #[.int .i64 6, .bool false, .string ⟨#[]⟩, .slice none 0 0, .slice none 0 0] 26)) (W.heap.size + 3) #[.int .i64 6, .bool false, .string ⟨#[]⟩, .slice none 0 0, .slice none 0 0] 26 ∧ ((((W.alloc (.cells #[.int .i64 6, .bool b, .string t, .slice adi n capi, .slice adk n capk] 26)).alloc (.cells #[.int .i64 z0, .bool z1, .string z2, .slice a3 n3 c3, .slice a4 n4 c4] 26)).alloc (.cells nil5 26)).alloc (.cells #[.int .i64 6, .bool false, .string ⟨#[]⟩, .slice none 0 0, .slice none 0 0] 26)).heap.size = W.heap.size + 4) := Lib.hid ⟨hb0, hB0, hB1, hR, hO, hsz⟩
  have q0 := hB0.cell 0
  rw [en] at HDc H4 q0
  clear hb0 hB0 hB1 hR hO hsz HDR hx hb hBW
  go_enter Tryz.func68, Tryz.ntmps68
  go_wp2_with fail
  go_at_call 90; refine HDc.out.mono ?_; rintro e w1 ⟨kv1, iv1, rfl, hgr, hb1⟩
  obtain ⟨ad1, cap1, rfl⟩ := row_shape hgr.1
  obtain ⟨adi1, capi1, rfl⟩ := row_shape hgr.2
  have h5 : Below W.heap.size W w1 ∧ Blk w1 W.heap.size #[.int .i64 6, .bool b, .string t, .slice adi n capi, .slice adk n capk] 26 ∧ Blk w1 (W.heap.size + 1) #[.int .i64 z0, .bool z1, .string z2, .slice a3 n3 c3, .slice a4 n4 c4] 26 ∧ Blk w1 (W.heap.size + 2) #[.int .i64 0, .bool false, .string ⟨#[]⟩, .slice none 0 0, .slice none 0 0] 26 ∧ Blk w1 (W.heap.size + 3) #[.int .i64 6, .bool false, .string ⟨#[]⟩, .slice none 0 0, .slice none 0 0] 26 ∧ W.heap.size + 4 ≤ w1.heap.size := by
    obtain ⟨a1, a2, a3, a4, a5, a6⟩ := H4.out
    exact ⟨a1.trans (hb1.mono a1.size), a2.below hb1, a3.below hb1, a4.below hb1, a5.below hb1, by have := hb1.size; omega⟩
  have f0 := h5.2.1.frozen 0
  have f1 := h5.2.1.frozen 1
  have f2 := h5.2.1.frozen 2
  have f3 := h5.2.1.frozen 3
  have f4 := h5.2.1.frozen 4
  have v0 := h5.2.1.cell 0
  have v1 := h5.2.1.cell 1
  have v2 := h5.2.1.cell 2
  have v3 := h5.2.1.cell 3
  have v4 := h5.2.1.cell 4
  have H5 := Lib.hid h5
  have HGR := Lib.hid hgr
  have hsz1 := H4.out.2.2.2.2.2
  rw [hsz1] at HGR
  clear h5 hgr hb1 H4 HDc q0 hsz1
  go_wp2_with (with_reducible refine (id (Hid.out ?_) : wpList _ _ _ (⟨some 17, _, _, _, _, _⟩ :: _) _ _))
  refine Lib.hid ?_
  clear f0 f1 f2 f3 f4 v0 v1 v2 v3 v4
  have hkd := row_set5 HGR.out.1 W.heap.size (.int .i64 6) (.bool false) (.string ⟨#[]⟩) (.slice adi1 Y.length capi1) (.slice ad1 K.length cap1) (fun e => by have := (HGR.out.1.lt _ e).1; omega)
  have hid := row_set5 HGR.out.2 W.heap.size (.int .i64 6) (.bool false) (.string ⟨#[]⟩) (.slice adi1 Y.length capi1) (.slice ad1 K.length cap1) (fun e => by have := (HGR.out.2.lt _ e).1; omega)
  have hbd := below_set5 H5.out.1 (B := W.heap.size) (Nat.le_refl _) (.int .i64 6) (.bool false) (.string ⟨#[]⟩) (.slice adi1 Y.length capi1) (.slice ad1 K.length cap1)
  have hd0 := H5.out.2.1.set5 (.int .i64 6) (.bool false) (.string ⟨#[]⟩) (.slice adi1 Y.length capi1) (.slice ad1 K.length cap1)
  have hd1 := blk_set5 H5.out.2.2.1 (B := W.heap.size) (by omega) (.int .i64 6) (.bool false) (.string ⟨#[]⟩) (.slice adi1 Y.length capi1) (.slice ad1 K.length cap1)
  have hd2 := blk_set5 H5.out.2.2.2.1 (B := W.heap.size) (by omega) (.int .i64 6) (.bool false) (.string ⟨#[]⟩) (.slice adi1 Y.length capi1) (.slice ad1 K.length cap1)
  have hd3 := blk_set5 H5.out.2.2.2.2.1 (B := W.heap.size) (by omega) (.int .i64 6) (.bool false) (.string ⟨#[]⟩) (.slice adi1 Y.length capi1) (.slice ad1 K.length cap1)
  have hds : (((((w1.setCell ⟨W.heap.size, 0, none⟩ (.int .i64 6)).setCell ⟨W.heap.size, 1, none⟩ (.bool false)).setCell ⟨W.heap.size, 2, none⟩ (.string ⟨#[]⟩)).setCell ⟨W.heap.size, 3, none⟩ (.slice adi1 Y.length capi1)).setCell ⟨W.heap.size, 4, none⟩ (.slice ad1 K.length cap1)).heap.size = w1.heap.size := by simp
  generalize hWd : (((((w1.setCell ⟨W.heap.size, 0, none⟩ (.int .i64 6)).setCell ⟨W.heap.size, 1, none⟩ (.bool false)).setCell ⟨W.heap.size, 2, none⟩ (.string ⟨#[]⟩)).setCell ⟨W.heap.size, 3, none⟩ (.slice adi1 Y.length capi1)).setCell ⟨W.heap.size, 4, none⟩ (.slice ad1 K.length cap1)) = Wd at *
  obtain ⟨L, hL⟩ : ∃ L, w1.heap.size = L + 1 := ⟨w1.heap.size - 1, by have := H5.out.2.2.2.2.2; omega⟩
  have hL4 : W.heap.size + 3 ≤ L := by have := H5.out.2.2.2.2.2; omega
  have hdL : Wd.heap.size = L + 1 := by omega
  have HL4 := Lib.hid hL4
  have hstR : Blk Wd (W.heap.size + 2) nil5 26 := by rw [en]; exact hd2
  have hG0 : GrowAt W Wd (W.heap.size + 2) (W.heap.size + 3) L (stands Wd L (W.heap.size + 3)) [] [] (.slice none 0 0) (.slice none 0 0) := ⟨hstR, hd3, ⟨rfl, .inl ⟨rfl, rfl⟩⟩, ⟨rfl, .inl ⟨rfl, rfl⟩⟩, fun a u hf => hf.2.2, fun a u hf => ⟨hf.1, hf.2.1⟩, hbd, fun g h => (by cases h), fun g h => (by cases h), fun g h => (by cases h), by omega, by omega⟩
  have hXB : ∀ i u, (#[.int .i64 z0, .bool z1, .string z2, .slice a3 n3 c3, .slice a4 n4 c4] : Array Value)[i]? = some u → stands Wd L (W.heap.size + 3) ⟨(W.heap.size + 1), i, none⟩ u := fun i u h => ⟨by show _ + 1 ≤ _; omega, by show _ + 1 ≠ _; omega, (hd1.cell i).trans h⟩
  have hVB : ∀ i u, (#[.int .i64 6, .bool false, .string ⟨#[]⟩, .slice adi1 Y.length capi1, .slice ad1 K.length cap1] : Array Value)[i]? = some u → stands Wd L (W.heap.size + 3) ⟨W.heap.size, i, none⟩ u := fun i u h => ⟨by show W.heap.size ≤ _; omega, by show W.heap.size ≠ _ + 3; omega, (hd0.cell i).trans h⟩
  have hKP : 0 < K.length → ∃ g, ad1 = some ⟨g, 0, none⟩ ∧ ∀ j (h : j < K.length), stands Wd L (W.heap.size + 3) ⟨g, j, none⟩ (.string K[j]) := fun h0 => by
    obtain ⟨g, c, e, h1, h2⟩ := World.ownsRow.form hkd h0
    cases e
    refine ⟨g, rfl, fun j hj => ⟨by show g ≤ L; omega, by show g ≠ _; omega, ?_⟩⟩
    have := World.ownsRow.cells hkd (g := g) rfl j (.string K[j]) (by rw [List.getElem?_map, List.getElem?_eq_getElem hj]; rfl)
    rw [Lib.add_plain, Nat.zero_add] at this
    exact this
  have hIP : 0 < K.length → ∃ g, adi1 = some ⟨g, 0, none⟩ ∧ ∀ j (h : j < Y.length), ∀ i u, Y[j].cells[i]? = some u → stands Wd L (W.heap.size + 3) ⟨g, j * 5 + i, none⟩ u := fun h0 => by
    obtain ⟨g, c, e, h1, h2⟩ := World.ownsRow.form hid (by have := HLL.out.1; omega)
    cases e
    refine ⟨g, rfl, fun j hj i u hu => ⟨by show g ≤ L; omega, by show g ≠ _; omega, ?_⟩⟩
    have hi5 : i < 5 := by
      have := (List.getElem?_eq_some_iff.1 hu).1
      rw [It.cells_length] at this; exact this
    have := World.ownsRow.cells hid (g := g) rfl (j * 5 + i) u (by rw [flat5_at hj hi5]; exact hu)
    rw [Lib.add_plain, Nat.zero_add] at this
    exact this
  generalize hF : stands Wd L (W.heap.size + 3) = F at hG0 hXB hVB hKP hIP
  have HG0 := Lib.hid hG0
  have HXB := Lib.hid hXB
  have HVB := Lib.hid hVB
  have HKP := Lib.hid hKP
  have HIP := Lib.hid hIP
  clear hG0 hXB hVB hKP hIP hF hkd hid hbd hd0 hd1 hd2 hd3 hds hWd hL hL4 hdL hstR HGR H5
  obtain ⟨m, hm⟩ : ∃ m, K.length = m := ⟨_, rfl⟩
  have HM := Lib.hid hm
  have HMY : Hid (Y.length = m) := Lib.hid (by have := HLL.out.1; omega)
  have hm9 : m ≤ 900000 := by have := HLL.out.2; omega
  rw [hm, HMY.out] at HVB
  have HKP2 : Hid (0 < m → ∃ g, ad1 = some ⟨g, 0, none⟩ ∧ ∀ j (h : j < K.length), F ⟨g, j, none⟩ (.string K[j])) := Lib.hid (fun h => HKP.out (by omega))
  have HIP2 : Hid (0 < m → ∃ g, adi1 = some ⟨g, 0, none⟩ ∧ ∀ j (h : j < Y.length), ∀ i u, Y[j].cells[i]? = some u → F ⟨g, j * 5 + i, none⟩ u) := Lib.hid (fun h => HIP.out (by omega))
  clear HKP HIP
  rw [hm, HMY.out]
  have c4 := HG0.out.fix ⟨W.heap.size, 4, none⟩ (.slice ad1 m cap1) (HVB.out 4 _ rfl)
  clear hm
  go_wp2_with fail
  clear c4
  go_loopw [8, 20] (fun pv jv wr => ∃ (put : Bool) (j : Nat) (kk : List ByteArray) (xx : List It) (kv iv : Value), pv = .bool put ∧ jv = .int .i64 j ∧ j ≤ m ∧ Hid (GrowAt W wr (W.heap.size + 2) (W.heap.size + 3) L F kk xx kv iv) ∧ Hid (PutSt put key ex K Y kk xx j)) (fun _ jv _ => m - (intOf jv).toNat)
  case atStart => exact ⟨false, 0, [], [], _, _, rfl, rfl, by omega, HG0, Lib.hid ⟨fun h => (by cases h), fun _ => ⟨rfl, rfl, by simp⟩, by simp, rfl⟩⟩
  case round =>
    obtain ⟨put, j, kk, xx, kv, iv, rfl, rfl, hj, HG, HP⟩ := hrel
    clear HG0
    have i1 : (0 : Int) ≤ (j : Int) := by omega
    obtain ⟨adk', capk', rfl⟩ := row_shape HG.out.keys
    obtain ⟨adi', capi', rfl⟩ := row_shape HG.out.items
    have hx1 : kk.length ≤ 1000000 := by have := HP.out.2.2.1; omega
    have hx2 : xx.length ≤ 1000000 := by have := HP.out.2.2; omega
    by_cases hlt : j < m
    · have i2 : (j : Int) < (m : Int) := by omega
      have hjk : j < K.length := by have := HM.out; omega
      have hjy : j < Y.length := by have := HMY.out; omega
      obtain ⟨gk, rfl, hck⟩ := HKP2.out (by omega)
      obtain ⟨gi, rfl, hci⟩ := HIP2.out (by omega)
      have HCK := Lib.hid (hck j hjk)
      have HCI := Lib.hid (hci j hjy)
      have hstK := insK_step (key := key) hjk
      have hstI := insI_step (key := key) (x := ex) (ys := Y) hjk hjy
      have hdK := List.drop_eq_getElem_cons hjk
      have hdY := List.drop_eq_getElem_cons hjy
      obtain ⟨x, hx⟩ : ∃ x, K[j] = x := ⟨_, rfl⟩
      have hoke := HOK.out Y[j] (List.getElem_mem hjy)
      obtain ⟨e, he⟩ : ∃ e, Y[j] = e := ⟨_, rfl⟩
      rw [hx] at HCK hstK hstI hdK
      rw [he] at HCI hstI hoke hdY
      obtain ⟨ai, ni, ci, ak, nk2, ck2, exi, exy⟩ := hoke.shape
      have HEC : Hid (e.cells = [.int .i64 e.k, .bool e.b, .string e.t, .slice ai ni ci, .slice ak nk2 ck2]) := Lib.hid (by unfold It.cells; rw [exi, exy])
      generalize e.k = y0 at HEC
      generalize e.b = y1 at HEC
      generalize e.t = y2 at HEC
      rw [HEC.out] at HCI
      have HSK := Lib.hid hstK
      have HSI := Lib.hid hstI
      have HDK := Lib.hid hdK
      have HDY := Lib.hid hdY
      have ck := HG.out.fix _ _ HCK.out
      have v4 := HG.out.fix ⟨W.heap.size, 4, none⟩ _ (HVB.out 4 _ rfl)
      clear hck hci hx he hoke exi exy hstK hstI hdK hdY
      have hbl := bLess_eq key x

      cases put
      · cases hless : bLt key x
        · rw [hless] at hbl
          have HLs := Lib.hid hless
          clear hless
          go_wp2_with fail
          obtain ⟨W2, hW2⟩ : ∃ W2, wr.drew = W2 := ⟨_, rfl⟩
          have HG2 : Hid (GrowAt W W2 (W.heap.size + 2) (W.heap.size + 3) L F kk xx (.slice adk' kk.length capk') (.slice adi' xx.length capi')) := by rw [← hW2]; exact Lib.hid HG.out.drew
          have ck2' := HG2.out.fix _ _ HCK.out
          have q42 := HG2.out.fix ⟨W.heap.size, 4, none⟩ _ (HVB.out 4 _ rfl)
          have c4a := HG2.out.box.cell 4
          have f4a := (HG2.out.box.alloc (.cells #[.string x] 9)).frozen 4
          have c4aa := (HG2.out.box.alloc (.cells #[.string x] 9)).cell 4
          have hrowa := HG2.out.keys.alloc (.cells #[.string x] 9)
          have hlea := HG2.out.below.size
          have hOla := HG2.out.box.lt
          refine have AFTERa : (∀ (w3 : World) (g2 cap2 : Nat), (w3.ownsRow W.heap.size 9 1 (.slice (some ⟨g2, 0, none⟩) (kk.length + 1) cap2) (kk.length + 1) (kk.map Value.string ++ [.string x])) ∧ (W2.alloc (.cells #[.string x] 9)).grownBy w3 (Value.slice adk' kk.length capk').ownBlock ∧ ((Value.slice adk' kk.length capk').ownBlock = some g2 ∨ g2 = (W2.alloc (.cells #[.string x] 9)).heap.size) ∧ g2 < w3.heap.size → (?Ga : World → Nat → Nat → Prop) w3 g2 cap2) := ?latera; ?maina
          case maina =>
            go_region_law (refine step_append_lies _ rfl (.tmp 47) (.tmp 53) 24 rfl W.heap.size 9 iS (.string ⟨#[]⟩) 1 16 Tryz.underlying24 hiS hzS hsS hbS rfl (by decide) _ _ _ rfl hrowa ⟨W2.heap.size, 0, none⟩ 1 1 [.string x] rfl rfl (cell_box _ _ _) (by intro u hu; simp at hu; subst hu; rfl) (by decide) (by unfold maxLen; omega) (by omega) (by simp; omega) _ rfl ?_; intro g2a cap2a w3a hown3a hgrow3a hat3a hlt3a; have hbx3a := (HG2.out.box.alloc (.cells #[.string x] 9)).grows hgrow3a (ne_row HG2.out.kfar (by have := HG2.out.ranks; omega)); have c34a := hbx3a.cell 4; have f34a := hbx3a.frozen 4)
            all_goals exact AFTERa w3a g2a cap2a ⟨hown3a, hgrow3a, hat3a, hlt3a⟩
          case latera =>
            intro w3a g2a cap2a ⟨hown3a, hgrow3a, hat3a, hlt3a⟩
            have HKa : Hid (GrowAt W (w3a.setCell ⟨(W.heap.size + 3), 4, none⟩ (.slice (some ⟨g2a, 0, none⟩) (kk.length + 1) cap2a)) (W.heap.size + 2) (W.heap.size + 3) L F (kk ++ [x]) xx (.slice (some ⟨g2a, 0, none⟩) (kk.length + 1) cap2a) (.slice adi' xx.length capi')) := Lib.hid (HG2.out.key hown3a hgrow3a hat3a hlt3a)
            obtain ⟨W4a, hW4a⟩ : ∃ W4, w3a.setCell ⟨(W.heap.size + 3), 4, none⟩ (.slice (some ⟨g2a, 0, none⟩) (kk.length + 1) cap2a) = W4 := ⟨_, rfl⟩
            rw [hW4a] at HKa
            clear hown3a hgrow3a hat3a hlt3a hrowa f4a c4aa c4a hlea hOla
            clear ck2' q42
            go_wp2_with fail
            obtain ⟨W5, hW5⟩ : ∃ W5, W4a.drew = W5 := ⟨_, rfl⟩
            have HG5 : Hid (GrowAt W W5 (W.heap.size + 2) (W.heap.size + 3) L F (kk ++ [x]) xx (.slice (some ⟨g2a, 0, none⟩) (kk.length + 1) cap2a) (.slice adi' xx.length capi')) := by rw [← hW5]; exact Lib.hid HKa.out.drew
            have e0 := HG5.out.fix _ _ (HCI.out 0 _ rfl)
            have e1 := HG5.out.fix _ _ (HCI.out 1 _ rfl)
            have e2 := HG5.out.fix _ _ (HCI.out 2 _ rfl)
            have e3 := HG5.out.fix _ _ (HCI.out 3 _ rfl)
            have e4 := HG5.out.fix _ _ (HCI.out 4 _ rfl)
            have q35 := HG5.out.fix ⟨W.heap.size, 3, none⟩ _ (HVB.out 3 _ rfl)
            rw [Nat.add_zero] at e0
            have c3b := HG5.out.box.cell 3
            have f3b := (HG5.out.box.alloc (.cells #[.int .i64 y0, .bool y1, .string y2, .slice ai ni ci, .slice ak nk2 ck2] 26)).frozen 3
            have c3ab := (HG5.out.box.alloc (.cells #[.int .i64 y0, .bool y1, .string y2, .slice ai ni ci, .slice ak nk2 ck2] 26)).cell 3
            have hrowb := HG5.out.items.alloc (.cells #[.int .i64 y0, .bool y1, .string y2, .slice ai ni ci, .slice ak nk2 ck2] 26)
            have hblkb := World.alloc_heap_new W5 (.cells #[.int .i64 y0, .bool y1, .string y2, .slice ai ni ci, .slice ak nk2 ck2] 26)
            have hleb := HG5.out.below.size
            have hOlb := HG5.out.box.lt
            refine have AFTERb : (∀ (w3 : World) (g2 cap2 : Nat), (w3.ownsRow W.heap.size 26 5 (.slice (some ⟨g2, 0, none⟩) (xx.length + 1) cap2) (xx.length + 1) (xx.flatMap It.cells ++ [.int .i64 y0, .bool y1, .string y2, .slice ai ni ci, .slice ak nk2 ck2])) ∧ (W5.alloc (.cells #[.int .i64 y0, .bool y1, .string y2, .slice ai ni ci, .slice ak nk2 ck2] 26)).grownBy w3 (Value.slice adi' xx.length capi').ownBlock ∧ ((Value.slice adi' xx.length capi').ownBlock = some g2 ∨ g2 = (W5.alloc (.cells #[.int .i64 y0, .bool y1, .string y2, .slice ai ni ci, .slice ak nk2 ck2] 26)).heap.size) ∧ g2 < w3.heap.size → (?Gb : World → Nat → Nat → Prop) w3 g2 cap2) := ?laterb; ?mainb
            case mainb =>
              go_region_law (refine step_append_lies _ rfl (.tmp 57) (.tmp 63) 23 rfl W.heap.size 26 iV zV 5 80 Tryz.underlying23 hiV hzV hsV hbV (by rw [hzV5]; rfl) (by decide) _ _ _ rfl hrowb ⟨W5.heap.size, 0, none⟩ 1 1 [.int .i64 y0, .bool y1, .string y2, .slice ai ni ci, .slice ak nk2 ck2] rfl rfl (World.news_of_block hblkb) (by intro u hu; simp at hu; rcases hu with rfl | rfl | rfl | rfl | rfl <;> rfl) (by decide) (by unfold maxLen; omega) (by omega) (by simp; omega) _ rfl ?_; intro g2b cap2b w3b hown3b hgrow3b hat3b hlt3b; have hbx3b := (HG5.out.box.alloc (.cells #[.int .i64 y0, .bool y1, .string y2, .slice ai ni ci, .slice ak nk2 ck2] 26)).grows hgrow3b (ne_row HG5.out.ifar (by have := HG5.out.ranks; omega)); have c33b := hbx3b.cell 3; have f33b := hbx3b.frozen 3)
              all_goals exact AFTERb w3b g2b cap2b ⟨hown3b, hgrow3b, hat3b, hlt3b⟩
            case laterb =>
              intro w3b g2b cap2b ⟨hown3b, hgrow3b, hat3b, hlt3b⟩
              rw [← HEC.out] at hown3b
              have HIb : Hid (GrowAt W (w3b.setCell ⟨(W.heap.size + 3), 3, none⟩ (.slice (some ⟨g2b, 0, none⟩) (xx.length + 1) cap2b)) (W.heap.size + 2) (W.heap.size + 3) L F (kk ++ [x]) (xx ++ [e]) (.slice (some ⟨g2a, 0, none⟩) (kk.length + 1) cap2a) (.slice (some ⟨g2b, 0, none⟩) (xx.length + 1) cap2b)) := Lib.hid (HG5.out.item hown3b hgrow3b hat3b hlt3b)
              obtain ⟨W4b, hW4b⟩ : ∃ W4, w3b.setCell ⟨(W.heap.size + 3), 3, none⟩ (.slice (some ⟨g2b, 0, none⟩) (xx.length + 1) cap2b) = W4 := ⟨_, rfl⟩
              rw [hW4b] at HIb
              clear hown3b hgrow3b hat3b hlt3b hrowb hblkb f3b c3ab c3b hleb hOlb
              clear e0 e1 e2 e3 e4 q35 hW2 hW4a hW5
              go_wp2_with fail
              go_roundw
              case rel =>
                exact ⟨false, j + 1, _, _, _, _, rfl, by go_num, by omega, HIb, Lib.hid ⟨fun h => (by cases h), fun _ => ⟨by rw [(HP.out.2.1 rfl).1, HSK.out, if_neg (by rw [HLs.out]; decide), List.append_assoc]; rfl, by rw [(HP.out.2.1 rfl).2.1, HSI.out, if_neg (by rw [HLs.out]; decide), List.append_assoc]; rfl, by have := (HP.out.2.1 rfl).2.2; simp; omega⟩, by have := HP.out.2.2; simp; omega, by have := HP.out.2.2; simp; omega⟩⟩
              case measure => simp [intOf]; omega
        · rw [hless] at hbl
          have HLs := Lib.hid hless
          clear hless
          have c4p := HG.out.box.cell 4
          have f4p := (HG.out.box.alloc (.cells #[.string key] 9)).frozen 4
          have c4ap := (HG.out.box.alloc (.cells #[.string key] 9)).cell 4
          have hrowp := HG.out.keys.alloc (.cells #[.string key] 9)
          have hlep := HG.out.below.size
          have hOlp := HG.out.box.lt
          go_wp2_with (at_builtin; refine wpList_append_lies _ rfl (.tmp 35) (.tmp 37) 24 rfl W.heap.size 9 iS (.string ⟨#[]⟩) 1 16 Tryz.underlying24 hiS hzS hsS hbS rfl (by decide) _ _ _ rfl hrowp ⟨wr.heap.size, 0, none⟩ 1 1 [.string key] rfl rfl (cell_box _ _ _) (by intro u hu; simp at hu; subst hu; rfl) (by decide) (by unfold maxLen; omega) (by omega) (by simp; omega) _ rfl ?_; intro g2p cap2p w3p hown3p hgrow3p hat3p hlt3p; have hbx3p := (HG.out.box.alloc (.cells #[.string key] 9)).grows hgrow3p (ne_row HG.out.kfar (by have := HG.out.ranks; omega)); have c34p := hbx3p.cell 4; have f34p := hbx3p.frozen 4; refine Hid.out ?_)
          refine Lib.hid ?_
          go_wp2_with (with_reducible refine (id (Hid.out ?_) : wpList _ _ _ (⟨some 40, _, _, _, _, _⟩ :: _) _ _))
          refine Lib.hid ?_
          clear hbx3p c34p f34p
          have HKp : Hid (GrowAt W (w3p.setCell ⟨(W.heap.size + 3), 4, none⟩ (.slice (some ⟨g2p, 0, none⟩) (kk.length + 1) cap2p)) (W.heap.size + 2) (W.heap.size + 3) L F (kk ++ [key]) xx (.slice (some ⟨g2p, 0, none⟩) (kk.length + 1) cap2p) (.slice adi' xx.length capi')) := Lib.hid (HG.out.key hown3p hgrow3p hat3p hlt3p)
          obtain ⟨W4p, hW4p⟩ : ∃ W4, w3p.setCell ⟨(W.heap.size + 3), 4, none⟩ (.slice (some ⟨g2p, 0, none⟩) (kk.length + 1) cap2p) = W4 := ⟨_, rfl⟩
          rw [hW4p] at HKp ⊢
          clear hown3p hgrow3p hat3p hlt3p hrowp f4p c4ap c4p hlep hOlp
          have e0 := HKp.out.fix ⟨(W.heap.size + 1), 0, none⟩ (.int .i64 z0) (HXB.out 0 _ rfl)
          have e1 := HKp.out.fix ⟨(W.heap.size + 1), 1, none⟩ (.bool z1) (HXB.out 1 _ rfl)
          have e2 := HKp.out.fix ⟨(W.heap.size + 1), 2, none⟩ (.string z2) (HXB.out 2 _ rfl)
          have e3 := HKp.out.fix ⟨(W.heap.size + 1), 3, none⟩ (.slice a3 n3 c3) (HXB.out 3 _ rfl)
          have e4 := HKp.out.fix ⟨(W.heap.size + 1), 4, none⟩ (.slice a4 n4 c4) (HXB.out 4 _ rfl)
          have c3q := HKp.out.box.cell 3
          have f3q := (HKp.out.box.alloc (.cells #[.int .i64 z0, .bool z1, .string z2, .slice a3 n3 c3, .slice a4 n4 c4] 26)).frozen 3
          have c3aq := (HKp.out.box.alloc (.cells #[.int .i64 z0, .bool z1, .string z2, .slice a3 n3 c3, .slice a4 n4 c4] 26)).cell 3
          have hrowq := HKp.out.items.alloc (.cells #[.int .i64 z0, .bool z1, .string z2, .slice a3 n3 c3, .slice a4 n4 c4] 26)
          have hblkq := World.alloc_heap_new W4p (.cells #[.int .i64 z0, .bool z1, .string z2, .slice a3 n3 c3, .slice a4 n4 c4] 26)
          have hleq := HKp.out.below.size
          have hOlq := HKp.out.box.lt
          go_wp2_with (at_builtin; refine wpList_append_lies _ rfl (.tmp 41) (.tmp 43) 23 rfl W.heap.size 26 iV zV 5 80 Tryz.underlying23 hiV hzV hsV hbV (by rw [hzV5]; rfl) (by decide) _ _ _ rfl hrowq ⟨W4p.heap.size, 0, none⟩ 1 1 [.int .i64 z0, .bool z1, .string z2, .slice a3 n3 c3, .slice a4 n4 c4] rfl rfl (World.news_of_block hblkq) (by intro u hu; simp at hu; rcases hu with rfl | rfl | rfl | rfl | rfl <;> rfl) (by decide) (by unfold maxLen; omega) (by omega) (by simp; omega) _ rfl ?_; intro g2q cap2q w3q hown3q hgrow3q hat3q hlt3q; have hbx3q := (HKp.out.box.alloc (.cells #[.int .i64 z0, .bool z1, .string z2, .slice a3 n3 c3, .slice a4 n4 c4] 26)).grows hgrow3q (ne_row HKp.out.ifar (by have := HKp.out.ranks; omega)); have c33q := hbx3q.cell 3; have f33q := hbx3q.frozen 3; refine Hid.out ?_)
          refine Lib.hid ?_
          go_wp2_with fail
          clear hbx3q c33q f33q
          rw [← HEX.out] at hown3q
          have HIq : Hid (GrowAt W (w3q.setCell ⟨(W.heap.size + 3), 3, none⟩ (.slice (some ⟨g2q, 0, none⟩) (xx.length + 1) cap2q)) (W.heap.size + 2) (W.heap.size + 3) L F (kk ++ [key]) (xx ++ [ex]) (.slice (some ⟨g2p, 0, none⟩) (kk.length + 1) cap2p) (.slice (some ⟨g2q, 0, none⟩) (xx.length + 1) cap2q)) := Lib.hid (HKp.out.item hown3q hgrow3q hat3q hlt3q)
          obtain ⟨W4q, hW4q⟩ : ∃ W4, w3q.setCell ⟨(W.heap.size + 3), 3, none⟩ (.slice (some ⟨g2q, 0, none⟩) (xx.length + 1) cap2q) = W4 := ⟨_, rfl⟩
          rw [hW4q] at HIq ⊢
          clear hown3q hgrow3q hat3q hlt3q hrowq hblkq f3q c3aq c3q hleq hOlq
          clear e0 e1 e2 e3 e4
          have HZ : Hid (GrowAt W W4q (W.heap.size + 2) (W.heap.size + 3) L F (kk ++ [key]) (xx ++ [ex]) (.slice (some ⟨g2p, 0, none⟩) (kk ++ [key]).length cap2p) (.slice (some ⟨g2q, 0, none⟩) (xx ++ [ex]).length cap2q)) := by have h := HIq.out; rw [show kk.length + 1 = (kk ++ [key]).length by simp, show xx.length + 1 = (xx ++ [ex]).length by simp] at h; exact Lib.hid h
          generalize hkk3 : (kk ++ [key]) = k3 at HZ
          generalize hxx3 : (xx ++ [ex]) = x3 at HZ
          have HK3 : Hid (kk ++ [key] = k3 ∧ kk.length + 1 = k3.length) := Lib.hid ⟨hkk3, by rw [← hkk3]; simp⟩
          have HX3 : Hid (xx ++ [ex] = x3 ∧ xx.length + 1 = x3.length) := Lib.hid ⟨hxx3, by rw [← hxx3]; simp⟩
          rw [HK3.out.2, HX3.out.2]
          have hx1' : k3.length ≤ 1000000 := by have := HK3.out.2; have := HP.out.2.2.1; omega
          have hx2' : x3.length ≤ 1000000 := by have := HX3.out.2; have := HP.out.2.2; omega
          clear hkk3 hxx3 hW4p hW4q HKp HIq hbl
          go_wp2_with fail
          obtain ⟨W2, hW2⟩ : ∃ W2, W4q.drew = W2 := ⟨_, rfl⟩
          have HG2 : Hid (GrowAt W W2 (W.heap.size + 2) (W.heap.size + 3) L F k3 x3 (.slice (some ⟨g2p, 0, none⟩) k3.length cap2p) (.slice (some ⟨g2q, 0, none⟩) x3.length cap2q)) := by rw [← hW2]; exact Lib.hid HZ.out.drew
          have ck2' := HG2.out.fix _ _ HCK.out
          have q42 := HG2.out.fix ⟨W.heap.size, 4, none⟩ _ (HVB.out 4 _ rfl)
          have c4e := HG2.out.box.cell 4
          have f4e := (HG2.out.box.alloc (.cells #[.string x] 9)).frozen 4
          have c4ae := (HG2.out.box.alloc (.cells #[.string x] 9)).cell 4
          have hrowe := HG2.out.keys.alloc (.cells #[.string x] 9)
          have hlee := HG2.out.below.size
          have hOle := HG2.out.box.lt
          refine have AFTERe : (∀ (w3 : World) (g2 cap2 : Nat), (w3.ownsRow W.heap.size 9 1 (.slice (some ⟨g2, 0, none⟩) (k3.length + 1) cap2) (k3.length + 1) (k3.map Value.string ++ [.string x])) ∧ (W2.alloc (.cells #[.string x] 9)).grownBy w3 (Value.slice (some ⟨g2p, 0, none⟩) k3.length cap2p).ownBlock ∧ ((Value.slice (some ⟨g2p, 0, none⟩) k3.length cap2p).ownBlock = some g2 ∨ g2 = (W2.alloc (.cells #[.string x] 9)).heap.size) ∧ g2 < w3.heap.size → (?Ge : World → Nat → Nat → Prop) w3 g2 cap2) := ?latere; ?maine
          case maine =>
            go_region_law (refine step_append_lies _ rfl (.tmp 47) (.tmp 53) 24 rfl W.heap.size 9 iS (.string ⟨#[]⟩) 1 16 Tryz.underlying24 hiS hzS hsS hbS rfl (by decide) _ _ _ rfl hrowe ⟨W2.heap.size, 0, none⟩ 1 1 [.string x] rfl rfl (cell_box _ _ _) (by intro u hu; simp at hu; subst hu; rfl) (by decide) (by unfold maxLen; omega) (by omega) (by simp; omega) _ rfl ?_; intro g2e cap2e w3e hown3e hgrow3e hat3e hlt3e; have hbx3e := (HG2.out.box.alloc (.cells #[.string x] 9)).grows hgrow3e (ne_row HG2.out.kfar (by have := HG2.out.ranks; omega)); have c34e := hbx3e.cell 4; have f34e := hbx3e.frozen 4)
            all_goals exact AFTERe w3e g2e cap2e ⟨hown3e, hgrow3e, hat3e, hlt3e⟩
          case latere =>
            intro w3e g2e cap2e ⟨hown3e, hgrow3e, hat3e, hlt3e⟩
            have HKe : Hid (GrowAt W (w3e.setCell ⟨(W.heap.size + 3), 4, none⟩ (.slice (some ⟨g2e, 0, none⟩) (k3.length + 1) cap2e)) (W.heap.size + 2) (W.heap.size + 3) L F (k3 ++ [x]) x3 (.slice (some ⟨g2e, 0, none⟩) (k3.length + 1) cap2e) (.slice (some ⟨g2q, 0, none⟩) x3.length cap2q)) := Lib.hid (HG2.out.key hown3e hgrow3e hat3e hlt3e)
            obtain ⟨W4e, hW4e⟩ : ∃ W4, w3e.setCell ⟨(W.heap.size + 3), 4, none⟩ (.slice (some ⟨g2e, 0, none⟩) (k3.length + 1) cap2e) = W4 := ⟨_, rfl⟩
            rw [hW4e] at HKe
            clear hown3e hgrow3e hat3e hlt3e hrowe f4e c4ae c4e hlee hOle
            clear ck2' q42
            go_wp2_with fail
            obtain ⟨W5, hW5⟩ : ∃ W5, W4e.drew = W5 := ⟨_, rfl⟩
            have HG5 : Hid (GrowAt W W5 (W.heap.size + 2) (W.heap.size + 3) L F (k3 ++ [x]) x3 (.slice (some ⟨g2e, 0, none⟩) (k3.length + 1) cap2e) (.slice (some ⟨g2q, 0, none⟩) x3.length cap2q)) := by rw [← hW5]; exact Lib.hid HKe.out.drew
            have e0 := HG5.out.fix _ _ (HCI.out 0 _ rfl)
            have e1 := HG5.out.fix _ _ (HCI.out 1 _ rfl)
            have e2 := HG5.out.fix _ _ (HCI.out 2 _ rfl)
            have e3 := HG5.out.fix _ _ (HCI.out 3 _ rfl)
            have e4 := HG5.out.fix _ _ (HCI.out 4 _ rfl)
            have q35 := HG5.out.fix ⟨W.heap.size, 3, none⟩ _ (HVB.out 3 _ rfl)
            rw [Nat.add_zero] at e0
            have c3f := HG5.out.box.cell 3
            have f3f := (HG5.out.box.alloc (.cells #[.int .i64 y0, .bool y1, .string y2, .slice ai ni ci, .slice ak nk2 ck2] 26)).frozen 3
            have c3af := (HG5.out.box.alloc (.cells #[.int .i64 y0, .bool y1, .string y2, .slice ai ni ci, .slice ak nk2 ck2] 26)).cell 3
            have hrowf := HG5.out.items.alloc (.cells #[.int .i64 y0, .bool y1, .string y2, .slice ai ni ci, .slice ak nk2 ck2] 26)
            have hblkf := World.alloc_heap_new W5 (.cells #[.int .i64 y0, .bool y1, .string y2, .slice ai ni ci, .slice ak nk2 ck2] 26)
            have hlef := HG5.out.below.size
            have hOlf := HG5.out.box.lt
            refine have AFTERf : (∀ (w3 : World) (g2 cap2 : Nat), (w3.ownsRow W.heap.size 26 5 (.slice (some ⟨g2, 0, none⟩) (x3.length + 1) cap2) (x3.length + 1) (x3.flatMap It.cells ++ [.int .i64 y0, .bool y1, .string y2, .slice ai ni ci, .slice ak nk2 ck2])) ∧ (W5.alloc (.cells #[.int .i64 y0, .bool y1, .string y2, .slice ai ni ci, .slice ak nk2 ck2] 26)).grownBy w3 (Value.slice (some ⟨g2q, 0, none⟩) x3.length cap2q).ownBlock ∧ ((Value.slice (some ⟨g2q, 0, none⟩) x3.length cap2q).ownBlock = some g2 ∨ g2 = (W5.alloc (.cells #[.int .i64 y0, .bool y1, .string y2, .slice ai ni ci, .slice ak nk2 ck2] 26)).heap.size) ∧ g2 < w3.heap.size → (?Gf : World → Nat → Nat → Prop) w3 g2 cap2) := ?laterf; ?mainf
            case mainf =>
              go_region_law (refine step_append_lies _ rfl (.tmp 57) (.tmp 63) 23 rfl W.heap.size 26 iV zV 5 80 Tryz.underlying23 hiV hzV hsV hbV (by rw [hzV5]; rfl) (by decide) _ _ _ rfl hrowf ⟨W5.heap.size, 0, none⟩ 1 1 [.int .i64 y0, .bool y1, .string y2, .slice ai ni ci, .slice ak nk2 ck2] rfl rfl (World.news_of_block hblkf) (by intro u hu; simp at hu; rcases hu with rfl | rfl | rfl | rfl | rfl <;> rfl) (by decide) (by unfold maxLen; omega) (by omega) (by simp; omega) _ rfl ?_; intro g2f cap2f w3f hown3f hgrow3f hat3f hlt3f; have hbx3f := (HG5.out.box.alloc (.cells #[.int .i64 y0, .bool y1, .string y2, .slice ai ni ci, .slice ak nk2 ck2] 26)).grows hgrow3f (ne_row HG5.out.ifar (by have := HG5.out.ranks; omega)); have c33f := hbx3f.cell 3; have f33f := hbx3f.frozen 3)
              all_goals exact AFTERf w3f g2f cap2f ⟨hown3f, hgrow3f, hat3f, hlt3f⟩
            case laterf =>
              intro w3f g2f cap2f ⟨hown3f, hgrow3f, hat3f, hlt3f⟩
              rw [← HEC.out] at hown3f
              have HIf : Hid (GrowAt W (w3f.setCell ⟨(W.heap.size + 3), 3, none⟩ (.slice (some ⟨g2f, 0, none⟩) (x3.length + 1) cap2f)) (W.heap.size + 2) (W.heap.size + 3) L F (k3 ++ [x]) (x3 ++ [e]) (.slice (some ⟨g2e, 0, none⟩) (k3.length + 1) cap2e) (.slice (some ⟨g2f, 0, none⟩) (x3.length + 1) cap2f)) := Lib.hid (HG5.out.item hown3f hgrow3f hat3f hlt3f)
              obtain ⟨W4f, hW4f⟩ : ∃ W4, w3f.setCell ⟨(W.heap.size + 3), 3, none⟩ (.slice (some ⟨g2f, 0, none⟩) (x3.length + 1) cap2f) = W4 := ⟨_, rfl⟩
              rw [hW4f] at HIf
              clear hown3f hgrow3f hat3f hlt3f hrowf hblkf f3f c3af c3f hlef hOlf
              clear e0 e1 e2 e3 e4 q35 hW2 hW4e hW5
              go_wp2_with fail
              go_roundw
              case rel =>
                exact ⟨true, j + 1, _, _, _, _, rfl, by go_num, by omega, HIf, Lib.hid ⟨fun _ => ⟨by rw [(HP.out.2.1 rfl).1, HSK.out, if_pos HLs.out, HDK.out, ← HK3.out.1, List.append_assoc, List.append_assoc]; rfl, by rw [(HP.out.2.1 rfl).2.1, HSI.out, if_pos HLs.out, HDY.out, ← HX3.out.1, List.append_assoc, List.append_assoc]; rfl⟩, fun h => (by cases h), by have := (HP.out.2.1 rfl).2.2; have := HK3.out.2; simp; omega, by have := HP.out.2.2; have := HK3.out.2; have := HX3.out.2; simp; omega⟩⟩
              case measure => simp [intOf]; omega
      · clear hbl
        go_wp2_with fail
        obtain ⟨W2, hW2⟩ : ∃ W2, wr.drew = W2 := ⟨_, rfl⟩
        have HG2 : Hid (GrowAt W W2 (W.heap.size + 2) (W.heap.size + 3) L F kk xx (.slice adk' kk.length capk') (.slice adi' xx.length capi')) := by rw [← hW2]; exact Lib.hid HG.out.drew
        have ck2' := HG2.out.fix _ _ HCK.out
        have q42 := HG2.out.fix ⟨W.heap.size, 4, none⟩ _ (HVB.out 4 _ rfl)
        have c4c := HG2.out.box.cell 4
        have f4c := (HG2.out.box.alloc (.cells #[.string x] 9)).frozen 4
        have c4ac := (HG2.out.box.alloc (.cells #[.string x] 9)).cell 4
        have hrowc := HG2.out.keys.alloc (.cells #[.string x] 9)
        have hlec := HG2.out.below.size
        have hOlc := HG2.out.box.lt
        refine have AFTERc : (∀ (w3 : World) (g2 cap2 : Nat), (w3.ownsRow W.heap.size 9 1 (.slice (some ⟨g2, 0, none⟩) (kk.length + 1) cap2) (kk.length + 1) (kk.map Value.string ++ [.string x])) ∧ (W2.alloc (.cells #[.string x] 9)).grownBy w3 (Value.slice adk' kk.length capk').ownBlock ∧ ((Value.slice adk' kk.length capk').ownBlock = some g2 ∨ g2 = (W2.alloc (.cells #[.string x] 9)).heap.size) ∧ g2 < w3.heap.size → (?Gc : World → Nat → Nat → Prop) w3 g2 cap2) := ?laterc; ?mainc
        case mainc =>
          go_region_law (refine step_append_lies _ rfl (.tmp 47) (.tmp 53) 24 rfl W.heap.size 9 iS (.string ⟨#[]⟩) 1 16 Tryz.underlying24 hiS hzS hsS hbS rfl (by decide) _ _ _ rfl hrowc ⟨W2.heap.size, 0, none⟩ 1 1 [.string x] rfl rfl (cell_box _ _ _) (by intro u hu; simp at hu; subst hu; rfl) (by decide) (by unfold maxLen; omega) (by omega) (by simp; omega) _ rfl ?_; intro g2c cap2c w3c hown3c hgrow3c hat3c hlt3c; have hbx3c := (HG2.out.box.alloc (.cells #[.string x] 9)).grows hgrow3c (ne_row HG2.out.kfar (by have := HG2.out.ranks; omega)); have c34c := hbx3c.cell 4; have f34c := hbx3c.frozen 4)
          all_goals exact AFTERc w3c g2c cap2c ⟨hown3c, hgrow3c, hat3c, hlt3c⟩
        case laterc =>
          intro w3c g2c cap2c ⟨hown3c, hgrow3c, hat3c, hlt3c⟩
          have HKc : Hid (GrowAt W (w3c.setCell ⟨(W.heap.size + 3), 4, none⟩ (.slice (some ⟨g2c, 0, none⟩) (kk.length + 1) cap2c)) (W.heap.size + 2) (W.heap.size + 3) L F (kk ++ [x]) xx (.slice (some ⟨g2c, 0, none⟩) (kk.length + 1) cap2c) (.slice adi' xx.length capi')) := Lib.hid (HG2.out.key hown3c hgrow3c hat3c hlt3c)
          obtain ⟨W4c, hW4c⟩ : ∃ W4, w3c.setCell ⟨(W.heap.size + 3), 4, none⟩ (.slice (some ⟨g2c, 0, none⟩) (kk.length + 1) cap2c) = W4 := ⟨_, rfl⟩
          rw [hW4c] at HKc
          clear hown3c hgrow3c hat3c hlt3c hrowc f4c c4ac c4c hlec hOlc
          clear ck2' q42
          go_wp2_with fail
          obtain ⟨W5, hW5⟩ : ∃ W5, W4c.drew = W5 := ⟨_, rfl⟩
          have HG5 : Hid (GrowAt W W5 (W.heap.size + 2) (W.heap.size + 3) L F (kk ++ [x]) xx (.slice (some ⟨g2c, 0, none⟩) (kk.length + 1) cap2c) (.slice adi' xx.length capi')) := by rw [← hW5]; exact Lib.hid HKc.out.drew
          have e0 := HG5.out.fix _ _ (HCI.out 0 _ rfl)
          have e1 := HG5.out.fix _ _ (HCI.out 1 _ rfl)
          have e2 := HG5.out.fix _ _ (HCI.out 2 _ rfl)
          have e3 := HG5.out.fix _ _ (HCI.out 3 _ rfl)
          have e4 := HG5.out.fix _ _ (HCI.out 4 _ rfl)
          have q35 := HG5.out.fix ⟨W.heap.size, 3, none⟩ _ (HVB.out 3 _ rfl)
          rw [Nat.add_zero] at e0
          have c3d := HG5.out.box.cell 3
          have f3d := (HG5.out.box.alloc (.cells #[.int .i64 y0, .bool y1, .string y2, .slice ai ni ci, .slice ak nk2 ck2] 26)).frozen 3
          have c3ad := (HG5.out.box.alloc (.cells #[.int .i64 y0, .bool y1, .string y2, .slice ai ni ci, .slice ak nk2 ck2] 26)).cell 3
          have hrowd := HG5.out.items.alloc (.cells #[.int .i64 y0, .bool y1, .string y2, .slice ai ni ci, .slice ak nk2 ck2] 26)
          have hblkd := World.alloc_heap_new W5 (.cells #[.int .i64 y0, .bool y1, .string y2, .slice ai ni ci, .slice ak nk2 ck2] 26)
          have hled := HG5.out.below.size
          have hOld := HG5.out.box.lt
          refine have AFTERd : (∀ (w3 : World) (g2 cap2 : Nat), (w3.ownsRow W.heap.size 26 5 (.slice (some ⟨g2, 0, none⟩) (xx.length + 1) cap2) (xx.length + 1) (xx.flatMap It.cells ++ [.int .i64 y0, .bool y1, .string y2, .slice ai ni ci, .slice ak nk2 ck2])) ∧ (W5.alloc (.cells #[.int .i64 y0, .bool y1, .string y2, .slice ai ni ci, .slice ak nk2 ck2] 26)).grownBy w3 (Value.slice adi' xx.length capi').ownBlock ∧ ((Value.slice adi' xx.length capi').ownBlock = some g2 ∨ g2 = (W5.alloc (.cells #[.int .i64 y0, .bool y1, .string y2, .slice ai ni ci, .slice ak nk2 ck2] 26)).heap.size) ∧ g2 < w3.heap.size → (?Gd : World → Nat → Nat → Prop) w3 g2 cap2) := ?laterd; ?maind
          case maind =>
            go_region_law (refine step_append_lies _ rfl (.tmp 57) (.tmp 63) 23 rfl W.heap.size 26 iV zV 5 80 Tryz.underlying23 hiV hzV hsV hbV (by rw [hzV5]; rfl) (by decide) _ _ _ rfl hrowd ⟨W5.heap.size, 0, none⟩ 1 1 [.int .i64 y0, .bool y1, .string y2, .slice ai ni ci, .slice ak nk2 ck2] rfl rfl (World.news_of_block hblkd) (by intro u hu; simp at hu; rcases hu with rfl | rfl | rfl | rfl | rfl <;> rfl) (by decide) (by unfold maxLen; omega) (by omega) (by simp; omega) _ rfl ?_; intro g2d cap2d w3d hown3d hgrow3d hat3d hlt3d; have hbx3d := (HG5.out.box.alloc (.cells #[.int .i64 y0, .bool y1, .string y2, .slice ai ni ci, .slice ak nk2 ck2] 26)).grows hgrow3d (ne_row HG5.out.ifar (by have := HG5.out.ranks; omega)); have c33d := hbx3d.cell 3; have f33d := hbx3d.frozen 3)
            all_goals exact AFTERd w3d g2d cap2d ⟨hown3d, hgrow3d, hat3d, hlt3d⟩
          case laterd =>
            intro w3d g2d cap2d ⟨hown3d, hgrow3d, hat3d, hlt3d⟩
            rw [← HEC.out] at hown3d
            have HId : Hid (GrowAt W (w3d.setCell ⟨(W.heap.size + 3), 3, none⟩ (.slice (some ⟨g2d, 0, none⟩) (xx.length + 1) cap2d)) (W.heap.size + 2) (W.heap.size + 3) L F (kk ++ [x]) (xx ++ [e]) (.slice (some ⟨g2c, 0, none⟩) (kk.length + 1) cap2c) (.slice (some ⟨g2d, 0, none⟩) (xx.length + 1) cap2d)) := Lib.hid (HG5.out.item hown3d hgrow3d hat3d hlt3d)
            obtain ⟨W4d, hW4d⟩ : ∃ W4, w3d.setCell ⟨(W.heap.size + 3), 3, none⟩ (.slice (some ⟨g2d, 0, none⟩) (xx.length + 1) cap2d) = W4 := ⟨_, rfl⟩
            rw [hW4d] at HId
            clear hown3d hgrow3d hat3d hlt3d hrowd hblkd f3d c3ad c3d hled hOld
            clear e0 e1 e2 e3 e4 q35 hW2 hW4c hW5
            go_wp2_with fail
            go_roundw
            case rel =>
              exact ⟨true, j + 1, _, _, _, _, rfl, by go_num, by omega, HId, Lib.hid ⟨fun _ => ⟨by rw [(HP.out.1 rfl).1, HDK.out, List.append_assoc]; rfl, by rw [(HP.out.1 rfl).2, HDY.out, List.append_assoc]; rfl⟩, fun h => (by cases h), by have := HP.out.2.2; simp; omega, by have := HP.out.2.2; simp; omega⟩⟩
            case measure => simp [intOf]; omega
    · obtain rfl : j = m := by omega
      have v4 := HG.out.fix ⟨W.heap.size, 4, none⟩ _ (HVB.out 4 _ rfl)
      have hnK : K.drop j = [] := List.drop_eq_nil_of_le (by have := HM.out; omega)
      have HNK := Lib.hid hnK
      clear hnK
      cases put
      · go_wp2_with (with_reducible refine (id (Hid.out ?_) : wpList _ _ _ (⟨some 69, _, _, _, _, _⟩ :: _) _ _))
        refine Lib.hid ?_
        clear v4
        have HPK : Hid (insK key K = kk ++ [key] ∧ insI key ex K Y = xx ++ [ex]) := Lib.hid ⟨by rw [(HP.out.2.1 rfl).1, HNK.out]; rfl, by rw [(HP.out.2.1 rfl).2.1, HNK.out]; rfl⟩
        have c4p := HG.out.box.cell 4
        have f4p := (HG.out.box.alloc (.cells #[.string key] 9)).frozen 4
        have c4ap := (HG.out.box.alloc (.cells #[.string key] 9)).cell 4
        have hrowp := HG.out.keys.alloc (.cells #[.string key] 9)
        have hlep := HG.out.below.size
        have hOlp := HG.out.box.lt
        go_wp2_with (at_builtin; refine wpList_append_lies _ rfl (.tmp 70) (.tmp 72) 24 rfl W.heap.size 9 iS (.string ⟨#[]⟩) 1 16 Tryz.underlying24 hiS hzS hsS hbS rfl (by decide) _ _ _ rfl hrowp ⟨wr.heap.size, 0, none⟩ 1 1 [.string key] rfl rfl (cell_box _ _ _) (by intro u hu; simp at hu; subst hu; rfl) (by decide) (by unfold maxLen; omega) (by omega) (by simp; omega) _ rfl ?_; intro g2p cap2p w3p hown3p hgrow3p hat3p hlt3p; have hbx3p := (HG.out.box.alloc (.cells #[.string key] 9)).grows hgrow3p (ne_row HG.out.kfar (by have := HG.out.ranks; omega)); have c34p := hbx3p.cell 4; have f34p := hbx3p.frozen 4; refine Hid.out ?_)
        refine Lib.hid ?_
        go_wp2_with (with_reducible refine (id (Hid.out ?_) : wpList _ _ _ (⟨some 75, _, _, _, _, _⟩ :: _) _ _))
        refine Lib.hid ?_
        clear hbx3p c34p f34p
        have HKp : Hid (GrowAt W (w3p.setCell ⟨(W.heap.size + 3), 4, none⟩ (.slice (some ⟨g2p, 0, none⟩) (kk.length + 1) cap2p)) (W.heap.size + 2) (W.heap.size + 3) L F (kk ++ [key]) xx (.slice (some ⟨g2p, 0, none⟩) (kk.length + 1) cap2p) (.slice adi' xx.length capi')) := Lib.hid (HG.out.key hown3p hgrow3p hat3p hlt3p)
        obtain ⟨W4p, hW4p⟩ : ∃ W4, w3p.setCell ⟨(W.heap.size + 3), 4, none⟩ (.slice (some ⟨g2p, 0, none⟩) (kk.length + 1) cap2p) = W4 := ⟨_, rfl⟩
        rw [hW4p] at HKp ⊢
        clear hown3p hgrow3p hat3p hlt3p hrowp f4p c4ap c4p hlep hOlp
        have e0 := HKp.out.fix ⟨(W.heap.size + 1), 0, none⟩ (.int .i64 z0) (HXB.out 0 _ rfl)
        have e1 := HKp.out.fix ⟨(W.heap.size + 1), 1, none⟩ (.bool z1) (HXB.out 1 _ rfl)
        have e2 := HKp.out.fix ⟨(W.heap.size + 1), 2, none⟩ (.string z2) (HXB.out 2 _ rfl)
        have e3 := HKp.out.fix ⟨(W.heap.size + 1), 3, none⟩ (.slice a3 n3 c3) (HXB.out 3 _ rfl)
        have e4 := HKp.out.fix ⟨(W.heap.size + 1), 4, none⟩ (.slice a4 n4 c4) (HXB.out 4 _ rfl)
        have c3q := HKp.out.box.cell 3
        have f3q := (HKp.out.box.alloc (.cells #[.int .i64 z0, .bool z1, .string z2, .slice a3 n3 c3, .slice a4 n4 c4] 26)).frozen 3
        have c3aq := (HKp.out.box.alloc (.cells #[.int .i64 z0, .bool z1, .string z2, .slice a3 n3 c3, .slice a4 n4 c4] 26)).cell 3
        have hrowq := HKp.out.items.alloc (.cells #[.int .i64 z0, .bool z1, .string z2, .slice a3 n3 c3, .slice a4 n4 c4] 26)
        have hblkq := World.alloc_heap_new W4p (.cells #[.int .i64 z0, .bool z1, .string z2, .slice a3 n3 c3, .slice a4 n4 c4] 26)
        have hleq := HKp.out.below.size
        have hOlq := HKp.out.box.lt
        go_wp2_with (at_builtin; refine wpList_append_lies _ rfl (.tmp 76) (.tmp 78) 23 rfl W.heap.size 26 iV zV 5 80 Tryz.underlying23 hiV hzV hsV hbV (by rw [hzV5]; rfl) (by decide) _ _ _ rfl hrowq ⟨W4p.heap.size, 0, none⟩ 1 1 [.int .i64 z0, .bool z1, .string z2, .slice a3 n3 c3, .slice a4 n4 c4] rfl rfl (World.news_of_block hblkq) (by intro u hu; simp at hu; rcases hu with rfl | rfl | rfl | rfl | rfl <;> rfl) (by decide) (by unfold maxLen; omega) (by omega) (by simp; omega) _ rfl ?_; intro g2q cap2q w3q hown3q hgrow3q hat3q hlt3q; have hbx3q := (HKp.out.box.alloc (.cells #[.int .i64 z0, .bool z1, .string z2, .slice a3 n3 c3, .slice a4 n4 c4] 26)).grows hgrow3q (ne_row HKp.out.ifar (by have := HKp.out.ranks; omega)); have c33q := hbx3q.cell 3; have f33q := hbx3q.frozen 3; refine Hid.out ?_)
        refine Lib.hid ?_
        go_wp2_with (with_reducible refine (id (Hid.out ?_) : wpList _ _ _ (⟨some 81, _, _, _, _, _⟩ :: _) _ _))
        refine Lib.hid ?_
        clear hbx3q c33q f33q
        rw [← HEX.out] at hown3q
        have HIq : Hid (GrowAt W (w3q.setCell ⟨(W.heap.size + 3), 3, none⟩ (.slice (some ⟨g2q, 0, none⟩) (xx.length + 1) cap2q)) (W.heap.size + 2) (W.heap.size + 3) L F (kk ++ [key]) (xx ++ [ex]) (.slice (some ⟨g2p, 0, none⟩) (kk.length + 1) cap2p) (.slice (some ⟨g2q, 0, none⟩) (xx.length + 1) cap2q)) := Lib.hid (HKp.out.item hown3q hgrow3q hat3q hlt3q)
        obtain ⟨W4q, hW4q⟩ : ∃ W4, w3q.setCell ⟨(W.heap.size + 3), 3, none⟩ (.slice (some ⟨g2q, 0, none⟩) (xx.length + 1) cap2q) = W4 := ⟨_, rfl⟩
        rw [hW4q] at HIq ⊢
        clear hown3q hgrow3q hat3q hlt3q hrowq hblkq f3q c3aq c3q hleq hOlq
        clear e0 e1 e2 e3 e4
        have HZ : Hid (GrowAt W W4q (W.heap.size + 2) (W.heap.size + 3) L F (kk ++ [key]) (xx ++ [ex]) (.slice (some ⟨g2p, 0, none⟩) (kk ++ [key]).length cap2p) (.slice (some ⟨g2q, 0, none⟩) (xx ++ [ex]).length cap2q)) := by have h := HIq.out; rw [show kk.length + 1 = (kk ++ [key]).length by simp, show xx.length + 1 = (xx ++ [ex]).length by simp] at h; exact Lib.hid h
        generalize hkk3 : (kk ++ [key]) = k3 at HZ
        generalize hxx3 : (xx ++ [ex]) = x3 at HZ
        have HK3 : Hid (kk.length + 1 = k3.length) := Lib.hid (by rw [← hkk3]; simp)
        have HX3 : Hid (xx.length + 1 = x3.length) := Lib.hid (by rw [← hxx3]; simp)
        rw [HK3.out, HX3.out]
        have HFK : Hid (insK key K = k3) := Lib.hid (by rw [← hkk3]; exact HPK.out.1)
        have HFI : Hid (insI key ex K Y = x3) := Lib.hid (by rw [← hxx3]; exact HPK.out.2)
        clear hkk3 hxx3 hW4p hW4q HKp HIq
        have hb5 := HZ.out.res.set5 (.int .i64 6) (.bool false) (.string ⟨#[]⟩) (.slice (some ⟨g2q, 0, none⟩) x3.length cap2q) (.slice (some ⟨g2p, 0, none⟩) k3.length cap2p)
        have f0 := HZ.out.res.frozen 0
        have f1 := HZ.out.res.frozen 1
        have f2 := HZ.out.res.frozen 2
        have f3 := HZ.out.res.frozen 3
        have f4 := HZ.out.res.frozen 4
        have r0 := HZ.out.res.cell 0
        have r1 := HZ.out.res.cell 1
        have r2 := HZ.out.res.cell 2
        have r3 := HZ.out.res.cell 3
        have r4 := HZ.out.res.cell 4
        unfold nil5 at r0 r1 r2 r3 r4
        have b0 := HZ.out.box.cell 0
        have b1 := HZ.out.box.cell 1
        have b2 := HZ.out.box.cell 2
        have b3 := HZ.out.box.cell 3
        have b4 := HZ.out.box.cell 4
        go_wp2
        have d0 := hb5.cell 0
        have d1 := hb5.cell 1
        have d2 := hb5.cell 2
        have d3 := hb5.cell 3
        have d4 := hb5.cell 4
        have hk5 := row_set5 HZ.out.keys (W.heap.size + 2) (.int .i64 6) (.bool false) (.string ⟨#[]⟩) (.slice (some ⟨g2q, 0, none⟩) x3.length cap2q) (.slice (some ⟨g2p, 0, none⟩) k3.length cap2p) (fun e => by have := HZ.out.kfar _ e; have := HZ.out.ranks; omega)
        have hi5 := row_set5 HZ.out.items (W.heap.size + 2) (.int .i64 6) (.bool false) (.string ⟨#[]⟩) (.slice (some ⟨g2q, 0, none⟩) x3.length cap2q) (.slice (some ⟨g2p, 0, none⟩) k3.length cap2p) (fun e => by have := HZ.out.ifar _ e; have := HZ.out.ranks; omega)
        have hbf := below_set5 HZ.out.below (B := (W.heap.size + 2)) (by omega) (.int .i64 6) (.bool false) (.string ⟨#[]⟩) (.slice (some ⟨g2q, 0, none⟩) x3.length cap2q) (.slice (some ⟨g2p, 0, none⟩) k3.length cap2p)
        refine bodyPost_ret (v := .agg #[.int .i64 6, .bool false, .string ⟨#[]⟩, .slice (some ⟨g2q, 0, none⟩) x3.length cap2q, .slice (some ⟨g2p, 0, none⟩) k3.length cap2p]) ?_ rfl ⟨_, _, rfl, ⟨by rw [HFK.out]; exact hk5, by rw [HFI.out]; exact hi5⟩, hbf⟩
        simp [results, Tryz.results68, go_sem, d0, d1, d2, d3, d4]
      · go_wp2_with (with_reducible refine (id (Hid.out ?_) : wpList _ _ _ (⟨some 81, _, _, _, _, _⟩ :: _) _ _))
        refine Lib.hid ?_
        clear v4
        have HFK : Hid (insK key K = kk) := Lib.hid (by rw [(HP.out.1 rfl).1, HNK.out]; simp)
        have HFI : Hid (insI key ex K Y = xx) := Lib.hid (by rw [(HP.out.1 rfl).2, List.drop_eq_nil_of_le (by have := HMY.out; omega)]; simp)
        have hb5 := HG.out.res.set5 (.int .i64 6) (.bool false) (.string ⟨#[]⟩) (.slice adi' xx.length capi') (.slice adk' kk.length capk')
        have f0 := HG.out.res.frozen 0
        have f1 := HG.out.res.frozen 1
        have f2 := HG.out.res.frozen 2
        have f3 := HG.out.res.frozen 3
        have f4 := HG.out.res.frozen 4
        have r0 := HG.out.res.cell 0
        have r1 := HG.out.res.cell 1
        have r2 := HG.out.res.cell 2
        have r3 := HG.out.res.cell 3
        have r4 := HG.out.res.cell 4
        unfold nil5 at r0 r1 r2 r3 r4
        have b0 := HG.out.box.cell 0
        have b1 := HG.out.box.cell 1
        have b2 := HG.out.box.cell 2
        have b3 := HG.out.box.cell 3
        have b4 := HG.out.box.cell 4
        go_wp2
        have d0 := hb5.cell 0
        have d1 := hb5.cell 1
        have d2 := hb5.cell 2
        have d3 := hb5.cell 3
        have d4 := hb5.cell 4
        have hk5 := row_set5 HG.out.keys (W.heap.size + 2) (.int .i64 6) (.bool false) (.string ⟨#[]⟩) (.slice adi' xx.length capi') (.slice adk' kk.length capk') (fun e => by have := HG.out.kfar _ e; have := HG.out.ranks; omega)
        have hi5 := row_set5 HG.out.items (W.heap.size + 2) (.int .i64 6) (.bool false) (.string ⟨#[]⟩) (.slice adi' xx.length capi') (.slice adk' kk.length capk') (fun e => by have := HG.out.ifar _ e; have := HG.out.ranks; omega)
        have hbf := below_set5 HG.out.below (B := (W.heap.size + 2)) (by omega) (.int .i64 6) (.bool false) (.string ⟨#[]⟩) (.slice adi' xx.length capi') (.slice adk' kk.length capk')
        refine bodyPost_ret (v := .agg #[.int .i64 6, .bool false, .string ⟨#[]⟩, .slice adi' xx.length capi', .slice adk' kk.length capk']) ?_ rfl ⟨_, _, rfl, ⟨by rw [HFK.out]; exact hk5, by rw [HFI.out]; exact hi5⟩, hbf⟩
        simp [results, Tryz.results68, go_sem, d0, d1, d2, d3, d4]
end Go.Proofs.YtnmfoedfllmclaaGreatDoor
