/- Places of any number of keys, sorted · purlinref02.Drop -/
import Derived.Shelf.SlSortCmp.Whole1
import Derived.Handy
import Derived.Test.YtnmfoedfllmclaaGreatDoorJr04
import Derived.Test.YtnmfoedfllmclaaGreatDoorJr05
import Derived.Test.YtnmfoedfllmclaaGreatDoorJr06
import Derived.Test.YtnmfoedfllmclaaGreatDoorJr09
namespace Go.Proofs.YtnmfoedfllmclaaGreatDoor
open Go.RowKit Go.Sort Go.Shelf
set_option linter.unusedVariables false

theorem below_grow (W : World) (os : Array Obj) : Below W.heap.size W (grow W os) := ⟨rfl, rfl, rfl, by simp, fun g h => heap_grow_old W os h⟩
set_option maxHeartbeats 1000000 in
theorem sort_any {w W : World} {kv : Value} {ks : List ByteArray} (h0 : 0 < ks.length) (hn : ks.length ≤ 1000000) (hk : StrsAt w.heap.size w kv ks) (hb : Below w.heap.size w W)
    (hr : W.ownsRow w.heap.size 3 1 (.slice (some ⟨w.heap.size + 1, 0, none⟩) ks.length ks.length) ks.length (counted ks.length ks.length)) (hc : W.cell? ⟨w.heap.size, 0, none⟩ = some kv) :
    Calls Tryz.prog 109 #[.slice (some ⟨w.heap.size + 1, 0, none⟩) ks.length ks.length, .func (.func 110) #[] #[.pointer (some ⟨w.heap.size, 0, none⟩)] ] W fun e w' => e = .returned (.tuple #[]) ∧ SortedAt w ks w' := by
  letI hI : Inhabited (Fin ks.length) := ⟨⟨0, h0⟩⟩
  have eg : ∀ args w, (callFunc 110 args).run Tryz.prog w = .ok (.enter 110 args) w := enters_of Tryz.func110 (by kernel_rfl) rfl
  rw [counted_fin] at hr
  obtain ⟨g, cap, e1, -, hg, -, -, -, hH⟩ := Lib.holds_of_ownsRow hr (by intro h; cases h)
  cases e1
  have hcm : CmpReads Tryz.prog 110 #[.pointer (some ⟨w.heap.size, 0, none⟩)] (encFin ks.length) (byKey ks) (w.heap.size + 1) 0 (List.finRange ks.length).toArray.size W := fun m os dk hs x y =>
    closure_any (B := w.heap.size) (C := w.heap.size) x y ((hk.below hb).sorts _ _ _ _ _ _ (by omega) hb.size) ((sortWorld_other _ W _ _ _ _ _ ⟨w.heap.size, 0, none⟩ (by show w.heap.size ≠ w.heap.size + 1; omega) (by show w.heap.size < W.heap.size; omega)).trans hc)
  have hsz : (List.finRange ks.length).toArray.size = ks.length := by simp
  have hcon := Any.slices_SortFunc Tryz.laysSlF6_f109 (encFin ks.length) (fun _ => rfl) (byKey ks) (byKey_swo ks) 110 #[.pointer (some ⟨w.heap.size, 0, none⟩)] (w.heap.size + 1) 0 ks.length (List.finRange ks.length).toArray W eg hcm.lays hH hg (by rw [hsz]; omega)
  rw [hsz] at hcon
  refine Calls.mono hcon ?_
  rintro e w' ⟨rfl, d', n, os, hp, hso, rfl⟩
  have hbA : Below w.heap.size w (Sort.ahead W n) := ⟨hb.os, hb.tape, hb.output, hb.size, hb.block⟩
  have hrA : (Sort.ahead W n).ownsRow w.heap.size 3 1 (.slice (some ⟨w.heap.size + 1, 0, none⟩) ks.length ks.length) ks.length ((List.finRange ks.length).map (encFin ks.length)) := hr
  have hq := Lib.below_putRow (enc := encFin ks.length) (g := w.heap.size + 1) (q := 0) (d := d') hbA (by omega)
  have hl : d'.toList.length = ks.length := by rw [Array.length_toList, hp.1, hsz]
  have ho := Lib.ownsRow_putRow (q := 0) (ys := d'.toList) hrA hl (Nat.le_refl _)
  rw [List.take_of_length_le (by omega)] at ho
  have hgr := below_grow (putRow (encFin ks.length) (Sort.ahead W n) (w.heap.size + 1) 0 d') os
  exact ⟨rfl, hI, d', hp, hso, hq.trans (hgr.mono hq.size), row_below ho hgr⟩

/-- The places of a sorted row. -/
theorem places_of {ks : List ByteArray} (hI : Inhabited (Fin ks.length)) {d' : Array (Fin ks.length)} (hp : PermIn 0 ks.length (List.finRange ks.length).toArray d') (hs : SortedIn (ltOf (byKey ks)) 0 ks.length d') : PlacesOk ks (d'.toList.map Fin.val) := by
  have hsz : d'.size = ks.length := by rw [hp.1]; simp
  have hpm : d'.toList.Perm (List.finRange ks.length) := by
    have h := hp.2.2
    simp at h
    rwa [List.take_of_length_le (by rw [Array.length_toList]; omega), List.take_of_length_le (by simp)] at h
  refine ⟨?_, fun i j hij hj => ?_⟩
  · have h1 := hpm.map Fin.val
    have h2 : (List.finRange ks.length).map Fin.val = List.range ks.length := by
      apply List.ext_getElem
      · simp
      · intro i h1 h2; simp
    rwa [h2] at h1
  · have hjl : j < d'.size := by simpa using hj
    have h3 : ltOf (byKey ks) d'[j]! d'[i]! = false := hs i j (by omega) hij (by omega)
    rw [byKey_lt] at h3
    rw [getElem!_pos d' j hjl, getElem!_pos d' i (by omega)] at h3
    have e1 : (d'.toList.map Fin.val).getD j 0 = (d'[j]).val := by simp [List.getD, hjl]
    have e2 : (d'.toList.map Fin.val).getD i 0 = (d'[i]'(by omega)).val := by simp [List.getD, show i < d'.size by omega]
    rw [e1, e2]
    have f1 : ks.getD (d'[j]).val ⟨#[]⟩ = ks[(d'[j]).val] := by simp [List.getD]
    have f2 : ks.getD (d'[i]'(by omega)).val ⟨#[]⟩ = ks[(d'[i]'(by omega)).val] := by simp [List.getD]
    rw [f1, f2]
    exact h3
theorem places_any {w : World} {kv : Value} {ks : List ByteArray} (h0 : 0 < ks.length) (hn : ks.length ≤ 1000000) (hk : StrsAt w.heap.size w kv ks) : Calls Tryz.prog 101 #[kv] w fun e w' => ∃ ps, PlacesOk ks ps ∧ e = .returned (.slice (some ⟨w.heap.size + 1, 0, none⟩) ks.length ks.length) ∧ Below w.heap.size w w' ∧ w.heap.size + 1 < w'.heap.size ∧ ∀ j, j < ks.length → w'.cell? ⟨w.heap.size + 1, j, none⟩ = some (.int .i64 ((ps.getD j 0 : Nat) : Int)) := by
  refine places_loop hk h0 hn _ (fun W hb hr hc => ?_)
  refine (sort_any h0 hn hk hb hr hc).mono ?_
  rintro e w' ⟨rfl, hI, d', hp, hs, hb2, ho⟩
  have hsz : d'.size = ks.length := by rw [hp.1]; simp
  refine ⟨rfl, _, places_of hI hp hs, rfl, hb2, (World.ownsRow.lt ho _ rfl).2, fun j hj => ?_⟩
  have h1 := World.ownsRow.cells ho (g := w.heap.size + 1) rfl j (.int .i64 (((d'.toList.map Fin.val).getD j 0 : Nat) : Int)) (by
    rw [List.getElem?_map, List.getElem?_eq_getElem (by simp; omega)]
    simp [encFin, List.getD, show j < d'.size by omega])
  rw [Lib.add_plain, Nat.zero_add] at h1
  exact h1
/-- value.Object of as many items as keys, at least one. -/
theorem object_any {w : World} {kv iv : Value} {ks : List ByteArray} {xs : List It} (hk : StrsAt w.heap.size w kv ks) (hx : ItemsAt w.heap.size w iv xs) (hsm : ∀ e ∈ xs, smallT e.T) (hl : xs.length = ks.length) (h0 : 0 < ks.length) (hbig : ks.length ≤ 1000000) :
    Calls Tryz.prog 82 #[kv, iv] w fun e w' => ObjectEnds w ks (xs.map It.T) (PlacesOk ks) e w' := by
  refine object_gen (fun ps h => ?_) hk hx hsm hl h0 hbig (Lib.hid (fun W hb => places_any h0 hbig ((hk.below hb).mono hb.size)))
  have hlen : ps.length = ks.length := by rw [h.1.length_eq, List.length_range]
  refine ⟨hlen, fun k hk => ?_⟩
  have : ps.getD k 0 ∈ ps := by rw [show ps.getD k 0 = ps[k] by simp [List.getD, hk]]; exact List.getElem_mem hk
  exact List.mem_range.1 (h.1.mem_iff.1 this)
end Go.Proofs.YtnmfoedfllmclaaGreatDoor
namespace Go.Proofs.YtnmfoedfllmclaaGreatDoor
open Go.RowKit Go.Sort Go.Shelf
set_option linter.unusedVariables false

/-- What stands fast: the cells of some blocks. -/
def fixOf (bs : List (Nat × Array Value)) (a : Addr) (u : Value) : Prop := ∃ p ∈ bs, ∃ i, a = ⟨p.1, i, none⟩ ∧ p.2[i]? = some u
set_option maxRecDepth 100000 in
set_option maxHeartbeats 4000000 in
theorem rDrop_obj {B : Nat} {w : World} {b : Bool} {t key : ByteArray} {kv iv : Value} {ks : List ByteArray} {ys : List It} (hkv : StrsAt B w kv ks) (hiv : ItemsAt B w iv ys) (hl : ks.length = ys.length) (hbig : ks.length ≤ 1000000)
    (W : World) (hb : Below B w W) (hBW : B ≤ W.heap.size) : Calls Tryz.prog 90 #[.agg #[.int .i64 6, .bool b, .string t, iv, kv], .string key] W fun e w' =>
      ∃ kv' iv', e = .returned (.agg #[.int .i64 6, .bool false, .string ⟨#[]⟩, iv', kv']) ∧ Grown W.heap.size w' kv' iv' (dropK key ks) (dropI key ks ys) ∧ Below W.heap.size W w' := by
  obtain ⟨adk, capk, rfl, hkc, hkl, hkp⟩ := hkv.below hb
  obtain ⟨adi, capi, rfl, hic, hil, hip, hok⟩ := hiv.below hb
  obtain ⟨iS, hiS, hzS, hsS, hbS⟩ := info_parts Tryz.infoStr
  obtain ⟨iV, zV, hiV, hzV, hzV5, hsV, hbV⟩ := info_val
  have HKP := Lib.hid hkp
  have HIP := Lib.hid hip
  have HOK := Lib.hid hok
  rw [← hl] at hic hil ⊢
  have HL := Lib.hid hl
  have HBW := Lib.hid hBW
  obtain ⟨n, hn⟩ : ∃ n, ks.length = n := ⟨_, rfl⟩
  have HN := Lib.hid hn
  rw [hn] at hkc hkl hic hil hbig ⊢
  clear hkp hip hok hl hn hkv hiv hb
  have en : nil5 = #[.int .i64 0, .bool false, .string ⟨#[]⟩, .slice none 0 0, .slice none 0 0] := rfl
  have hgr : Hid (GrowAt W (((W.alloc (.cells #[.int .i64 6, .bool b, .string t, .slice adi n capi, .slice adk n capk] 26)).alloc (.cells nil5 26)).alloc (.cells #[.int .i64 6, .bool false, .string ⟨#[]⟩, .slice none 0 0, .slice none 0 0] 26)) (W.heap.size + 1) (W.heap.size + 2) (W.heap.size + 2) (fixOf [(W.heap.size, #[.int .i64 6, .bool b, .string t, .slice adi n capi, .slice adk n capk])]) [] [] (.slice none 0 0) (.slice none 0 0)) := by
    have h1 := below_new0 W (.cells #[.int .i64 6, .bool b, .string t, .slice adi n capi, .slice adk n capk] 26)
    have h2 := h1.alloc h1.size (.cells nil5 26)
    have h3 := h2.alloc h2.size (.cells #[.int .i64 6, .bool false, .string ⟨#[]⟩, .slice none 0 0, .slice none 0 0] 26)
    have k1 := ((Blk.new W #[.int .i64 6, .bool b, .string t, .slice adi n capi, .slice adk n capk] 26).alloc (.cells nil5 26)).alloc (.cells #[.int .i64 6, .bool false, .string ⟨#[]⟩, .slice none 0 0, .slice none 0 0] 26)
    have k2 := (Blk.new (W.alloc (.cells #[.int .i64 6, .bool b, .string t, .slice adi n capi, .slice adk n capk] 26)) nil5 26).alloc (.cells #[.int .i64 6, .bool false, .string ⟨#[]⟩, .slice none 0 0, .slice none 0 0] 26)
    have k3 := Blk.new ((W.alloc (.cells #[.int .i64 6, .bool b, .string t, .slice adi n capi, .slice adk n capk] 26)).alloc (.cells nil5 26)) #[.int .i64 6, .bool false, .string ⟨#[]⟩, .slice none 0 0, .slice none 0 0] 26
    refine Lib.hid ⟨by simpa using k2, by simpa using k3, ⟨rfl, .inl ⟨rfl, rfl⟩⟩, ⟨rfl, .inl ⟨rfl, rfl⟩⟩, fun a u hf => ?_, fun a u hf => ?_, h3, fun g h => (by cases h), fun g h => (by cases h), fun g h => (by cases h), by simp, by omega⟩
    · obtain ⟨p, hp, i, rfl, hi⟩ := hf
      simp only [List.mem_singleton] at hp
      subst hp
      exact (k1.cell i).trans hi
    · obtain ⟨p, hp, i, rfl, hi⟩ := hf
      simp only [List.mem_singleton] at hp
      subst hp
      exact ⟨by show W.heap.size ≤ _; omega, by show W.heap.size ≠ _; omega⟩
  go_enter Tryz.func90, Tryz.ntmps90
  go_wp2_with fail
  go_loopw [15] (fun jv wr => ∃ (j : Nat) (kk : List ByteArray) (xx : List It) (kv iv : Value), jv = .int .i64 j ∧ j ≤ n ∧ Hid (GrowAt W wr (W.heap.size + 1) (W.heap.size + 2) (W.heap.size + 2) (fixOf [(W.heap.size, #[.int .i64 6, .bool b, .string t, .slice adi n capi, .slice adk n capk])]) kk xx kv iv) ∧ Hid (dropK key ks = kk ++ dropK key (ks.drop j) ∧ dropI key ks ys = xx ++ dropI key (ks.drop j) (ys.drop j) ∧ kk.length ≤ j ∧ xx.length = kk.length)) (fun jv _ => n - (intOf jv).toNat)
  case atStart => exact ⟨0, [], [], _, _, rfl, by omega, hgr, Lib.hid ⟨rfl, rfl, by simp, rfl⟩⟩
  case round =>
    obtain ⟨j, kk, xx, kv, iv, rfl, hj, HG, HD⟩ := hrel
    clear hgr
    have i1 : (0 : Int) ≤ (j : Int) := by omega
    obtain ⟨adk', capk', rfl⟩ := row_shape HG.out.keys
    obtain ⟨adi', capi', rfl⟩ := row_shape HG.out.items
    by_cases hlt : j < n
    · have i2 : (j : Int) < (n : Int) := by omega
      have hjk : j < ks.length := by have := HN.out; omega
      have hjy : j < ys.length := by have := HN.out; have := HL.out; omega
      obtain ⟨gk, ok, rfl, hgk, hck⟩ := HKP.out (by omega)
      obtain ⟨gi, oi, rfl, hgi, hci⟩ := HIP.out (by omega)
      have ck := (HG.out.below.cell (p := ⟨gk, ok + j, none⟩) (by have := HBW.out; show gk < _; omega)).trans (hck j hjk)
      have h5 := hci j hjy
      have q3 := HG.out.fix ⟨W.heap.size, 3, none⟩ (.slice (some ⟨gi, oi, none⟩) n capi) ⟨_, List.mem_singleton.2 rfl, 3, rfl, rfl⟩
      have q4 := HG.out.fix ⟨W.heap.size, 4, none⟩ (.slice (some ⟨gk, ok, none⟩) n capk) ⟨_, List.mem_singleton.2 rfl, 4, rfl, rfl⟩
      have hstK := dropK_step (key := key) hjk
      have hstI := dropI_step (key := key) (ys := ys) hjk hjy
      obtain ⟨x, hx⟩ : ∃ x, ks[j] = x := ⟨_, rfl⟩
      rw [hx] at ck hstK hstI
      have hoke := HOK.out ys[j] (List.getElem_mem hjy)
      obtain ⟨e, he⟩ : ∃ e, ys[j] = e := ⟨_, rfl⟩
      rw [he] at h5 hstI hoke
      obtain ⟨ai, ni, ci, ak, nk2, ck2, exi, exy⟩ := hoke.shape
      rw [exi, exy] at h5
      have HEC : Hid (e.cells = [.int .i64 e.k, .bool e.b, .string e.t, .slice ai ni ci, .slice ak nk2 ck2]) := Lib.hid (by unfold It.cells; rw [exi, exy])
      generalize e.k = y0 at h5 HEC
      generalize e.b = y1 at h5 HEC
      generalize e.t = y2 at h5 HEC
      have H5 := Lib.hid h5
      clear hck hci hx he hoke exi exy h5
      obtain ⟨d, hd⟩ : ∃ d, (x.toList == key.toList) = d := ⟨_, rfl⟩
      cases d
      · rw [if_neg (by rw [hd]; decide)] at hstK hstI
        have hd2 : (x.toList != key.toList) = true := by simp only [bne, hd]; rfl
        have HSK := Lib.hid hstK
        have HSI := Lib.hid hstI
        have HX : Hid (kk.length ≤ n ∧ xx.length ≤ n) := Lib.hid (by have := HD.out.2.2; omega)
        have hx1 := HX.out.1
        have hx2 := HX.out.2
        clear hstK hstI
        go_wp2_with fail
        obtain ⟨W2, hW2⟩ : ∃ W2, wr.drew = W2 := ⟨_, rfl⟩
        have HG2 : Hid (GrowAt W W2 (W.heap.size + 1) (W.heap.size + 2) (W.heap.size + 2) (fixOf [(W.heap.size, #[.int .i64 6, .bool b, .string t, .slice (some ⟨gi, oi, none⟩) n capi, .slice (some ⟨gk, ok, none⟩) n capk])]) kk xx (.slice adk' kk.length capk') (.slice adi' xx.length capi')) := by rw [← hW2]; exact Lib.hid HG.out.drew
        have ck2' : W2.cell? ⟨gk, ok + j, none⟩ = some (.string x) := by rw [← hW2]; exact ck
        have q42 := HG2.out.fix ⟨W.heap.size, 4, none⟩ (.slice (some ⟨gk, ok, none⟩) n capk) ⟨_, List.mem_singleton.2 rfl, 4, rfl, rfl⟩
        clear ck q4
        have c4a := HG2.out.box.cell 4
        have f4a := (HG2.out.box.alloc (.cells #[.string x] 9)).frozen 4
        have c4aa := (HG2.out.box.alloc (.cells #[.string x] 9)).cell 4
        have hrowa := HG2.out.keys.alloc (.cells #[.string x] 9)
        have hlea := HG2.out.below.size
        have hOla := HG2.out.box.lt
        refine have AFTERa : (∀ (w3 : World) (g2 cap2 : Nat), (w3.ownsRow W.heap.size 9 1 (.slice (some ⟨g2, 0, none⟩) (kk.length + 1) cap2) (kk.length + 1) (kk.map Value.string ++ [.string x])) ∧ (W2.alloc (.cells #[.string x] 9)).grownBy w3 (Value.slice adk' kk.length capk').ownBlock ∧ ((Value.slice adk' kk.length capk').ownBlock = some g2 ∨ g2 = (W2.alloc (.cells #[.string x] 9)).heap.size) ∧ g2 < w3.heap.size → (?Ga : World → Nat → Nat → Prop) w3 g2 cap2) := ?latera; ?maina
        case maina =>
          go_region_law (refine step_append_lies _ rfl (.tmp 26) (.tmp 32) 24 rfl W.heap.size 9 iS (.string ⟨#[]⟩) 1 16 Tryz.underlying24 hiS hzS hsS hbS rfl (by decide) _ _ _ rfl hrowa ⟨W2.heap.size, 0, none⟩ 1 1 [.string x] rfl rfl (cell_box _ _ _) (by intro u hu; simp at hu; subst hu; rfl) (by decide) (by unfold maxLen; omega) (by omega) (by simp; omega) _ rfl ?_; intro g2a cap2a w3a hown3a hgrow3a hat3a hlt3a; have hbx3a := (HG2.out.box.alloc (.cells #[.string x] 9)).grows hgrow3a (ne_row HG2.out.kfar (by have := HG2.out.ranks; omega)); have c34a := hbx3a.cell 4; have f34a := hbx3a.frozen 4)
          all_goals exact AFTERa w3a g2a cap2a ⟨hown3a, hgrow3a, hat3a, hlt3a⟩
        case latera =>
          intro w3a g2a cap2a ⟨hown3a, hgrow3a, hat3a, hlt3a⟩
          have HKa : Hid (GrowAt W (w3a.setCell ⟨(W.heap.size + 2), 4, none⟩ (.slice (some ⟨g2a, 0, none⟩) (kk.length + 1) cap2a)) (W.heap.size + 1) (W.heap.size + 2) (W.heap.size + 2) (fixOf [(W.heap.size, #[.int .i64 6, .bool b, .string t, .slice (some ⟨gi, oi, none⟩) n capi, .slice (some ⟨gk, ok, none⟩) n capk])]) (kk ++ [x]) xx (.slice (some ⟨g2a, 0, none⟩) (kk.length + 1) cap2a) (.slice adi' xx.length capi')) := Lib.hid (HG2.out.key hown3a hgrow3a hat3a hlt3a)
          obtain ⟨W4a, hW4a⟩ : ∃ W4, w3a.setCell ⟨(W.heap.size + 2), 4, none⟩ (.slice (some ⟨g2a, 0, none⟩) (kk.length + 1) cap2a) = W4 := ⟨_, rfl⟩
          rw [hW4a] at HKa
          clear hown3a hgrow3a hat3a hlt3a hrowa f4a c4aa c4a hlea hOla
          go_wp2_with fail
          obtain ⟨W5, hW5⟩ : ∃ W5, W4a.drew = W5 := ⟨_, rfl⟩
          have HG5 : Hid (GrowAt W W5 (W.heap.size + 1) (W.heap.size + 2) (W.heap.size + 2) (fixOf [(W.heap.size, #[.int .i64 6, .bool b, .string t, .slice (some ⟨gi, oi, none⟩) n capi, .slice (some ⟨gk, ok, none⟩) n capk])]) (kk ++ [x]) xx (.slice (some ⟨g2a, 0, none⟩) (kk.length + 1) cap2a) (.slice adi' xx.length capi')) := by rw [← hW5]; exact Lib.hid HKa.out.drew
          obtain ⟨e0, e1, e2, e3, e4⟩ := H5.out.below (by have := HBW.out; omega) HG5.out.below
          have q35 := HG5.out.fix ⟨W.heap.size, 3, none⟩ (.slice (some ⟨gi, oi, none⟩) n capi) ⟨_, List.mem_singleton.2 rfl, 3, rfl, rfl⟩
          have c3b := HG5.out.box.cell 3
          have f3b := (HG5.out.box.alloc (.cells #[.int .i64 y0, .bool y1, .string y2, .slice ai ni ci, .slice ak nk2 ck2] 26)).frozen 3
          have c3ab := (HG5.out.box.alloc (.cells #[.int .i64 y0, .bool y1, .string y2, .slice ai ni ci, .slice ak nk2 ck2] 26)).cell 3
          have hrowb := HG5.out.items.alloc (.cells #[.int .i64 y0, .bool y1, .string y2, .slice ai ni ci, .slice ak nk2 ck2] 26)
          have hblkb := World.alloc_heap_new W5 (.cells #[.int .i64 y0, .bool y1, .string y2, .slice ai ni ci, .slice ak nk2 ck2] 26)
          have hleb := HG5.out.below.size
          have hOlb := HG5.out.box.lt
          refine have AFTERb : (∀ (w3 : World) (g2 cap2 : Nat), (w3.ownsRow W.heap.size 26 5 (.slice (some ⟨g2, 0, none⟩) (xx.length + 1) cap2) (xx.length + 1) (xx.flatMap It.cells ++ [.int .i64 y0, .bool y1, .string y2, .slice ai ni ci, .slice ak nk2 ck2])) ∧ (W5.alloc (.cells #[.int .i64 y0, .bool y1, .string y2, .slice ai ni ci, .slice ak nk2 ck2] 26)).grownBy w3 (Value.slice adi' xx.length capi').ownBlock ∧ ((Value.slice adi' xx.length capi').ownBlock = some g2 ∨ g2 = (W5.alloc (.cells #[.int .i64 y0, .bool y1, .string y2, .slice ai ni ci, .slice ak nk2 ck2] 26)).heap.size) ∧ g2 < w3.heap.size → (?Gb : World → Nat → Nat → Prop) w3 g2 cap2) := ?laterb; ?mainb
          case mainb =>
            go_region_law (refine step_append_lies _ rfl (.tmp 36) (.tmp 42) 23 rfl W.heap.size 26 iV zV 5 80 Tryz.underlying23 hiV hzV hsV hbV (by rw [hzV5]; rfl) (by decide) _ _ _ rfl hrowb ⟨W5.heap.size, 0, none⟩ 1 1 [.int .i64 y0, .bool y1, .string y2, .slice ai ni ci, .slice ak nk2 ck2] rfl rfl (World.news_of_block hblkb) (by intro u hu; simp at hu; rcases hu with rfl | rfl | rfl | rfl | rfl <;> rfl) (by decide) (by unfold maxLen; omega) (by omega) (by simp; omega) _ rfl ?_; intro g2b cap2b w3b hown3b hgrow3b hat3b hlt3b; have hbx3b := (HG5.out.box.alloc (.cells #[.int .i64 y0, .bool y1, .string y2, .slice ai ni ci, .slice ak nk2 ck2] 26)).grows hgrow3b (ne_row HG5.out.ifar (by have := HG5.out.ranks; omega)); have c33b := hbx3b.cell 3; have f33b := hbx3b.frozen 3)
            all_goals exact AFTERb w3b g2b cap2b ⟨hown3b, hgrow3b, hat3b, hlt3b⟩
          case laterb =>
            intro w3b g2b cap2b ⟨hown3b, hgrow3b, hat3b, hlt3b⟩
            rw [← HEC.out] at hown3b
            have HIb : Hid (GrowAt W (w3b.setCell ⟨(W.heap.size + 2), 3, none⟩ (.slice (some ⟨g2b, 0, none⟩) (xx.length + 1) cap2b)) (W.heap.size + 1) (W.heap.size + 2) (W.heap.size + 2) (fixOf [(W.heap.size, #[.int .i64 6, .bool b, .string t, .slice (some ⟨gi, oi, none⟩) n capi, .slice (some ⟨gk, ok, none⟩) n capk])]) (kk ++ [x]) (xx ++ [e]) (.slice (some ⟨g2a, 0, none⟩) (kk.length + 1) cap2a) (.slice (some ⟨g2b, 0, none⟩) (xx.length + 1) cap2b)) := Lib.hid (HG5.out.item hown3b hgrow3b hat3b hlt3b)
            obtain ⟨W4b, hW4b⟩ : ∃ W4, w3b.setCell ⟨(W.heap.size + 2), 3, none⟩ (.slice (some ⟨g2b, 0, none⟩) (xx.length + 1) cap2b) = W4 := ⟨_, rfl⟩
            rw [hW4b] at HIb
            clear hown3b hgrow3b hat3b hlt3b hrowb hblkb f3b c3ab c3b hleb hOlb
            clear e0 e1 e2 e3 e4 q35 hW2 hW4a hW5
            go_wp2_with fail
            go_roundw
            case rel =>
              exact ⟨j + 1, _, _, _, _, by go_num, by omega, HIb, Lib.hid ⟨by rw [HD.out.1, HSK.out, List.append_assoc]; rfl, by rw [HD.out.2.1, HSI.out, List.append_assoc]; rfl, by have := HD.out.2.2; simp; omega, by have := HD.out.2.2; simp; omega⟩⟩
            case measure => simp [intOf]; omega
      · rw [if_pos hd] at hstK hstI
        have hd2 : (x.toList != key.toList) = false := by simp only [bne, hd]; rfl
        have HSK := Lib.hid hstK
        have HSI := Lib.hid hstI
        clear hstK hstI
        go_wp2_with fail
        go_roundw
        case rel => exact ⟨j + 1, kk, xx, _, _, by go_num, by omega, HG, Lib.hid ⟨by rw [HD.out.1, HSK.out], by rw [HD.out.2.1, HSI.out], by have := HD.out.2.2; omega, HD.out.2.2.2⟩⟩
        case measure => simp [intOf]; omega
    · obtain rfl : j = n := by omega
      have hfinK : dropK key ks = kk := by rw [HD.out.1, List.drop_eq_nil_of_le (by have := HN.out; omega)]; simp [dropK]
      have hfinI : dropI key ks ys = xx := by rw [HD.out.2.1, List.drop_eq_nil_of_le (by have := HN.out; omega)]; simp [dropI]
      have HFK := Lib.hid hfinK
      have HFI := Lib.hid hfinI
      clear hfinK hfinI
      have h5 := HG.out.res.set5 (.int .i64 6) (.bool false) (.string ⟨#[]⟩) (.slice adi' xx.length capi') (.slice adk' kk.length capk')
      have hr := HG.out.ranks
      have f0 := HG.out.res.frozen 0
      have f1 := HG.out.res.frozen 1
      have f2 := HG.out.res.frozen 2
      have f3 := HG.out.res.frozen 3
      have f4 := HG.out.res.frozen 4
      have r0 := HG.out.res.cell 0
      have r1 := HG.out.res.cell 1
      have r2 := HG.out.res.cell 2
      have r3 := HG.out.res.cell 3
      have r4 := HG.out.res.cell 4
      unfold nil5 at r0 r1 r2 r3 r4
      have b0 := HG.out.box.cell 0
      have b1 := HG.out.box.cell 1
      have b2 := HG.out.box.cell 2
      have b3 := HG.out.box.cell 3
      have b4 := HG.out.box.cell 4
      go_wp2
      have d0 := h5.cell 0
      have d1 := h5.cell 1
      have d2 := h5.cell 2
      have d3 := h5.cell 3
      have d4 := h5.cell 4
      have hk5 := row_set5 HG.out.keys (W.heap.size + 1) (.int .i64 6) (.bool false) (.string ⟨#[]⟩) (.slice adi' xx.length capi') (.slice adk' kk.length capk') (fun e => by have := HG.out.kfar _ e; omega)
      have hi5 := row_set5 HG.out.items (W.heap.size + 1) (.int .i64 6) (.bool false) (.string ⟨#[]⟩) (.slice adi' xx.length capi') (.slice adk' kk.length capk') (fun e => by have := HG.out.ifar _ e; omega)
      have hbf := below_set5 HG.out.below (B := W.heap.size + 1) (by omega) (.int .i64 6) (.bool false) (.string ⟨#[]⟩) (.slice adi' xx.length capi') (.slice adk' kk.length capk')
      have hlen := HD.out.2.2
      refine bodyPost_ret (v := .agg #[.int .i64 6, .bool false, .string ⟨#[]⟩, .slice adi' xx.length capi', .slice adk' kk.length capk']) ?_ rfl ⟨_, _, rfl, ⟨by rw [HFK.out]; exact hk5, by rw [HFI.out]; exact hi5⟩, hbf⟩
      simp [results, Tryz.results90, go_sem, d0, d1, d2, d3, d4]
end Go.Proofs.YtnmfoedfllmclaaGreatDoor
