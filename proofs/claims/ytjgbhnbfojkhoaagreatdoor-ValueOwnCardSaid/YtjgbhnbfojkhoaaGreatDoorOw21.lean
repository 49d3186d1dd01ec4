/- purlinref02.Clone of any value: one like it, in new memory -/
import Derived.Deep.AppendSrc
import Derived.Deep.AppendLies
import Derived.Deep.RegionLaw
import Derived.Test.YtjgbhnbfojkhoaaGreatDoorOw20
namespace Go.Proofs.YtjgbhnbfojkhoaaGreatDoor
open Go.RowKit Go.Sort Go.Shelf
set_option linter.unusedVariables false

/-- An append whose run is known. -/
theorem wpList_append_run {P : Program} {ops : Array Oper} {rest : List Oper} {o : Oper} {a : Act} {w : World} {Q : Exit → Act → World → Prop} (hgd : o.guard = none) (s x : Operand) (t : TypeId)
    (ho : o.op = .call { callee := .builtin .append, args := #[s, x], argTypes := #[t, t] }) {v u v' : Value} {w' : World} (hs : a.eval s = v) (hx : a.eval x = u) (hr : (Builtin.append_ #[t, t] o.type #[v, u]).run P w = .ok v' w')
    (h : wpList P ops Q rest (a.put o.dst v') w') : wpList P ops Q (o :: rest) a w := by
  refine wpList_plain hgd fun _ hK => ?_
  unfold Oper.wp execOp
  simp only [ho, resolve, invoke, builtin, Sem.run_bind, Sem.run_pure, Result.andThen_ok, List.map_toArray, List.map_cons, List.map_nil, hs, hx, hr]
  exact hK _ _ h

set_option maxHeartbeats 1000000 in
/-- append of a list of strings to an empty list of the call's own. -/
theorem run_append_keys {B : Nat} {w W : World} {kv : Value} {ks : List ByteArray} (hk : StrsAt B w kv ks) (hb : Below B w W) (hs : ks.length ≤ 1000000) (E : Nat) (hE : Blk W E #[] 9) (ty : TypeId) :
    ∃ ad cap w', (Builtin.append_ #[ 24, 24 ] ty #[.slice (some ⟨E, 0, none⟩) 0 0, kv]).run Tryz.prog W = .ok (.slice ad ks.length cap) w' ∧ StrsF E w'.heap.size w' (.slice ad ks.length cap) ks ∧ Below E W w' ∧ E < w'.heap.size := by
  obtain ⟨iS, hiS, hzS, hsS, hbS⟩ := info_parts Tryz.infoStr
  obtain ⟨ad, cap, rfl, hnc, hl, hp⟩ := hk
  have hlt := hE.lt
  rcases Nat.eq_zero_or_pos ks.length with h0 | h0
  · obtain rfl : ks = [] := List.length_eq_zero_iff.1 h0
    have hsrc : Src Tryz.prog iS.size 24 (.slice ad 0 cap) 0 [] W := by
      cases ad with
      | none => exact Src.ofNil W Tryz.underlying24 cap
      | some a => exact Src.ofSlice W Tryz.underlying24 a 0 cap [] (by simp) (fun j u hu => by simp at hu) (fun u hu => by cases hu)
    have := run_append_room_src (P := Tryz.prog) W 24 24 ty 9 iS Tryz.underlying24 hiS E 0 0 0 (.slice ad 0 cap) 0 [] hsrc (by omega) (fun j h => by simp at h) (fun j h => by simp at h)
    exact ⟨_, _, _, this, ⟨_, 0, rfl, by simp, by simp, fun h => absurd h (by simp)⟩, Below.refl _ _, hlt⟩
  · obtain ⟨g, o, rfl, hg, hc⟩ := hp h0
    have hown : W.ownsRow E 9 1 (.slice (some ⟨E, 0, none⟩) 0 0) 0 [] := ⟨rfl, .inr ⟨E, 0, #[], rfl, Nat.le_refl _, hE, Nat.le_refl _, by unfold maxLen; omega, rfl, rfl⟩⟩
    obtain ⟨g2, cap2, w', hr, hown2, hgrow, hat, hlt2⟩ := run_append_lies (P := Tryz.prog) W 24 ty E 9 iS (.string ⟨#[]⟩) 1 16 Tryz.underlying24 hiS hzS hsS hbS rfl (by decide) _ 0 [] hown ⟨g, o, none⟩ ks.length cap (ks.map Value.string) (by simp) (fun j u hu => by
      have hj : j < ks.length := by
        rcases Nat.lt_or_ge j ks.length with h | h
        · exact h
        · rw [List.getElem?_eq_none (by simpa using h)] at hu; cases hu
      rw [List.getElem?_map, List.getElem?_eq_getElem hj] at hu
      cases hu
      rw [Lib.add_plain]
      exact (hb.cell (p := ⟨g, o + j, none⟩) hg).trans (hc j hj)) (fun u hu => by obtain ⟨s, _, rfl⟩ := List.mem_map.1 hu; rfl) h0 (by unfold maxLen; omega) (by omega) (by omega) _ rfl
    rw [Nat.zero_add] at hr hown2
    rw [List.nil_append] at hown2
    have hg2 : E ≤ g2 := (World.ownsRow.lt hown2 g2 rfl).1
    exact ⟨_, _, _, hr, strsF_row2 hown2 hl, below_grows (Below.refl _ _) hgrow (by omega) (fun g e => by cases e; exact Nat.le_refl _), by omega⟩

set_option maxRecDepth 100000 in
set_option maxHeartbeats 16000000 in
theorem rClone_of {B : Nat} {w : World} {k : Int} {b : Bool} {t : ByteArray} {its : List VT} {ks : List ByteArray} {kv : Value} {ad : Option Addr} {cap g o : Nat} {ik : Nat → Int} {ib : Nat → Bool} {it : Nat → ByteArray} {ii iv : Nat → Value} (hk : StrsAt B w kv ks) (hs1 : its.length ≤ 1000000) (hs2 : ks.length ≤ 1000000)
    (ha : 0 < its.length → ad = some ⟨g, o, none⟩ ∧ g < B)
    (hcell : ∀ j, j < its.length → Five w g (o + j * 5) (.int .i64 (ik j)) (.bool (ib j)) (.string (it j)) (ii j) (iv j))
    (hrec : ∀ j (h : j < its.length), Is B w (.agg #[.int .i64 (ik j), .bool (ib j), .string (it j), ii j, iv j]) its[j])
    (ih : ∀ j (h : j < its.length) (W : World), Below B w W → B ≤ W.heap.size → Calls Tryz.prog 23 #[.agg #[.int .i64 (ik j), .bool (ib j), .string (it j), ii j, iv j]] W (Clones its[j] W)) :
    ∀ (W : World), Below B w W → B ≤ W.heap.size → Calls Tryz.prog 23 #[.agg #[.int .i64 k, .bool b, .string t, .slice ad its.length cap, kv]] W (Clones (.node k b t its ks) W) := by
  intro W hb hBW
  obtain ⟨iV, zV, hiV, hzV, hzV5, hsV, hbV⟩ := info_val
  have hk0 := hk
  obtain ⟨adk, capk, rfl, -⟩ := hk0
  have HA := Lib.hid ha
  have HCE := Lib.hid hcell
  have IH := Lib.hid ih
  have HIS := Lib.hid hrec
  have hS2 := Lib.hid hs2
  obtain ⟨len, hlen⟩ : ∃ len, its.length = len := ⟨_, rfl⟩
  obtain ⟨nk, hnk⟩ : ∃ nk, ks.length = nk := ⟨_, rfl⟩
  have HL := Lib.hid hlen
  have HN := Lib.hid hnk
  have HRA := Lib.hid (fun W' (hb' : Below B w W') E hE => run_append_keys (kv := .slice adk ks.length capk) hk hb' hs2 E hE 24)
  rw [hnk] at HRA
  rw [hlen] at hs1 ⊢
  rw [hnk]
  clear ha hcell ih hrec hlen hs2 hnk hk
  have en : nil5 = #[.int .i64 0, .bool false, .string ⟨#[]⟩, .slice none 0 0, .slice none 0 0] := rfl
  have hb1 := below_new W (.cells #[.int .i64 k, .bool b, .string t, .slice ad len cap, .slice adk nk capk] 26)
  have hb2 := hb1.alloc hb1.size (.cells #[.int .i64 0, .bool false, .string ⟨#[]⟩, .slice none 0 0, .slice none 0 0] 26)
  have hb3 := hb2.alloc hb2.size (.cells #[] 9)
  have hP := ((Blk.new W #[.int .i64 k, .bool b, .string t, .slice ad len cap, .slice adk nk capk] 26).alloc (.cells #[.int .i64 0, .bool false, .string ⟨#[]⟩, .slice none 0 0, .slice none 0 0] 26)).alloc (.cells #[] 9)
  have hR := (Blk.new (W.alloc (.cells #[.int .i64 k, .bool b, .string t, .slice ad len cap, .slice adk nk capk] 26)) #[.int .i64 0, .bool false, .string ⟨#[]⟩, .slice none 0 0, .slice none 0 0] 26).alloc (.cells #[] 9)
  rw [show (W.alloc (.cells #[.int .i64 k, .bool b, .string t, .slice ad len cap, .slice adk nk capk] 26)).heap.size = W.heap.size + 1 by simp] at hR
  have hE := Blk.new ((W.alloc (.cells #[.int .i64 k, .bool b, .string t, .slice ad len cap, .slice adk nk capk] 26)).alloc (.cells #[.int .i64 0, .bool false, .string ⟨#[]⟩, .slice none 0 0, .slice none 0 0] 26)) #[] 9
  rw [show ((W.alloc (.cells #[.int .i64 k, .bool b, .string t, .slice ad len cap, .slice adk nk capk] 26)).alloc (.cells #[.int .i64 0, .bool false, .string ⟨#[]⟩, .slice none 0 0, .slice none 0 0] 26)).heap.size = W.heap.size + 2 by simp] at hE
  obtain ⟨adk', capk', w1, hrun, hsf, hbE, hltE⟩ := HRA.out (((W.alloc (.cells #[.int .i64 k, .bool b, .string t, .slice ad len cap, .slice adk nk capk] 26)).alloc (.cells #[.int .i64 0, .bool false, .string ⟨#[]⟩, .slice none 0 0, .slice none 0 0] 26)).alloc (.cells #[] 9)) (hb.trans (hb3.mono hBW)) (W.heap.size + 2) hE
  have HRUN := Lib.hid hrun
  have HSF := Lib.hid hsf
  have hB1 : Below W.heap.size W w1 := hb3.trans (hbE.mono (by omega))
  have HB1 := Lib.hid hB1
  have hP1 : Blk w1 W.heap.size #[.int .i64 k, .bool b, .string t, .slice ad len cap, .slice adk nk capk] 26 := (hbE.block _ (by omega)).trans hP
  have hR1 : Blk w1 (W.heap.size + 1) #[.int .i64 0, .bool false, .string ⟨#[]⟩, .slice none 0 0, .slice none 0 0] 26 := (hbE.block _ (by omega)).trans hR
  have c3 := hP1.cell 3
  have c4 := hP1.cell 4
  have f3 := hP1.frozen 3
  have f4 := hP1.frozen 4
  have g4 := hP.cell 4
  obtain ⟨L, hL⟩ : ∃ L, w1.heap.size = L + 1 := ⟨w1.heap.size - 1, by omega⟩
  have hLb : W.heap.size + 2 ≤ L := by omega
  have hP2 : Blk ((w1.setCell ⟨W.heap.size, 4, none⟩ (.slice adk' nk capk')).setCell ⟨W.heap.size, 3, none⟩ (.slice none 0 0)) W.heap.size #[.int .i64 k, .bool b, .string t, .slice none 0 0, .slice adk' nk capk'] 26 := by have := (hP1.set 4 (.slice adk' nk capk')).set 3 (.slice none 0 0); simpa using this
  have hR2 := (hR1.other (p := ⟨W.heap.size, 4, none⟩) (by show W.heap.size + 1 ≠ W.heap.size; omega) (.slice adk' nk capk')).other (p := ⟨W.heap.size, 3, none⟩) (by show W.heap.size + 1 ≠ W.heap.size; omega) (.slice none 0 0)
  have hkg : ∀ g o n c, Value.slice adk' nk capk' = .slice (some ⟨g, o, none⟩) n c → 0 < ks.length → W.heap.size + 2 ≤ g := fun g o n c e h0 => by
    obtain ⟨_, _, e1, _, _, h4⟩ := hsf
    obtain ⟨g', o', e2, h5, _⟩ := h4 h0
    rw [e] at e1
    cases e1
    cases e2
    exact h5
  have HKG := Lib.hid hkg
  have hS0 : CloSt W ((w1.setCell ⟨W.heap.size, 4, none⟩ (.slice adk' nk capk')).setCell ⟨W.heap.size, 3, none⟩ (.slice none 0 0)) W.heap.size (W.heap.size + 1) L (.int .i64 k) (.bool b) (.string t) (.slice adk' nk capk') (.slice none 0 0) ks [] :=
    ⟨hP2, by rw [en]; exact hR2, (((hsf.keep (fun _ _ _ => rfl) (by omega) (by omega)).set ⟨W.heap.size, 4, none⟩ _ (fun g o n c e h0 => by have := hkg g o n c e h0; show g ≠ W.heap.size; omega)).set ⟨W.heap.size, 3, none⟩ _ (fun g o n c e h0 => by have := hkg g o n c e h0; show g ≠ W.heap.size; omega)), ⟨rfl, .inl ⟨rfl, rfl⟩⟩, fun e he => (by cases he), (hB1.setCell (p := ⟨W.heap.size, 4, none⟩) (Nat.le_refl _) _).setCell (p := ⟨W.heap.size, 3, none⟩) (Nat.le_refl _) _, fun g h => (by cases h), by simp; omega, by omega⟩
  have HS0 := Lib.hid hS0
  have HBb := Lib.hid hb
  have HBW := Lib.hid hBW
  have HLb := Lib.hid hLb
  clear hb1 hb2 hb3 hP hR hE hrun hsf hbE hltE hB1 hP1 hR1 hL hLb hP2 hR2 hkg hS0 hb hBW en HRA
  go_enter Tryz.func23, Tryz.ntmps23
  go_wp2_with (at_builtin; refine wpList_append_run rfl (.tmp 5) (.tmp 7) 24 rfl rfl rfl HRUN.out ?_)
  clear c3 c4 f3 f4 g4
  go_loopw [4, 15] (fun _ jv wr => ∃ (j : Nat) (iv2 : Value) (yy : List It), jv = .int .i64 j ∧ j ≤ len ∧ Hid (CloSt W wr W.heap.size (W.heap.size + 1) L (.int .i64 k) (.bool b) (.string t) (.slice adk' nk capk') iv2 ks yy) ∧ Hid (yy.length = j ∧ yy.map It.T = its.take j)) (fun _ jv _ => len - (intOf jv).toNat)
  case atStart => exact ⟨0, _, [], rfl, by omega, HS0, Lib.hid ⟨rfl, by simp⟩⟩
  case round =>
    obtain ⟨j, iv2, yy, rfl, hj, HC, HY⟩ := hrel
    clear HS0
    have hrow : wr.ownsRow W.heap.size 26 5 iv2 j (yy.flatMap It.cells) := by have := HC.out.items; rwa [HY.out.1] at this
    obtain ⟨adi, capi, rfl⟩ := row_shape hrow
    clear hrow
    by_cases hlt : j < len
    · have hjl : j < its.length := by have := HL.out; omega
      obtain ⟨ea, hg⟩ := HA.out (by omega)
      cases ea
      have i1 : (0 : Int) ≤ (j : Int) := by omega
      have i2 : (j : Int) < (len : Int) := by omega
      go_wp2_with fail
      obtain ⟨W5, hW5⟩ : ∃ W5, wr.drew = W5 := ⟨_, rfl⟩
      have HO5 : Hid (CloSt W W5 W.heap.size (W.heap.size + 1) L (.int .i64 k) (.bool b) (.string t) (.slice adk' nk capk') (.slice adi j capi) ks yy) := by rw [← hW5]; exact Lib.hid HC.out.drew
      have hB5 : Below B w W5 := HBb.out.trans (HO5.out.below.mono HBW.out)
      have h5 := (HCE.out j hjl).below hg hB5
      have hIH := IH.out j hjl W5 hB5 (Nat.le_trans HBW.out HO5.out.below.size)
      have cx0 := h5.1
      have cx1 := h5.2.1
      have cx2 := h5.2.2.1
      have cx3 := h5.2.2.2.1
      have cx4 := h5.2.2.2.2
      clear h5
      generalize hxi : ii j = vi at cx3 hIH
      generalize hxv : iv j = vv at cx4 hIH
      generalize hx0 : ik j = v0 at cx0 hIH
      generalize hx1 : ib j = v1 at cx1 hIH
      generalize hx2 : it j = v2 at cx2 hIH
      have hsh := (HIS.out j hjl).shape
      rw [hxi, hxv] at hsh
      obtain ⟨_, _, _, ai, ni, ci, ak, nk2, ck2, esh⟩ := hsh
      simp only [Value.agg.injEq, Array.mk.injEq, List.cons.injEq, and_true] at esh
      obtain ⟨-, -, -, rfl, rfl⟩ := esh
      generalize hXT : its[j] = xT at hIH
      have HXT := Lib.hid hXT
      have HCx := Lib.hid hIH
      have c3 := HO5.out.box.cell 3
      clear hIH hXT hxi hxv hx0 hx1 hx2 hB5
      refine have AFTER2 : (∀ (W6 w7 : World) (g3 cap3 : Nat) (y1 : Int) (y2 : Bool) (y3 : ByteArray) (ya : Option Addr) (yn yc : Nat) (yk : Option Addr) (ym yd : Nat), Below W5.heap.size W5 W6 ∧ Fresh W5.heap.size W6.heap.size W6 (.agg #[.int .i64 y1, .bool y2, .string y3, .slice ya yn yc, .slice yk ym yd]) xT ∧ (w7.ownsRow W.heap.size 26 5 (.slice (some ⟨g3, 0, none⟩) (j + 1) cap3) (j + 1) (yy.flatMap It.cells ++ [.int .i64 y1, .bool y2, .string y3, .slice ya yn yc, .slice yk ym yd])) ∧ (W6.alloc (.cells #[.int .i64 y1, .bool y2, .string y3, .slice ya yn yc, .slice yk ym yd] 26)).grownBy w7 (Value.slice adi j capi).ownBlock ∧ ((Value.slice adi j capi).ownBlock = some g3 ∨ g3 = (W6.alloc (.cells #[.int .i64 y1, .bool y2, .string y3, .slice ya yn yc, .slice yk ym yd] 26)).heap.size) ∧ g3 < w7.heap.size → (?G2 : World → World → Nat → Nat → Int → Bool → ByteArray → Option Addr → Nat → Nat → Option Addr → Nat → Nat → Prop) W6 w7 g3 cap3 y1 y2 y3 ya yn yc yk ym yd) := ?later2; ?main2
      case main2 =>
        go_region_law (first
          | (refine step_append_lies _ rfl (.tmp 19) (.tmp 25) 23 rfl W.heap.size 26 iV zV 5 80 Tryz.underlying23 hiV hzV hsV hbV (by rw [hzV5]; rfl) (by decide) _ _ _ rfl hrow6 ⟨W6.heap.size, 0, none⟩ 1 1 [.int .i64 y1, .bool y2, .string y3, .slice ya yn yc, .slice yk ym yd] rfl rfl (World.news_of_block hblk6) (by intro u hu; simp at hu; rcases hu with rfl | rfl | rfl | rfl | rfl <;> rfl) (by decide) (by unfold maxLen; omega) (by omega) (by have := HO6.out.below.size; simp; omega) _ rfl ?_; intro g3 cap3 w7 hown7 hgrow7 hat7 hlt7; have hbx7 := (HO6.out.box.alloc (.cells #[.int .i64 y1, .bool y2, .string y3, .slice ya yn yc, .slice yk ym yd] 26)).grows hgrow7 (ne_row HO6.out.ifar (by omega)); have c37 := hbx7.cell 3; have f37 := hbx7.frozen 3)
          | (go_simp; go_at_call 23; refine HCx.out.mono ?_; rintro e W6 ⟨yv, rfl, hfr6, hb6⟩; obtain ⟨y1, y2, y3, ya, yn, yc, yk, ym, yd, rfl⟩ := hfr6.shape; have HFR6 := Lib.hid hfr6; have HO6 := Lib.hid (HO5.out.later hb6); have c36 := HO6.out.box.cell 3; have hrow6 : (W6.alloc (.cells #[.int .i64 y1, .bool y2, .string y3, .slice ya yn yc, .slice yk ym yd] 26)).ownsRow W.heap.size 26 5 (.slice adi j capi) j (yy.flatMap It.cells) := (by have h := HO6.out.items; rw [HY.out.1] at h; exact h.alloc _); have hblk6 := World.alloc_heap_new W6 (.cells #[.int .i64 y1, .bool y2, .string y3, .slice ya yn yc, .slice yk ym yd] 26); have c36a := (HO6.out.box.alloc (.cells #[.int .i64 y1, .bool y2, .string y3, .slice ya yn yc, .slice yk ym yd] 26)).cell 3; have hle6 := HO6.out.box.lt; have hrk6 := HO6.out.ranks; clear hfr6))
        all_goals exact AFTER2 W6 w7 g3 cap3 y1 y2 y3 ya yn yc yk ym yd ⟨hb6, HFR6.out, hown7, hgrow7, hat7, hlt7⟩
      case later2 =>
        intro W6 w7 g3 cap3 y1 y2 y3 ya yn yc yk ym yd ⟨hb6, hfr6, hown7, hgrow7, hat7, hlt7⟩
        have HO7 : Hid (CloSt W (w7.setCell ⟨W.heap.size, 3, none⟩ (.slice (some ⟨g3, 0, none⟩) (j + 1) cap3)) W.heap.size (W.heap.size + 1) L (.int .i64 k) (.bool b) (.string t) (.slice adk' nk capk') (.slice (some ⟨g3, 0, none⟩) (j + 1) cap3) ks (yy ++ [⟨y1, y2, y3, .slice ya yn yc, .slice yk ym yd, xT⟩])) := Lib.hid (HO5.out.item (e := ⟨y1, y2, y3, .slice ya yn yc, .slice yk ym yd, xT⟩) HY.out.1 (fun g o n c e h0 => by have := HKG.out g o n c e h0; omega) hb6 hfr6 hown7 hgrow7 hat7 hlt7)
        have HY7 : Hid ((yy ++ [(⟨y1, y2, y3, .slice ya yn yc, .slice yk ym yd, xT⟩ : It)]).length = j + 1 ∧ (yy ++ [(⟨y1, y2, y3, .slice ya yn yc, .slice yk ym yd, xT⟩ : It)]).map It.T = its.take (j + 1)) := Lib.hid ⟨by rw [List.length_append, HY.out.1]; rfl, by rw [List.map_append, HY.out.2, List.take_succ_eq_append_getElem hjl, HXT.out]; rfl⟩
        clear cx0 cx1 cx2 cx3 cx4 c3 hown7 hgrow7 hat7 hlt7 hb6 hfr6
        go_wp2
        go_roundw
        case rel => exact ⟨j + 1, _, _, by go_num, by omega, HO7, HY7⟩
        case measure => simp [intOf]; omega
    · obtain rfl : j = len := by omega
      have hr := HC.out.ranks
      have h5 := HC.out.res.set5 (.int .i64 k) (.bool b) (.string t) (.slice adi j capi) (.slice adk' nk capk')
      have f0 := HC.out.res.frozen 0
      have f1 := HC.out.res.frozen 1
      have f2 := HC.out.res.frozen 2
      have f3 := HC.out.res.frozen 3
      have f4 := HC.out.res.frozen 4
      have q0 := HC.out.res.cell 0
      have q1 := HC.out.res.cell 1
      have q2 := HC.out.res.cell 2
      have q3 := HC.out.res.cell 3
      have q4 := HC.out.res.cell 4
      unfold nil5 at q0 q1 q2 q3 q4
      have p0 := HC.out.box.cell 0
      have p1 := HC.out.box.cell 1
      have p2 := HC.out.box.cell 2
      have p3 := HC.out.box.cell 3
      have p4 := HC.out.box.cell 4
      have HFIN : Hid (Clones (.node k b t its ks) W (.returned (.agg #[.int .i64 k, .bool b, .string t, .slice adi j capi, .slice adk' nk capk'])) (set5 wr (W.heap.size + 1) 0 (.int .i64 k) (.bool b) (.string t) (.slice adi j capi) (.slice adk' nk capk'))) := Lib.hid (by
        have hh := HC.out
        have hy := HY.out
        have hl := HL.out
        rw [List.take_of_length_le (by omega)] at hy
        rw [← hy.1] at hh ⊢
        have hd := hh.done (by have := hy.1; omega) (fun g o n c e h0 => by have := HKG.out g o n c e h0; omega)
        rw [hy.2] at hd
        exact ⟨_, rfl, hd, below_set5at HC.out.below (by omega) _ _ _ _ _ _⟩)
      clear HC hr
      go_wp2
      have d0 := h5.cell 0
      have d1 := h5.cell 1
      have d2 := h5.cell 2
      have d3 := h5.cell 3
      have d4 := h5.cell 4
      refine bodyPost_ret (v := .agg #[.int .i64 k, .bool b, .string t, .slice adi j capi, .slice adk' nk capk']) ?_ rfl HFIN.out
      simp [results, Tryz.results23, go_sem, d0, d1, d2, d3, d4]
theorem rClone_any {B : Nat} {w : World} {v : Value} {T : VT} (h : Is B w v T) : smallT T → ∀ (W : World), Below B w W → B ≤ W.heap.size → Calls Tryz.prog 23 #[v] W (Clones T W) := by
  induction h with
  | mk k b t its ks ad cap kv g o ik ib it ii iv hk hc hnl ha hcell hrec ih =>
    intro hsm W hb hBW
    obtain ⟨hs1, hs2, hs3⟩ := smallT_node.1 hsm
    exact rClone_of hk hs1 hs2 ha hcell hrec (fun j hj => ih j hj (hs3 _ (List.getElem_mem hj))) W hb hBW
end Go.Proofs.YtjgbhnbfojkhoaaGreatDoor
