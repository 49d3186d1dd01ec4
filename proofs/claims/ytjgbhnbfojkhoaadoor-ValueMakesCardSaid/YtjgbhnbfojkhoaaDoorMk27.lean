/- purlinref02.Object: its walk -/
import Derived.Deep.RegionHeld3
import Derived.Deep.RegionLaw
import Derived.Deep.DrawnRows
import Derived.Test.YtjgbhnbfojkhoaaDoorMk23
import Derived.Test.YtjgbhnbfojkhoaaDoorMk26
namespace Go.Proofs.YtjgbhnbfojkhoaaDoor
open Go.RowKit
set_option linter.unusedVariables false
attribute [local go_sem ↓] Go.wp_at_zero Go.wp_at_succ

theorem keepD {w9 w1 w2 : World} {a0 a1 a2 a3 a4 a5 : Addr} {v0 v1 v2 v3 v4 v5 : Value} (h : Hid (Below w9.heap.size w9 w1) ∧ w1.cell? a0 = some v0 ∧ w1.cell? a1 = some v1 ∧ w1.cell? a2 = some v2 ∧ w1.cell? a3 = some v3 ∧ w1.cell? a4 = some v4 ∧ w1.cell? a5 = some v5) (hb : Below w1.heap.size w1 w2) :
    Hid (Below w9.heap.size w9 w2) ∧ w2.cell? a0 = some v0 ∧ w2.cell? a1 = some v1 ∧ w2.cell? a2 = some v2 ∧ w2.cell? a3 = some v3 ∧ w2.cell? a4 = some v4 ∧ w2.cell? a5 = some v5 := by
  obtain ⟨h0, q0, q1, q2, q3, q4, q5⟩ := h
  exact ⟨Lib.hid (h0.out.trans (hb.mono h0.out.size)), cells_keep hb q0, cells_keep hb q1, cells_keep hb q2, cells_keep hb q3, cells_keep hb q4, cells_keep hb q5⟩

theorem grown_len {w wr w3 : World} {ks : List ByteArray} {xs : List It} {i lo : Nat} {kv iv kv' iv' : Value} {K : List ByteArray} {yy : List It} {key : ByteArray} {ex : It} (h : DocSt w wr ks xs i kv iv K yy) (hm : ∀ b ∈ K, (b.toList == key.toList) = false) (hg : Grown lo w3 kv' iv' (insK key (dropK key K)) (insI key ex (dropK key K) (dropI key K yy))) : ∃ adk' capk' adi' capi', kv' = .slice adk' (i + 1) capk' ∧ iv' = .slice adi' (i + 1) capi' := by
  rw [dropK_none hm, dropI_none h.len hm] at hg
  have hl := h.len
  have hn := h.num
  have h1 : (insK key K).length = i + 1 := by rw [insK_length]; omega
  have h2 : (insI key ex K yy).length = i + 1 := by rw [insI_length _ _ _ _ hl, insK_length]; omega
  unfold Grown at hg
  rw [h1, h2] at hg
  obtain ⟨a, b, rfl⟩ := row_shape hg.1
  obtain ⟨c, d, rfl⟩ := row_shape hg.2
  exact ⟨a, b, c, d, rfl, rfl⟩

set_option maxRecDepth 100000 in
set_option maxHeartbeats 8000000 in
theorem rObject_any {W : World} {kv0 iv0 : Value} {ks : List ByteArray} {xs : List It} (hk : StrsAt W.heap.size W kv0 ks) (hx : ItemsAt W.heap.size W iv0 xs) (hl : xs.length = ks.length) (hbig : ks.length ≤ 900000) :
    Calls Tryd.prog 10 #[kv0, iv0] W fun e w' => DocEnds W ks (xs.map It.T) e w' := by
  have hk0 := hk
  have hx0 := hx
  obtain ⟨ad, cap, rfl, hnc, hcap, hks⟩ := hk
  obtain ⟨adx, capx, rfl, hncx, hcapx, hxs, hok⟩ := hx
  have HKS := Lib.hid hks
  have HXS := Lib.hid hxs
  have HOK := Lib.hid hok
  have HL := Lib.hid hl
  obtain ⟨n, hn⟩ : ∃ n, ks.length = n := ⟨_, rfl⟩
  rw [hl] at hncx ⊢
  rw [hn] at hnc hncx hbig ⊢
  have HN := Lib.hid hn
  clear hks hxs hok hl hn hk0 hx0
  have en : nil5 = #[.int .i64 0, .bool false, .string ⟨#[]⟩, .slice none 0 0, .slice none 0 0] := rfl
  have hb0 := below_new W (.cells #[.int .i64 0, .bool false, .string ⟨#[]⟩, .slice none 0 0, .slice none 0 0] 26)
  have hb1 := hb0.alloc hb0.size (.cells #[.int .i64 6, .bool false, .string ⟨#[]⟩, .slice none 0 0, .slice none 0 0] 26)
  have hR := (Blk.new W #[.int .i64 0, .bool false, .string ⟨#[]⟩, .slice none 0 0, .slice none 0 0] 26).alloc (.cells #[.int .i64 6, .bool false, .string ⟨#[]⟩, .slice none 0 0, .slice none 0 0] 26)
  have hO := Blk.new (W.alloc (.cells #[.int .i64 0, .bool false, .string ⟨#[]⟩, .slice none 0 0, .slice none 0 0] 26)) #[.int .i64 6, .bool false, .string ⟨#[]⟩, .slice none 0 0, .slice none 0 0] 26
  rw [show (W.alloc (.cells #[.int .i64 0, .bool false, .string ⟨#[]⟩, .slice none 0 0, .slice none 0 0] 26)).heap.size = W.heap.size + 1 by simp] at hO
  have hst : DocSt W ((W.alloc (.cells #[.int .i64 0, .bool false, .string ⟨#[]⟩, .slice none 0 0, .slice none 0 0] 26)).alloc (.cells #[.int .i64 6, .bool false, .string ⟨#[]⟩, .slice none 0 0, .slice none 0 0] 26)) ks xs 0 (.slice none 0 0) (.slice none 0 0) [] [] := ⟨by rw [en]; exact hR, hO, ⟨⟨rfl, .inl ⟨rfl, rfl⟩⟩, ⟨rfl, .inl ⟨rfl, rfl⟩⟩⟩, fun e he => (by cases he), rfl, rfl, hb1, by simp [docObj]⟩
  have HST := Lib.hid hst
  clear hb0 hb1 hR hO hst en
  go_enter Tryd.func10, Tryd.ntmps10
  go_wp2_with fail
  go_loopw [7, 17] (fun _ jv wr => ∃ (i : Nat) (kv iv : Value) (K : List ByteArray) (yy : List It), jv = .int .i64 i ∧ i ≤ n ∧ Hid (DocSt W wr ks xs i kv iv K yy)) (fun _ jv _ => n - (intOf jv).toNat)
  case atStart => exact ⟨0, _, _, [], [], rfl, by omega, HST⟩
  case round =>
    obtain ⟨i, kv, iv, K, yy, rfl, hin, HD⟩ := hrel
    clear HST
    have hgk : wr.ownsRow (W.heap.size + 2) 9 1 kv i (K.map Value.string) := by have h := HD.out.grown.1; have := HD.out.len; have := HD.out.num; rwa [show K.length = i by omega] at h
    have hgi : wr.ownsRow (W.heap.size + 2) 26 5 iv i (yy.flatMap It.cells) := by have h := HD.out.grown.2; have := HD.out.num; rwa [show yy.length = i by omega] at h
    obtain ⟨adk, capk, rfl⟩ := row_shape hgk
    obtain ⟨adi, capi, rfl⟩ := row_shape hgi
    clear hgk hgi
    have hrl := HD.out.box.lt
    by_cases hlt : i < n
    · have hik : i < ks.length := by rw [HN.out]; exact hlt
      have hix : i < xs.length := by rw [HL.out]; exact hik
      obtain ⟨g, o, rfl, hg, hkc⟩ := HKS.out (by omega)
      obtain ⟨gx, ox, rfl, hgx, hxc⟩ := HXS.out (by omega)
      obtain ⟨key, hkey⟩ : ∃ key, ks[i] = key := ⟨_, rfl⟩
      obtain ⟨ex, hex⟩ : ∃ ex, xs[i] = ex := ⟨_, rfl⟩
      have HKEY := Lib.hid hkey
      have HEX := Lib.hid hex
      have ck := (HD.out.below.cell (p := ⟨g, o + i, none⟩) hg).trans (hkc i hik)
      rw [hkey] at ck
      have i1 : (0 : Int) ≤ (i : Int) := by omega
      have i2 : (i : Int) < (n : Int) := by omega
      have c0 := HD.out.box.cell 0
      have c1 := HD.out.box.cell 1
      have c2 := HD.out.box.cell 2
      have c3 := HD.out.box.cell 3
      have c4 := HD.out.box.cell 4
      have HB9 : Hid (Below wr.heap.size wr wr.drew) := Lib.hid ⟨rfl, rfl, rfl, Nat.le_refl _, fun _ _ => rfl⟩
      have HS9 : Hid (Below wr.heap.size wr wr.drew) ∧ wr.drew.cell? ⟨W.heap.size + 1, 0, none⟩ = some (.int .i64 6) ∧ wr.drew.cell? ⟨W.heap.size + 1, 1, none⟩ = some (.bool false) ∧ wr.drew.cell? ⟨W.heap.size + 1, 2, none⟩ = some (.string ⟨#[]⟩) ∧ wr.drew.cell? ⟨W.heap.size + 1, 3, none⟩ = some (.slice adi i capi) ∧ wr.drew.cell? ⟨W.heap.size + 1, 4, none⟩ = some (.slice adk i capk) ∧ wr.drew.cell? ⟨g, o + i, none⟩ = some (.string key) := ⟨Lib.hid ⟨rfl, rfl, rfl, Nat.le_refl _, fun _ _ => rfl⟩, c0, c1, c2, c3, c4, ck⟩
      have HAT := Lib.hid (fun W' (hb' : Below wr.heap.size wr W') => rAt_any (k := 6) (b := false) (t := ⟨#[]⟩) (key := key) (ad := adi) (len := i) (cap := capi) (HD.out.strs (by omega)) W' hb' hb'.size)
      clear hkc hkey hex
      by_cases hm : ∃ (j : Nat) (hj : j < K.length), (K[j].toList == ks[i].toList) = true
      · have HA2 : Hid (∀ W' (hb' : Below wr.heap.size wr W'), Calls Tryd.prog 30 #[.agg #[.int .i64 6, .bool false, .string ⟨#[]⟩, .slice adi i capi, .slice adk i capk], .string key] W' fun e w' => (∃ j : Nat, e = .returned (.int .i64 (j : Int))) ∧ Below W'.heap.size W' w') := Lib.hid (fun W' hb' => (HAT.out W' hb').mono (by
          rintro e w' ⟨⟨r, rfl, hr⟩, hb⟩
          refine ⟨?_, hb⟩
          rcases hr with ⟨-, hno⟩ | ⟨j, hj, rfl, -⟩
          · obtain ⟨j, hj, he⟩ := hm
            have := hno j hj
            rw [← HKEY.out, he] at this; cases this
          · exact ⟨j, rfl⟩))
        have HNO := Lib.hid (HD.out.twice hik hix hm)
        clear hm HAT hxc
        go_wp2_with fail
        go_region_held3 (fun w' => Hid (Below wr.heap.size wr w') ∧ w'.cell? ⟨W.heap.size + 1, 0, none⟩ = some (.int .i64 6) ∧ w'.cell? ⟨W.heap.size + 1, 1, none⟩ = some (.bool false) ∧ w'.cell? ⟨W.heap.size + 1, 2, none⟩ = some (.string ⟨#[]⟩) ∧ w'.cell? ⟨W.heap.size + 1, 3, none⟩ = some (.slice adi i capi) ∧ w'.cell? ⟨W.heap.size + 1, 4, none⟩ = some (.slice adk i capk) ∧ w'.cell? ⟨g, o + i, none⟩ = some (.string key))
          (first | with_reducible exact HS9 | (with_reducible exact keepD (by assumption) (by assumption)))
          (first | (go_at_call 30; (with_reducible refine (HA2.out _ ?_).mono ?_); (have hbS := ‹Hid (Below wr.heap.size wr _) ∧ _›.1.out; exact hbS); rintro e w2 ⟨⟨j, rfl⟩, hb2⟩; have HB2 := Lib.hid ((‹Hid (Below wr.heap.size wr _) ∧ _›.1.out).trans (hb2.mono (‹Hid (Below wr.heap.size wr _) ∧ _›.1.out).size))))
        all_goals
          have hj0 : (0 : Int) ≤ (j : Int) := by omega
          have HD2 := Lib.hid (HD.out.later HB2.out)
          have f0 := HD2.out.res.frozen 0
          have f1 := HD2.out.res.frozen 1
          have f2 := HD2.out.res.frozen 2
          have f3 := HD2.out.res.frozen 3
          have f4 := HD2.out.res.frozen 4
          have q0 := HD2.out.res.cell 0
          have q1 := HD2.out.res.cell 1
          have q2 := HD2.out.res.cell 2
          have q3 := HD2.out.res.cell 3
          have q4 := HD2.out.res.cell 4
          unfold nil5 at q0 q1 q2 q3 q4
          have h5 := HD2.out.res.set5 (.int .i64 0) (.bool false) (.string ⟨#[]⟩) (.slice none 0 0) (.slice none 0 0)
          have d0 := h5.cell 0
          have d1 := h5.cell 1
          have d2 := h5.cell 2
          have d3 := h5.cell 3
          have d4 := h5.cell 4
          go_wp2
          refine bodyPost_ret (v := .tuple #[.agg #[.int .i64 0, .bool false, .string ⟨#[]⟩, .slice none 0 0, .slice none 0 0], .int .i64 2]) ?_ rfl (.inr ⟨HNO.out, rfl, below_set5 HD2.out.below (Nat.le_refl _) _ _ _ _ _⟩)
          simp [results, Tryd.results10, go_sem, d0, d1, d2, d3, d4]
      · have HA3 : Hid (∀ W' (hb' : Below wr.heap.size wr W'), Calls Tryd.prog 30 #[.agg #[.int .i64 6, .bool false, .string ⟨#[]⟩, .slice adi i capi, .slice adk i capk], .string key] W' fun e w' => e = .returned (.int .i64 (-1)) ∧ Below W'.heap.size W' w') := Lib.hid (fun W' hb' => (HAT.out W' hb').mono (by
          rintro e w' ⟨⟨r, rfl, hr⟩, hb⟩
          refine ⟨?_, hb⟩
          rcases hr with ⟨rfl, -⟩ | ⟨j, hj, -, he⟩
          · rfl
          · exact absurd ⟨j, hj, by rw [HKEY.out]; exact he⟩ hm))
        have HNM : Hid (∀ (j : Nat) (hj : j < K.length), (K[j].toList == ks[i].toList) = false) := Lib.hid (fun j hj => by
          cases hq : (K[j].toList == ks[i].toList)
          · rfl
          · exact absurd ⟨j, hj, hq⟩ hm)
        have HNK : Hid (∀ b ∈ K, (b.toList == key.toList) = false) := Lib.hid (fun b hb => by
          obtain ⟨j, hj, rfl⟩ := List.getElem_of_mem hb
          rw [← HKEY.out]; exact HNM.out j hj)
        have HOKE : Hid (ex.Ok W.heap.size W) := Lib.hid (HOK.out ex (by rw [← HEX.out]; exact List.getElem_mem hix))
        have hF := hxc i hix
        rw [HEX.out] at hF
        obtain ⟨sa, sn, sc, sk, sm, sd, sh1, sh2⟩ := HOKE.out.shape
        obtain ⟨x1, x2, x3, x4, x5, xT⟩ := ex
        simp only at sh1 sh2 hF
        subst sh1
        subst sh2
        have HF := Lib.hid hF
        clear hm HAT hxc hF
        go_wp2_with fail
        go_region_held3 (fun w' => Hid (Below wr.heap.size wr w') ∧ w'.cell? ⟨W.heap.size + 1, 0, none⟩ = some (.int .i64 6) ∧ w'.cell? ⟨W.heap.size + 1, 1, none⟩ = some (.bool false) ∧ w'.cell? ⟨W.heap.size + 1, 2, none⟩ = some (.string ⟨#[]⟩) ∧ w'.cell? ⟨W.heap.size + 1, 3, none⟩ = some (.slice adi i capi) ∧ w'.cell? ⟨W.heap.size + 1, 4, none⟩ = some (.slice adk i capk) ∧ w'.cell? ⟨g, o + i, none⟩ = some (.string key))
          (first | with_reducible exact HS9 | (with_reducible exact keepD (by assumption) (by assumption)))
          (first | (go_at_call 30; (with_reducible refine (HA3.out _ ?_).mono ?_); (have hbS := ‹Hid (Below wr.heap.size wr _) ∧ _›.1.out; exact hbS); rintro e w2 ⟨rfl, hb2⟩; have HB2 := Lib.hid ((‹Hid (Below wr.heap.size wr _) ∧ _›.1.out).trans (hb2.mono (‹Hid (Below wr.heap.size wr _) ∧ _›.1.out).size))))
        all_goals
          have HD2 := Lib.hid (HD.out.later HB2.out)
          clear c0 c1 c2 c3 c4 ck HS9 hb2
          go_wp2_with fail
          obtain ⟨W5, hW5⟩ : ∃ W5, w2.drew = W5 := ⟨_, rfl⟩
          have HD5 : Hid (DocSt W W5 ks xs i (.slice adk i capk) (.slice adi i capi) K yy) := by rw [← hW5]; exact Lib.hid (HD2.out.later ⟨rfl, rfl, rfl, Nat.le_refl _, fun _ _ => rfl⟩)
          have ck := (HD5.out.below.cell (p := ⟨g, o + i, none⟩) hg).trans ((HKS.out (by omega)).elim fun g' h => h.elim fun o' h => by obtain ⟨e1, -, h3⟩ := h; cases e1; exact h3 i hik)
          rw [HKEY.out] at ck
          have hF5 := HF.out.below hgx HD5.out.below
          have x0 := hF5.1
          have x1' := hF5.2.1
          have x2' := hF5.2.2.1
          have x3' := hF5.2.2.2.1
          have x4' := hF5.2.2.2.2
          have c0 := HD5.out.box.cell 0
          have c1 := HD5.out.box.cell 1
          have c2 := HD5.out.box.cell 2
          have c3 := HD5.out.box.cell 3
          have c4 := HD5.out.box.cell 4
          have HPUT := Lib.hid (rPut_obj (b := false) (t := ⟨#[]⟩) (key := key) (ex := ⟨x1, x2, x3, .slice sa sn sc, .slice sk sm sd, xT⟩) (HD5.out.strs (by omega)) (HD5.out.items (by omega)) HD5.out.len (by have := HD5.out.len; have := HD5.out.num; omega) ((HOKE.out.later HD5.out.below).wide HD5.out.below.size) W5 (Below.refl _ _) (Nat.le_refl _))
          unfold It.val at HPUT
          simp only at HPUT
          clear hF5
          refine have AFTER : (∀ (w3 : World) (adk' : Option Addr) (capk' : Nat) (adi' : Option Addr) (capi' : Nat), Below W5.heap.size W5 w3 ∧ Grown W5.heap.size w3 (.slice adk' (i + 1) capk') (.slice adi' (i + 1) capi') (insK key (dropK key K)) (insI key ⟨x1, x2, x3, .slice sa sn sc, .slice sk sm sd, xT⟩ (dropK key K) (dropI key K yy)) → (?G : World → Option Addr → Nat → Option Addr → Nat → Prop) w3 adk' capk' adi' capi') := ?later; ?main
          case main =>
            go_region_law (first | (go_simp; go_at_call 31; refine HPUT.out.mono ?_; rintro e w3 ⟨kv', iv', rfl, hgr, hb3⟩; obtain ⟨adk', capk', adi', capi', rfl, rfl⟩ := grown_len HD5.out HNK.out hgr; have hO3 := HD5.out.box.below hb3; have z0 := hO3.cell 0; have z1 := hO3.cell 1; have z2 := hO3.cell 2; have z3 := hO3.cell 3; have z4 := hO3.cell 4; have y0 := hO3.frozen 0; have y1 := hO3.frozen 1; have y2 := hO3.frozen 2; have y3 := hO3.frozen 3; have y4 := hO3.frozen 4))
            all_goals exact AFTER w3 adk' capk' adi' capi' ⟨hb3, hgr⟩
          case later =>
            intro w3 adk' capk' adi' capi' ⟨hb3, hgr⟩
            have hnx := HD5.out.next (ex := ⟨x1, x2, x3, .slice sa sn sc, .slice sk sm sd, xT⟩) hik hix HEX.out HOKE.out HNM.out hb3 (by rw [HKEY.out]; exact hgr)
            have HNX := Lib.hid hnx
            clear hnx hgr hb3 c0 c1 c2 c3 c4 ck x0 x1' x2' x3' x4'
            go_wp2
            go_roundw
            case rel => exact ⟨i + 1, _, _, _, _, by go_num, by omega, HNX⟩
            case measure => simp [intOf]; omega
    · obtain rfl : i = n := by omega
      have f0 := HD.out.res.frozen 0
      have f1 := HD.out.res.frozen 1
      have f2 := HD.out.res.frozen 2
      have f3 := HD.out.res.frozen 3
      have f4 := HD.out.res.frozen 4
      have q0 := HD.out.res.cell 0
      have q1 := HD.out.res.cell 1
      have q2 := HD.out.res.cell 2
      have q3 := HD.out.res.cell 3
      have q4 := HD.out.res.cell 4
      unfold nil5 at q0 q1 q2 q3 q4
      have c0 := HD.out.box.cell 0
      have c1 := HD.out.box.cell 1
      have c2 := HD.out.box.cell 2
      have c3 := HD.out.box.cell 3
      have c4 := HD.out.box.cell 4
      have h5 := HD.out.res.set5 (.int .i64 6) (.bool false) (.string ⟨#[]⟩) (.slice adi i capi) (.slice adk i capk)
      have d0 := h5.cell 0
      have d1 := h5.cell 1
      have d2 := h5.cell 2
      have d3 := h5.cell 3
      have d4 := h5.cell 4
      have HFIN := Lib.hid (HD.out.done (by omega) (by have := HN.out; omega))
      go_wp2
      refine bodyPost_ret (v := .tuple #[.agg #[.int .i64 6, .bool false, .string ⟨#[]⟩, .slice adi i capi, .slice adk i capk], .int .i64 0]) ?_ rfl ?_
      · simp [results, Tryd.results10, go_sem, d0, d1, d2, d3, d4]
      · obtain ⟨z, hz1, hz2⟩ := HFIN.out
        exact .inl ⟨_, z, hz1, rfl, hz2, below_set5 HD.out.below (Nat.le_refl _) _ _ _ _ _⟩
end Go.Proofs.YtjgbhnbfojkhoaaDoor
