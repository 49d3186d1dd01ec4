/- The document's own Encode is the program's · JsoncWrites, walked: any value is written as the document says, or the same is wrong · The closed facts of JsoncWrites's row, one by one -/
import Derived.Test.YtcbcjeabpjjhbaaGreatDoorRows
import Derived.JoinedOf
import Derived.Test.YtcbcjeabpjjhbaaGreatDoorCards
import Derived.Test.YtcbcjeabpjjhbaaGreatDoorTie
import Derived.SevenTiedAt
import Derived.Stop.Joined
import Derived.Test.YtcbcjeabpjjhbaaGreatDoorJb22
import Derived.Test.YtcbcjeabpjjhbaaGreatDoorJb42
import Derived.Test.YtcbcjeabpjjhbaaGreatDoorJb43
import Derived.Test.YtcbcjeabpjjhbaaGreatDoorJw05
namespace Go.Proofs.YtcbcjeabpjjhbaaGreatDoor
open Go.RowKit Go.Shelf
set_option linter.unusedVariables false

mutual
theorem plain_shortD : ∀ T : VT, plainT T = true → shortD T
  | .node k b t its ks, h => shortD_node.2 ⟨by have := (alone_facts (plain_node h).1).1; omega, fun x hx => by have := (alone_facts (plain_node h).1).2.1 x hx; omega, plain_shortDL its (plain_node h).2⟩
theorem plain_shortDL : ∀ l : List VT, plainL l = true → ∀ x ∈ l, shortD x
  | [], h, x, hx => by cases hx
  | y :: l, h, x, hx => by
    rcases List.mem_cons.1 hx with h1 | hx
    · rw [h1]; exact plain_shortD y (plain_cons h).1
    · exact plain_shortDL l (plain_cons h).2 x hx
end
theorem jsQ_len {t : ByteArray} (h : t.size ≤ 16384) : (jsQ t).length ≤ 98306 := by
  have := textQ_len t.size t.data.toList
  unfold jsQ
  simp
  omega
mutual
theorem jsT_len : ∀ T : VT, plainT T = true → (jsT T).length + 100000 ≤ 200000 * sizeT T
  | .node k b t its ks, h => by
    have hf := alone_facts (plain_node h).1
    have h5 := jsI_len its true (plain_node h).2
    have h6 := jsP_len ks its true (plain_node h).2 hf.2.1
    have hs : sizeT (.node k b t its ks) = 1 + sizeL its := by unfold sizeT; rfl
    rw [hs]
    have hq := jsQ_len hf.1
    have ht := Lib.size_eq t
    unfold jsT
    split
    · split <;> (simp only [List.length_cons, List.length_nil]; omega)
    · split
      · rw [← Lib.size_eq]; omega
      · split
        · omega
        · split
          · simp only [List.length_append, List.length_cons, List.length_nil]; omega
          · split
            · simp only [List.length_append, List.length_cons, List.length_nil]; omega
            · simp only [List.length_cons, List.length_nil]; omega
theorem jsI_len : ∀ (l : List VT) (f : Bool), plainL l = true → (jsI l f).length ≤ 200000 * sizeL l
  | [], f, h => by unfold jsI; simp
  | x :: l, f, h => by
    have h1 := jsT_len x (plain_cons h).1
    have h2 := jsI_len l false (plain_cons h).2
    have h3 : (if f then ([] : List UInt8) else [44]).length ≤ 1 := by split <;> simp
    unfold jsI sizeL
    rw [List.length_append, List.length_append]
    omega
theorem jsP_len : ∀ (ks : List ByteArray) (l : List VT) (f : Bool), plainL l = true → (∀ x ∈ ks, x.size ≤ 16384) → (jsP ks l f).length ≤ 200000 * sizeL l
  | k :: ks, x :: l, f, h, hk => by
    have h3 : (if f then ([] : List UInt8) else [44]).length ≤ 1 := by split <;> simp
    have h4 := jsQ_len (hk k (by simp))
    have h1 := jsT_len x (plain_cons h).1
    have h2 := jsP_len ks l false (plain_cons h).2 (fun y hy => hk y (by simp [hy]))
    unfold jsP sizeL
    simp only [List.length_append, List.length_cons]
    omega
  | [], l, f, h, hk => by unfold jsP; simp
  | k :: ks, [], f, h, hk => by unfold jsP; simp
end
set_option maxRecDepth 100000 in
set_option maxHeartbeats 4000000 in
theorem rencode_any {B : Nat} {w W : World} {v : Value} {T : VT} (h : Is B w v T) (hb : Below B w W) (hBW : B ≤ W.heap.size) : Calls Tryz.prog 9 #[v] W (EncE W (encR T)) := by
  obtain ⟨k, b, t, ad, n, cap, adk, nk, capk, rfl⟩ := h.shape
  obtain ⟨Wz, hWz⟩ : ∃ Wz, W.alloc (.cells #[.int .i64 k, .bool b, .string t, .slice ad n cap, .slice adk nk capk] 26) = Wz := ⟨_, rfl⟩
  have hk0 : Blk Wz W.heap.size #[.int .i64 k, .bool b, .string t, .slice ad n cap, .slice adk nk capk] 26 := by rw [← hWz]; exact Blk.new _ _ _
  have HZ : Hid (Below W.heap.size W Wz) := by rw [← hWz]; exact Lib.hid (below_new0 _ _)
  have HI := Lib.hid h
  have HBW := Lib.hid hb
  have HK := Lib.hid hk0
  have c0 := hk0.cell 0
  have c1 := hk0.cell 1
  have c2 := hk0.cell 2
  have c3 := hk0.cell 3
  have c4 := hk0.cell 4
  have HG := Lib.hid (rGood_any h Wz (hb.trans (HZ.out.mono hBW)) (Nat.le_trans hBW HZ.out.size))
  clear h hb hk0
  cases hg : goodT T
  · rw [hg] at HG
    have HX : Hid (encR T = (⟨#[]⟩, 1)) := Lib.hid (by
      have hw := goodT_within T
      rw [hg] at hw
      unfold encR
      rw [if_neg (fun hh => by simp [hh] at hw)])
    clear hg
    go_enter Tryz.func9, Tryz.ntmps9
    go_wp2_with (go_at_call 14; refine HG.out.mono ?_; rintro e w1 ⟨rfl, hb1⟩)
    refine bodyPost_ret (v := .tuple #[.string ⟨#[]⟩, .int .i64 1]) (by simp [results, Tryz.results9, go_sem]) rfl ?_
    rw [HX.out]
    exact ⟨rfl, HZ.out.trans (hb1.mono HZ.out.size)⟩
  · rw [hg] at HG
    have hparts := goodT_parts hg
    have hwith : within 24 1999 T := ⟨hparts.2.1, hparts.1, hparts.2.2⟩
    have HW := Lib.hid hwith
    clear hg hparts hwith
    go_enter Tryz.func9, Tryz.ntmps9
    go_wp2_with (go_at_call 14; refine HG.out.mono ?_; rintro e w1 ⟨rfl, hb1⟩; have d0 := (HK.out.below hb1).cell 0; have d1 := (HK.out.below hb1).cell 1; have d2 := (HK.out.below hb1).cell 2; have d3 := (HK.out.below hb1).cell 3; have d4 := (HK.out.below hb1).cell 4; refine Hid.out ?_)
    refine Lib.hid ?_
    have HB1 : Hid (Below W.heap.size W w1) := Lib.hid (HZ.out.trans (hb1.mono HZ.out.size))
    have HK1 := Lib.hid (HK.out.below hb1)
    have HN := Lib.hid (rKnown_any HI.out w1 (HBW.out.trans (HB1.out.mono hBW)) (Nat.le_trans hBW HB1.out.size))
    clear hb1 c0 c1 c2 c3 c4
    cases hkn : knownT T
    · rw [hkn] at HN
      have HX : Hid (encR T = (⟨#[]⟩, 20)) := Lib.hid (by unfold encR; rw [if_pos HW.out, if_neg (by rw [hkn]; decide)])
      clear hkn
      go_wp2_with (go_at_call 19; refine HN.out.mono ?_; rintro e w2 ⟨rfl, hb2⟩)
      refine bodyPost_ret (v := .tuple #[.string ⟨#[]⟩, .int .i64 20]) (by simp [results, Tryz.results9, go_sem]) rfl ?_
      rw [HX.out]
      exact ⟨rfl, HB1.out.trans (hb2.mono HB1.out.size)⟩
    · rw [hkn] at HN
      have HKN := Lib.hid hkn
      clear hkn
      go_wp2_with (go_at_call 19; refine HN.out.mono ?_; rintro e w2 ⟨rfl, hb2⟩; have e0 := (HK1.out.below hb2).cell 0; have e1 := (HK1.out.below hb2).cell 1; have e2 := (HK1.out.below hb2).cell 2; have e3 := (HK1.out.below hb2).cell 3; have e4 := (HK1.out.below hb2).cell 4; refine Hid.out ?_)
      refine Lib.hid ?_
      have HB2 : Hid (Below W.heap.size W w2) := Lib.hid (HB1.out.trans (hb2.mono HB1.out.size))
      have HK2 := Lib.hid (HK1.out.below hb2)
      have HU := Lib.hid (rtexts_any HI.out (plain_shortD T HW.out.2.2) w2 (HBW.out.trans (HB2.out.mono hBW)) (Nat.le_trans hBW HB2.out.size))
      clear hb2 d0 d1 d2 d3 d4
      cases hut : utfT T
      · rw [hut] at HU
        have HX : Hid (encR T = (⟨#[]⟩, 31)) := Lib.hid (by unfold encR; rw [if_pos HW.out, if_pos HKN.out, if_neg (by rw [hut]; decide)])
        clear hut
        go_wp2_with (go_at_call 20; refine HU.out.mono ?_; rintro e w3 ⟨rfl, hb3⟩)
        refine bodyPost_ret (v := .tuple #[.string ⟨#[]⟩, .int .i64 31]) (by simp [results, Tryz.results9, go_sem]) rfl ?_
        rw [HX.out]
        exact ⟨rfl, HB2.out.trans (hb3.mono HB2.out.size)⟩
      · rw [hut] at HU
        have HFT : Hid (Fine 24 T) := Lib.hid ⟨HW.out.1, HW.out.2.2, HKN.out, hut⟩
        have HEN := Lib.hid (enc_fine HFT.out HW.out.2.1)
        clear hut
        go_wp2_with (go_at_call 20; refine HU.out.mono ?_; rintro e w3 ⟨rfl, hb3⟩; have q0 := (HK2.out.below hb3).cell 0; have q1 := (HK2.out.below hb3).cell 1; have q2 := (HK2.out.below hb3).cell 2; have q3 := (HK2.out.below hb3).cell 3; have q4 := (HK2.out.below hb3).cell 4; refine Hid.out ?_)
        refine Lib.hid ?_
        have HB3 : Hid (Below W.heap.size W w3) := Lib.hid (HB2.out.trans (hb3.mono HB2.out.size))
        have hlen := jsT_len T HW.out.2.2
        have hsz := HW.out.2.1
        have HA := Lib.hid (rshow_any HI.out 24 HFT.out (by omega) w3 (HBW.out.trans (HB3.out.mono hBW)) (Nat.le_trans hBW HB3.out.size))
        have hjl := jsB_size T
        clear hb3 e0 e1 e2 e3 e4
        by_cases hl : 65536 < (jsT T).length
        · have HE : Hid (encR T = (⟨#[]⟩, 3)) := Lib.hid (by rw [HEN.out, if_pos hl])
          have i0 : (65536 : Int) < ((jsB T).size : Int) := by omega
          clear hl hjl hlen hsz HEN
          go_wp2_with (go_at_call 21; refine HA.out.mono ?_; rintro e w4 ⟨rfl, hb4⟩)
          refine bodyPost_ret (v := .tuple #[.string ⟨#[]⟩, .int .i64 3]) (by simp [results, Tryz.results9, go_sem]) rfl ?_
          rw [HE.out]
          exact ⟨rfl, HB3.out.trans (hb4.mono HB3.out.size)⟩
        · have HE : Hid (encR T = (jsB T, 0)) := Lib.hid (by rw [HEN.out, if_neg hl])
          have i0 : ¬ (65536 : Int) < ((jsB T).size : Int) := by omega
          clear hl hjl hlen hsz HEN
          go_wp2_with (go_at_call 21; refine HA.out.mono ?_; rintro e w4 ⟨rfl, hb4⟩)
          refine bodyPost_ret (v := .tuple #[.string (jsB T), .int .i64 0]) (by simp [results, Tryz.results9, go_sem]) rfl ?_
          rw [HE.out]
          exact ⟨rfl, HB3.out.trans (hb4.mono HB3.out.size)⟩
end Go.Proofs.YtcbcjeabpjjhbaaGreatDoor
namespace Go.Proofs.YtcbcjeabpjjhbaaGreatDoor
open Go.RowKit Go.Shelf
set_option linter.unusedVariables false

set_option maxRecDepth 100000 in
set_option maxHeartbeats 4000000 in
theorem writes_law {W : World} {v : Value} {T : VT} (hT : Is W.heap.size W v T) (hR : ReadyJ W) : Calls Tryz.prog 3 #[v] W fun e w' => e = .returned (.bool true) ∧ Below W.heap.size W w' := by
  obtain ⟨k, b, t, ad, n, cap, adk, nk, capk, rfl⟩ := hT.shape
  obtain ⟨Wz, hWz⟩ : ∃ Wz, W.alloc (.cells #[.int .i64 k, .bool b, .string t, .slice ad n cap, .slice adk nk capk] 26) = Wz := ⟨_, rfl⟩
  have hk0 : Blk Wz W.heap.size #[.int .i64 k, .bool b, .string t, .slice ad n cap, .slice adk nk capk] 26 := by rw [← hWz]; exact Blk.new _ _ _
  have HZ : Hid (Below W.heap.size W Wz) := by rw [← hWz]; exact Lib.hid (below_new0 _ _)
  have HI := Lib.hid hT
  have HR := Lib.hid (hR.below HZ.out)
  have HK := Lib.hid hk0
  have HA := Lib.hid (awake_any HR.out)
  obtain ⟨⟨s, c⟩, hs⟩ : ∃ r, encR T = r := ⟨_, rfl⟩
  have HES := Lib.hid hs
  clear hT hR hk0 hs
  go_enter Tryz.func3, Tryz.ntmps3
  go_wp2_with (go_at_call 7; refine HA.out.mono ?_; rintro e w1 ⟨rfl, hb1⟩; have d0 := (HK.out.below hb1).cell 0; have d1 := (HK.out.below hb1).cell 1; have d2 := (HK.out.below hb1).cell 2; have d3 := (HK.out.below hb1).cell 3; have d4 := (HK.out.below hb1).cell 4; refine Hid.out ?_)
  refine Lib.hid ?_
  have HB1 : Hid (Below W.heap.size W w1) := Lib.hid (HZ.out.trans (hb1.mono HZ.out.size))
  have HK1 := Lib.hid (HK.out.below hb1)
  have HE := Lib.hid (encode_any HI.out HB1.out HB1.out.size (HR.out.below hb1))
  rw [HES.out] at HE
  clear hb1
  go_wp2_with (go_at_call 8; refine HE.out.mono ?_; rintro e w2 ⟨rfl, hb2⟩; have e0 := (HK1.out.below hb2).cell 0; have e1 := (HK1.out.below hb2).cell 1; have e2 := (HK1.out.below hb2).cell 2; have e3 := (HK1.out.below hb2).cell 3; have e4 := (HK1.out.below hb2).cell 4; refine Hid.out ?_)
  refine Lib.hid ?_
  have HB2 : Hid (Below W.heap.size W w2) := Lib.hid (HB1.out.trans (hb2.mono HB1.out.size))
  have HD := Lib.hid (rencode_any HI.out HB2.out HB2.out.size)
  rw [HES.out] at HD
  clear hb2 d0 d1 d2 d3 d4
  go_wp2_with (go_at_call 9; refine HD.out.mono ?_; rintro e w3 ⟨rfl, hb3⟩)
  go_ret
  exact ⟨by first | rfl | simp, HB2.out.trans (hb3.mono HB2.out.size)⟩
end Go.Proofs.YtcbcjeabpjjhbaaGreatDoor
namespace Go.Proofs.YtcbcjeabpjjhbaaGreatDoor
set_option maxRecDepth 100000 in
set_option maxHeartbeats 100000000 in
theorem writes_closed : joinedFacts Tryz.prog 3 Tryz.f3 Rows.jsoncWritesSpec Rows.jsoncWritesRow = true := by
  unfold joinedFacts
  repeat' (with_reducible refine Bool.and_eq_true_iff.2 ⟨?_, ?_⟩)
  all_goals (as_aux_lemma => kernel_rfl)
#print axioms writes_closed
theorem writes_w : Rows.jsoncWritesRow.wfByText (OpenSpec.ofChange Rows.jsoncWritesSpec) = true := by kernel_rfl
#print axioms writes_w
theorem writes_g : false = Rows.jsoncWritesRow.goesBy Tryz.prog := by kernel_rfl
#print axioms writes_g
theorem writes_lk : true = Tryz.prog.looks [] := by kernel_rfl
#print axioms writes_lk
end Go.Proofs.YtcbcjeabpjjhbaaGreatDoor
