/- JsoncBlanks, walked: blanks between the parts of a value's JSON change nothing · The closed facts of JsoncBlanks's row, one by one · JsoncBlanks at any arguments is true: nothing that was there is written; from the tables of the program's own text -/
import Derived.Test.YtcbcjeabpjjhbaaGreatDoorRows
import Derived.JoinedOf
import Derived.Test.YtcbcjeabpjjhbaaGreatDoorCards
import Derived.Test.YtcbcjeabpjjhbaaGreatDoorTie
import Derived.SevenTiedAt
import Derived.Stop.Joined
import Derived.WalkKit
import Derived.Carry
import Derived.ShutString
import Derived.Test.YtcbcjeabpjjhbaaGreatDoorJb44
import Derived.Test.YtcbcjeabpjjhbaaGreatDoorJb45
import Derived.Test.YtcbcjeabpjjhbaaGreatDoorJb46
import Derived.Test.YtcbcjeabpjjhbaaGreatDoorJb47
namespace Go.Proofs.YtcbcjeabpjjhbaaGreatDoor
open Go.RowKit Go.Shelf
set_option linter.unusedVariables false

set_option maxRecDepth 100000 in
set_option maxHeartbeats 4000000 in
theorem blanks_no {W : World} {v : Value} {T : VT} {bv : Value} {zs : List Int} (hT : Is W.heap.size W v T) (hz : IntsAt W.heap.size W bv zs) (hR : ReadyJ W) (hc : ¬ (encR T).2 = 0 ∨ 10000 < (encR T).1.size) : Calls Tryz.prog 6 #[v, bv] W fun e w' => e = .returned (.bool true) ∧ Below W.heap.size W w' := by
  obtain ⟨k, b, t, ad, n, cap, adk, nk, capk, rfl⟩ := hT.shape
  obtain ⟨Wz, hWz⟩ : ∃ Wz, W.alloc (.cells #[.int .i64 k, .bool b, .string t, .slice ad n cap, .slice adk nk capk] 26) = Wz := ⟨_, rfl⟩
  have hk0 : Blk Wz W.heap.size #[.int .i64 k, .bool b, .string t, .slice ad n cap, .slice adk nk capk] 26 := by rw [← hWz]; exact Blk.new _ _ _
  have HZ : Hid (Below W.heap.size W Wz) := by rw [← hWz]; exact Lib.hid (below_new0 _ _)
  have HI := Lib.hid hT
  have HR := Lib.hid (hR.below HZ.out)
  have HK := Lib.hid hk0
  have HA := Lib.hid (awake_any HR.out)
  obtain ⟨adz, capz, rfl, -⟩ := hz
  obtain ⟨⟨s, c⟩, hs⟩ : ∃ r, encR T = r := ⟨_, rfl⟩
  rw [hs] at hc
  have hc : ¬ c = 0 ∨ 10000 < s.size := hc
  have HES := Lib.hid hs
  clear hT hR hk0 hs
  rcases Decidable.em (c = 0) with h0 | h0
  · have hl : 10000 < s.size := hc.resolve_left (fun h => h h0)
    have i0 : (10000 : Int) < (s.size : Int) := by omega
    subst h0
    clear hc
    go_enter Tryz.func6, Tryz.ntmps6
    go_wp2_with (go_at_call 7; refine HA.out.mono ?_; rintro e w1 ⟨rfl, hb1⟩; have d0 := (HK.out.below hb1).cell 0; have d1 := (HK.out.below hb1).cell 1; have d2 := (HK.out.below hb1).cell 2; have d3 := (HK.out.below hb1).cell 3; have d4 := (HK.out.below hb1).cell 4; refine Hid.out ?_)
    refine Lib.hid ?_
    have HB1 : Hid (Below W.heap.size W w1) := Lib.hid (HZ.out.trans (hb1.mono HZ.out.size))
    have HE := Lib.hid (encode_any HI.out HB1.out HB1.out.size (HR.out.below hb1))
    rw [HES.out] at HE
    clear hb1
    go_wp2_with (go_at_call 8; refine HE.out.mono ?_; rintro e w2 ⟨rfl, hb2⟩)
    go_ret
    exact ⟨rfl, HB1.out.trans (hb2.mono HB1.out.size)⟩
  · have hcb : (c == 0) = false := by simp [h0]
    clear hc
    go_enter Tryz.func6, Tryz.ntmps6
    go_wp2_with (go_at_call 7; refine HA.out.mono ?_; rintro e w1 ⟨rfl, hb1⟩; have d0 := (HK.out.below hb1).cell 0; have d1 := (HK.out.below hb1).cell 1; have d2 := (HK.out.below hb1).cell 2; have d3 := (HK.out.below hb1).cell 3; have d4 := (HK.out.below hb1).cell 4; refine Hid.out ?_)
    refine Lib.hid ?_
    have HB1 : Hid (Below W.heap.size W w1) := Lib.hid (HZ.out.trans (hb1.mono HZ.out.size))
    have HE := Lib.hid (encode_any HI.out HB1.out HB1.out.size (HR.out.below hb1))
    rw [HES.out] at HE
    clear hb1
    go_wp2_with (go_at_call 8; refine HE.out.mono ?_; rintro e w2 ⟨rfl, hb2⟩)
    go_ret
    exact ⟨rfl, HB1.out.trans (hb2.mono HB1.out.size)⟩
theorem blanks_law {W : World} {v : Value} {T : VT} {bv : Value} {zs : List Int} (hT : Is W.heap.size W v T) (hz : IntsAt W.heap.size W bv zs) (hR : ReadyJ W) : Calls Tryz.prog 6 #[v, bv] W fun e w' => e = .returned (.bool true) ∧ Below W.heap.size W w' := by
  by_cases hc : (encR T).2 = 0
  · by_cases hl : 10000 < (jsT T).length
    · refine blanks_no hT hz hR (.inr ?_)
      rw [(enc_ok hc).2.2.2]
      show 10000 < (jsB T).size
      rw [jsB_size]
      exact hl
    · exact blanks_yes hT hz hR hc hl
  · exact blanks_no hT hz hR (.inl hc)
end Go.Proofs.YtcbcjeabpjjhbaaGreatDoor
namespace Go.Proofs.YtcbcjeabpjjhbaaGreatDoor
set_option maxRecDepth 100000 in
set_option maxHeartbeats 100000000 in
theorem blanks_closed : joinedFacts Tryz.prog 6 Tryz.f6 Rows.jsoncBlanksSpec Rows.jsoncBlanksRow = true := by
  unfold joinedFacts
  repeat' (with_reducible refine Bool.and_eq_true_iff.2 ⟨?_, ?_⟩)
  all_goals (as_aux_lemma => kernel_rfl)
#print axioms blanks_closed
theorem blanks_w : Rows.jsoncBlanksRow.wfByText (OpenSpec.ofChange Rows.jsoncBlanksSpec) = true := by kernel_rfl
#print axioms blanks_w
theorem blanks_g : false = Rows.jsoncBlanksRow.goesBy Tryz.prog := by kernel_rfl
#print axioms blanks_g
theorem blanks_lk : true = Tryz.prog.looks [] := by kernel_rfl
#print axioms blanks_lk
end Go.Proofs.YtcbcjeabpjjhbaaGreatDoor
namespace Go.Proofs.YtcbcjeabpjjhbaaGreatDoor
open Go.ChangeShapes Go.WideShapes Go.ChangeAt Go.RowKit
open Go.ChangeMaps (open_string shut_string)

set_option maxRecDepth 100000 in
theorem blanks_lifted (os : Os) (started : os.Started) (H : Type) (enc : TypeId × Value → H) :
    ReturnsInHanded {} Tryz.checked os 6 .any (fun w args => (Rows.jsoncBlanksSpec.pre enc Tryz.prog Tryz.f6 [] false w args ∧ laidMetH Tryz.prog laidJ w) ∧ sizedMet enc Tryz.prog Tryz.f6 (OpenSpec.ofChange Rows.jsoncBlanksSpec) false w args)
      (Rows.jsoncBlanksSpec.post enc Tryz.prog Tryz.f6 false true false false) := by
  refine returns_of (C := Tryz.checked) (X := fun w => laidMetH Tryz.prog laidJ w) (fun _ _ hh h => h.of_heap hh) ownJ started (by kernel_rfl) Tryz.func6
    (ChangeSpec.witness_shaped (enc := enc) (C := Tryz.checked) (os := os) (X := fun w _ => laidMetH Tryz.prog laidJ w) false (World.laidAll Tryz.prog os laidJ) #[.agg #[.int .i64 0, .bool false, .string ByteArray.empty, .slice none 0 0, .slice none 0 0], .slice none 0 0] 8 (World.laidAll_os _ _ _)
      (World.shaped_of_ZipB (by kernel_rfl) (by kernel_rfl)) (by kernel_rfl) (by kernel_rfl) (by kernel_rfl)
      (by rw [MakeChecks.laidMetH_plain _ _ _ (by kernel_rfl)]; exact laidMet_laidAll _ (by kernel_rfl) (by kernel_rfl))) ?_
  intro W base args ds gs before hval0 hW hsz hL hsh
  have hval : ∀ (j : Nat) t v, Tryz.f6.params[j]? = some t → args[j]? = some v → Value.okWide Tryz.prog W .any base t v := hval0
  have hW' := hW
  obtain ⟨p, q, hA0, hV, rfl, hfz, hnd⟩ := hW
  have hA : DataW.TrodAll enc Tryz.prog W 0 (fun _ => true) true Tryz.f6.params.toList args.toList ds p := hA0
  have hsz' : (DataW.weightsEach Tryz.prog (Tryz.f6.params.toList ++ Rows.jsoncBlanksSpec.plain.varTypes Tryz.prog) (ds ++ gs)).all (· ≤ reachBytes) = true := hsz
  rw [Tryz.params6 ] at hA hval hsz'
  obtain ⟨v0, vs0, d0, ds0, p0, q0, hargs, rfl, rfl, h0, r0⟩ := trodAll_cons hA
  obtain ⟨v1, vs1, d1, ds1, p1, q1, rfl, rfl, rfl, h1, r1⟩ := trodAll_cons r0
  obtain ⟨rfl, rfl, rfl⟩ := trodAll_nil r1
  obtain rfl : args = #[v0, v1] := by cases args; simp_all
  obtain ⟨rfl, rfl⟩ := trodVars_none hV
  have hlt0 : ∀ x ∈ p0, x.block < W.heap.size := fun x hx => by have := hW'.lt x (by simp [hx]); exact this
  have hw0 : ∀ n ∈ d0.weights Tryz.prog 26, n ≤ reachBytes := fun n hn => by
    have := List.all_eq_true.1 hsz' n (DataW.weights_mem_each (j := 0) (t := 26) (d := d0) rfl rfl n hn)
    simpa using this
  obtain ⟨L0, hL0⟩ := open_value h0 hw0
  have hlt1 : ∀ x ∈ p1, x.block < W.heap.size := fun x hx => by have := hW'.lt x (by simp [hx]); exact this
  have hw1 : ∀ n ∈ d1.weights Tryz.prog 43, n ≤ reachBytes := fun n hn => by
    have := List.all_eq_true.1 hsz' n (DataW.weights_mem_each (j := 1) (t := 43) (d := d1) rfl rfl n hn)
    simpa using this
  obtain ⟨L1, hL1⟩ := open_ints (okWide_slice Tryz.underlying43 (hval 1 43 v1 rfl rfl)) h1 hw1
  clear hA0 hval0
  simp only [List.append_nil] at hW'
  refine (blanks_law hL0 hL1 (ready_ofJ hL hsh)).mono fun e W' ⟨he, hb⟩ => ?_
  subst he
  exact ⟨_, rfl, _, _, _, [], p0 ++ (p1 ++ []), [], hW', trodAll_cons_mk (shut_bool Tryz.underlying4 _) trodAll_mk0, (trodAll_cons_mk (Below.trod laidOut (by kernel_rfl) (of_decide_eq_true (by kernel_rfl)) h0 hb hlt0) (trodAll_cons_mk (Below.trod laidOut (by kernel_rfl) (of_decide_eq_true (by kernel_rfl)) h1 hb hlt1) trodAll_mk0)), rfl, World.keptBut_mono (fun p hp => ⟨hp, Or.inr (Or.inl (by simpa using hp))⟩) (hb.frame _), fun h => by cases h⟩

theorem blanks_said : Rows.JsoncBlanksSaid :=
  OpenClaim.holds_of_wide 6 Tryz.f6 rfl rfl rfl rfl rfl rfl rfl ⟨rfl, rfl, rfl, rfl, rfl⟩ rfl rfl rfl rfl rfl (by kernel_rfl) Tryz.func6 blanks_closed
    (of_decide_eq_true (by kernel_rfl)) (by unfold Func.isWrapper; first | (rw [if_pos (by decide +kernel)]; kernel_rfl) | (rw [if_neg (by decide +kernel)]; exact ⟨rfl, rfl⟩))
    (fun os started H enc _ => blanks_lifted os started H enc)

theorem blanks_card : Rows.JsoncBlanksCardSaid :=
  Claim7.holds_tied_plain_at .later [] [.data, .data, .data, .data, .sentinel, .sentinel, .pinned] true (true, "cf3b7274eaf5270765a3c7938d70ddc5a0b74894f149046d031ff9af93e0bde6") true
    blanks_said (fun _ h => by cases h) blanks_w (fun _ h => by cases h) jsoncBlanks_row_tie rfl ⟨rfl, rfl⟩ (by kernel_rfl) rfl
    (fun f fn hf hfn => by
      obtain rfl : f = 6 := Option.some.inj ((show Tryz.prog.funcNamed "purlin/purlinlaw03.JsoncBlanks" = some 6 by kernel_rfl).symm.trans hf) |>.symm
      obtain rfl : fn = Tryz.f6 := (Option.some.inj (Tryz.func6.symm.trans hfn)).symm
      exact ⟨blanks_lk, fun j t ht => by
        rw [Tryz.params6 ] at ht
        have hm : t ∈ [ 26, 43 ] := by simpa using Array.mem_of_getElem? ht
        have hall : ([ 26, 43 ].all fun u => !Tryz.prog.wantsStandIn u) = true := by kernel_rfl
        exact (show Tryz.prog.wantsStandIn t = false by simpa using List.all_eq_true.1 hall t hm)⟩)
    blanks_g
#print axioms blanks_card
end Go.Proofs.YtcbcjeabpjjhbaaGreatDoor
