/- Decode: what was thrown is caught · awake: the document's examples -/
import Derived.Defers
import Derived.Recover
import Derived.Test.YtcbcjeabpjjhbaaGreatDoorJb23
import Derived.Test.YtcbcjeabpjjhbaaGreatDoorJb38
namespace Go.Proofs.YtcbcjeabpjjhbaaGreatDoor
open Go.RowKit Go.Shelf
set_option linter.unusedVariables false

theorem caught_nil (w : World) : Calls Tryz.prog 23 #[.nilIface] w fun e w' => e = .returned (.pointer none) ∧ w' = w := by
  have hnil : ∀ w : World, (binOp BinOp.eql 20 .nilIface .nilIface).run Tryz.prog w = .ok (.bool true) w := fun _ => by kernel_rfl
  go_enter Tryz.func23, Tryz.ntmps23
  go_wp2
  go_ret
  exact ⟨rfl, rfl⟩
theorem caught_diag (D : Nat) (w : World) : Calls Tryz.prog 23 #[.iface 34 (.pointer (some ⟨D, 0, none⟩))] w fun e w' => e = .returned (.pointer (some ⟨D, 0, none⟩)) ∧ w' = w := by
  have hnil : ∀ w : World, (binOp BinOp.eql 20 (.iface 34 (.pointer (some ⟨D, 0, none⟩))) .nilIface).run Tryz.prog w = .ok (.bool false) w := fun _ => by kernel_rfl
  have hta : ∀ w : World, (Instr.typeAssert (.iface 34 (.pointer (some ⟨D, 0, none⟩))) 20 34 true).run Tryz.prog w = .ok (.tuple #[.pointer (some ⟨D, 0, none⟩), .bool true]) w := fun _ => by kernel_rfl
  go_enter Tryz.func23, Tryz.ntmps23
  go_wp2
  go_ret
  exact ⟨rfl, rfl⟩
theorem catch_panicking (p : Addr) (D : Nat) (v : Value) (older : List PanicEntry) (w : World) (hc : w.cell? p = some v) (hz : w.frozen? p = false) :
    CallsD Tryz.prog 22 #[.pointer (some p)] (.panicking ({ v := .iface 34 (.pointer (some ⟨D, 0, none⟩)), recovered := false } :: older)) w fun e u' w' =>
      e = .returned (.tuple #[]) ∧ u' = .panicking ({ v := .iface 34 (.pointer (some ⟨D, 0, none⟩)), recovered := true } :: older) ∧ w' = w.setCell p (.pointer (some ⟨D, 0, none⟩)) := by
  refine callsD_of_wpS Tryz.func22 rfl fun c₀ cs hu => ?_
  apply wpS_region
  simp [wpOpsS, go_sem, recoverD, hu, Tryz.ntmps22]
  refine (caught_diag D w).mono ?_
  rintro e w2 ⟨rfl, rfl⟩
  simp [go_sem, hc, hz, bodyPostS, results, Tryz.results22]
theorem catch_idle (p : Addr) (v : Value) (w : World) (hc : w.cell? p = some v) (hz : w.frozen? p = false) :
    CallsD Tryz.prog 22 #[.pointer (some p)] .returning w fun e u' w' => e = .returned (.tuple #[]) ∧ u' = .returning ∧ w' = w.setCell p (.pointer none) := by
  refine callsD_of_wpS Tryz.func22 rfl fun c₀ cs hu => ?_
  apply wpS_region
  simp [wpOpsS, go_sem, recoverD, hu, Tryz.ntmps22]
  refine (caught_nil w).mono ?_
  rintro e w2 ⟨rfl, rfl⟩
  simp [go_sem, hc, hz, bodyPostS, results, Tryz.results22]
  cases c₀
  simp_all
/-- How Decode ends. -/
def DecEnds (W : World) (t : ByteArray) (r : Except Bad VT) (e : Ending) (w' : World) : Prop :=
  Below W.heap.size W w' ∧ match r with
  | .ok T => ∃ v, e = .returned (.tuple #[v, .pointer none]) ∧ Fresh W.heap.size w'.heap.size w' v T ∧ smallT T
  | .error b => ∃ D, e = .returned (.tuple #[.agg #[.int .i64 0, .bool false, .string ⟨#[]⟩, .slice none 0 0, .slice none 0 0], .pointer (some ⟨D, 0, none⟩)]) ∧ W.heap.size ≤ D ∧ Blk w' D #[.int .i64 b.1, .string ⟨#[]⟩, .int .i64 ((t.size - b.2 : Nat) : Int)] 48
set_option maxRecDepth 100000 in
set_option maxHeartbeats 4000000 in
theorem decode_any {W : World} {t : ByteArray} (hR : ReadyJ W) : Calls Tryz.prog 10 #[.string t] W (DecEnds W t (wholeJ t)) := by
  obtain ⟨W1, hW1⟩ : ∃ W1, W.alloc (.cells #[.int .i64 0, .bool false, .string ⟨#[]⟩, .slice none 0 0, .slice none 0 0] 26) = W1 := ⟨_, rfl⟩
  have hz1 : W1.heap.size = W.heap.size + 1 := by rw [← hW1]; simp
  have b1 : Blk W1 W.heap.size #[.int .i64 0, .bool false, .string ⟨#[]⟩, .slice none 0 0, .slice none 0 0] 26 := by rw [← hW1]; exact Blk.new _ _ _
  have s1 : Below W.heap.size W W1 := by rw [← hW1]; exact below_new0 _ _
  obtain ⟨W2, hW2⟩ : ∃ W2, W1.alloc (.cells #[.pointer none] 34) = W2 := ⟨_, rfl⟩
  have hz2 : W2.heap.size = W.heap.size + 2 := by rw [← hW2]; simp [hz1]
  have b2 : Blk W2 (W.heap.size + 1) #[.pointer none] 34 := by rw [← hW2, ← hz1]; exact Blk.new _ _ _
  have s2 : Below W1.heap.size W1 W2 := by rw [← hW2]; exact below_new0 _ _
  obtain ⟨W3, hW3⟩ : ∃ W3, W2.alloc (.cells #[.string t, .int .i64 0, .int .i64 0] 53) = W3 := ⟨_, rfl⟩
  have hz3 : W3.heap.size = W.heap.size + 3 := by rw [← hW3]; simp [hz2]
  have b3 : Blk W3 (W.heap.size + 2) #[.string t, .int .i64 0, .int .i64 0] 53 := by rw [← hW3, ← hz2]; exact Blk.new _ _ _
  have s3 : Below W2.heap.size W2 W3 := by rw [← hW3]; exact below_new0 _ _
  have s03 : Below W.heap.size W W3 := (s1.trans (s2.mono (by omega))).trans (s3.mono (by omega))
  have e1 := (b1.below s2).below s3
  have e2 := b2.below s3
  have h7 := hR.size
  have HWh : Hid (Calls Tryz.prog 24 #[.pointer (some ⟨W.heap.size + 2, 0, none⟩)] W3 (WhEnds W3 (W.heap.size + 2) t (wholeJ t))) := Lib.hid (by
    by_cases hl : 65536 < t.size
    · exact whole_long b3 hl
    · exact whole_any ⟨b3, by omega, by omega, by omega⟩ (hR.below s03) (by omega))
  have HS := Lib.hid s03
  have HE1 := Lib.hid e1
  have HE2 := Lib.hid e2
  have hmf : ∀ (fn : Fn) (first cap : Array Value) (w : World), (Instr.makeFunc fn first cap).run Tryz.prog w = .ok (.func fn first cap) w := fun _ _ _ _ => rfl
  have HW3 := Lib.hid hW3
  clear s1 s2 s3 b1 b2 b3 hR s03 e1 e2 hW3
  go_enter_defers Tryz.func10, Tryz.ntmps10
  go_wp2_with fail
  rw [HW3.out]
  go_at_call 24; refine HWh.out.mono ?_
  cases hw : wholeJ t with
  | error b =>
    rintro e w4 ⟨D, rfl, h1, h2, h3⟩
    have hn4 := HE1.out.aside h3 (by omega)
    have hr4 := HE2.out.aside h3 (by omega)
    have HB4 : Hid (Below W.heap.size W w4) := Lib.hid (HS.out.trans (h3.below (by omega) (by omega)))
    have hDne : D ≠ W.heap.size + 1 := by omega
    refine leaves_cons (f := 22) (args := #[.pointer (some ⟨W.heap.size + 1, 0, none⟩)]) (by simp) (by simp [go_sem]) ?_
    refine (catch_panicking ⟨W.heap.size + 1, 0, none⟩ D (.pointer none) [] w4 (hr4.cell 0) (hr4.frozen 0)).mono ?_
    rintro e u' w'' ⟨rfl, rfl, rfl⟩
    have hs4 := hr4.set 0 (.pointer (some ⟨D, 0, none⟩))
    have q0 := hs4.cell 0
    have hn5 := hn4.other (p := ⟨W.heap.size + 1, 0, none⟩) (by show W.heap.size ≠ W.heap.size + 1; omega) (.pointer (some ⟨D, 0, none⟩))
    have d0 := hn5.cell 0
    have d1 := hn5.cell 1
    have d2 := hn5.cell 2
    have d3 := hn5.cell 3
    have d4 := hn5.cell 4
    have hd := h2.other (p := ⟨W.heap.size + 1, 0, none⟩) hDne (.pointer (some ⟨D, 0, none⟩))
    have hb5 := HB4.out.setCell (p := ⟨W.heap.size + 1, 0, none⟩) (by show W.heap.size ≤ W.heap.size + 1; omega) (.pointer (some ⟨D, 0, none⟩))
    simp [Leaves, settle, results, Tryz.results10, go_sem, q0, d0, d1, d2, d3, d4]
    exact ⟨hb5, D, rfl, by omega, hd⟩
  | ok T =>
    rintro e w4 ⟨v, rfl, hf4, hs4, ha4⟩
    obtain ⟨y1, y2, y3, ya, yn, yc, yk, ym, yd, rfl⟩ := hf4.shape
    have hn4 := HE1.out.aside ha4 (by omega)
    have hr4 := HE2.out.aside ha4 (by omega)
    have HB4 : Hid (Below W.heap.size W w4) := Lib.hid (HS.out.trans (ha4.below (by omega) (by omega)))
    have z0 := hn4.cell 0
    have z1 := hn4.cell 1
    have z2 := hn4.cell 2
    have z3 := hn4.cell 3
    have z4 := hn4.cell 4
    have f0 := hn4.frozen 0
    have f1 := hn4.frozen 1
    have f2 := hn4.frozen 2
    have f3 := hn4.frozen 3
    have f4 := hn4.frozen 4
    have c0 := hr4.cell 0
    have g0 := hr4.frozen 0
    have HN4 := Lib.hid hn4
    have HR4 := Lib.hid hr4
    have HF4 := Lib.hid hf4
    have HS4 := Lib.hid hs4
    have HWE := Lib.hid hw
    clear hn4 hr4 hf4 hs4 ha4
    go_wp2_with fail
    have hn5 := (HN4.out.set5 (.int .i64 y1) (.bool y2) (.string y3) (.slice ya yn yc) (.slice yk ym yd)).other (p := ⟨W.heap.size + 1, 0, none⟩) (by show W.heap.size ≠ W.heap.size + 1; omega) (.pointer none)
    have hr5 := (HR4.out.other5 (B := W.heap.size) (by omega) (.int .i64 y1) (.bool y2) (.string y3) (.slice ya yn yc) (.slice yk ym yd)).set 0 (.pointer none)
    have hb5 := (below_set5 HB4.out (Nat.le_refl _) (.int .i64 y1) (.bool y2) (.string y3) (.slice ya yn yc) (.slice yk ym yd)).setCell (p := ⟨W.heap.size + 1, 0, none⟩) (by show W.heap.size ≤ W.heap.size + 1; omega) (.pointer none)
    have hf5 := HF4.out.keep (W' := ((((((w4.setCell ⟨W.heap.size, 0, none⟩ (.int .i64 y1)).setCell ⟨W.heap.size, 1, none⟩ (.bool y2)).setCell ⟨W.heap.size, 2, none⟩ (.string y3)).setCell ⟨W.heap.size, 3, none⟩ (.slice ya yn yc)).setCell ⟨W.heap.size, 4, none⟩ (.slice yk ym yd)).setCell ⟨W.heap.size + 1, 0, none⟩ (.pointer none))) (lo' := W.heap.size + 3) (B' := w4.heap.size) (fun g h1 h2 => by
      rw [Below.heap_setCell _ _ _ _ (by show g ≠ W.heap.size + 1; omega), Below.heap_setCell _ _ _ _ (by show g ≠ W.heap.size; omega), Below.heap_setCell _ _ _ _ (by show g ≠ W.heap.size; omega), Below.heap_setCell _ _ _ _ (by show g ≠ W.heap.size; omega), Below.heap_setCell _ _ _ _ (by show g ≠ W.heap.size; omega), Below.heap_setCell _ _ _ _ (by show g ≠ W.heap.size; omega)]) (by omega) (Nat.le_refl _)
    have hz5 : ((((((w4.setCell ⟨W.heap.size, 0, none⟩ (.int .i64 y1)).setCell ⟨W.heap.size, 1, none⟩ (.bool y2)).setCell ⟨W.heap.size, 2, none⟩ (.string y3)).setCell ⟨W.heap.size, 3, none⟩ (.slice ya yn yc)).setCell ⟨W.heap.size, 4, none⟩ (.slice yk ym yd)).setCell ⟨W.heap.size + 1, 0, none⟩ (.pointer none)).heap.size = w4.heap.size := by simp
    generalize ((((((w4.setCell ⟨W.heap.size, 0, none⟩ (.int .i64 y1)).setCell ⟨W.heap.size, 1, none⟩ (.bool y2)).setCell ⟨W.heap.size, 2, none⟩ (.string y3)).setCell ⟨W.heap.size, 3, none⟩ (.slice ya yn yc)).setCell ⟨W.heap.size, 4, none⟩ (.slice yk ym yd)).setCell ⟨W.heap.size + 1, 0, none⟩ (.pointer none)) = w5 at *
    refine leaves_cons (f := 22) (args := #[.pointer (some ⟨W.heap.size + 1, 0, none⟩)]) (by simp) (by simp [go_sem]) ?_
    refine (catch_idle ⟨W.heap.size + 1, 0, none⟩ (.pointer none) w5 (hr5.cell 0) (hr5.frozen 0)).mono ?_
    rintro e u' w'' ⟨rfl, rfl, rfl⟩
    have q0 := (hr5.set 0 (.pointer none)).cell 0
    have hn6 := hn5.other (p := ⟨W.heap.size + 1, 0, none⟩) (by show W.heap.size ≠ W.heap.size + 1; omega) (.pointer none)
    have d0 := hn6.cell 0
    have d1 := hn6.cell 1
    have d2 := hn6.cell 2
    have d3 := hn6.cell 3
    have d4 := hn6.cell 4
    have hb6 := hb5.setCell (p := ⟨W.heap.size + 1, 0, none⟩) (by show W.heap.size ≤ W.heap.size + 1; omega) (.pointer none)
    have hf6 := hf5.keep (W' := w5.setCell ⟨W.heap.size + 1, 0, none⟩ (.pointer none)) (lo' := W.heap.size) (B' := (w5.setCell ⟨W.heap.size + 1, 0, none⟩ (.pointer none)).heap.size) (fun g h1 h2 => by
      rw [Below.heap_setCell _ _ _ _ (by show g ≠ W.heap.size + 1; omega)]) (by omega) (by simp; omega)
    simp [Leaves, settle, results, Tryz.results10, go_sem, q0, d0, d1, d2, d3, d4]
    rw [HWE.out]
    exact ⟨hb6, _, rfl, hf6, HS4.out⟩
end Go.Proofs.YtcbcjeabpjjhbaaGreatDoor
namespace Go.Proofs.YtcbcjeabpjjhbaaGreatDoor
open Go.RowKit Go.Shelf
set_option linter.unusedVariables false

abbrev tA : ByteArray := ⟨#[32, 123, 34, 98, 34, 32, 58, 32, 91, 49, 44, 32, 110, 117, 108, 108, 93, 44, 32, 34, 97, 34, 58, 34, 120, 92, 110, 34, 125]⟩
abbrev sA : ByteArray := ⟨#[123, 34, 97, 34, 58, 34, 120, 92, 110, 34, 44, 34, 98, 34, 58, 91, 49, 44, 110, 117, 108, 108, 93, 125]⟩
def TA : VT := .node 6 false ⟨#[]⟩ [.node 4 false ⟨#[120, 10]⟩ [] [], .node 5 false ⟨#[]⟩ [.node 3 false ⟨#[49]⟩ [] [], .node 0 false ⟨#[]⟩ [] []] []] [⟨#[97]⟩, ⟨#[98]⟩]
set_option maxRecDepth 100000 in
theorem awake_read : wholeJ tA = .ok TA := by kernel_rfl
set_option maxRecDepth 100000 in
theorem awake_bad : wholeJ ⟨#[91, 49, 44, 93]⟩ = .error (30, 1) := by kernel_rfl
set_option maxRecDepth 100000 in
theorem awake_enc : encR TA = (sA, 0) := by
  have h1 : within 24 1999 TA := ⟨by kernel_rfl, by decide, by kernel_rfl⟩
  have h2 : knownT TA = true := by kernel_rfl
  have h3 : utfT TA = true := by kernel_rfl
  have h4 : appV TA [] = sA.data.toList := by kernel_rfl
  unfold encR
  rw [if_pos h1, if_pos h2, if_pos h3, h4]
  rfl
set_option maxRecDepth 100000 in
set_option maxHeartbeats 4000000 in
theorem awake_any {W : World} (hR : ReadyJ W) : Calls Tryz.prog 7 #[] W fun e w' => e = .returned (.bool true) ∧ Below W.heap.size W w' := by
  have HD := Lib.hid (decode_any (t := tA) hR)
  rw [awake_read] at HD
  have HR := Lib.hid hR
  clear hR
  have hpn : ∀ w : World, (binOp BinOp.eql 34 (.pointer none) (.pointer none)).run Tryz.prog w = .ok (.bool true) w := fun _ => rfl
  go_enter Tryz.func7, Tryz.ntmps7
  go_wp2_with (go_at_call 10; refine HD.out.mono ?_; rintro e w1 ⟨hb1, v1, rfl, hf1, hs1⟩; obtain ⟨y1, y2, y3, ya, yn, yc, yk, ym, yd, rfl⟩ := hf1.shape; refine Hid.out ?_)
  refine Lib.hid ?_
  have HB1 := Lib.hid hb1
  have HF1 := Lib.hid hf1.at
  have HZ1 := Lib.hid (below_new0 w1 (.cells #[.int .i64 y1, .bool y2, .string y3, .slice ya yn yc, .slice yk ym yd] 26))
  have hbv := Blk.new w1 #[.int .i64 y1, .bool y2, .string y3, .slice ya yn yc, .slice yk ym yd] 26
  have q0 := hbv.cell 0
  have q1 := hbv.cell 1
  have q2 := hbv.cell 2
  have q3 := hbv.cell 3
  have q4 := hbv.cell 4
  have HE := Lib.hid (encode_any HF1.out HZ1.out (by simp) ((HR.out.below hb1).below HZ1.out))
  rw [awake_enc] at HE
  have HR1 := Lib.hid ((HR.out.below hb1).below HZ1.out)
  clear hb1 hf1 hs1 hbv
  go_wp2_with (go_at_call 8; refine HE.out.mono ?_; rintro e w2 ⟨rfl, hb2⟩; refine Hid.out ?_)
  refine Lib.hid ?_
  have HR2 := Lib.hid (HR1.out.below hb2)
  have HB2 : Hid (Below W.heap.size W w2) := Lib.hid ((HB1.out.trans (HZ1.out.mono HB1.out.size)).trans (hb2.mono (Nat.le_trans HB1.out.size HZ1.out.size)))
  have HD2 := Lib.hid (decode_any (t := ⟨#[91, 49, 44, 93]⟩) HR2.out)
  rw [awake_bad] at HD2
  clear hb2 q0 q1 q2 q3 q4
  go_wp2_with (go_at_call 10; refine HD2.out.mono ?_; rintro e w3 ⟨hb3, D, rfl, hD, hblk⟩; refine Hid.out ?_)
  refine Lib.hid ?_
  have HB3 : Hid (Below W.heap.size W w3) := Lib.hid (HB2.out.trans (hb3.mono HB2.out.size))
  have hbn := below_new0 w3 (.cells #[.int .i64 0, .bool false, .string ⟨#[]⟩, .slice none 0 0, .slice none 0 0] 26)
  have hb4 := hblk.below hbn
  have d0 := hb4.cell 0
  have d2 := hb4.cell 2
  clear hb3 hblk
  go_wp2
  go_ret
  exact ⟨rfl, HB3.out.trans (hbn.mono HB3.out.size)⟩
end Go.Proofs.YtcbcjeabpjjhbaaGreatDoor
