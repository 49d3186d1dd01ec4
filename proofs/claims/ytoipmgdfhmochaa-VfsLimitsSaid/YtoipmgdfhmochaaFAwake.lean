/- awake. -/
import Derived.Test.YtoipmgdfhmochaaFCrash
import Derived.Test.YtoipmgdfhmochaaFCreate
import Derived.Lib.SlBytesConst
import Derived.Lib.SmallJoins
namespace Go.Proofs.Ytoipmgdfhmochaa
open Go.RowKit Go.Shelf
set_option linter.unusedVariables false
set_option linter.unusedSimpArgs false

theorem steps_any {W : World} {lo p : Nat} {s : FS} (h : FsAt W lo p s) : Calls Try.prog 24 #[.pointer (some ⟨p, 0, none⟩)] W fun e w' => e = .returned (.int .i64 (s.steps : Int)) ∧ w' = W := by
  obtain ⟨h0, b, D, h1, hb, hm⟩ := h
  have k0 := hb.cell 1
  clear hb hm
  go_enter Try.func24, Try.ntmps24
  go_wp2_with fail
  go_ret
  exact ⟨rfl, rfl⟩
theorem BR.new {W : World} {L : List UInt8} (hl : L.length ≤ 140737488355328) {cs : Array Value} {t : TypeId} {fr : Nat × Nat} (hc : ∀ i, i < L.length → cs[i]? = some (.int .u8 ((numsOf L).getD i 0))) {n : Nat} (hn : n = L.length) : BR (W.alloc (.cells cs t fr)) (.slice (some ⟨W.heap.size, 0, none⟩) n n) L := by
  subst hn
  refine ⟨_, _, rfl, hl, Nat.le_refl _, .inr ⟨_, rfl, by simp, fun i hi => ?_⟩⟩
  rw [← hc i hi]
  have hm := World.cell?_alloc_mark W cs t fr i
  unfold Addr.add
  split
  · rename_i e; subst e; exact hm
  · simpa using hm
theorem conv_any {w : World} {a : Option Addr} {n c : Nat} {L : List UInt8} (h : BR w (.slice a n c) L) : (convert 32 9 (.slice a n c)).run Try.prog w = .ok (.string ⟨L.toArray⟩) w := by
  obtain ⟨a', c', e, h2, h3, h4⟩ := h
  cases e
  rcases h4 with ⟨rfl, rfl⟩ | ⟨ad, rfl, h5, h6⟩
  · exact run_convert_bytes_nil (P := Try.prog) w 32 5 Try.underlying32 Try.underlying5 0 _ 9 Try.underlying9
  · refine run_convert_bytes_back (P := Try.prog) w 32 9 5 ad c L Try.underlying32 Try.underlying5 Try.underlying9 (fun j hj => ?_)
    rw [h6 j hj]
    congr 2
    rw [List.getD_eq_getElem?_getD, List.getElem?_map, List.getElem?_eq_getElem hj]
    simp
theorem PathsOf.one {s : FS} {ss : List (List UInt8)} (h : PathsOf s ss) {x : List UInt8} (hx : (s.C x).isSome = true) (hn : s.n = 1) : ss = [x] := by
  have h1 := h.len
  rw [hn] at h1
  match ss, h1 with
  | [y], _ =>
    have := (h.mem x).2 hx
    simp at this
    rw [this]
def aw1 : FS := (FS0.wr [97] [49, 50]).2
def aw2 : FS := (aw1.sy [97]).2
def aw3 : FS := (aw2.wr [97] [51, 52, 53]).2
theorem aw1_code : (FS0.wr [97] [49, 50]).1 = 0 := by decide +kernel
theorem aw2_code : (aw1.sy [97]).1 = 0 := by decide +kernel
theorem aw3_code : (aw2.wr [97] [51, 52, 53]).1 = 0 := by decide +kernel
theorem aw4_code : (aw3.cr [97] []).1 = 2 := by decide +kernel
theorem aw4_same : (aw3.cr [97] []).2 = aw3 := by
  have h : ckD aw3 [97] ([] : List UInt8).length = 0 := by decide +kernel
  have h2 : (aw3.C [97]).isSome = true := by decide +kernel
  unfold FS.cr
  rw [if_neg (by rw [h]; decide), if_pos h2]
theorem fit0 : Fit FS0 := ⟨by decide +kernel, by decide +kernel, by decide +kernel⟩
theorem fit1 : Fit aw1 := ⟨by decide +kernel, by decide +kernel, by decide +kernel⟩
theorem fit2 : Fit aw2 := ⟨by decide +kernel, by decide +kernel, by decide +kernel⟩
theorem fit3 : Fit aw3 := ⟨by decide +kernel, by decide +kernel, by decide +kernel⟩
theorem aw_steps : aw3.steps = 3 := by decide +kernel
theorem aw_n : aw3.n = 1 := by decide +kernel
theorem aw_has : (aw3.C [97]).isSome = true := by decide +kernel
theorem aw_none : ((crS aw3 [] [ [97] ]).1.old [97]).data = [49, 50] := by decide +kernel
theorem aw_two : ((crS aw3 [2] [ [97] ]).1.old [97]).data = [51, 52] := by decide +kernel
theorem ascii_of {s : ByteArray} (h : s.data.toList.all (fun b => decide (b.toNat < 128)) = true) : AsciiB s := fun j b hb => by
  rw [List.all_eq_true] at h
  simpa using h b (List.mem_of_getElem? hb)
theorem ascii_a : AsciiB ⟨#[97]⟩ := ascii_of (by decide)
theorem pair_of {a : Nat × FS} {n : Nat} (h : a.1 = n) : a = (n, a.2) := by rw [← h]
set_option maxRecDepth 100000 in
set_option maxHeartbeats 4000000 in
theorem awake_any {W : World} : Calls Try.prog 10 #[] W fun e w' => e = .returned (.bool true) ∧ Below W.heap.size W w' := by
  have HW := Lib.hid (@new_any W)
  have kc := fun (w : World) (C : Array Value) (n c : Nat) => Lib.run_convert_bytes_const (P := Try.prog) w 32 5 C n c Try.underlying32 Try.underlying5
  go_enter Try.func10, Try.ntmps10
  go_wp2_with fail
  go_at_call 8; refine HW.out.mono ?_; rintro r w1 ⟨p, rfl, h1, hb1⟩
  have hr := BR.new (W := w1) (L := [49, 50]) (by simp) (cs := #[.int .u8 49, .int .u8 50]) (t := 5) (fr := (2, 3)) (fun i hi => by match i, hi with | 0, _ => rfl | 1, _ => rfl) (n := 2) rfl
  have hn2 := below_new w1 (.cells #[.int .u8 49, .int .u8 50] 5 (2, 3))
  have HX1 := Lib.hid (write_any (h1.below hn2) ⟨#[97]⟩ ascii_a (by decide) hr fit0 (by have := hb1.size; have := hn2.size; omega))
  have HB1 : Hid (Below W.heap.size W (w1.alloc (.cells #[.int .u8 49, .int .u8 50] 5 (2, 3)))) := Lib.hid (hb1.trans (hn2.mono hb1.size))
  clear h1 hb1 hr hn2
  go_wp2_with fail
  go_at_call 15; refine HX1.out.mono ?_; rintro r w2 ⟨h2a, h2, hb2, -⟩
  replace h2a : r = .returned (.int .i64 0) := by rw [h2a]; exact congrArg (fun k : Nat => Ending.returned (.int .i64 (k : Int))) aw1_code
  subst h2a
  replace h2 : FsAt w2 W.heap.size p aw1 := h2
  have HB2 := Lib.hid (HB1.out.trans hb2)
  have HX2 := Lib.hid (sync_any (s := aw1) h2 ⟨#[97]⟩ ascii_a (by decide) fit1 HB2.out.size)
  clear h2 hb2
  go_wp2_with fail
  go_at_call 17; refine HX2.out.mono ?_; rintro r w3 ⟨h3a, h3, hb3, -⟩
  replace h3a : r = .returned (.int .i64 0) := by rw [h3a]; exact congrArg (fun k : Nat => Ending.returned (.int .i64 (k : Int))) aw2_code
  subst h3a
  replace h3 : FsAt w3 W.heap.size p aw2 := h3
  have hB3 := HB2.out.trans hb3
  have hr := BR.new (W := w3) (L := [51, 52, 53]) (by simp) (cs := #[.int .u8 51, .int .u8 52, .int .u8 53]) (t := 5) (fr := (3, 4)) (fun i hi => by match i, hi with | 0, _ => rfl | 1, _ => rfl | 2, _ => rfl) (n := 3) rfl
  have hn4 := below_new w3 (.cells #[.int .u8 51, .int .u8 52, .int .u8 53] 5 (3, 4))
  have HB3 : Hid (Below W.heap.size W (w3.alloc (.cells #[.int .u8 51, .int .u8 52, .int .u8 53] 5 (3, 4)))) := Lib.hid (hB3.trans (hn4.mono hB3.size))
  have HX3 := Lib.hid (write_any (s := aw2) (FsAt.below h3 hn4) ⟨#[97]⟩ ascii_a (by decide) hr fit2 HB3.out.size)
  clear h3 hb3 hr hn4 hB3
  go_wp2_with fail
  go_at_call 15; refine HX3.out.mono ?_; rintro r w4 ⟨h4a, h4, hb4, -⟩
  replace h4a : r = .returned (.int .i64 0) := by rw [h4a]; exact congrArg (fun k : Nat => Ending.returned (.int .i64 (k : Int))) aw3_code
  subst h4a
  replace h4 : FsAt w4 W.heap.size p aw3 := h4
  have HB4 := Lib.hid (HB3.out.trans hb4)
  have HX4 := Lib.hid (create_any (s := aw3) h4 ⟨#[97]⟩ ascii_a (by decide) (BR.nil _) fit3 HB4.out.size)
  clear h4 hb4
  go_wp2_with fail
  go_at_call 25; refine HX4.out.mono ?_; rintro r w5 ⟨h5a, h5, hb5, -⟩
  replace h5a : r = .returned (.int .i64 2) := by rw [h5a]; exact congrArg (fun k : Nat => Ending.returned (.int .i64 (k : Int))) aw4_code
  replace h5 : FsAt w5 W.heap.size p (aw3.cr [97] []).2 := h5
  rw [aw4_same] at h5
  subst h5a
  have HB5 := Lib.hid (HB4.out.trans hb5)
  have HF5 := Lib.hid h5
  have HX5 := Lib.hid (crash_any (K := []) (kv := .slice none 0 0) h5 (by rw [aw_n]; decide) ⟨none, 0, rfl, by simp, by simp, by simp⟩)
  clear h5 hb5
  go_wp2_with fail
  go_at_call 14; refine HX5.out.mono ?_; rintro r w6 ⟨q1, ss1, rfl, hp1, h6, hb6⟩
  obtain rfl := hp1.one aw_has aw_n
  have hn7 := below_new w6 (.cells #[.int .i64 2] 3)
  have hB6 := HB5.out.trans (hb6.mono HB5.out.size)
  have hB7 := hB6.trans (hn7.mono hB6.size)
  have HB7 := Lib.hid hB7
  have HF7 := Lib.hid (And.intro ((HF5.out.below hb6).below hn7) (h6.below hn7))
  have HX6 := Lib.hid (crash_any (K := [2]) (kv := .slice (some ⟨w6.heap.size, 0, none⟩) 1 1) HF7.out.1 (by rw [aw_n]; decide) ⟨_, _, rfl, by simp, by simp, fun j hj => ⟨_, rfl, by
    match j, hj with
    | 0, _ => exact (Blk.new w6 #[.int .i64 2] 3).cell 0⟩⟩)
  clear h6 hb6 hp1 hn7 hB6 hB7
  go_wp2_with fail
  go_at_call 14; refine HX6.out.mono ?_; rintro r w8 ⟨q2, ss2, rfl, hp2, h8, hb8⟩
  obtain rfl := hp2.one aw_has aw_n
  have HB8 := Lib.hid (HB7.out.trans (hb8.mono HB7.out.size))
  have HF8 := Lib.hid (And.intro (HF7.out.1.below hb8) h8)
  have HX7 := Lib.hid (read_any (HF7.out.2.below hb8) ⟨#[97]⟩ (by decide))
  clear h8 hb8 hp2
  go_wp2_with fail
  go_at_call 18; refine HX7.out.mono ?_; rintro r w9 ⟨a9, c9, rfl, hr9, hb9⟩
  rw [aw_none] at hr9 ⊢
  have HB9 := Lib.hid (HB8.out.trans (hb9.mono HB8.out.size))
  have HR9 := Lib.hid hr9
  have HX8 := Lib.hid (read_any (HF8.out.2.below hb9) ⟨#[97]⟩ (by decide))
  have HF9 := Lib.hid (HF8.out.1.below hb9)
  clear hr9 hb9
  go_wp2_with fail
  go_at_call 18; refine HX8.out.mono ?_; rintro r w10 ⟨a10, c10, rfl, hr10, hb10⟩
  rw [aw_two] at hr10 ⊢
  have HB10 := Lib.hid (HB9.out.trans (hb10.mono HB9.out.size))
  have cv1 : (convert 32 9 (.slice a9 2 c9)).run Try.prog w10 = .ok (.string ⟨#[49, 50]⟩) w10 := conv_any (HR9.out.below hb10)
  have cv2 : (convert 32 9 (.slice a10 2 c10)).run Try.prog w10 = .ok (.string ⟨#[51, 52]⟩) w10 := conv_any hr10
  have HX9 := Lib.hid (steps_any (HF9.out.below hb10))
  rw [aw_steps] at HX9
  clear hr10 hb10
  go_wp2_with fail
  go_at_call 24; refine HX9.out.mono ?_; rintro r w11 ⟨rfl, rfl⟩
  go_wp2_with fail
  go_ret
  exact ⟨rfl, HB10.out⟩
end Go.Proofs.Ytoipmgdfhmochaa
