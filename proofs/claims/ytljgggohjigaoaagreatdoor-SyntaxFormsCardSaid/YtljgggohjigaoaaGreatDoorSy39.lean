/- The law's fixed fact: the document's examples · The law's signs and kinds · What the parser makes of two signs, by their texts · SyntaxBinds: the walk · SyntaxBinds, whatever the input -/
import Derived.Deep.QuietTactic
import Derived.BigQuiet
import Derived.OwnWalk
import Derived.Test.YtljgggohjigaoaaGreatDoorSy38
namespace Go.Proofs.YtljgggohjigaoaaGreatDoor
open Go.RowKit Go.Shelf
set_option linter.unusedVariables false
set_option linter.unusedSimpArgs false

def ex1B : ByteArray := ⟨#[114, 32, 34, 116, 34, 32, 34, 110, 34, 32, 123, 32, 120, 32, 61, 32, 49, 32, 43, 32, 121, 46, 122, 32, 125]⟩
def ex2B : ByteArray := ⟨#[97, 32, 123, 32, 120, 32, 61, 32, 49, 32, 121, 32, 61, 32, 50, 32, 125]⟩
def ex1C : Bool := match parseF ex1B with
  | .error _ => false
  | .ok f => f.blocks.length == 1 && (f.exprs.length == 4 && ((match f.exprs[3]? with | some e => e.k == 15 | none => false) && (match f.blocks[0]? with | some b => b.labels.length == 2 | none => false)))
theorem ex1_check : ex1C = true := by kernel_rfl
theorem ex1_ok : ∃ f e b, parseF ex1B = .ok f ∧ f.blocks.length = 1 ∧ f.exprs.length = 4 ∧ f.exprs[3]? = some e ∧ e.k = 15 ∧ f.blocks[0]? = some b ∧ b.labels.length = 2 := by
  have h := ex1_check
  unfold ex1C at h
  cases hp : parseF ex1B with
  | error bd => rw [hp] at h; cases h
  | ok f =>
    rw [hp] at h
    simp only [Bool.and_eq_true] at h
    obtain ⟨h1, h2, h3, h4⟩ := h
    cases he : f.exprs[3]? with
    | none => rw [he] at h3; cases h3
    | some e =>
      rw [he] at h3
      cases hb : f.blocks[0]? with
      | none => rw [hb] at h4; cases h4
      | some b =>
        rw [hb] at h4
        exact ⟨f, e, b, rfl, beq_iff_eq.1 h1, beq_iff_eq.1 h2, he, beq_iff_eq.1 h3, hb, beq_iff_eq.1 h4⟩
theorem ex2_bad : parseF ex2B = .error (50, 10) := by kernel_rfl
/-- Is, where something is wrong: its code and place, and no name. -/
theorem is_bad {W : World} {D : Nat} {c p : Int} (h : Blk W D #[.int .i64 c, .string ⟨#[]⟩, .int .i64 p] 34) (h0 : ¬ c = 0) : Calls Tryz.prog 16 #[.pointer (some ⟨D, 0, none⟩), .int .i64 c, .int .i64 p] W fun e w' => e = .returned (.bool true) ∧ w' = W := by
  have d0 := h.cell 0
  have d1 := h.cell 1
  have d2 := h.cell 2
  have e0 : (c == 0) = false := beq_eq_false_iff_ne.2 h0
  clear h
  go_enter Tryz.func16, Tryz.ntmps16
  go_wp2_with fail
  go_ret
  exact ⟨rfl, rfl⟩
set_option maxRecDepth 100000 in
set_option maxHeartbeats 4000000 in
theorem awake5 {W : World} (hR : ReadyP W) : Calls Tryz.prog 9 #[] W fun e w' => e = .returned (.bool true) ∧ Below W.heap.size W w' := by
  obtain ⟨f, x, b, hf, hnb, hne, hx, hxk, hb, hbl⟩ := ex1_ok
  have HP1 : Hid (Calls Tryz.prog 11 #[.string ⟨#[114, 32, 34, 116, 34, 32, 34, 110, 34, 32, 123, 32, 120, 32, 61, 32, 49, 32, 43, 32, 121, 46, 122, 32, 125]⟩] W (ParE W (.ok f))) := Lib.hid (by
    have := parse_any (t := ex1B) hR
    rw [hf] at this
    exact this)
  have HP2 : Hid (∀ w, ReadyP w → Calls Tryz.prog 11 #[.string ⟨#[97, 32, 123, 32, 120, 32, 61, 32, 49, 32, 121, 32, 61, 32, 50, 32, 125]⟩] w (ParE w (.error (50, 10)))) := Lib.hid (fun w hw => by
    have := parse_any (t := ex2B) hw
    rw [ex2_bad] at this
    exact this)
  have HR := Lib.hid hR
  clear hR hf
  go_enter Tryz.func9, Tryz.ntmps9
  go_wp2_with fail
  go_at_call 11; refine HP1.out.mono ?_
  rintro e w1 ⟨hb1, m, F, lo, rfl, hfo, -, -⟩
  obtain ⟨gE, cE, av, kv, eE, hcE, hxr⟩ := hfo.ex hx
  obtain ⟨gB, cB, lv, av', bv, eB, hcB, hbr⟩ := hfo.bl hb
  obtain ⟨aT, cT, eT⟩ := hfo.slices.2.2
  rw [hne] at eE hcE
  rw [hnb] at eB hcB
  rw [eE, eB, eT]
  obtain ⟨gL, cL, eL, -, -⟩ := hbr.labels.slice (by rw [hbl]; decide)
  rw [hbl] at eL
  obtain ⟨w2, hw2⟩ : ∃ w2, w1.alloc (.cells #[.slice (some ⟨gE, 0, none⟩) 4 cE, .slice (some ⟨gB, 0, none⟩) 1 cB, .slice aT f.top.length cT] 28) = w2 := ⟨_, rfl⟩
  have b2 : Blk w2 w1.heap.size #[.slice (some ⟨gE, 0, none⟩) 4 cE, .slice (some ⟨gB, 0, none⟩) 1 cB, .slice aT f.top.length cT] 28 := by rw [← hw2]; exact Blk.new _ _ _
  have s12 : Below w1.heap.size w1 w2 := by rw [← hw2]; exact below_new _ _
  have hR2 := (HR.out.below hb1).below s12
  have hz1 := hb1.size
  have HB2 := Lib.hid (hb1.trans (s12.mono hz1))
  have HX := Lib.hid (And.intro (hxr.below s12) (And.intro (hbr.below s12) b2))
  have HC := Lib.hid (HP2.out w2 hR2)
  have HW2 := Lib.hid hw2
  have HZ := Lib.hid (And.intro hz1 s12.size)
  have HXK := Lib.hid (And.intro hxk (And.intro hcE hcB))
  clear hb1 hfo hxr hbr eE eB eT HP1 HP2 hR2 hw2 b2 s12 HR hz1 hxk hcE hcB
  go_wp2_with fail
  go_at_call 11; rw [HW2.out]; refine HC.out.mono ?_
  rintro e w3 ⟨hb3, D, rfl, hD, hdb⟩
  have hx3 := HX.out.1.below hb3
  have hbl3 := HX.out.2.1.below hb3
  have b3 := HX.out.2.2.below hb3
  have s34 := below_new w3 (.cells #[.slice none 0 0, .slice none 0 0, .slice none 0 0] 28)
  have r0 : (w3.alloc (.cells #[.slice none 0 0, .slice none 0 0, .slice none 0 0] 28)).cell? ⟨gE, 15, none⟩ = some (.int .i64 15) := by rw [← HXK.out.1]; exact (hx3.below s34).c_k
  have r1 : (w3.alloc (.cells #[.slice none 0 0, .slice none 0 0, .slice none 0 0] 28)).cell? ⟨gB, 1, none⟩ = some (.slice (some ⟨gL, 0, none⟩) 2 cL) := by rw [← eL]; exact (hbl3.below s34).c_lv
  have b4 := b3.below s34
  have k0 := b4.cell 0
  have k1 := b4.cell 1
  have k2 := b4.cell 2
  have HIS := Lib.hid (is_bad (hdb.below s34) (by decide))
  have HB4 : Hid (Below W.heap.size W (w3.alloc (.cells #[.slice none 0 0, .slice none 0 0, .slice none 0 0] 28))) := Lib.hid (HB2.out.trans ((hb3.mono (by have := HZ.out; omega)).trans (s34.mono (by have := hb3.size; have := HZ.out; omega))))
  have i1 : (3 : Int) < 4 := by decide
  clear hb3 hx3 hbl3 b3 s34 b4 hdb HX HC eL hD
  go_wp2_with fail
  go_at_call 16; refine HIS.out.mono ?_
  rintro e w5 ⟨rfl, rfl⟩
  go_wp2_with fail
  go_ret
  exact ⟨rfl, HB4.out⟩
end Go.Proofs.YtljgggohjigaoaaGreatDoor
namespace Go.Proofs.YtljgggohjigaoaaGreatDoor
open Go.RowKit Go.Shelf
set_option linter.unusedVariables false
set_option linter.unusedSimpArgs false

/-- A sign that joins: its bytes, how close it binds, its kind. -/
def sgB : Nat → ByteArray
  | 0 => ⟨#[124, 124]⟩ | 1 => ⟨#[38, 38]⟩ | 2 => ⟨#[61, 61]⟩ | 3 => ⟨#[33, 61]⟩ | 4 => ⟨#[60]⟩ | 5 => ⟨#[62]⟩ | 6 => ⟨#[60, 61]⟩ | 7 => ⟨#[62, 61]⟩ | 8 => ⟨#[43]⟩ | 9 => ⟨#[45]⟩ | 10 => ⟨#[42]⟩ | 11 => ⟨#[47]⟩ | _ => ⟨#[37]⟩
def sgL : Nat → Int
  | 0 => 0 | 1 => 1 | 2 => 2 | 3 => 2 | 4 => 3 | 5 => 3 | 6 => 3 | 7 => 3 | 8 => 4 | 9 => 4 | _ => 5
def sgK : Nat → Int
  | 0 => 27 | 1 => 26 | 2 => 20 | 3 => 21 | 4 => 22 | 5 => 23 | 6 => 24 | 7 => 25 | 8 => 15 | 9 => 16 | 10 => 17 | 11 => 18 | _ => 19
theorem sgB_size (n : Nat) : (sgB n).size ≤ 2 := by
  unfold sgB
  split <;> decide
theorem below_drw {B n : Nat} {W w : World} (h : Below B W w) : Below B W (w.drewN n) := ⟨h.os, h.tape, h.output, h.size, h.block⟩
def sgVs : Array Value := #[.string ⟨#[124, 124]⟩, .string ⟨#[38, 38]⟩, .string ⟨#[61, 61]⟩, .string ⟨#[33, 61]⟩, .string ⟨#[60]⟩, .string ⟨#[62]⟩, .string ⟨#[60, 61]⟩, .string ⟨#[62, 61]⟩, .string ⟨#[43]⟩, .string ⟨#[45]⟩, .string ⟨#[42]⟩, .string ⟨#[47]⟩, .string ⟨#[37]⟩]
def sgVl : Array Value := #[.int .i64 0, .int .i64 1, .int .i64 2, .int .i64 2, .int .i64 3, .int .i64 3, .int .i64 3, .int .i64 3, .int .i64 4, .int .i64 4, .int .i64 5, .int .i64 5, .int .i64 5]
theorem sgVs_at {n : Nat} (hn : n < 13) : sgVs[n]? = some (.string (sgB n)) := by
  obtain rfl | rfl | rfl | rfl | rfl | rfl | rfl | rfl | rfl | rfl | rfl | rfl | rfl : n = 0 ∨ n = 1 ∨ n = 2 ∨ n = 3 ∨ n = 4 ∨ n = 5 ∨ n = 6 ∨ n = 7 ∨ n = 8 ∨ n = 9 ∨ n = 10 ∨ n = 11 ∨ n = 12 := by omega
  all_goals rfl
theorem sgVl_at {n : Nat} (hn : n < 13) : sgVl[n]? = some (.int .i64 (sgL n)) := by
  obtain rfl | rfl | rfl | rfl | rfl | rfl | rfl | rfl | rfl | rfl | rfl | rfl | rfl : n = 0 ∨ n = 1 ∨ n = 2 ∨ n = 3 ∨ n = 4 ∨ n = 5 ∨ n = 6 ∨ n = 7 ∨ n = 8 ∨ n = 9 ∨ n = 10 ∨ n = 11 ∨ n = 12 := by omega
  all_goals rfl
set_option maxRecDepth 100000 in
set_option maxHeartbeats 4000000 in
theorem signs_any {W : World} {n : Nat} (hn : n < 13) : Calls Tryz.prog 14 #[.int .i64 (n : Int)] W fun e w' => e = .returned (.tuple #[.string (sgB n), .int .i64 (sgL n)]) ∧ Below W.heap.size W w' := by
  obtain ⟨W1, hW1⟩ : ∃ W1, W.alloc (.cells #[.string ⟨#[124, 124]⟩, .string ⟨#[38, 38]⟩, .string ⟨#[61, 61]⟩, .string ⟨#[33, 61]⟩, .string ⟨#[60]⟩, .string ⟨#[62]⟩, .string ⟨#[60, 61]⟩, .string ⟨#[62, 61]⟩, .string ⟨#[43]⟩, .string ⟨#[45]⟩, .string ⟨#[42]⟩, .string ⟨#[47]⟩, .string ⟨#[37]⟩] 81) = W1 := ⟨_, rfl⟩
  have b1 : Blk W1 W.heap.size sgVs 81 := by rw [← hW1]; exact Blk.new _ _ _
  have z1 : W1.heap.size = W.heap.size + 1 := by rw [← hW1]; simp
  have s1 : Below W.heap.size W W1 := by rw [← hW1]; exact below_new _ _
  obtain ⟨W2, hW2⟩ : ∃ W2, W1.alloc (.cells #[.int .i64 0, .int .i64 1, .int .i64 2, .int .i64 2, .int .i64 3, .int .i64 3, .int .i64 3, .int .i64 3, .int .i64 4, .int .i64 4, .int .i64 5, .int .i64 5, .int .i64 5] 82) = W2 := ⟨_, rfl⟩
  have b2 : Blk W2 (W.heap.size + 1) sgVl 82 := by rw [← hW2, ← z1]; exact Blk.new _ _ _
  have s2 : Below W1.heap.size W1 W2 := by rw [← hW2]; exact below_new _ _
  have c1 : W2.cell? ⟨W.heap.size, n, none⟩ = some (.string (sgB n)) := ((b1.below s2).cell n).trans (sgVs_at hn)
  have c2 : W2.cell? ⟨W.heap.size + 1, n, none⟩ = some (.int .i64 (sgL n)) := (b2.cell n).trans (sgVl_at hn)
  have HB : Hid (Below W.heap.size W W2) := Lib.hid (s1.trans (s2.mono (by omega)))
  have HW1 := Lib.hid hW1
  have HW2 := Lib.hid hW2
  have i0 : (0 : Int) ≤ (n : Int) := by omega
  have i1 : (n : Int) < 13 := by omega
  clear b1 b2 s1 s2 z1 hW1 hW2 hn
  go_enter Tryz.func14, Tryz.ntmps14
  go_wp2_with fail
  rw [HW1.out, HW2.out]
  go_quiet (fail)
  go_wp2_with fail
  refine bodyPost_ret (by simp [results, Tryz.results14, go_sem]; try rfl) rfl ?_
  exact ⟨rfl, below_drw HB.out⟩
theorem kind_idx {n : Nat} (hn : n < 13) (w : World) : (Instr.index 83 (.agg #[.int .i64 27, .int .i64 26, .int .i64 20, .int .i64 21, .int .i64 22, .int .i64 23, .int .i64 24, .int .i64 25, .int .i64 15, .int .i64 16, .int .i64 17, .int .i64 18, .int .i64 19]) (.int .i64 (n : Int))).run Tryz.prog w = .ok (.int .i64 (sgK n)) w := by
  obtain rfl | rfl | rfl | rfl | rfl | rfl | rfl | rfl | rfl | rfl | rfl | rfl | rfl : n = 0 ∨ n = 1 ∨ n = 2 ∨ n = 3 ∨ n = 4 ∨ n = 5 ∨ n = 6 ∨ n = 7 ∨ n = 8 ∨ n = 9 ∨ n = 10 ∨ n = 11 ∨ n = 12 := by omega
  all_goals kernel_rfl
set_option maxRecDepth 100000 in
set_option maxHeartbeats 4000000 in
theorem kind_any {W : World} {n : Nat} (hn : n < 13) : Calls Tryz.prog 15 #[.int .i64 (n : Int)] W fun e w' => e = .returned (.int .i64 (sgK n)) ∧ w' = W := by
  have hix := fun w => kind_idx hn w
  clear hn
  go_enter Tryz.func15, Tryz.ntmps15
  go_wp2_with fail
  go_ret
  exact ⟨rfl, rfl⟩
end Go.Proofs.YtljgggohjigaoaaGreatDoor
namespace Go.Proofs.YtljgggohjigaoaaGreatDoor
open Go.RowKit Go.Shelf
set_option linter.unusedVariables false
set_option linter.unusedSimpArgs false

/-- The law's text. -/
def bindT (a b : ByteArray) : ByteArray := (((⟨#[97, 32, 123, 10, 120, 32, 61, 32, 112, 32]⟩ ++ a) ++ ⟨#[32, 113, 32]⟩) ++ b) ++ ⟨#[32, 114, 10, 125]⟩
def argK (f : Fi) (e : Ex) (j : Nat) (k : Int) : Bool := match e.args[j]? with
  | none => false
  | some a => match f.exprs[a]? with
    | none => false
    | some x => x.k == k
def argX (f : Fi) (e : Ex) (j : Nat) (b : ByteArray) : Bool := match e.args[j]? with
  | none => false
  | some a => match f.exprs[a]? with
    | none => false
    | some x => x.x.data.toList == b.data.toList
def bindB (i k : Nat) : Bool := match parseF (bindT (sgB i) (sgB k)) with
  | .error _ => false
  | .ok f => f.exprs.length == 5 && match f.exprs[4]? with
    | none => false
    | some e => if sgL i < sgL k then e.k == sgK i && (argK f e 1 (sgK k) && argX f e 0 ⟨#[112]⟩) else e.k == sgK k && (argK f e 0 (sgK i) && argX f e 1 ⟨#[114]⟩)
theorem bind_0 : (List.range 13).all (fun i => bindB i 0) = true := by kernel_rfl
theorem bind_1 : (List.range 13).all (fun i => bindB i 1) = true := by kernel_rfl
theorem bind_2 : (List.range 13).all (fun i => bindB i 2) = true := by kernel_rfl
theorem bind_3 : (List.range 13).all (fun i => bindB i 3) = true := by kernel_rfl
theorem bind_4 : (List.range 13).all (fun i => bindB i 4) = true := by kernel_rfl
theorem bind_5 : (List.range 13).all (fun i => bindB i 5) = true := by kernel_rfl
theorem bind_6 : (List.range 13).all (fun i => bindB i 6) = true := by kernel_rfl
theorem bind_7 : (List.range 13).all (fun i => bindB i 7) = true := by kernel_rfl
theorem bind_8 : (List.range 13).all (fun i => bindB i 8) = true := by kernel_rfl
theorem bind_9 : (List.range 13).all (fun i => bindB i 9) = true := by kernel_rfl
theorem bind_10 : (List.range 13).all (fun i => bindB i 10) = true := by kernel_rfl
theorem bind_11 : (List.range 13).all (fun i => bindB i 11) = true := by kernel_rfl
theorem bind_12 : (List.range 13).all (fun i => bindB i 12) = true := by kernel_rfl
theorem bind_all {i k : Nat} (hi : i < 13) (hk : k < 13) : bindB i k = true := by
  have hm : i ∈ List.range 13 := List.mem_range.2 hi
  obtain rfl | rfl | rfl | rfl | rfl | rfl | rfl | rfl | rfl | rfl | rfl | rfl | rfl : k = 0 ∨ k = 1 ∨ k = 2 ∨ k = 3 ∨ k = 4 ∨ k = 5 ∨ k = 6 ∨ k = 7 ∨ k = 8 ∨ k = 9 ∨ k = 10 ∨ k = 11 ∨ k = 12 := by omega
  · exact List.all_eq_true.1 bind_0 i hm
  · exact List.all_eq_true.1 bind_1 i hm
  · exact List.all_eq_true.1 bind_2 i hm
  · exact List.all_eq_true.1 bind_3 i hm
  · exact List.all_eq_true.1 bind_4 i hm
  · exact List.all_eq_true.1 bind_5 i hm
  · exact List.all_eq_true.1 bind_6 i hm
  · exact List.all_eq_true.1 bind_7 i hm
  · exact List.all_eq_true.1 bind_8 i hm
  · exact List.all_eq_true.1 bind_9 i hm
  · exact List.all_eq_true.1 bind_10 i hm
  · exact List.all_eq_true.1 bind_11 i hm
  · exact List.all_eq_true.1 bind_12 i hm
theorem argK_of {f : Fi} {e : Ex} {j : Nat} {k : Int} (h : argK f e j k = true) : ∃ a x, e.args[j]? = some a ∧ f.exprs[a]? = some x ∧ x.k = k := by
  unfold argK at h
  cases ha : e.args[j]? with
  | none => rw [ha] at h; cases h
  | some a =>
    rw [ha] at h
    simp only at h
    cases hx : f.exprs[a]? with
    | none => rw [hx] at h; cases h
    | some x => rw [hx] at h; exact ⟨a, x, rfl, hx, beq_iff_eq.1 h⟩
theorem argX_of {f : Fi} {e : Ex} {j : Nat} {b : ByteArray} (h : argX f e j b = true) : ∃ a x, e.args[j]? = some a ∧ f.exprs[a]? = some x ∧ x.x = b := by
  unfold argX at h
  cases ha : e.args[j]? with
  | none => rw [ha] at h; cases h
  | some a =>
    rw [ha] at h
    simp only at h
    cases hx : f.exprs[a]? with
    | none => rw [hx] at h; cases h
    | some x => rw [hx] at h; exact ⟨a, x, rfl, hx, ByteArray.ext (Array.toList_inj.1 (beq_iff_eq.1 h))⟩
/-- The file of the law's text. -/
theorem bind_of {i k : Nat} (hi : i < 13) (hk : k < 13) : ∃ f e, parseF (bindT (sgB i) (sgB k)) = .ok f ∧ f.exprs.length = 5 ∧ f.exprs[4]? = some e ∧
    ((sgL i < sgL k ∧ e.k = sgK i ∧ (∃ a x, e.args[1]? = some a ∧ f.exprs[a]? = some x ∧ x.k = sgK k) ∧ ∃ a x, e.args[0]? = some a ∧ f.exprs[a]? = some x ∧ x.x = ⟨#[112]⟩) ∨
     (¬ sgL i < sgL k ∧ e.k = sgK k ∧ (∃ a x, e.args[0]? = some a ∧ f.exprs[a]? = some x ∧ x.k = sgK i) ∧ ∃ a x, e.args[1]? = some a ∧ f.exprs[a]? = some x ∧ x.x = ⟨#[114]⟩)) := by
  have h := bind_all hi hk
  unfold bindB at h
  cases hp : parseF (bindT (sgB i) (sgB k)) with
  | error bd => rw [hp] at h; cases h
  | ok f =>
    rw [hp] at h
    simp only [Bool.and_eq_true] at h
    obtain ⟨h1, h2⟩ := h
    cases he : f.exprs[4]? with
    | none => rw [he] at h2; cases h2
    | some e =>
      rw [he] at h2
      simp only at h2
      refine ⟨f, e, rfl, beq_iff_eq.1 h1, he, ?_⟩
      by_cases hl : sgL i < sgL k
      · rw [if_pos hl] at h2
        simp only [Bool.and_eq_true] at h2
        exact .inl ⟨hl, beq_iff_eq.1 h2.1, argK_of h2.2.1, argX_of h2.2.2⟩
      · rw [if_neg hl] at h2
        simp only [Bool.and_eq_true] at h2
        exact .inr ⟨hl, beq_iff_eq.1 h2.1, argK_of h2.2.1, argX_of h2.2.2⟩
end Go.Proofs.YtljgggohjigaoaaGreatDoor
namespace Go.Proofs.YtljgggohjigaoaaGreatDoor
open Go.RowKit Go.Shelf
set_option linter.unusedVariables false
set_option linter.unusedSimpArgs false

set_option maxRecDepth 100000 in
set_option maxHeartbeats 4000000 in
theorem binds_one {W : World} {x y : Int} {i k : Nat} (hi : i < 13) (hk : k < 13) (hu : wrap64 ((IntKind.u64.wrap x).tmod 13) = (i : Int)) (hv : wrap64 ((IntKind.u64.wrap y).tmod 13) = (k : Int)) (hR : ReadyP W) :
    Calls Tryz.prog 7 #[.int .i64 x, .int .i64 y] W fun e w' => e = .returned (.bool true) ∧ Below W.heap.size W w' := by
  obtain ⟨f, e, hf, hne, he, hcase⟩ := bind_of hi hk
  have HP : Hid (∀ w, ReadyP w → Calls Tryz.prog 11 #[.string (bindT (sgB i) (sgB k))] w (ParE w (.ok f))) := Lib.hid (fun w hw => by
    have := parse_any (t := bindT (sgB i) (sgB k)) hw
    rw [hf] at this
    exact this)
  have HA := Lib.hid (awake5 hR)
  have HS1 := Lib.hid (fun w => signs_any (W := w) hi)
  have HS2 := Lib.hid (fun w => signs_any (W := w) hk)
  have HK1 := Lib.hid (fun w => kind_any (W := w) hi)
  have HK2 := Lib.hid (fun w => kind_any (W := w) hk)
  have z1 := sgB_size i
  have z2 := sgB_size k
  obtain ⟨A, hA⟩ : ∃ A, sgB i = A := ⟨_, rfl⟩
  obtain ⟨B, hB⟩ : ∃ B, sgB k = B := ⟨_, rfl⟩
  obtain ⟨la, hla⟩ : ∃ la, sgL i = la := ⟨_, rfl⟩
  obtain ⟨lb, hlb⟩ : ∃ lb, sgL k = lb := ⟨_, rfl⟩
  obtain ⟨ka, hka⟩ : ∃ ka, sgK i = ka := ⟨_, rfl⟩
  obtain ⟨kb, hkb⟩ : ∃ kb, sgK k = kb := ⟨_, rfl⟩
  rw [hA, hB] at HP
  rw [hA] at z1
  rw [hB] at z2
  simp only [hA, hla] at HS1
  simp only [hB, hlb] at HS2
  simp only [hka] at HK1
  simp only [hkb] at HK2
  rw [hla, hlb, hka, hkb] at hcase
  have HE := Lib.hid (And.intro hne (And.intro he hcase))
  have HR := Lib.hid hR
  clear hf hi hk hA hB hla hlb hka hkb hR hne he hcase
  go_enter Tryz.func7, Tryz.ntmps7
  go_wp2_with fail
  go_at_call 9; refine HA.out.mono ?_; rintro r w1 ⟨rfl, hb1⟩
  have HB1 := Lib.hid hb1
  clear hb1 HA
  go_wp2_with fail
  go_at_call 14; refine (HS1.out w1).mono ?_; rintro r w2 ⟨rfl, hb2⟩
  have HB2 := Lib.hid (HB1.out.trans (hb2.mono HB1.out.size))
  clear hb2 HS1 HB1
  go_wp2_with fail
  go_at_call 14; refine (HS2.out w2).mono ?_; rintro r w3 ⟨rfl, hb3⟩
  have HB3 := Lib.hid (HB2.out.trans (hb3.mono HB2.out.size))
  clear hb3 HS2 HB2
  have HC := Lib.hid (HP.out w3 (HR.out.below HB3.out))
  clear HP HR
  go_wp2_with fail
  go_at_call 11; refine HC.out.mono ?_
  rintro r w4 ⟨hb4, m, F, lo, rfl, hfo, -, -⟩
  obtain ⟨hne, he, hcase⟩ := HE.out
  obtain ⟨gE, cE, av, kv, eE, hcE, hxr⟩ := hfo.ex he
  rw [hne] at eE hcE
  obtain ⟨aB, cB, eB⟩ := hfo.slices.2.1
  obtain ⟨aT, cT, eT⟩ := hfo.slices.2.2
  obtain ⟨nB, hnB⟩ : ∃ n, f.blocks.length = n := ⟨_, rfl⟩
  obtain ⟨nT, hnT⟩ : ∃ n, f.top.length = n := ⟨_, rfl⟩
  rw [hnB] at eB
  rw [hnT] at eT
  obtain ⟨⟨aK, cK, eK⟩, -⟩ := hxr.keys
  obtain ⟨nK, hnK⟩ : ∃ n, e.keys.length = n := ⟨_, rfl⟩
  rw [hnK] at eK
  have hn0 : e.args.length ≠ 0 := by
    rcases hcase with ⟨-, -, ⟨a, x, h1, -, -⟩, -⟩ | ⟨-, -, -, a, x, h1, -, -⟩
    · have := (List.getElem?_eq_some_iff.1 h1).1; omega
    · have := (List.getElem?_eq_some_iff.1 h1).1; omega
  obtain ⟨gA, cA, eA, hcA, -⟩ := hxr.args.slice hn0
  obtain ⟨nA, hnA⟩ : ∃ n, e.args.length = n := ⟨_, rfl⟩
  rw [hnA] at eA hcA
  rw [eE, eB, eT]
  have s45 := below_new w4 (.cells #[.slice (some ⟨gE, 0, none⟩) 5 cE, .slice aB nB cB, .slice aT nT cT] 28)
  have b5 := Blk.new w4 #[.slice (some ⟨gE, 0, none⟩) 5 cE, .slice aB nB cB, .slice aT nT cT] 28
  have hx5 := hxr.below s45
  have k0 := b5.cell 0
  have r0 : (w4.alloc (.cells #[.slice (some ⟨gE, 0, none⟩) 5 cE, .slice aB nB cB, .slice aT nT cT] 28)).cell? ⟨gE, 20, none⟩ = some (.int .i64 e.k) := hx5.c_k
  have r1 : (w4.alloc (.cells #[.slice (some ⟨gE, 0, none⟩) 5 cE, .slice aB nB cB, .slice aT nT cT] 28)).cell? ⟨gE, 21, none⟩ = some (.string e.x) := hx5.c_x
  have r2 : (w4.alloc (.cells #[.slice (some ⟨gE, 0, none⟩) 5 cE, .slice aB nB cB, .slice aT nT cT] 28)).cell? ⟨gE, 22, none⟩ = some (.slice (some ⟨gA, 0, none⟩) nA cA) := by rw [← eA]; exact hx5.c_av
  have r3 : (w4.alloc (.cells #[.slice (some ⟨gE, 0, none⟩) 5 cE, .slice aB nB cB, .slice aT nT cT] 28)).cell? ⟨gE, 23, none⟩ = some (.slice aK nK cK) := by rw [← eK]; exact hx5.c_kv
  have r4 : (w4.alloc (.cells #[.slice (some ⟨gE, 0, none⟩) 5 cE, .slice aB nB cB, .slice aT nT cT] 28)).cell? ⟨gE, 24, none⟩ = some (.int .i64 (e.at_ : Int)) := hx5.c_at_
  have i1 : (4 : Int) < 5 := by decide
  clear HE hnB hnT hnK hnA hn0 eB eT
  have s56 := below_new (w4.alloc (.cells #[.slice (some ⟨gE, 0, none⟩) 5 cE, .slice aB nB cB, .slice aT nT cT] 28)) (.cells #[.int .i64 e.k, .string e.x, .slice (some ⟨gA, 0, none⟩) nA cA, .slice aK nK cK, .int .i64 (e.at_ : Int)] 38)
  have b6 := Blk.new (w4.alloc (.cells #[.slice (some ⟨gE, 0, none⟩) 5 cE, .slice aB nB cB, .slice aT nT cT] 28)) #[.int .i64 e.k, .string e.x, .slice (some ⟨gA, 0, none⟩) nA cA, .slice aK nK cK, .int .i64 (e.at_ : Int)] 38
  have b56 := b5.below s56
  obtain ⟨W6, hW6⟩ : ∃ W6, ((w4.alloc (.cells #[.slice (some ⟨gE, 0, none⟩) 5 cE, .slice aB nB cB, .slice aT nT cT] 28)).alloc (.cells #[.int .i64 e.k, .string e.x, .slice (some ⟨gA, 0, none⟩) nA cA, .slice aK nK cK, .int .i64 (e.at_ : Int)] 38)) = W6 := ⟨_, rfl⟩
  rw [hW6] at s56 b6 b56
  have z5 : (w4.alloc (.cells #[.slice (some ⟨gE, 0, none⟩) 5 cE, .slice aB nB cB, .slice aT nT cT] 28)).heap.size = w4.heap.size + 1 := by simp
  have s46 : Below w4.heap.size w4 W6 := s45.trans (s56.mono (by omega))
  rw [z5] at b6
  have t0 := b6.cell 0
  have t2 := b6.cell 2
  have k6 := b56.cell 0
  have HB6 : Below W.heap.size W W6 := HB3.out.trans ((hb4.mono HB3.out.size).trans (s46.mono (Nat.le_trans HB3.out.size hb4.size)))
  clear z5
  rcases hcase with ⟨q, hke, ⟨a1, x1, ha1, hx1, hk1⟩, a0, x0, ha0, hx0, hk0⟩ | ⟨q, hke, ⟨a1, x1, ha1, hx1, hk1⟩, a0, x0, ha0, hx0, hk0⟩
  · have hx5b := hx5
    obtain ⟨a1v, k1v, hr1⟩ := hfo.ex2 eE hx1
    obtain ⟨a0v, k0v, hr0⟩ := hfo.ex2 eE hx0
    obtain ⟨g1, l1⟩ := (hxr.args.below s46).int eA ha1
    obtain ⟨g0, l0⟩ := (hxr.args.below s46).int eA ha0
    have m1 : a1 < 5 := by rw [← hne]; exact (List.getElem?_eq_some_iff.1 hx1).1
    have m0' : a0 < 5 := by rw [← hne]; exact (List.getElem?_eq_some_iff.1 hx0).1
    have y1 : W6.cell? ⟨gE, a1 * 5, none⟩ = some (.int .i64 kb) := by rw [← hk1]; exact (hr1.below s46).c_k
    have y0 : W6.cell? ⟨gE, a0 * 5 + 1, none⟩ = some (.string ⟨#[112]⟩) := by rw [← hk0]; exact (hr0.below s46).c_x
    have u0 : (a1 : Int) < 5 := by omega
    have u1 : (a0 : Int) < 5 := by omega
    have u2 : (0 : Int) ≤ (a1 : Int) := by omega
    have u3 : (0 : Int) ≤ (a0 : Int) := by omega
    have u4 : ((1 : Nat) : Int) < (nA : Int) := by omega
    have u5 : ((0 : Nat) : Int) < (nA : Int) := by omega
    have u4 : (1 : Int) < (nA : Int) := u4
    have u5 : (0 : Int) < (nA : Int) := u5
    subst hke
    have HB := Lib.hid HB6
    have HW6 := Lib.hid hW6
    clear hx5b hr1 hr0 ha1 ha0 hx1 hx0 hk1 hk0 l1 l0 m1 m0' s46 s56 b6 b56 hx5 hxr hfo eE eA eK hW6 HB6 hne he b5 s45 hb4
    go_wp2_with fail
    rw [HW6.out]
    go_quiet ((first | (go_at_call 15; exact Calls.quiet_of_same (HK1.out _)) | (go_at_call 15; exact Calls.quiet_of_same (HK2.out _))))
    go_wp2_with fail
    go_ret
    exact ⟨rfl, below_drw HB.out⟩
  · have hx5b := hx5
    obtain ⟨a1v, k1v, hr1⟩ := hfo.ex2 eE hx1
    obtain ⟨a0v, k0v, hr0⟩ := hfo.ex2 eE hx0
    obtain ⟨g1, l1⟩ := (hxr.args.below s46).int eA ha1
    obtain ⟨g0, l0⟩ := (hxr.args.below s46).int eA ha0
    have m1 : a1 < 5 := by rw [← hne]; exact (List.getElem?_eq_some_iff.1 hx1).1
    have m0' : a0 < 5 := by rw [← hne]; exact (List.getElem?_eq_some_iff.1 hx0).1
    have y1 : W6.cell? ⟨gE, a1 * 5, none⟩ = some (.int .i64 ka) := by rw [← hk1]; exact (hr1.below s46).c_k
    have y0 : W6.cell? ⟨gE, a0 * 5 + 1, none⟩ = some (.string ⟨#[114]⟩) := by rw [← hk0]; exact (hr0.below s46).c_x
    have u0 : (a1 : Int) < 5 := by omega
    have u1 : (a0 : Int) < 5 := by omega
    have u2 : (0 : Int) ≤ (a1 : Int) := by omega
    have u3 : (0 : Int) ≤ (a0 : Int) := by omega
    have u4 : ((0 : Nat) : Int) < (nA : Int) := by omega
    have u5 : ((1 : Nat) : Int) < (nA : Int) := by omega
    have u4 : (0 : Int) < (nA : Int) := u4
    have u5 : (1 : Int) < (nA : Int) := u5
    subst hke
    have HB := Lib.hid HB6
    have HW6 := Lib.hid hW6
    clear hx5b hr1 hr0 ha1 ha0 hx1 hx0 hk1 hk0 l1 l0 m1 m0' s46 s56 b6 b56 hx5 hxr hfo eE eA eK hW6 HB6 hne he b5 s45 hb4
    go_wp2_with fail
    rw [HW6.out]
    go_quiet ((first | (go_at_call 15; exact Calls.quiet_of_same (HK1.out _)) | (go_at_call 15; exact Calls.quiet_of_same (HK2.out _))))
    go_wp2_with fail
    go_ret
    exact ⟨rfl, below_drw HB.out⟩
end Go.Proofs.YtljgggohjigaoaaGreatDoor
namespace Go.Proofs.YtljgggohjigaoaaGreatDoor
open Go.RowKit Go.Shelf
theorem mod_of (x : Int) (d : Nat) (hd : 0 < d) (hd2 : d ≤ 1000) : ∃ n : Nat, n < d ∧ wrap64 ((IntKind.u64.wrap x).tmod (d : Int)) = (n : Int) := by
  have hk0 : 0 ≤ (IntKind.u64.wrap x).tmod (d : Int) := Int.tmod_nonneg _ (Int.emod_nonneg _ (by decide))
  have hk1 : (IntKind.u64.wrap x).tmod (d : Int) < (d : Int) := Int.tmod_lt_of_pos _ (by omega)
  obtain ⟨n, hn⟩ : ∃ n : Nat, (n : Int) = (IntKind.u64.wrap x).tmod (d : Int) := ⟨((IntKind.u64.wrap x).tmod (d : Int)).toNat, by omega⟩
  exact ⟨n, by omega, by rw [← hn]; exact IntWalk.wrap64_in _ (by omega)⟩
theorem binds_any {W : World} (x : Int) (_hx1 : -9223372036854775808 ≤ x) (_hx2 : x ≤ 9223372036854775807) (y : Int) (_hy1 : -9223372036854775808 ≤ y) (_hy2 : y ≤ 9223372036854775807) (hW : ReadyP W) :
    Calls Tryz.prog 7 #[.int .i64 x, .int .i64 y] W fun e w' => e = .returned (.bool true) ∧ Below W.heap.size W w' := by
  obtain ⟨i, hi, hu⟩ := mod_of x 13 (by decide) (by decide)
  obtain ⟨k, hk, hv⟩ := mod_of y 13 (by decide) (by decide)
  exact binds_one hi hk hu hv hW
end Go.Proofs.YtljgggohjigaoaaGreatDoor
