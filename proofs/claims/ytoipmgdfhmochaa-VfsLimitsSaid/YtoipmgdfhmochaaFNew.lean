/- New, Read, sure, left. -/
import Derived.Test.YtoipmgdfhmochaaFRen2
namespace Go.Proofs.Ytoipmgdfhmochaa
open Go.RowKit Go.Shelf
set_option linter.unusedVariables false
set_option linter.unusedSimpArgs false

def FS0 : FS := ⟨fun _ => none, 0, 0, false, 0, false⟩
set_option maxRecDepth 100000 in
theorem new_any {W : World} : Calls Try.prog 8 #[] W fun e w' => ∃ p, e = .returned (.pointer (some ⟨p, 0, none⟩)) ∧ FsAt w' W.heap.size p FS0 ∧ Below W.heap.size W w' := by
  have hmk : ∀ W, (Instr.makeMap 62 none).run Try.prog W = .ok (.map (some W.heap.size)) (W.alloc (.map #[] 0)) := fun _ => rfl
  go_enter Try.func8, Try.ntmps8
  go_wp2_with fail
  go_ret
  have s1 := below_new W (.map #[] 0)
  have s2 := below_new (W.alloc (.map #[] 0)) (.cells #[.map (some W.heap.size), .int .i64 0, .bool false, .int .i64 0, .bool false] 64)
  have ho := World.ownsMap_made W Try.prog 9 Rf
  have hm : MapAt (W.alloc (.map #[] 0)) W.heap.size FS0.C 0 (.map []) := ⟨ho, rfl, fun x => rfl, fun x f hx => (by cases hx), fun x hx => (by cases hx)⟩
  have hq := Blk.new (W.alloc (.map #[] 0)) #[.map (some W.heap.size), .int .i64 0, .bool false, .int .i64 0, .bool false] 64
  rw [show (W.alloc (.map #[] 0)).heap.size = W.heap.size + 1 by simp] at hq
  refine ⟨_, rfl, ⟨by omega, W.heap.size, _, Nat.le_refl _, hq, hm.below s2⟩, s1.trans (s2.mono s1.size)⟩
set_option maxRecDepth 100000 in
theorem read_any {W : World} {lo p : Nat} {s : FS} (h : FsAt W lo p s) (x : ByteArray) (hx : x.size ≤ 1000000) :
    Calls Try.prog 18 #[.pointer (some ⟨p, 0, none⟩), .string x] W fun e w' => ∃ a c, e = .returned (.tuple #[.slice a (s.old x.data.toList).data.length c, .bool (s.C x.data.toList).isSome]) ∧ BR w' (.slice a (s.old x.data.toList).data.length c) (s.old x.data.toList).data ∧ Below W.heap.size W w' := by
  obtain ⟨h0, b, D, h1, hb, hm⟩ := h
  obtain ⟨dn, dl, dc, sn, sl, sc, ok, hlk, -, hfi⟩ := hm.look (s := x) (by omega)
  have k0 := hb.cell 0
  have hn3 := below_new W (.cells #[.slice dn dl dc, .slice sn sl sc, .bool ok] 72)
  have hdv : BR (W.alloc (.cells #[.slice dn dl dc, .slice sn sl sc, .bool ok] 72)) (.slice dn dl dc) (s.old x.data.toList).data := by
    obtain ⟨dv, sv, e, q1, q2⟩ := hfi
    simp only [Value.agg.injEq, Array.mk.injEq, List.cons.injEq, Value.bool.injEq, and_true] at e
    have q := q1.below hn3
    rw [← e.1] at q
    exact q
  have HB := Lib.hid (bclone_any hdv)
  have HN := Lib.hid hn3
  have bq := Blk.new W #[.slice dn dl dc, .slice sn sl sc, .bool ok] 72
  have q0 := bq.cell 0
  clear hfi hdv hm hb bq hn3
  go_enter Try.func18, Try.ntmps18
  go_wp2_with fail
  go_at_call 38; refine HB.out.mono ?_; rintro r w4 ⟨a4, c4, rfl, hr4, hb4⟩
  go_wp2_with fail
  go_returns
  exact ⟨a4, c4, rfl, hr4, HN.out.trans (hb4.mono HN.out.size)⟩
/-- Is a file sure? -/
def FV.sure (f : FV) : Bool := f.ok && (f.data == f.safe)
/-- What a loss of power leaves of a file, with so many of its bytes written. -/
def FV.left (f : FV) (x : Int) : Option FV := if f.sure then some ⟨f.data, f.data, true⟩ else if 1 ≤ x then some ⟨f.data.take x.toNat, f.data.take x.toNat, true⟩ else if f.ok then some ⟨f.safe, f.safe, true⟩ else none
theorem bytes_nums (L : List UInt8) : Lib.bytesOf (numsOf L) = L := by
  unfold Lib.bytesOf numsOf
  rw [List.map_map]
  conv => rhs; rw [← List.map_id L]
  refine List.map_congr_left fun b _ => ?_
  simp
theorem BR.bytesIn {w : World} {a : Option Addr} {n c : Nat} {L : List UInt8} (h : BR w (.slice a n c) L) : n = L.length ∧ Lib.BytesIn w a n (numsOf L) := by
  obtain ⟨a', c', e, h2, h3, h4⟩ := h
  cases e
  refine ⟨rfl, ?_⟩
  rcases h4 with ⟨rfl, rfl⟩ | ⟨ad, rfl, h5, h6⟩
  · exact Lib.BytesIn.nil w _ _
  · exact Lib.BytesIn.of_cells h6
set_option maxRecDepth 100000 in
theorem sure_any {W : World} {dn sn : Option Addr} {dl dc sl sc : Nat} {ok : Bool} {f : FV} (hf : FileIs W (.agg #[.slice dn dl dc, .slice sn sl sc, .bool ok]) f) :
    Calls Try.prog 33 #[.agg #[.slice dn dl dc, .slice sn sl sc, .bool ok]] W fun e w' => e = .returned (.bool f.sure) ∧ Below W.heap.size W w' := by
  obtain ⟨dv, sv, e, q1, q2⟩ := hf
  simp only [Value.agg.injEq, Array.mk.injEq, List.cons.injEq, Value.bool.injEq, and_true] at e
  obtain ⟨rfl, rfl, rfl⟩ := e
  have hn := below_new W (.cells #[.slice dn dl dc, .slice sn sl sc, .bool f.ok] 72)
  have bq := Blk.new W #[.slice dn dl dc, .slice sn sl sc, .bool f.ok] 72
  have z0 := bq.cell 0
  have z1 := bq.cell 1
  have z2 := bq.cell 2
  obtain ⟨e1, b1⟩ := (q1.below hn).bytesIn
  obtain ⟨e2, b2⟩ := (q2.below hn).bytesIn
  have HE := Lib.hid (Try.bytes_Equal_all dn sn dl dc sl sc (numsOf f.data) (numsOf f.safe) _ (by rw [nums_len]; exact e1.symm) (by rw [nums_len]; exact e2.symm) b1 b2)
  have HN := Lib.hid hn
  rw [bytes_nums, bytes_nums] at HE
  unfold FV.sure
  clear q1 q2 e1 e2 b1 b2 bq hn
  obtain ⟨C, D, fk⟩ := f
  cases fk with
  | true =>
    go_enter Try.func33, Try.ntmps33
    go_wp2_with fail
    go_at_call 51; refine HE.out.mono ?_; rintro r w4 ⟨rfl, rfl⟩
    go_wp2_with fail
    go_ret
    exact ⟨by simp, HN.out⟩
  | false =>
    go_enter Try.func33, Try.ntmps33
    go_wp2_with fail
    go_ret
    exact ⟨by simp, HN.out⟩
end Go.Proofs.Ytoipmgdfhmochaa
