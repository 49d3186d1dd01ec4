/- What LexHeredocs reads and writes. -/
import Derived.Test.YtpdepdigacpfiaaDoorLPlain
import Derived.Test.YtpdepdigacpfiaaDoorLPutAt
import Derived.Lib.ConvBytes
import Derived.Laws.IdiomStrings
namespace Go.Proofs.YtpdepdigacpfiaaDoor
open Go.RowKit Go.Shelf
set_option linter.unusedVariables false

/-- Strings that came in. -/
def StrsIn (W : World) (v : Value) (l : List ByteArray) : Prop := ∃ a cap, v = .slice a l.length cap ∧ l.length ≤ 140737488355328 ∧ (0 < l.length → ∃ g o, a = some ⟨g, o, none⟩ ∧ ∀ j (h : j < l.length), W.cell? ⟨g, o + j, none⟩ = some (.string l[j]) ∧ l[j].size ≤ maxLen)
/-- Bytes in a block that may be frozen behind them. -/
def LstF (w : World) (g : Nat) (l : List UInt8) : Prop := (∀ j (h : j < l.length), w.cell? ⟨g, j, none⟩ = some (.int .u8 (l[j].toNat : Int))) ∧ ∀ j, j < l.length → w.frozen? ⟨g, j, none⟩ = false
theorem LstF.set {w : World} {g : Nat} {l : List UInt8} (h : LstF w g l) {i : Nat} (hi : i < l.length) (c : UInt8) : LstF (w.setCell ⟨g, i, none⟩ (.int .u8 (c.toNat : Int))) g (l.set i c) := by
  refine ⟨fun j hj => ?_, fun j hj => ?_⟩
  · rw [List.length_set] at hj
    by_cases e : i = j
    · subst e
      rw [World.cell?_setCell_same _ _ _ (h.1 i hi), List.getElem_set_self]
    · rw [World.cell?_setCell_other _ _ _ _ (fun x => e (by injection x)), List.getElem_set_ne e]
      exact h.1 j hj
  · rw [List.length_set] at hj
    simpa using h.2 j hj
theorem LstF.below {w w' : World} {g : Nat} {l : List UInt8} (h : LstF w g l) (hg : g < w.heap.size) (hb : Below w.heap.size w w') : LstF w' g l := by
  refine ⟨fun j hj => (hb.cell (p := ⟨g, j, none⟩) hg).trans (h.1 j hj), fun j hj => ?_⟩
  have := h.2 j hj
  unfold World.frozen? at this ⊢
  rw [hb.block g hg]
  exact this
theorem conv_lst {w : World} {g cap n : Nat} {l : List UInt8} (h : LstF w g l) (hn : l.length = n) : (convert 35 9 (.slice (some ⟨g, 0, none⟩) n cap)).run Tryd.prog w = .ok (.string ⟨l.toArray⟩) w := by
  subst hn
  exact run_convert_bytes_back (P := Tryd.prog) w 35 9 5 ⟨g, 0, none⟩ cap l Tryd.underlying35 Tryd.underlying5 Tryd.underlying9 (fun j hj => by rw [show (⟨g, 0, none⟩ : Addr).add j = ⟨g, j, none⟩ by unfold Addr.add; split <;> simp_all]; exact h.1 j hj)
theorem lst_cells {w : World} {g : Nat} {l : List UInt8} (h : LstF w g l) : ∀ j u, (Lib.byteCells l)[j]? = some u → w.cell? ((⟨g, 0, none⟩ : Addr).add j) = some u := fun j u hj => by
  have hl : j < l.length := by have := (List.getElem?_eq_some_iff.1 hj).1; rwa [Lib.byteCells_length] at this
  have e : u = .int .u8 (l[j].toNat : Int) := by
    unfold Lib.byteCells at hj
    rw [List.getElem?_map, List.getElem?_eq_getElem hl] at hj
    exact (Option.some.inj hj).symm
  rw [show (⟨g, 0, none⟩ : Addr).add j = ⟨g, j, none⟩ by unfold Addr.add; split <;> simp_all, e]
  exact h.1 j hl
theorem bytes_one (l : List UInt8) : ∀ u ∈ Lib.byteCells l, u.oneCell' = true := by
  intro u hu
  unfold Lib.byteCells at hu
  obtain ⟨c, _, rfl⟩ := List.mem_map.1 hu
  rfl
/-- A byte made plain. -/
def cl (c : UInt8) : UInt8 := if c = 10 ∨ 128 ≤ c.toNat then 46 else c
theorem cl_ok (c : UInt8) : (cl c).toNat < 128 ∧ cl c ≠ 10 := by
  unfold cl
  split
  · decide
  · rename_i h
    exact ⟨by omega, fun e => h (.inl e)⟩
theorem bytes_new (w : World) (s : ByteArray) (l : List UInt8) (k : Nat) (hl : l = s.data.toList.take k) : LstF (Lib.bytesWorld w 5 s) w.heap.size l ∧ Below w.heap.size w (Lib.bytesWorld w 5 s) := by
  have hls : l.length ≤ s.size := by rw [hl, List.length_take]; have : s.data.toList.length = s.size := by simp
                                     omega
  refine ⟨⟨fun j hj => ?_, fun j hj => ?_⟩, ?_⟩
  · rw [Lib.bytesWorld_cell w 5 s j (by omega)]
    have : j < s.data.toList.length := by simp; omega
    subst hl
    rw [List.getElem_take, List.getD, List.getElem?_eq_getElem this]
    rfl
  · unfold World.frozen?
    rw [Lib.bytesWorld_at_new]
    have : (Lib.bytesCells w 5 s).size ≥ s.size := by unfold Lib.bytesCells; simp
    simp
    omega
  · exact ⟨rfl, rfl, rfl, by rw [Lib.bytesWorld_size]; omega, fun k hk => Lib.bytesWorld_at_old w _ s k hk⟩
theorem here_step (Ls : List (List UInt8)) (b : List UInt8) : (⟨(hereT Ls []).toArray⟩ : ByteArray) ++ (⟨b.toArray⟩ ++ ⟨#[10]⟩) = ⟨(hereT (Ls ++ [b]) []).toArray⟩ := by
  rw [bytes_app b [10], bytes_app]
  unfold hereT
  rw [body_app, body_cons]
  simp [body]
theorem here_end (Ls : List (List UInt8)) : (⟨(hereT Ls []).toArray⟩ : ByteArray) ++ ⟨#[32, 9, 69, 78, 68]⟩ = ⟨(hereT Ls [32, 9, 69, 78, 68]).toArray⟩ := by
  rw [bytes_app _ [32, 9, 69, 78, 68]]
  unfold hereT
  simp
theorem quote_step (Ls : List (List UInt8)) (b : List UInt8) : (⟨(34 :: plain (body Ls)).toArray⟩ : ByteArray) ++ (⟨(plain b).toArray⟩ ++ ⟨#[92, 110]⟩) = ⟨(34 :: plain (body (Ls ++ [b]))).toArray⟩ := by
  rw [bytes_app _ [92, 110], bytes_app, body_app, body_cons, plain_app, plain_app, plain_cons]
  show _ = (⟨(34 :: (plain (body Ls) ++ (plain b ++ ([92, 110] ++ [])))).toArray⟩ : ByteArray)
  rfl
theorem quote_end (Ls : List (List UInt8)) : (⟨(34 :: plain (body Ls)).toArray⟩ : ByteArray) ++ ⟨#[34]⟩ = ⟨(34 :: (plain (body Ls) ++ [34])).toArray⟩ := by
  rw [bytes_app _ [34]]
  rfl
theorem line_dot {b : List UInt8} {k : Nat} (s : List UInt8) (hb : b = (s.take k).map cl) (hk : k ≤ 100) : LineOk (46 :: b) := by
  subst hb
  refine ⟨fun c hc => ?_, fun c hc => ?_, ⟨46, _, rfl, by decide, by decide, by decide⟩, by simp; omega⟩
  · rcases List.mem_cons.1 hc with rfl | hc
    · decide
    · obtain ⟨x, _, rfl⟩ := List.mem_map.1 hc
      exact (cl_ok x).1
  · rcases List.mem_cons.1 hc with rfl | hc
    · decide
    · obtain ⟨x, _, rfl⟩ := List.mem_map.1 hc
      exact (cl_ok x).2
theorem line_bare {b : List UInt8} {k : Nat} (s : List UInt8) (hb : b = (s.take k).map cl) (hk : k ≤ 100) {c : UInt8} {r : List UInt8} (hc : b = c :: r) (h : c ≠ 32 ∧ c ≠ 9 ∧ c ≠ 69) : LineOk b := by
  refine ⟨fun c hc => ?_, fun c hc => ?_, ⟨c, r, hc, h.1, h.2.1, h.2.2⟩, by rw [hb]; simp; omega⟩
  · rw [hb] at hc
    obtain ⟨x, _, rfl⟩ := List.mem_map.1 hc
    exact (cl_ok x).1
  · rw [hb] at hc
    obtain ⟨x, _, rfl⟩ := List.mem_map.1 hc
    exact (cl_ok x).2
theorem map_next {l : List UInt8} {i : Nat} (h : i < l.length) : ((l.take i).map cl ++ l.drop i).set i (cl l[i]) = (l.take (i + 1)).map cl ++ l.drop (i + 1) := by
  have hl : ((l.take i).map cl).length = i := by simp; omega
  rw [List.set_append, if_neg (by omega), hl, Nat.sub_self, List.drop_eq_getElem_cons h, List.set_cons_zero, List.take_succ_eq_append_getElem h, List.map_append, List.append_assoc]
  rfl
theorem map_at {l : List UInt8} {i : Nat} (h : i < l.length) : ((l.take i).map cl ++ l.drop i)[i]'(by simp; omega) = l[i] := by
  rw [List.getElem_append_right (by simp; omega), List.getElem_drop]
  congr 1
  simp
  omega
theorem below_draw' {B n : Nat} {W w : World} (h : Below B W w) : Below B W (w.drewN n) := ⟨h.os, h.tape, h.output, h.size, h.block⟩
theorem is_quiet {W : World} {D : Nat} {c p : Int} (h : Blk W D #[.int .i64 c, .string ⟨#[]⟩, .int .i64 p] 29) (hc : c ≠ 0) (n : Nat) : Calls Tryd.prog 10 #[.pointer (some ⟨D, 0, none⟩), .int .i64 c, .int .i64 p] (W.drewN n) fun e w' => e = .returned (.bool true) ∧ ∃ m, w' = W.drewN m := by
  have h' : Blk (W.drewN n) D #[.int .i64 c, .string ⟨#[]⟩, .int .i64 p] 29 := h
  have c0 := h'.cell 0
  have c1 := h'.cell 1
  have c2 := h'.cell 2
  have q0 : (c == 0) = false := beq_eq_false_iff_ne.2 hc
  have q1 : (c == c) = true := beq_self_eq_true c
  have q2 : (p == p) = true := beq_self_eq_true p
  clear hc h h'
  go_enter Tryd.func10, Tryd.ntmps10
  go_wp2
  go_ret
  exact ⟨rfl, n, rfl⟩
end Go.Proofs.YtpdepdigacpfiaaDoor
