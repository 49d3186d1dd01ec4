/- value.Object and the document's Object: one answer · A list of texts, copied by append to an empty list -/
import Derived.Deep.AppendSrc
import Derived.Deep.AppendLies
import Derived.Test.YtjgbhnbfojkhoaaDoorMk20
import Derived.Test.YtjgbhnbfojkhoaaDoorMk26
import Derived.Test.YtjgbhnbfojkhoaaDoorMk27
namespace Go.Proofs.YtjgbhnbfojkhoaaDoor
open Go.RowKit Go.Sort Go.Shelf
set_option linter.unusedVariables false

/-- value.Object of as many items as keys. -/
theorem vObject_doc {w : World} {kv iv : Value} {ks : List ByteArray} {xs : List It} (hk : StrsAt w.heap.size w kv ks) (hx : ItemsAt w.heap.size w iv xs) (hsm : ∀ e ∈ xs, smallT e.T) (hl : xs.length = ks.length) (hbig : ks.length ≤ 900000) :
    Calls Tryd.prog 9 #[kv, iv] w fun e w' => DocEnds w ks (xs.map It.T) e w' := by
  have hTl : (xs.map It.T).length = ks.length := by simp [hl]
  rcases Nat.eq_zero_or_pos ks.length with h0 | h0
  · obtain rfl : ks = [] := List.length_eq_zero_iff.1 h0
    obtain rfl : xs = [] := List.length_eq_zero_iff.1 (by rw [hl]; rfl)
    obtain ⟨adx, capx, rfl, -⟩ := hx
    refine (object_none (adx := adx) (capx := capx) hk).mono ?_
    rintro e w' ⟨v', rfl, hi, hb⟩
    exact .inl ⟨v', [], rfl, rfl, hi, hb⟩
  · refine (object_any hk hx hsm hl h0 (by omega)).mono ?_
    rintro e w' ⟨ps, hp, ⟨⟨v', rfl, hf, hb⟩, hd⟩ | ⟨rfl, hb, hd⟩⟩
    · refine .inl ⟨v', pairsOf ks (xs.map It.T) ps, make_some hTl hp hd, rfl, ?_, hb⟩
      have h2 := keyL_all (ks := ks) (Ts := xs.map It.T) (ps := ps)
      rw [← h2.1, ← h2.2]
      exact hf.at
    · exact .inr ⟨make_none hTl hp hd, rfl, hb⟩

set_option maxRecDepth 100000 in
set_option maxHeartbeats 1000000 in
/-- Lists of two lengths. -/
theorem object_len {w : World} {ad adx : Option Addr} {n m cap capx : Nat} (hne : n ≠ m) : Calls Tryd.prog 9 #[.slice ad n cap, .slice adx m capx] w fun e w' => e = .returned (.tuple #[.agg #[.int .i64 0, .bool false, .string ⟨#[]⟩, .slice none 0 0, .slice none 0 0], .int .i64 1]) ∧ Below w.heap.size w w' := by
  have HB0 := below_new w (.cells #[.int .i64 0, .bool false, .string ⟨#[]⟩, .slice none 0 0, .slice none 0 0] 26)
  have k1 : ((n : Int) == (m : Int)) = false := beq_eq_false_iff_ne.2 (by omega)
  have k2 : ((n : Int) != (m : Int)) = true := by simp only [bne, k1]; rfl
  go_enter Tryd.func9, Tryd.ntmps9
  go_wp2
  refine bodyPost_ret (v := .tuple #[.agg #[.int .i64 0, .bool false, .string ⟨#[]⟩, .slice none 0 0, .slice none 0 0], .int .i64 1]) ?_ rfl ⟨rfl, ?_⟩
  · simp [results, Tryd.results9, go_sem]
  · first | exact HB0 | exact below_set5 HB0 (Nat.le_refl _) _ _ _ _ _
set_option maxRecDepth 100000 in
set_option maxHeartbeats 1000000 in
theorem rObject_len {w : World} {ad adx : Option Addr} {n m cap capx : Nat} (hne : n ≠ m) : Calls Tryd.prog 10 #[.slice ad n cap, .slice adx m capx] w fun e w' => e = .returned (.tuple #[.agg #[.int .i64 0, .bool false, .string ⟨#[]⟩, .slice none 0 0, .slice none 0 0], .int .i64 1]) ∧ Below w.heap.size w w' := by
  have HB0 := below_new w (.cells #[.int .i64 0, .bool false, .string ⟨#[]⟩, .slice none 0 0, .slice none 0 0] 26)
  have k1 : ((n : Int) == (m : Int)) = false := beq_eq_false_iff_ne.2 (by omega)
  have k2 : ((n : Int) != (m : Int)) = true := by simp only [bne, k1]; rfl
  go_enter Tryd.func10, Tryd.ntmps10
  go_wp2
  refine bodyPost_ret (v := .tuple #[.agg #[.int .i64 0, .bool false, .string ⟨#[]⟩, .slice none 0 0, .slice none 0 0], .int .i64 1]) ?_ rfl ⟨rfl, ?_⟩
  · simp [results, Tryd.results10, go_sem]
  · first | exact HB0 | exact below_set5 HB0 (Nat.le_refl _) _ _ _ _ _
end Go.Proofs.YtjgbhnbfojkhoaaDoor
namespace Go.Proofs.YtjgbhnbfojkhoaaDoor
open Go.RowKit Go.Sort Go.Shelf
set_option linter.unusedVariables false

/-- An append whose run is known. -/
theorem wpList_append_run {P : Program} {ops : Array Oper} {rest : List Oper} {o : Oper} {a : Act} {w : World} {Q : Exit → Act → World → Prop} (hgd : o.guard = none) (s x : Operand) (t : TypeId)
    (ho : o.op = .call { callee := .builtin .append, args := #[s, x], argTypes := #[t, t] }) {v u v' : Value} {w' : World} (hs : a.eval s = v) (hx : a.eval x = u) (hr : (Builtin.append_ #[t, t] o.type #[v, u]).run P w = .ok v' w')
    (h : wpList P ops Q rest (a.put o.dst v') w') : wpList P ops Q (o :: rest) a w := by
  refine wpList_plain hgd fun _ hK => ?_
  unfold Oper.wp execOp
  simp only [ho, resolve, invoke, builtin, Sem.run_bind, Sem.run_pure, Result.andThen_ok, List.map_toArray, List.map_cons, List.map_nil, hs, hx, hr]
  exact hK _ _ h

set_option maxHeartbeats 1000000 in
/-- append of a list of strings to an empty list of the call's own. -/
theorem run_append_keys {B : Nat} {w W : World} {kv : Value} {ks : List ByteArray} (hk : StrsAt B w kv ks) (hb : Below B w W) (hs : ks.length ≤ 1000000) (E : Nat) (hE : Blk W E #[] 9) (ty : TypeId) :
    ∃ ad cap w', (Builtin.append_ #[ 24, 24 ] ty #[.slice (some ⟨E, 0, none⟩) 0 0, kv]).run Tryd.prog W = .ok (.slice ad ks.length cap) w' ∧ StrsF E w'.heap.size w' (.slice ad ks.length cap) ks ∧ Below E W w' ∧ E < w'.heap.size := by
  obtain ⟨iS, hiS, hzS, hsS, hbS⟩ := info_parts Tryd.infoStr
  obtain ⟨ad, cap, rfl, hnc, hl, hp⟩ := hk
  have hlt := hE.lt
  rcases Nat.eq_zero_or_pos ks.length with h0 | h0
  · obtain rfl : ks = [] := List.length_eq_zero_iff.1 h0
    have hsrc : Src Tryd.prog iS.size 24 (.slice ad 0 cap) 0 [] W := by
      cases ad with
      | none => exact Src.ofNil W Tryd.underlying24 cap
      | some a => exact Src.ofSlice W Tryd.underlying24 a 0 cap [] (by simp) (fun j u hu => by simp at hu) (fun u hu => by cases hu)
    have := run_append_room_src (P := Tryd.prog) W 24 24 ty 9 iS Tryd.underlying24 hiS E 0 0 0 (.slice ad 0 cap) 0 [] hsrc (by omega) (fun j h => by simp at h) (fun j h => by simp at h)
    exact ⟨_, _, _, this, ⟨_, 0, rfl, by simp, by simp, fun h => absurd h (by simp)⟩, Below.refl _ _, hlt⟩
  · obtain ⟨g, o, rfl, hg, hc⟩ := hp h0
    have hown : W.ownsRow E 9 1 (.slice (some ⟨E, 0, none⟩) 0 0) 0 [] := ⟨rfl, .inr ⟨E, 0, #[], rfl, Nat.le_refl _, hE, Nat.le_refl _, by unfold maxLen; omega, rfl, rfl⟩⟩
    obtain ⟨g2, cap2, w', hr, hown2, hgrow, hat, hlt2⟩ := run_append_lies (P := Tryd.prog) W 24 ty E 9 iS (.string ⟨#[]⟩) 1 16 Tryd.underlying24 hiS hzS hsS hbS rfl (by decide) _ 0 [] hown ⟨g, o, none⟩ ks.length cap (ks.map Value.string) (by simp) (fun j u hu => by
      have hj : j < ks.length := by
        rcases Nat.lt_or_ge j ks.length with h | h
        · exact h
        · rw [List.getElem?_eq_none (by simpa using h)] at hu; cases hu
      rw [List.getElem?_map, List.getElem?_eq_getElem hj] at hu
      cases hu
      rw [Lib.add_plain]
      exact (hb.cell (p := ⟨g, o + j, none⟩) hg).trans (hc j hj)) (fun u hu => by obtain ⟨s, _, rfl⟩ := List.mem_map.1 hu; rfl) h0 (by unfold maxLen; omega) (by omega) (by omega) _ rfl
    rw [Nat.zero_add] at hr hown2
    rw [List.nil_append] at hown2
    have hg2 : E ≤ g2 := (World.ownsRow.lt hown2 g2 rfl).1
    exact ⟨_, _, _, hr, strsF_row2 hown2 hl, below_grows (Below.refl _ _) hgrow (by omega) (fun g e => by cases e; exact Nat.le_refl _), by omega⟩
end Go.Proofs.YtjgbhnbfojkhoaaDoor
