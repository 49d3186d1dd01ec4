/- Put and Drop, the document's and the program's, as of trees -/
import Derived.Test.YtjgbhnbfojkhoaaGreatDoorKe29
import Derived.Test.YtjgbhnbfojkhoaaGreatDoorKe31
namespace Go.Proofs.YtjgbhnbfojkhoaaGreatDoor
open Go.RowKit
set_option linter.unusedVariables false

/-- The tree that Put makes. -/
def putT (k : Int) (ks : List ByteArray) (its : List VT) (key : ByteArray) (X : VT) : VT :=
  if k = 6 then .node 6 false ⟨#[]⟩ (insI key X (dropK key ks) (dropI key ks its)) (insK key (dropK key ks)) else .node 6 false ⟨#[]⟩ [X] [key]
/-- The tree that Drop makes. -/
def dropT (k : Int) (b : Bool) (t : ByteArray) (ks : List ByteArray) (its : List VT) (key : ByteArray) : VT :=
  if k = 6 then .node 6 false ⟨#[]⟩ (dropI key ks its) (dropK key ks) else .node k b t its ks
theorem putIs_eq {k : Int} {ks : List ByteArray} {its : List VT} {key : ByteArray} {X T : VT} (hl : k = 6 → ks.length = its.length) (hr : k = 6 → Rising ks) (h : PutIs k ks its key X T) : T = putT k ks its key X := by
  unfold putT
  rcases h with ⟨h6, p, hp, rfl⟩ | ⟨h6, rfl⟩
  · obtain ⟨e1, e2⟩ := put_place (x := X) (hl h6) (hr h6) hp
    rw [if_pos h6, e1, e2]
  · rw [if_neg h6]
theorem sameT_node {k : Int} {b b' : Bool} {t t' : ByteArray} {its : List VT} {ks : List ByteArray} (h1 : b = b') (h2 : t.toList = t'.toList) : sameT (.node k b t its ks) (.node k b' t' its ks) = true := by
  unfold sameT
  rw [h1, h2, sameL_refl its, textsB_refl, beq_self_eq_true, beq_self_eq_true, beq_self_eq_true]; rfl
theorem dropIs_same {k : Int} {b : Bool} {t : ByteArray} {ks : List ByteArray} {its : List VT} {key : ByteArray} {T : VT} (hl : k = 6 → ks.length = its.length) (hr : k = 6 → Rising ks) (hbt : k = 6 → b = false ∧ t.toList = []) (h : DropIs k b t ks its key T) : sameT T (dropT k b t ks its key) = true := by
  unfold dropT
  rcases h with ⟨h6, p, hp, hh, rfl⟩ | ⟨h6, rfl⟩
  · obtain ⟨e1, e2⟩ := drop_place (hl h6) (hr h6) hp
    rw [hh] at e1 e2
    rw [if_pos h6, e1, e2]
    exact sameT_refl _
  · by_cases e6 : k = 6
    · obtain ⟨p, hp, hh⟩ := h6 e6
      obtain ⟨e1, e2⟩ := drop_place (hl e6) (hr e6) hp
      rw [hh] at e1 e2
      simp only [one, if_neg Bool.false_ne_true, Nat.add_zero, List.take_append_drop] at e1 e2
      rw [if_pos e6, e1, e2, e6]
      exact sameT_node (hbt e6).1 ((hbt e6).2.trans (by rw [ByteArray.toList_eq]))
    · rw [if_neg e6]
      exact sameT_refl _

set_option maxRecDepth 100000 in
set_option maxHeartbeats 1000000 in
theorem rDrop_other {k : Int} {b : Bool} {t key : ByteArray} {adi adk : Option Addr} {n nk capi capk : Nat} (hk6 : k ≠ 6) (W : World) : Calls Tryz.prog 22 #[.agg #[.int .i64 k, .bool b, .string t, .slice adi n capi, .slice adk nk capk], .string key] W fun e w' =>
      e = .returned (.agg #[.int .i64 k, .bool b, .string t, .slice adi n capi, .slice adk nk capk]) ∧ Below W.heap.size W w' := by
  have kk6 : (k == 6) = false := beq_eq_false_iff_ne.2 hk6
  have kk6' : (k != 6) = true := by simp only [bne, kk6]; rfl
  go_enter Tryz.func22, Tryz.ntmps22
  go_wp2
  refine bodyPost_ret (v := .agg #[.int .i64 k, .bool b, .string t, .slice adi n capi, .slice adk nk capk]) ?_ rfl ⟨rfl, ?_⟩
  · simp [results, Tryz.results22, go_sem]
  · exact box2_below

/-- The document's Put. -/
theorem rPut_tree {B : Nat} {w : World} {v x : Value} {k : Int} {b : Bool} {t key : ByteArray} {its : List VT} {ks : List ByteArray} {X : VT} (h : Is B w v (.node k b t its ks)) (hx : Is B w x X) (hl : k = 6 → ks.length = its.length) (h9 : ks.length ≤ 900000)
    (W : World) (hb : Below B w W) (hBW : B ≤ W.heap.size) : Calls Tryz.prog 20 #[v, .string key, x] W fun e w' => (∃ v', e = .returned v' ∧ Is w'.heap.size w' v' (putT k ks its key X)) ∧ Below W.heap.size W w' := by
  obtain ⟨kv, iv, ys, rfl, hkv, hiv, rfl⟩ := h.parts
  obtain ⟨kx, bx, tx, adx, nx, capx, adxk, nxk, capxk, rfl⟩ := hx.shape
  have hex : (It.mk kx bx tx (.slice adx nx capx) (.slice adxk nxk capxk) X).Ok B w := hx
  have hoky : ∀ e ∈ ys, e.Ok B w := by obtain ⟨_, _, _, _, _, _, h⟩ := hiv; exact h
  by_cases h6 : k = 6
  · subst h6
    have hll : ks.length = ys.length := by simpa using hl rfl
    refine (rPut_obj (ex := It.mk kx bx tx (.slice adx nx capx) (.slice adxk nxk capxk) X) hkv hiv hll h9 hex W hb hBW).mono ?_
    rintro e w' ⟨kv', iv', rfl, hg, hbw⟩
    have l1 := insK_length key (dropK key ks)
    have l2 := dropK_le key ks
    have l3 := insI_length key (It.mk kx bx tx (.slice adx nx capx) (.slice adxk nxk capxk) X) (dropK key ks) (dropI key ks ys) (dropI_length key ks ys hll).symm
    refine ⟨⟨_, rfl, ?_⟩, hbw⟩
    have := hg.is (k := 6) (b := false) (t := ⟨#[]⟩) (hb.trans (hbw.mono hBW)) (Nat.le_trans hBW hbw.size) (by omega) (by omega) (fun e he => by
      rcases insI_sub _ _ _ _ _ he with rfl | he
      · exact hex
      · exact hoky _ (dropI_sub _ _ _ _ he))
    unfold putT
    rw [if_pos rfl]
    rw [insI_map, dropI_map] at this
    exact this
  · obtain ⟨adk, capk, rfl, -⟩ := hkv
    obtain ⟨adi, capi, rfl, -⟩ := hiv
    refine (rPut_other (ex := It.mk kx bx tx (.slice adx nx capx) (.slice adxk nxk capxk) X) h6 hex W).mono ?_
    rintro e w' ⟨kv', iv', rfl, hg, hbw⟩
    refine ⟨⟨_, rfl, ?_⟩, hbw⟩
    have := hg.is (k := 6) (b := false) (t := ⟨#[]⟩) (hb.trans (hbw.mono hBW)) (Nat.le_trans hBW hbw.size) (by simp) (by simp) (fun e he => by
      simp at he
      subst he
      exact hex)
    unfold putT
    rw [if_neg h6]
    exact this
/-- The document's Drop. -/
theorem rDrop_tree {B : Nat} {w : World} {v : Value} {k : Int} {b : Bool} {t key : ByteArray} {its : List VT} {ks : List ByteArray} (h : Is B w v (.node k b t its ks)) (hl : k = 6 → ks.length = its.length) (h9 : ks.length ≤ 900000)
    (W : World) (hb : Below B w W) (hBW : B ≤ W.heap.size) : Calls Tryz.prog 22 #[v, .string key] W fun e w' => (∃ v', e = .returned v' ∧ Is w'.heap.size w' v' (dropT k b t ks its key)) ∧ Below W.heap.size W w' := by
  have h0 := h
  obtain ⟨kv, iv, ys, rfl, hkv, hiv, rfl⟩ := h.parts
  have hoky : ∀ e ∈ ys, e.Ok B w := by obtain ⟨_, _, _, _, _, _, h⟩ := hiv; exact h
  by_cases h6 : k = 6
  · subst h6
    have hll : ks.length = ys.length := by simpa using hl rfl
    refine (rDrop_obj (b := b) (t := t) (key := key) hkv hiv hll (by omega) W hb hBW).mono ?_
    rintro e w' ⟨kv', iv', rfl, hg, hbw⟩
    have l2 := dropK_le key ks
    have l3 := dropI_length key ks ys hll
    refine ⟨⟨_, rfl, ?_⟩, hbw⟩
    have := hg.is (k := 6) (b := false) (t := ⟨#[]⟩) (hb.trans (hbw.mono hBW)) (Nat.le_trans hBW hbw.size) (by omega) (by omega) (fun e he => hoky _ (dropI_sub _ _ _ _ he))
    unfold dropT
    rw [if_pos rfl]
    rw [dropI_map] at this
    exact this
  · obtain ⟨adk, capk, rfl, -⟩ := hkv
    obtain ⟨adi, capi, rfl, -⟩ := hiv
    refine (rDrop_other h6 W).mono ?_
    rintro e w' ⟨rfl, hbw⟩
    refine ⟨⟨_, rfl, ?_⟩, hbw⟩
    unfold dropT
    rw [if_neg h6]
    exact (h0.later (hb.trans (hbw.mono hBW))).wide (Nat.le_trans hBW hbw.size)
theorem sizeL_len : ∀ l : List VT, l.length ≤ sizeL l
  | [] => by simp
  | x :: l => by
    have := sizeL_len l
    have := sizeT_pos x
    unfold sizeL
    simp only [List.length_cons]
    omega
/-- A good value: an object has no truth and no text, as many keys as items, rising. -/
theorem good_parts {k : Int} {b : Bool} {t : ByteArray} {its : List VT} {ks : List ByteArray} (h : goodT (.node k b t its ks) = true) : (k = 6 → ks.length = its.length) ∧ (k = 6 → Rising ks) ∧ (k = 6 → b = false ∧ t.toList = []) ∧ ks.length ≤ 900000 ∧ smallT (.node k b t its ks) := by
  have hsm := goodT_small h
  have hp := (goodT_parts h).2.2
  unfold plainT at hp
  have ha := (Bool.and_eq_true_iff.1 hp).1
  have hsz := (goodT_parts h).1
  refine ⟨fun e => ?_, fun e => ?_, fun e => ?_, ?_, hsm⟩
  · subst e
    unfold aloneT at ha
    simp at ha
    exact ha.2.1.2
  · subst e
    unfold aloneT at ha
    simp at ha
    exact keysOk_rising ha.2.2
  · subst e
    unfold aloneT at ha
    simp at ha
    exact ⟨ha.1, ha.2.1.1⟩
  · have h6 : k = 6 ∨ ks = [] := by
      by_cases e : k = 6
      · exact .inl e
      · refine .inr ?_
        unfold aloneT at ha
        have h2 := (Bool.and_eq_true_iff.1 ha).2
        by_cases e1 : k = 0 ∨ k = 1 ∨ k = 2
        · rw [if_pos e1] at h2; simp at h2; exact h2.2
        · rw [if_neg e1] at h2
          by_cases e3 : k = 3
          · rw [if_pos e3] at h2; simp at h2; exact h2.2
          · rw [if_neg e3] at h2
            by_cases e4 : k = 4
            · rw [if_pos e4] at h2; simp at h2; exact h2.2
            · rw [if_neg e4] at h2
              by_cases e5 : k = 5
              · rw [if_pos e5] at h2; simp at h2; exact h2.2
              · rw [if_neg e5, if_neg e] at h2; cases h2
    rcases h6 with e | e
    · subst e
      have e2 : ks.length = its.length := by unfold aloneT at ha; simp at ha; exact ha.2.1.2
      have l1 := sizeL_len its
      unfold sizeT at hsz
      omega
    · rw [e]; simp
end Go.Proofs.YtjgbhnbfojkhoaaGreatDoor
