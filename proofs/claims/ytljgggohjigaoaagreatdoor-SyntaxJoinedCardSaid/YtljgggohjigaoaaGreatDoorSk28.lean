/- An insertion · A text's parts: math; an expression that is added on the way · A text, with what is inserted -/
import Derived.Deep.RegionWith
import Derived.Deep.RegionHeld
import Derived.Test.YtljgggohjigaoaaGreatDoorSk27
namespace Go.Proofs.YtljgggohjigaoaaGreatDoor
open Go.RowKit Go.Shelf
set_option linter.unusedVariables false

theorem insE_res {d : Nat} {R : List UInt8} {a : Nat} {nx : Sub} {s : Ps} (hx : SubOk d nx) : Res (-((R.length : Nat) : Int)) s (insertedM nx R a s) := by
 refine inserted_res (fun p hp => ?_)
 obtain ⟨d', -, hd⟩ := hx.ins p hp
 refine ⟨d', hd, fun q hq => ⟨?_, scan_snd d' _ _ hq⟩⟩
 have h1 := (scan_wt hq).1
 have h2 : (bA ((R.drop 2).take (R.length - 3))).size ≤ R.length := by
  show ((R.drop 2).take (R.length - 3)).toArray.size ≤ _
  simp
  omega
 omega
section
variable {P F T lo dp d : Nat} {nx : Sub}
set_option maxRecDepth 100000 in
set_option maxHeartbeats 4000000 in
theorem inserted_any (hs : Subs F lo dp d nx) {W : World} {s : Ps} {m : FileM} {x : ByteArray} {a : Nat} (h : PsAt W P F T lo dp s m) (he : Env W P F) (hroom : pot s + x.size ≤ 1000000000) (hx3 : 3 ≤ x.size) (hxs : x.size ≤ 65536) (ha : a + 100000 * d ≤ 3070000) :
  Calls Tryz.prog 169 #[.pointer (some ⟨P, 0, none⟩), .string x, .int .i64 (a : Int)] W (PEnd W P F T lo dp m natV (insertedM nx x.data.toList a s)) := by
 have hB1 := Loc.new h #[.pointer (some ⟨P, 0, none⟩)] 88
 have hp1 := h.below (below_new W (.cells #[.pointer (some ⟨P, 0, none⟩)] 88))
 have he1 := he.below (below_new W (.cells #[.pointer (some ⟨P, 0, none⟩)] 88))
 have hb1 := below_new W (.cells #[.pointer (some ⟨P, 0, none⟩)] 88)
 have hs1 : (W.alloc (.cells #[.pointer (some ⟨P, 0, none⟩)] 88)).heap.size = W.heap.size + 1 := by simp
 obtain ⟨W1, hW1⟩ : ∃ W1, W.alloc (.cells #[.pointer (some ⟨P, 0, none⟩)] 88) = W1 := ⟨_, rfl⟩
 rw [hW1] at hB1 hp1 he1 hb1 hs1
 have hT2 := Loc.new hp1 #[.string x] 9
 have hB2 := hB1.alloc (.cells #[.string x] 9)
 have hp2 := hp1.below (below_new W1 (.cells #[.string x] 9))
 have he2 := he1.below (below_new W1 (.cells #[.string x] 9))
 have hb2 := hb1.alloc (by omega) (.cells #[.string x] 9)
 have hs2 : (W1.alloc (.cells #[.string x] 9)).heap.size = W.heap.size + 1 + 1 := by simp [hs1]
 obtain ⟨W2, hW2⟩ : ∃ W2, W1.alloc (.cells #[.string x] 9) = W2 := ⟨_, rfl⟩
 rw [hW2] at hT2 hB2 hp2 he2 hb2 hs2
 have hA3 := Loc.new hp2 #[.int .i64 (a : Int)] 3
 have hT3 := hT2.alloc (.cells #[.int .i64 (a : Int)] 3)
 have hB3 := hB2.alloc (.cells #[.int .i64 (a : Int)] 3)
 have hp3 := hp2.below (below_new W2 (.cells #[.int .i64 (a : Int)] 3))
 have he3 := he2.below (below_new W2 (.cells #[.int .i64 (a : Int)] 3))
 have hb3 := hb2.alloc (by omega) (.cells #[.int .i64 (a : Int)] 3)
 have hs3 : (W2.alloc (.cells #[.int .i64 (a : Int)] 3)).heap.size = W.heap.size + 1 + 1 + 1 := by simp [hs2]
 obtain ⟨W3, hW3⟩ : ∃ W3, W2.alloc (.cells #[.int .i64 (a : Int)] 3) = W3 := ⟨_, rfl⟩
 rw [hW3] at hA3 hT3 hB3 hp3 he3 hb3 hs3
 have hO4 := Loc.new hp3 #[.int .i64 0] 3
 have hA4 := hA3.alloc (.cells #[.int .i64 0] 3)
 have hT4 := hT3.alloc (.cells #[.int .i64 0] 3)
 have hB4 := hB3.alloc (.cells #[.int .i64 0] 3)
 have hp4 := hp3.below (below_new W3 (.cells #[.int .i64 0] 3))
 have he4 := he3.below (below_new W3 (.cells #[.int .i64 0] 3))
 have hb4 := hb3.alloc (by omega) (.cells #[.int .i64 0] 3)
 have b4a := hB4.blk.cell 0
 have a4a := hA4.blk.cell 0
 obtain ⟨W4, hW4⟩ : ∃ W4, W3.alloc (.cells #[.int .i64 0] 3) = W4 := ⟨_, rfl⟩
 rw [hW4] at hO4 hA4 hT4 hB4 hp4 he4 hb4
 rw [hs1] at hT2 hT3 hT4
 rw [hs2] at hA3 hA4
 rw [hs3] at hO4
 rw [hs2] at a4a
 have h4W := he.ready.1
 have hDK := deeper_kend (α := Nat) hp4 hs.left a (enters_of Tryz.func175 (by kernel_rfl) rfl) (lbr := #[.pointer (some ⟨W.heap.size + 1, 0, none⟩), .pointer (some ⟨W.heap.size + 1 + 1, 0, none⟩), .pointer (some ⟨W.heap.size, 0, none⟩), .pointer (some ⟨W.heap.size + 1 + 1 + 1, 0, none⟩)]) (X := [W.heap.size + 1 + 1 + 1]) (f := fun p => insE x.data.toList a p.1) (St := StN P F T (W.heap.size + 1 + 1 + 1)) StN.aside
  (fun p hp W' ha' hp' => by
   obtain ⟨d', rfl, hd1, hd2, hr1, hr2⟩ := hs.sub p hp
   exact inserted1_any hr1 hd1 hp' (he4.aside ha') hroom hx3 hxs (by omega) (hO4.aside ha') (by omega) (hT4.aside ha') (hA4.aside ha') (hB4.aside ha'))
 rw [← insertedM_eq] at hDK
 obtain ⟨R, hR⟩ : ∃ R, insertedM nx x.data.toList a s = R := ⟨_, rfl⟩
 rw [hR] at hDK ⊢
 have HDK := Lib.hid hDK
 have HW4 := Lib.hid hW4
 have HB := Lib.hid (And.intro hb4 h)
 have hmf : ∀ (fn : Fn) (first cap : Array Value) (w : World), (Instr.makeFunc fn first cap).run Tryz.prog w = .ok (.func fn first cap) w := fun _ _ _ _ => rfl
 clear h he hs hroom hx3 hxs ha hDK hR hW4 hO4 hA4 hT4 hB4 hp4 he4 hb4 hA3 hT3 hB3 hp3 he3 hb3 hT2 hB2 hp2 he2 hb2 hB1 hp1 he1 hb1 h4W
 go_enter Tryz.func169, Tryz.ntmps169
 go_wp2_with fail
 go_at_call 100; rw [HW4.out]; refine HDK.out.mono ?_
 intro e w7 hk
 cases R with
 | error bd =>
  obtain ⟨D, rfl, h1, h2, h3⟩ := hk
  refine ⟨rfl, D, rfl, Nat.le_trans HB.out.1.size h1, h2, ?_⟩
  exact ⟨h3.os.trans HB.out.1.os, h3.tape.trans HB.out.1.tape, h3.output.trans HB.out.1.output, Nat.le_trans HB.out.1.size h3.size, fun k hk hk1 hk2 => (h3.block k (Nat.lt_of_lt_of_le hk HB.out.1.size) hk1 hk2 (by simp; omega)).trans (HB.out.1.block k hk)⟩
 | ok y =>
  obtain ⟨i, s'⟩ := y
  obtain ⟨rfl, m7, hp7, ho7, hl7, hst7⟩ := hk
  have g7 := (show Loc w7 P F T m7 (W.heap.size + 1 + 1 + 1) #[.int .i64 (i : Int)] 3 from hst7).blk.cell 0
  have H7 := Lib.hid (And.intro hp7 (And.intro ho7 hl7))
  clear hp7 ho7 hl7 hst7
  go_wp2_with fail
  go_ret
  have h3 := H7.out.2.1
  exact ⟨rfl, m7, H7.out.1, ⟨h3.os.trans HB.out.1.os, h3.tape.trans HB.out.1.tape, h3.output.trans HB.out.1.output, Nat.le_trans HB.out.1.size h3.size, fun k hk hk1 hk2 => (h3.block k (Nat.lt_of_lt_of_le hk HB.out.1.size) hk1 hk2 (by simp; omega)).trans (HB.out.1.block k hk)⟩, ⟨fun q hq => (H7.out.2.2 q hq).imp id (Nat.le_trans HB.out.1.size), H7.out.2.2.tv⟩⟩
end
end Go.Proofs.YtljgggohjigaoaaGreatDoor
namespace Go.Proofs.YtljgggohjigaoaaGreatDoor
open Go.RowKit Go.Shelf
set_option linter.unusedVariables false

theorem take_list (x : ByteArray) (b : Nat) : (x.extract 0 b).data.toList = x.data.toList.take b := by
 rw [ByteArray.data_extract, Array.toList_extract, List.extract_eq_take_drop]
 simp
theorem cut_list (x : ByteArray) (b e : Nat) : (x.extract b e).data.toList = (x.data.toList.take e).drop b := by
 rw [ByteArray.data_extract, Array.toList_extract, List.extract_eq_take_drop, List.drop_take]
/-- A part that is a text has been read. -/
def addText (s : Ps) (y : ByteArray) (a : Nat) : Ps := { s with f := { s.f with exprs := s.f.exprs ++ [⟨5, y, [], [], a⟩] } }
theorem parts_end {nx : Sub} {n a : Nat} {args : List Nat} {keys : List ByteArray} {s : Ps} : partsM nx (n + 1) [] a args keys s = .ok ((args, keys), s) := by
 unfold partsM
 rw [if_pos rfl]
theorem parts_text {nx : Sub} {n a b : Nat} {R y : List UInt8} {args : List Nat} {keys : List ByteArray} {s : Ps} (hR : R ≠ []) (hi : insL R = some (b, b)) (hb : 0 < b) (hs : saidL (R.take b) = some y) : partsM nx (n + 1) R a args keys s = partsM nx n (R.drop b) (a + b) (args ++ [s.f.exprs.length]) (keys ++ [bA [116]]) (addText s (bA y) a) := by
 conv => lhs; unfold partsM
 rw [if_neg hR, hi]
 simp only
 rw [if_pos hb, hs]
 simp only [bindP, addM]
 rw [if_neg (by omega)]
 rfl
theorem parts_both {nx : Sub} {n a b e : Nat} {R y : List UInt8} {args : List Nat} {keys : List ByteArray} {s : Ps} {Q : PR (List Nat × List ByteArray)} (hR : R ≠ []) (hi : insL R = some (b, e)) (hb : 0 < b) (hbe : b < e) (hs : saidL (R.take b) = some y) (h : partsM nx (n + 1) R a args keys s = Q) :
  bindP (insertedM nx ((R.take e).drop b) (a + b)) (fun i => partsM nx n (R.drop e) (a + e) (args ++ [s.f.exprs.length] ++ [i]) (keys ++ [bA [116]] ++ [bA [101]])) (addText s (bA y) a) = Q := by
 rw [← h]
 conv => rhs; unfold partsM
 rw [if_neg hR, hi]
 simp only [if_pos hb, hs, bindP, addM, if_pos hbe]
 cases hq : insertedM nx ((R.take e).drop b) (a + b) (addText s (bA y) a) with
 | error x =>
  have hq' := hq
  unfold addText at hq'
  simp only [hq']
 | ok z =>
  have hq' := hq
  unfold addText at hq'
  simp only [hq']
theorem parts_ins {nx : Sub} {n a e : Nat} {R : List UInt8} {args : List Nat} {keys : List ByteArray} {s : Ps} {Q : PR (List Nat × List ByteArray)} (hR : R ≠ []) (hi : insL R = some (0, e)) (hbe : 0 < e) (h : partsM nx (n + 1) R a args keys s = Q) :
  bindP (insertedM nx ((R.take e).drop 0) (a + 0)) (fun i => partsM nx n (R.drop e) (a + e) (args ++ [i]) (keys ++ [bA [101]])) s = Q := by
 rw [← h]
 conv => rhs; unfold partsM
 rw [if_neg hR, hi]
 simp only
 rw [if_neg (by omega)]
 simp only [if_pos hbe, bindP]
 cases hq : insertedM nx ((R.take e).drop 0) (a + 0) s with
 | error x => rfl
 | ok z => rfl
section
variable {W w w' : World} {P F T lo dp d : Nat} {m m1 : FileM} {X : List Nat} {s : Ps}
theorem Un.addMid (h : Un W w P F T lo dp d m X s m1) (y : ByteArray) (a : Nat) (hp : pot s + 1 ≤ 1000000000) :
  Calls Tryz.prog 105 #[.pointer (some ⟨P, 0, none⟩), .agg #[.int .i64 5, .string y, .slice none 0 0, .slice none 0 0, .int .i64 (a : Int)]] w fun e w' => e = .returned (.int .i64 (s.f.exprs.length : Int)) ∧ ∃ m2, Stepped W w w' P F T lo dp d m X m1 (addText s y a) m2 := by
 refine (add_any (x := ⟨⟨5, y, [], [], a⟩, .slice none 0 0, .slice none 0 0⟩) h.ps ⟨World.ownsRow_nil _ _ _ _, World.ownsRow_nil _ _ _ _⟩ (fun g hg => by cases hg) (by simp [ExM.foot, ownB, Value.ownBlock]) h.fit.room).mono ?_
 rintro e w' ⟨rfl, m', hp', ho, hl⟩
 have hl' : Later w F m1 m' := by
  refine ⟨fun g hg => ?_, hl.tv⟩
  rcases hl g hg with h1 | h1 | h1
  ·exact .inl h1
  ·cases h1
  ·exact .inr h1
 refine ⟨rfl, m', ⟨hp', h.outs.trans h.later (ho.x X), h.later.trans h.outs.size hl', h.env.outs h.ps ho, h.fit.snd, h.fit.txt, h.fit.pos, ?_⟩, ho, hl'⟩
 unfold Go.Proofs.YtljgggohjigaoaaGreatDoor.pot at hp ⊢
 simp only [addText, List.length_append, List.length_cons, List.length_nil]
 omega
theorem Un.pend {r : PR Nat} {e : Ending} (h : Un W w P F T lo dp d m X s m1) (hf : ∀ a s2, r = .ok (a, s2) → Fit d s2) (hk : PEnd w P F T lo dp m1 natV r e w') : Stp W w P F T lo dp d m X m1 natV r e w' := by
 unfold Stp
 unfold PEnd at hk
 cases r with
 | error bd =>
  obtain ⟨D, h1, h2, h3, h4⟩ := hk
  exact ⟨D, h1, Nat.le_trans h.outs.size h2, h3, h.outs.trans h.later (h4.x X)⟩
 | ok y =>
  obtain ⟨a, s2⟩ := y
  obtain ⟨rfl, m2, hp, ho, hl⟩ := hk
  exact ⟨rfl, m2, ⟨hp, h.outs.trans h.later (ho.x X), h.later.trans h.outs.size hl, h.env.outs h.ps ho, hf a s2 rfl⟩, ho, hl⟩
end
end Go.Proofs.YtljgggohjigaoaaGreatDoor
namespace Go.Proofs.YtljgggohjigaoaaGreatDoor
open Go.RowKit Go.Shelf
set_option linter.unusedVariables false
set_option linter.unusedSimpArgs false

theorem pot_add (s : Ps) (y : ByteArray) (a : Nat) : pot (addText s y a) = pot s + 1 := by
 unfold Go.Proofs.YtljgggohjigaoaaGreatDoor.pot addText
 simp only [List.length_append, List.length_cons, List.length_nil]
 omega
theorem Fit.ins {d : Nat} {s s2 : Ps} {K : Nat} {r : PR Nat} {i : Nat} (h : Fit d s) (hr : Res (-((K : Nat) : Int)) s r) (hm : r = .ok (i, s2)) (hp : Go.Proofs.YtljgggohjigaoaaGreatDoor.pot s + K ≤ 1000000000) : Fit d s2 ∧ Go.Proofs.YtljgggohjigaoaaGreatDoor.pot s2 ≤ Go.Proofs.YtljgggohjigaoaaGreatDoor.pot s + K := by
 have h1 := hr i s2 hm
 have h2 := h1.2
 exact ⟨⟨h.snd.sfx h1.1, fun t ht => h.txt t (h1.1.subset ht), fun t ht => h.pos t (h1.1.subset ht), by omega⟩, by omega⟩
def textEnd (a0 : Nat) (Q : PR (List Nat × List ByteArray)) : PR Nat := match Q with | .error e => .error e | .ok (r, s') => addM ⟨6, ⟨#[]⟩, r.1, r.2, a0⟩ s'
section
variable {P F T lo dp d : Nat} {nx : Sub}
set_option maxRecDepth 100000 in
set_option maxHeartbeats 8000000 in
theorem text_plain (hs : Subs F lo dp d nx) {W : World} {s : Ps} {m : FileM} (h : PsAt W P F T lo dp s m) (he : Env W P F) (hf : Fit d s) (hk : (next s).k = 3) {y : List UInt8} (hi : insL (next s).x.data.toList = some ((next s).x.data.toList.length, (next s).x.data.toList.length)) (hy : saidL (next s).x.data.toList = some y) : Calls Tryz.prog 158 #[.pointer (some ⟨P, 0, none⟩)] W (PEnd W P F T lo dp m natV (textM nx s)) := by
 obtain ⟨iI, hiI, hzI, hsI, hbI⟩ := info_of infoInt0
 obtain ⟨iS, hiS, hzS, hsS, hbS⟩ := info_of infoStr0
 obtain ⟨hC, hsz⟩ := next_txt hf hk
 have hpos : (next s).at_ + 100000 * d ≤ 3000000 := by
  rcases next_mem s with h1 | h1
  ·exact hf.pos _ h1
  ·rw [h1] at hk; cases hk
 have hpt := pot_take s
 have hpf := hf.pot
 have hwt : aheadL (next s).x.data.toList < (next s).x.data.toList.length → wt (next s) = (next s).x.size + 2 := fun hlt => by
  unfold wt
  rw [if_neg (by rw [hk]; decide), if_pos ⟨hk, hlt⟩]
 obtain ⟨t, ht⟩ : ∃ t, next s = t := ⟨_, rfl⟩
 have HTK := (Un.start (X := []) h he hf).take (by rw [hk]; decide)
 rw [ht] at hC hsz hpos hpt hwt HTK hk hi hy
 have HTK := Lib.hid HTK
 obtain ⟨tx, htx⟩ : ∃ tx, t.x = tx := ⟨_, rfl⟩
 rw [htx] at hC hsz hwt hi hy
 obtain ⟨a0, ha0⟩ : ∃ a0, t.at_ = a0 := ⟨_, rfl⟩
 rw [ha0] at hpos
 have HSUB := Lib.hid hs
 have H4W := Lib.hid he.ready.1
 have hls : tx.data.toList.length = tx.size := by simp
 obtain ⟨R, hR⟩ : ∃ R, textM nx s = R := ⟨_, rfl⟩
 rw [hR]
 have htk : tkV t = .agg #[.int .i64 t.k, .string tx, .int .i64 (a0 : Int)] := by rw [← htx, ← ha0]
 rw [htk] at HTK
 have hres : R = addM ⟨5, bA y, [], [], a0⟩ (takeS s) := by
  rw [← hR]
  unfold textM
  simp only
  rw [ht, htx, hi, ha0]
  simp only
  rw [if_pos trivial, hy]
 rw [hls] at hi
 have HIN := Lib.hid (fun w => insertion_any (x := tx) (by omega) hi w)
 have HSD := Lib.hid (fun w => said_any (x := tx) (by omega) hy w)
 have HEND := Lib.hid hres
 clear h he hf hk hC hpt hpf hwt ht htx ha0 hs hls hR htk hi hy hres
 go_enter Tryz.func158, Tryz.ntmps158
 go_wp2_with fail
 go_at_call 53; refine HTK.out.mono ?_
 rintro e w1 ⟨rfl, hs1⟩
 have hM2 := Loc.new hs1.un.ps #[.int .i64 t.k, .string tx, .int .i64 (a0 : Int)] 75
 have hU2 := hs1.un.alloc (.cells #[.int .i64 t.k, .string tx, .int .i64 (a0 : Int)] 75)
 have v1 := hM2.blk.cell 1
 have v2 := hM2.blk.cell 2
 obtain ⟨W2, hW2⟩ : ∃ W2, w1.alloc (.cells #[.int .i64 t.k, .string tx, .int .i64 (a0 : Int)] 75) = W2 := ⟨_, rfl⟩
 rw [hW2] at hM2 hU2
 have HM2 := Lib.hid hM2
 have HU2 := Lib.hid hU2
 have HW2 := Lib.hid hW2
 clear hs1 hM2 hU2 hW2
 go_wp2_with fail
 go_at_call 71; rw [HW2.out]; refine (HIN.out _).mono ?_
 rintro e w3 ⟨rfl, hb3⟩
 have HM3 := Lib.hid (HM2.out.lc (Lc.of hb3 []) (by simp))
 have HU3 := Lib.hid (HU2.out.below hb3)
 have x1 := HM3.out.blk.cell 1
 have x2 := HM3.out.blk.cell 2
 have HMD := Lib.hid (HM3.out.lc (Lc.of (Below.refl _ w3).drew []) (by simp))
 have HUD := Lib.hid (HU3.out.below (Below.refl _ w3).drew)
 clear hb3
 go_wp2_with fail
 go_region_with (first
  | (go_at_call 72; refine (HSD.out _).mono ?_; rintro e w4 ⟨rfl, hb4⟩; have hM4 := HMD.out.lc (Lc.of hb4 []) (by simp); have x14 := hM4.blk.cell 1; have x24 := hM4.blk.cell 2; have HAD := Lib.hid ((HUD.out.below hb4).addNone 5 (bA y) a0))
  | (go_at_call 105; refine HAD.out.mono ?_; rintro e w9 ⟨rfl, m9, hp9, ho9, hl9⟩; have hnv : natV (takeS s).f.exprs.length = .int .i64 ((takeS s).f.exprs.length : Int) := rfl))
 all_goals (try rw [hnv])
 all_goals go_wp2_with fail
 all_goals go_ret
 all_goals (rw [HEND.out]; exact ⟨rfl, m9, hp9, ho9, hl9⟩)
end
end Go.Proofs.YtljgggohjigaoaaGreatDoor
