/- SyntaxJoined, whatever the input. -/
import Derived.Deep.RegionWith
import Derived.Deep.RegionHeld
import Derived.Deep.RegionHeld3
import Derived.Deep.DeepCutAuto
import Derived.Test.YtljgggohjigaoaaGreatDoorSk45
namespace Go.Proofs.YtljgggohjigaoaaGreatDoor
open Go.RowKit Go.Shelf
set_option linter.unusedVariables false
set_option linter.unusedSimpArgs false

theorem flat_takeJ {α β : Type} {g : α → List β} {l : List α} {i : Nat} {x : α} (h : l[i]? = some x) : (l.take (i + 1)).flatMap g = (l.take i).flatMap g ++ g x := by
 have hi := (List.getElem?_eq_some_iff.1 h).1
 have hx : l[i] = x := (List.getElem?_eq_some_iff.1 h).2
 rw [List.take_add_one, List.getElem?_eq_getElem hi, hx]
 simp [List.flatMap_append]
theorem Now.tp {w : World} {F lo N0 N1 : Nat} {m0 : FileM} {f : Fi} (h : Now w F lo N0 N1 m0 f) : RowR w m0.tv f.top.length (intsV f.top) := by
 obtain ⟨m, h1, h2, h3, h4, h5, h6, h7⟩ := h
 rw [← h4]
 exact row_read h1.top
abbrev JS (w7 wx : World) (F lo Bz Bh : Nat) (m0 : FileM) (p : Nat) (fa fb : Fi) (nE nB ie ke ib ka kb : Nat) (hE hB hT : Value) (i j k : Nat) : Prop := Hid (Jst w7 wx F lo Bz Bz Bh (Bh + 1) m0 ⟨lsE p fa fb ie ke, lsB p fa fb ib ka kb, fa.top ++ fb.top.map (· + fa.blocks.length)⟩ hE hB hT i j k (((m0.ms.drop nE).take i).flatMap ExM.cells) (((m0.ns.drop nB).take j).flatMap BlM.cells) (intsV (fb.top.take k)))
theorem min_form (n : Nat) : (if (2000 : Int) < (n : Int) then (2000 : Int) else (n : Int)) = ((min n 2000 : Nat) : Int) := by
 split <;> omega
theorem tail_sl {t e : TypeId} {s : Nat} {i : TypeInfo} (hu : Tryz.prog.underlying t = some (.slice e)) (hel : Tryz.prog.elem t = e) (hi : Tryz.prog.info? e = some i) (hs : i.size = s) (ad : Option Addr) (n k cap : Nat) (hc : n + k ≤ cap) :
  ∃ q r, (∀ W, (Instr.sliceAt t (.slice ad (n + k) cap) (some (.int .i64 (n : Int))) none none).run Tryz.prog W = .ok (.slice q k r) W) ∧ (k ≠ 0 → q = ad.map (·.add (n * s)) ∧ k ≤ r) := by
 refine ⟨if cap = n then ad else ad.map (·.add (n * s)), cap - n, fun W => ?_, fun hk => ⟨by rw [if_neg (by omega)], by omega⟩⟩
 rw [← hel] at hu hi
 rw [run_sliceAt_slice _ _ _ _ _ _ hu, run_slice_l _ _ _ _ _ hu .i64 (n : Int) (by omega) (by omega)]
 have hz : (sizeOf (Tryz.prog.elem t)).run Tryz.prog W = .ok s W := by simp [sizeOf, typeInfo, hi, hs]
 rw [hz]
 simp only [Result.andThen, sliced, Int.toNat_natCast, Nat.add_sub_cancel_left]
theorem head_sl {t e : TypeId} {s : Nat} {i : TypeInfo} (hu : Tryz.prog.underlying t = some (.slice e)) (hel : Tryz.prog.elem t = e) (hi : Tryz.prog.info? e = some i) (hs : i.size = s) (ad : Option Addr) (n len cap : Nat) (hn : n ≤ cap) (hf : (∃ g, ad = some ⟨g, 0, none⟩) ∨ (ad = none ∧ cap = 0)) :
  ∀ W, (Instr.sliceAt t (.slice ad len cap) none (some (.int .i64 (n : Int))) none).run Tryz.prog W = .ok (.slice ad n cap) W := by
 intro W
 rw [← hel] at hu hi
 rw [run_sliceAt_slice _ _ _ _ _ _ hu, run_slice_h _ _ _ _ _ hu .i64 (n : Int) (by omega) (by omega)]
 have hz : (sizeOf (Tryz.prog.elem t)).run Tryz.prog W = .ok s W := by simp [sizeOf, typeInfo, hi, hs]
 rw [hz]
 simp only [Result.andThen, sliced, Int.toNat_natCast, Nat.sub_zero]
 rcases hf with ⟨g, rfl⟩ | ⟨rfl, rfl⟩
 ·simp [Addr.add]
 ·simp
theorem tail_ex (ad : Option Addr) (n k cap : Nat) (hc : n + k ≤ cap) : ∃ q r, (∀ W, (Instr.sliceAt 24 (.slice ad (n + k) cap) (some (.int .i64 (n : Int))) none none).run Tryz.prog W = .ok (.slice q k r) W) ∧ (k ≠ 0 → q = ad.map (·.add (n * 5)) ∧ k ≤ r) := by
 obtain ⟨i, z, h1, -, -, h2, -⟩ := infoE
 exact tail_sl Tryz.underlying24 (by kernel_rfl) h1 h2 ad n k cap hc
theorem tail_bl (ad : Option Addr) (n k cap : Nat) (hc : n + k ≤ cap) : ∃ q r, (∀ W, (Instr.sliceAt 25 (.slice ad (n + k) cap) (some (.int .i64 (n : Int))) none none).run Tryz.prog W = .ok (.slice q k r) W) ∧ (k ≠ 0 → q = ad.map (·.add (n * 5)) ∧ k ≤ r) := by
 obtain ⟨i, z, h1, -, -, h2, -⟩ := infoB
 exact tail_sl Tryz.underlying25 (by kernel_rfl) h1 h2 ad n k cap hc
theorem tail_in (ad : Option Addr) (n k cap : Nat) (hc : n + k ≤ cap) : ∃ q r, (∀ W, (Instr.sliceAt 26 (.slice ad (n + k) cap) (some (.int .i64 (n : Int))) none none).run Tryz.prog W = .ok (.slice q k r) W) ∧ (k ≠ 0 → q = ad.map (·.add (n * 1)) ∧ k ≤ r) := by
 obtain ⟨i, h1, -, h2, -⟩ := info_of infoInt0
 exact tail_sl Tryz.underlying26 (by kernel_rfl) h1 h2 ad n k cap hc
theorem head_ex (ad : Option Addr) (n len cap : Nat) (hn : n ≤ cap) (hf : (∃ g, ad = some ⟨g, 0, none⟩) ∨ (ad = none ∧ cap = 0)) : ∀ W, (Instr.sliceAt 24 (.slice ad len cap) none (some (.int .i64 (n : Int))) none).run Tryz.prog W = .ok (.slice ad n cap) W := by
 obtain ⟨i, z, h1, -, -, h2, -⟩ := infoE
 exact head_sl Tryz.underlying24 (by kernel_rfl) h1 h2 ad n len cap hn hf
theorem head_bl (ad : Option Addr) (n len cap : Nat) (hn : n ≤ cap) (hf : (∃ g, ad = some ⟨g, 0, none⟩) ∨ (ad = none ∧ cap = 0)) : ∀ W, (Instr.sliceAt 25 (.slice ad len cap) none (some (.int .i64 (n : Int))) none).run Tryz.prog W = .ok (.slice ad n cap) W := by
 obtain ⟨i, z, h1, -, -, h2, -⟩ := infoB
 exact head_sl Tryz.underlying25 (by kernel_rfl) h1 h2 ad n len cap hn hf
theorem head_in (ad : Option Addr) (n len cap : Nat) (hn : n ≤ cap) (hf : (∃ g, ad = some ⟨g, 0, none⟩) ∨ (ad = none ∧ cap = 0)) : ∀ W, (Instr.sliceAt 26 (.slice ad len cap) none (some (.int .i64 (n : Int))) none).run Tryz.prog W = .ok (.slice ad n cap) W := by
 obtain ⟨i, h1, -, h2, -⟩ := info_of infoInt0
 exact head_sl Tryz.underlying26 (by kernel_rfl) h1 h2 ad n len cap hn hf
theorem file_built : Tryz.prog.built 28 [] = some #[.slice none 0 0, .slice none 0 0, .slice none 0 0] := by kernel_rfl
theorem wp_file0 {ops : Array Oper} {rest : List Oper} {o : Oper} {a : Act} {w : World} {Q : Exit → Act → World → Prop} (hg : o.guard = none) (ho : o.op = .build 28 #[])
  (h : wpList Tryz.prog ops Q rest (a.put o.dst (.agg #[.slice none 0 0, .slice none 0 0, .slice none 0 0])) w) : wpList Tryz.prog ops Q (o :: rest) a w :=
 wpList_plain hg fun K hK => by
  unfold Oper.wp execOp
  simp only [ho, Sem.run_bind, List.map_toArray, List.map_nil]
  rw [run_build w 28 _ _ file_built]
  simp only [Result.andThen_ok]
  exact hK _ _ h
theorem par_any {W w' : World} {r : Except Bd Fi} {e : Ending} (h : ParE W r e w') : Below W.heap.size W w' ∧ ∃ a0 n0 c0 a1 n1 c1 a2 n2 c2 d, e = .returned (.tuple #[.agg #[.slice a0 n0 c0, .slice a1 n1 c1, .slice a2 n2 c2], .pointer d]) ∧ (d = none ↔ ∃ f, r = .ok f) := by
 obtain ⟨hb, h⟩ := h
 refine ⟨hb, ?_⟩
 cases r with
 | ok f =>
  obtain ⟨m, F, lo, rfl, hf, -⟩ := h
  obtain ⟨⟨a0, c0, e0⟩, ⟨a1, c1, e1⟩, a2, c2, e2⟩ := hf.slices
  exact ⟨a0, _, c0, a1, _, c1, a2, _, c2, none, by rw [e0, e1, e2], by simp⟩
 | error bd =>
  obtain ⟨D, rfl, -⟩ := h
  exact ⟨_, _, _, _, _, _, _, _, _, _, rfl, by simp⟩
set_option maxRecDepth 100000 in
set_option maxHeartbeats 4000000 in
theorem joined_bad {W : World} {a b ua ub : ByteArray} {ka kb : Nat} (hka : min a.size 2000 = ka) (hkb : min b.size 2000 = kb) (hua : a.extract 0 ka = ua) (hub : b.extract 0 kb = ub) {ra rb : Except Bd Fi} (hra : parseF ua = ra) (hrb : parseF ub = rb) (hp : (∀ f, ra ≠ .ok f) ∨ ∀ f, rb ≠ .ok f) (hR : ReadyP W) :
  Calls Tryz.prog 5 #[.string a, .string b] W fun e w' => e = .returned (.bool true) ∧ Below W.heap.size W w' := by
 have i0 : (0 : Int) ≤ (ka : Int) := by omega
 have i1 : (ka : Int) ≤ (a.size : Int) := by omega
 have e1 := min_form a.size
 have j0 : (0 : Int) ≤ (kb : Int) := by omega
 have j1 : (kb : Int) ≤ (b.size : Int) := by omega
 have e2 := min_form b.size
 rw [hka] at e1
 rw [hkb] at e2
 have m1 : min (a.size : Int) 2000 = (ka : Int) := by omega
 have m2 : min (b.size : Int) 2000 = (kb : Int) := by omega
 have HA := Lib.hid (awake5 hR)
 have HR := Lib.hid hR
 have HP := Lib.hid hp
 have HPA : Hid (∀ w, ReadyP w → Calls Tryz.prog 11 #[.string ua] w (ParE w ra)) := Lib.hid (fun w hw => by
  have := parse_any (t := ua) hw
  rw [hra] at this
  exact this)
 have HPB : Hid (∀ w, ReadyP w → Calls Tryz.prog 11 #[.string ub] w (ParE w rb)) := Lib.hid (fun w hw => by
  have := parse_any (t := ub) hw
  rw [hrb] at this
  exact this)
 clear hR hka hkb hp hra hrb
 go_enter Tryz.func5, Tryz.ntmps5
 go_wp2_with fail
 go_at_call 9; refine HA.out.mono ?_; rintro r w1 ⟨rfl, hb1⟩
 have HB1 := Lib.hid hb1
 clear hb1 HA
 go_wp2_with fail
 go_quiet (fail)
 go_wp2_with fail
 have HB2 : Hid (Below W.heap.size W (w1.drewN nq)) := Lib.hid (below_drw2 HB1.out)
 obtain ⟨w2, hw2⟩ : ∃ w2, w1.drewN nq = w2 := ⟨_, rfl⟩
 rw [hw2] at HB2 ⊢
 clear hw2 HB1
 have HC := Lib.hid (HPA.out w2 (HR.out.below HB2.out))
 go_at_call 11; refine HC.out.mono ?_
 rintro r w4 hq4
 obtain ⟨hb4, a0, n0, c0, a1, n1, c1, a2, n2, c2, d, rfl, hd⟩ := par_any hq4
 have HB4 : Hid (Below W.heap.size W (w4.alloc (.cells #[.slice a0 n0 c0, .slice a1 n1 c1, .slice a2 n2 c2] 28))) := Lib.hid ((HB2.out.trans (hb4.mono HB2.out.size)).trans ((below_new _ _).mono (Nat.le_trans HB2.out.size hb4.size)))
 have HD := Lib.hid hd
 clear hb4 hq4 HC hd
 go_wp2_with fail
 have HC := Lib.hid (HPB.out _ (HR.out.below HB4.out))
 obtain ⟨w5, hw5⟩ : ∃ w5, (w4.alloc (.cells #[.slice a0 n0 c0, .slice a1 n1 c1, .slice a2 n2 c2] 28)) = w5 := ⟨_, rfl⟩
 rw [hw5] at HC HB4 ⊢
 clear hw5
 go_at_call 11; refine HC.out.mono ?_
 rintro r w6 hq6
 obtain ⟨hb6, b0, m0, d0, b1, m1, d1, b2, m2, d2, dy, rfl, hdy⟩ := par_any hq6
 have HB6 : Hid (Below W.heap.size W (w6.alloc (.cells #[.slice b0 m0 d0, .slice b1 m1 d1, .slice b2 m2 d2] 28))) := Lib.hid ((HB4.out.trans (hb6.mono HB4.out.size)).trans ((below_new _ _).mono (Nat.le_trans HB4.out.size hb6.size)))
 clear hb6 hq6 HC
 cases d with
 | some d =>
  go_wp2_with fail
  go_ret
  exact ⟨rfl, HB6.out⟩
 | none =>
  cases dy with
  | some dy =>
   go_wp2_with fail
   go_ret
   exact ⟨rfl, HB6.out⟩
  | none =>
   exfalso
   obtain ⟨f, hf⟩ := HD.out.1 rfl
   obtain ⟨g, hg⟩ := hdy.1 rfl
   rcases HP.out with h | h
   ·exact h f hf
   ·exact h g hg
end Go.Proofs.YtljgggohjigaoaaGreatDoor
namespace Go.Proofs.YtljgggohjigaoaaGreatDoor
open Go.RowKit Go.Shelf
set_option linter.unusedVariables false
set_option linter.unusedSimpArgs false

set_option maxRecDepth 100000 in
set_option maxHeartbeats 8000000 in
theorem joined_ok {W : World} {a b ua ub uz : ByteArray} {ka kb : Nat} (hka : min a.size 2000 = ka) (hkb : min b.size 2000 = kb) (hua : a.extract 0 ka = ua) (hub : b.extract 0 kb = ub) {p : Nat} {fa fb : Fi} (hpa : parseF ua = .ok fa) (hpb : parseF ub = .ok fb)
  (hpz : parseF uz = .ok (shF p fa fb)) (hcat : ua ++ ⟨#[10]⟩ ++ ub = uz) (hsa : ua.size ≤ 2000) (hsb : ub.size ≤ 2000)
  (bdA : fa.exprs.length ≤ 16384 ∧ fa.blocks.length ≤ 16384 ∧ fa.top.length ≤ 16384) (bdB : fb.exprs.length ≤ 16384 ∧ fb.blocks.length ≤ 16384 ∧ fb.top.length ≤ 16384)
  (us : (∀ (i : Nat) (e : Ex), fb.exprs[i]? = some e → ∀ a ∈ e.args, a < i) ∧ (∀ b ∈ fb.blocks, ∀ a ∈ b.attrs, a.e < fb.exprs.length) ∧ (∀ (i : Nat) (b : Bl), fb.blocks[i]? = some b → ∀ k ∈ b.blocks, k < i) ∧ ∀ k ∈ fb.top, k < fb.blocks.length) (hR : ReadyP W) :
  Calls Tryz.prog 5 #[.string a, .string b] W fun e w' => e = .returned (.bool true) ∧ Below W.heap.size W w' := by
 have i0 : (0 : Int) ≤ (ka : Int) := by omega
 have i1 : (ka : Int) ≤ (a.size : Int) := by omega
 have e1 := min_form a.size
 have j0 : (0 : Int) ≤ (kb : Int) := by omega
 have j1 : (kb : Int) ≤ (b.size : Int) := by omega
 have e2 := min_form b.size
 rw [hka] at e1
 rw [hkb] at e2
 have m1 : min (a.size : Int) 2000 = (ka : Int) := by omega
 have m2 : min (b.size : Int) 2000 = (kb : Int) := by omega
 have HA := Lib.hid (awake5 hR)
 have HR := Lib.hid hR
 have HPA : Hid (∀ w, ReadyP w → Calls Tryz.prog 11 #[.string ua] w (ParE w (.ok fa))) := Lib.hid (fun w hw => by
  have := parse_any (t := ua) hw
  rw [hpa] at this
  exact this)
 have HPB : Hid (∀ w, ReadyP w → Calls Tryz.prog 11 #[.string ub] w (ParE w (.ok fb))) := Lib.hid (fun w hw => by
  have := parse_any (t := ub) hw
  rw [hpb] at this
  exact this)
 have HPZ : Hid (∀ w, ReadyP w → Calls Tryz.prog 11 #[.string uz] w (ParE w (.ok (shF p fa fb)))) := Lib.hid (fun w hw => by
  have := parse_any (t := uz) hw
  rw [hpz] at this
  exact this)
 have HBD := Lib.hid (And.intro bdA bdB)
 have HUS := Lib.hid us
 clear hR hka hkb hpa hpb hpz bdA bdB us
 go_enter Tryz.func5, Tryz.ntmps5
 go_wp2_with fail
 go_at_call 9; refine HA.out.mono ?_; rintro r w1 ⟨rfl, hb1⟩
 have HB1 := Lib.hid hb1
 clear hb1 HA
 go_wp2_with fail
 go_quiet (fail)
 go_wp2_with fail
 have HB2 : Hid (Below W.heap.size W (w1.drewN nq)) := Lib.hid (below_drw2 HB1.out)
 obtain ⟨w2, hw2⟩ : ∃ w2, w1.drewN nq = w2 := ⟨_, rfl⟩
 rw [hw2] at HB2 ⊢
 clear hw2 HB1
 have HC := Lib.hid (HPA.out _ (HR.out.below HB2.out))
 go_at_call 11; refine HC.out.mono ?_
 rintro r w4 ⟨hb4, mx, Fx, lox, rfl, hfx, -, -⟩
 obtain ⟨aE, cE, eE, lE, -, hcE⟩ := own_form hfx.exprs
 obtain ⟨aB, cB, eB, lB, -, hcB⟩ := own_form hfx.blocks
 obtain ⟨aT, cT, eT, lT, -, hcT⟩ := own_form hfx.top
 have hnx : mx.ms.length = fa.exprs.length := by rw [← hfx.es, List.length_map]
 have hmx : mx.ns.length = fa.blocks.length := by rw [← hfx.bs, List.length_map]
 obtain ⟨nE, hnE⟩ : ∃ n, fa.exprs.length = n := ⟨_, rfl⟩
 obtain ⟨nB, hnB⟩ : ∃ n, fa.blocks.length = n := ⟨_, rfl⟩
 obtain ⟨nT, hnT⟩ : ∃ n, fa.top.length = n := ⟨_, rfl⟩
 rw [hnx, hnE] at eE lE
 rw [hmx, hnB] at eB lB
 rw [hnT] at eT lT
 have hrx := hfx.rd
 have hsx := hfx.small
 rw [eE, eB, eT] at hrx ⊢
 have HB4 : Hid (Below W.heap.size W (w4.alloc (.cells #[.slice aE nE cE, .slice aB nB cB, .slice aT nT cT] 28))) := Lib.hid ((HB2.out.trans (hb4.mono HB2.out.size)).trans ((below_new _ _).mono (Nat.le_trans HB2.out.size hb4.size)))
 have HX : Hid (Blk (w4.alloc (.cells #[.slice aE nE cE, .slice aB nB cB, .slice aT nT cT] 28)) w4.heap.size #[.slice aE nE cE, .slice aB nB cB, .slice aT nT cT] 28 ∧ FileRd (w4.alloc (.cells #[.slice aE nE cE, .slice aB nB cB, .slice aT nT cT] 28)) (.slice aE nE cE) (.slice aB nB cB) (.slice aT nT cT) fa ∧ Small fa ∧ nE ≤ cE ∧ nB ≤ cB ∧ nT ≤ cT) := Lib.hid ⟨Blk.new _ _ _, hrx.below (below_new _ _), hsx, lE, lB, lT⟩
 have HNA := Lib.hid (And.intro hnE (And.intro hnB hnT))
 clear hb4 HC HB2 hfx eE eB eT lE lB lT hrx hsx hnx hmx hnE hnB hnT
 go_wp2_with fail
 obtain ⟨w5, hw5⟩ : ∃ w5, (w4.alloc (.cells #[.slice aE nE cE, .slice aB nB cB, .slice aT nT cT] 28)) = w5 := ⟨_, rfl⟩
 obtain ⟨Bx, hBx⟩ : ∃ k, w4.heap.size = k := ⟨_, rfl⟩
 rw [hw5] at HB4 HX ⊢
 rw [hBx] at HX ⊢
 clear hw5 hBx
 have HC := Lib.hid (HPB.out _ (HR.out.below HB4.out))
 go_at_call 11; refine HC.out.mono ?_
 rintro r w6 ⟨hb6, my, Fy, loy, rfl, hfy, -, -⟩
 obtain ⟨aE', cE', eE, lE, -, hcE'⟩ := own_form hfy.exprs
 obtain ⟨aB', cB', eB, lB, -, hcB'⟩ := own_form hfy.blocks
 obtain ⟨aT', cT', eT, lT, -, hcT'⟩ := own_form hfy.top
 have hnx : my.ms.length = fb.exprs.length := by rw [← hfy.es, List.length_map]
 have hmx : my.ns.length = fb.blocks.length := by rw [← hfy.bs, List.length_map]
 obtain ⟨nE', hnE⟩ : ∃ n, fb.exprs.length = n := ⟨_, rfl⟩
 obtain ⟨nB', hnB⟩ : ∃ n, fb.blocks.length = n := ⟨_, rfl⟩
 obtain ⟨nT', hnT⟩ : ∃ n, fb.top.length = n := ⟨_, rfl⟩
 rw [hnx, hnE] at eE lE
 rw [hmx, hnB] at eB lB
 rw [hnT] at eT lT
 have hry := hfy.rd
 have hsy := hfy.small
 rw [eE, eB, eT] at hry ⊢
 have HB6 : Hid (Below W.heap.size W (w6.alloc (.cells #[.slice aE' nE' cE', .slice aB' nB' cB', .slice aT' nT' cT'] 28))) := Lib.hid ((HB4.out.trans (hb6.mono HB4.out.size)).trans ((below_new _ _).mono (Nat.le_trans HB4.out.size hb6.size)))
 have HY : Hid (Blk (w6.alloc (.cells #[.slice aE' nE' cE', .slice aB' nB' cB', .slice aT' nT' cT'] 28)) w6.heap.size #[.slice aE' nE' cE', .slice aB' nB' cB', .slice aT' nT' cT'] 28 ∧ FileRd (w6.alloc (.cells #[.slice aE' nE' cE', .slice aB' nB' cB', .slice aT' nT' cT'] 28)) (.slice aE' nE' cE') (.slice aB' nB' cB') (.slice aT' nT' cT') fb ∧ Small fb ∧ nE' ≤ cE' ∧ nB' ≤ cB' ∧ nT' ≤ cT') := Lib.hid ⟨Blk.new _ _ _, hry.below (below_new _ _), hsy, lE, lB, lT⟩
 have hbn := below_new w6 (.cells #[.slice aE' nE' cE', .slice aB' nB' cB', .slice aT' nT' cT'] 28)
 have HX6 := Lib.hid (And.intro ((HX.out.1.below hb6).below hbn) (And.intro ((HX.out.2.1.below hb6).below hbn) HX.out.2.2))
 have HNB := Lib.hid (And.intro hnE (And.intro hnB hnT))
 clear hbn hb6 HC HB4 HX hfy eE eB eT lE lB lT hry hsy hnx hmx hnE hnB hnT
 have k1 : ¬ 9223372036854775807 < ua.size + 1 := by omega
 have k2 : ¬ 9223372036854775807 < ua.size + 1 + ub.size := by omega
 go_wp2_with fail
 obtain ⟨w7, hw7⟩ : ∃ w7, (w6.alloc (.cells #[.slice aE' nE' cE', .slice aB' nB' cB', .slice aT' nT' cT'] 28)) = w7 := ⟨_, rfl⟩
 obtain ⟨By, hBy⟩ : ∃ k, w6.heap.size = k := ⟨_, rfl⟩
 rw [hw7] at HB6 HX6 HY ⊢
 rw [hBy] at HY ⊢
 clear hw7 hBy
 have HC := Lib.hid (HPZ.out _ (HR.out.below HB6.out))
 go_at_call 11; refine HC.out.mono ?_
 rintro r w8 ⟨hb8, m0, F, lo, rfl, hf, hF0, hFlo⟩
 obtain ⟨zE, yE, eE, lE, fE, hyE⟩ := own_form hf.exprs
 obtain ⟨zB, yB, eB, lB, fB, hyB⟩ := own_form hf.blocks
 obtain ⟨zT, yT, eT, lT, fT, hyT⟩ := own_form hf.top
 have hnx : m0.ms.length = nE + nE' := by
  have := congrArg List.length hf.es
  rw [List.length_map] at this
  rw [this]; unfold shF; simp [HNA.out.1, HNB.out.1]
 have hmx : m0.ns.length = nB + nB' := by
  have := congrArg List.length hf.bs
  rw [List.length_map] at this
  rw [this]; unfold shF; simp [HNA.out.2.1, HNB.out.2.1]
 have htx : (shF p fa fb).top.length = nT + nT' := by unfold shF; simp [HNA.out.2.2, HNB.out.2.2]
 rw [hnx] at eE lE
 rw [hmx] at eB lB
 rw [htx] at eT lT
 have sE : nE + nE' ≤ 9223372036854775807 := by omega
 have sB : nB + nB' ≤ 9223372036854775807 := by omega
 have sT : nT + nT' ≤ 9223372036854775807 := by omega
 have hfoot := hf.lt
 rw [eE, eB, eT]
 have s89 := below_new w8 (.cells #[.slice zE (nE + nE') yE, .slice zB (nB + nB') yB, .slice zT (nT + nT') yT] 28)
 have b9 := Blk.new w8 #[.slice zE (nE + nE') yE, .slice zB (nB + nB') yB, .slice zT (nT + nT') yT] 28
 have hsz9 : (w8.alloc (.cells #[.slice zE (nE + nE') yE, .slice zB (nB + nB') yB, .slice zT (nT + nT') yT] 28)).heap.size = w8.heap.size + 1 := by simp
 obtain ⟨w9, hw9⟩ : ∃ w9, (w8.alloc (.cells #[.slice zE (nE + nE') yE, .slice zB (nB + nB') yB, .slice zT (nT + nT') yT] 28)) = w9 := ⟨_, rfl⟩
 rw [hw9] at s89 b9 hsz9
 have h79 : Below w7.heap.size w7 w9 := hb8.trans (s89.mono hb8.size)
 have x9 := HX6.out.1.below h79
 have y9 := HY.out.1.below h79
 have kx0 := x9.cell 0
 have kx1 := x9.cell 1
 have kx2 := x9.cell 2
 have ky0 := y9.cell 0
 have ky1 := y9.cell 1
 have ky2 := y9.cell 2
 have kz0 := b9.cell 0
 have kz1 := b9.cell 1
 have kz2 := b9.cell 2
 have HW9 := Lib.hid hw9
 have H79 := Lib.hid h79
 have HZ := Lib.hid (And.intro hf (And.intro hF0 (And.intro hFlo (And.intro (hf.below s89) (And.intro hfoot (And.intro b9 (And.intro hsz9 hb8.size)))))))
 have HM := Lib.hid (And.intro eE (And.intro eB (And.intro eT (And.intro hnx (And.intro hmx (And.intro fE (And.intro fB fT)))))))
 have HL := Lib.hid (And.intro lE (And.intro lB lT))
 clear hb8 hf hF0 hFlo hfoot s89 b9 hsz9 h79 x9 y9 hw9 HC eE eB eT hnx hmx htx lE lB lT fE fB fT
 go_wp2_with fail
 rw [HW9.out]
 have u1 : (nE : Int) + (nE' : Int) ≤ 9223372036854775807 := by omega
 have u2 : (nB : Int) + (nB' : Int) ≤ 9223372036854775807 := by omega
 have u3 : (nT : Int) + (nT' : Int) ≤ 9223372036854775807 := by omega
 have v1 : (0 : Int) ≤ (nE : Int) + (nE' : Int) := by omega
 have v2 : (0 : Int) ≤ (nB : Int) + (nB' : Int) := by omega
 have v3 : (0 : Int) ≤ (nT : Int) + (nT' : Int) := by omega
 go_quiet (fail)
 obtain ⟨qE, rE, hslE, hqE⟩ := tail_ex zE nE nE' yE HL.out.1
 have HQE := Lib.hid hqE
 clear hqE kx0 kx1 kx2 ky0 ky1 ky2 kz0 kz1 kz2
 have h910 : Below w9.heap.size w9 (w9.drewN nq) := below_drw2 (Below.refl _ _)
 have hz10 : (w9.drewN nq).heap.size = w9.heap.size := rfl
 obtain ⟨w10, hw10⟩ : ∃ w10, w9.drewN nq = w10 := ⟨_, rfl⟩
 rw [hw10] at h910 hz10 ⊢
 have x9 := (HX6.out.1.below H79.out).below h910
 have y9 := (HY.out.1.below H79.out).below h910
 have b9 := HZ.out.2.2.2.2.2.1.below h910
 have kx0 := x9.cell 0
 have kx1 := x9.cell 1
 have kx2 := x9.cell 2
 have ky0 := y9.cell 0
 have ky1 := y9.cell 1
 have ky2 := y9.cell 2
 have kz0 := b9.cell 0
 have kz1 := b9.cell 1
 have kz2 := b9.cell 2
 have kz0' := (b9.alloc (.cells #[.slice none 0 0, .slice none 0 0, .slice none 0 0] 28)).cell 0
 have H910 := Lib.hid (And.intro h910 hz10)
 clear x9 y9 b9 hw10 h910 hz10
 go_wp2_with (with_reducible refine (id (Hid.out ?_) : wpList _ _ _ (⟨some 104, _, _, _, _, _⟩ :: _) _ _))
 refine Lib.hid ?_
 refine wp_file0 rfl rfl ?_
 go_wp2_with fail
 have hbnd : nE ≤ 16384 ∧ nE' ≤ 16384 ∧ nB ≤ 16384 ∧ nB' ≤ 16384 ∧ nT ≤ 16384 ∧ nT' ≤ 16384 := ⟨by rw [← HNA.out.1]; exact HBD.out.1.1, by rw [← HNB.out.1]; exact HBD.out.2.1, by rw [← HNA.out.2.1]; exact HBD.out.1.2.1, by rw [← HNB.out.2.1]; exact HBD.out.2.2.1, by rw [← HNA.out.2.2]; exact HBD.out.1.2.2, by rw [← HNB.out.2.2]; exact HBD.out.2.2.2⟩
 have hJ : Jst w7 (w10.alloc (.cells #[.slice none 0 0, .slice none 0 0, .slice none 0 0] 28)) F lo w8.heap.size w8.heap.size w10.heap.size (w10.heap.size + 1) m0 ⟨lsE p fa fb 0 0, lsB p fa fb 0 0 0, fa.top ++ fb.top.map (· + fa.blocks.length)⟩ (.slice none 0 0) (.slice none 0 0) (.slice none 0 0) 0 0 0 (((m0.ms.drop nE).take 0).flatMap ExM.cells) (((m0.ns.drop nB).take 0).flatMap BlM.cells) (intsV (fb.top.take 0)) := by
  have h1 := (below_new w10 (.cells #[.slice none 0 0, .slice none 0 0, .slice none 0 0] 28))
  obtain ⟨hf, hF0, hFlo, hf9, hfoot, b9, hsz9, hs8⟩ := HZ.out
  obtain ⟨h910, hz10⟩ := H910.out
  have hfz : FileOk w9 F lo m0 ⟨lsE p fa fb 0 0, lsB p fa fb 0 0 0, fa.top ++ fb.top.map (· + fa.blocks.length)⟩ := by
   rw [lsE_start, lsB_start]
   exact hf9
  obtain ⟨eE, eB, eT, -⟩ := HM.out
  have h7w : Below w7.heap.size w7 (w10.alloc (.cells #[.slice none 0 0, .slice none 0 0, .slice none 0 0] 28)) := (H79.out.trans (h910.mono H79.out.size)).trans (h1.mono (Nat.le_trans H79.out.size h910.size))
  refine ⟨h7w, ⟨m0, (hfz.below h910).below h1, rfl, rfl, rfl, rfl, rfl, fun g hg => ?_⟩, ?_, Blk.new _ _ _, ?_, ?_, ?_, by decide, hs8, Nat.le_refl _, by omega, by omega, by simp⟩
  ·have h2 := hfoot g hg
   refine ⟨?_, h2.1⟩
   rcases h2.2 with h3 | h3
   ·rw [h3]; exact hF0
   ·omega
  ·rw [eE, eB, eT]
   exact (b9.below h910).below h1
  ·simpa using World.ownsRow_nil _ _ _ 5
  ·simpa using World.ownsRow_nil _ _ _ 5
  ·simpa [intsV] using World.ownsRow_nil _ _ _ 1
 have HJ := Lib.hid hJ
 have HN := Lib.hid hbnd
 clear hJ hbnd kx0 kx1 kx2 ky0 ky1 ky2 kz0 kz1 kz2 kz0'
 obtain ⟨w11, hw11⟩ : ∃ w, w10.alloc (.cells #[.slice none 0 0, .slice none 0 0, .slice none 0 0] 28) = w := ⟨_, rfl⟩
 obtain ⟨Bh, hBh⟩ : ∃ k, w10.heap.size = k := ⟨_, rfl⟩
 obtain ⟨Bz, hBz⟩ : ∃ k, w8.heap.size = k := ⟨_, rfl⟩
 rw [hw11] at HJ ⊢
 rw [hBh, hBz] at HJ
 rw [hBh, hBz]
 clear hw11
 go_loopg [110] (nE' + 1) (fun gf s110 wx => ∃ (i : Nat) (aH : Option Addr) (cH : Nat), s110 = .int .i64 (i : Int) ∧ i ≤ nE' ∧ JS w7 wx F lo Bz Bh m0 p fa fb nE nB i 0 0 0 0 (.slice aH i cH) (.slice none 0 0) (.slice none 0 0) i 0 0 ∧ i + gf = nE' + 1)
 case atStart => exact ⟨0, none, 0, rfl, by omega, HJ, by omega⟩
 case round =>
  obtain ⟨i, aH, cH, rfl, hile, HJi, hgf⟩ := hrel
  by_cases hi : i < nE'
  ·obtain ⟨g', rfl⟩ : ∃ g', gk = g' + 1 := ⟨gk - 1, by omega⟩
   obtain ⟨e, he⟩ : ∃ e, fb.exprs[i]? = some e := ⟨_, List.getElem?_eq_getElem (by rw [HNB.out.1]; exact hi)⟩
   obtain ⟨x0, hx0⟩ : ∃ x, m0.ms[nE + i]? = some x := ⟨_, List.getElem?_eq_getElem (by rw [HM.out.2.2.2.1]; omega)⟩
   have hst : (lsE p fa fb i 0)[nE + i]? = some (exE p fa 0 e) := by rw [← HNA.out.1, lsE_at he, stE_at]
   obtain ⟨gE, cE0, e0, hcE0, hx⟩ := HJi.out.file.ex hx0 hst
   rw [HM.out.1] at e0
   have hz : zE = some ⟨gE, 0, none⟩ := by injection e0
   obtain ⟨hq, hrE⟩ := HQE.out (by omega)
   have hq2 : qE = some ⟨gE, nE * 5, none⟩ := by rw [hq, hz]; show some (Addr.add _ _) = _; rw [add_off]
   subst hq2
   obtain ⟨nA, hnA⟩ : ∃ n, e.args.length = n := ⟨_, rfl⟩
   obtain ⟨nK, hnK⟩ : ∃ n, e.keys.length = n := ⟨_, rfl⟩
   obtain ⟨at0, hat0⟩ : ∃ n, e.at_ + p = n := ⟨_, rfl⟩
   obtain ⟨⟨adA, cA, eA⟩, -⟩ := hx.args
   obtain ⟨⟨adK, cK, eK⟩, -⟩ := hx.keys
   have hbA : nA ≤ 9223372036854775807 := by rw [← hnA]; exact (HY.out.2.2.1.args e (List.mem_of_getElem? he)).1
   have hbE : nE' ≤ 16384 := HN.out.2.1
   have hmn : (exE p fa 0 e).args.length = nA := (midN_len _).trans hnA
   have hkn : (exE p fa 0 e).keys.length = nK := hnK
   rw [hmn] at eA
   rw [hkn] at eK
   have h5 : (nE + i) * 5 = nE * 5 + i * 5 := Nat.add_mul _ _ _
   have hcell := HJi.out.file.cellsE hx0 hst
   rw [eA, eK] at hcell
   have r0 : wr.cell? ⟨gE, nE * 5 + i * 5, none⟩ = some (.int .i64 e.k) := by rw [← h5]; exact hx.c_k
   have r1 : wr.cell? ⟨gE, nE * 5 + i * 5 + 1, none⟩ = some (.string e.x) := by rw [← h5]; exact hx.c_x
   have r2 : wr.cell? ⟨gE, nE * 5 + i * 5 + 2, none⟩ = some (.slice adA nA cA) := by rw [← h5, ← eA]; exact hx.c_av
   have r3 : wr.cell? ⟨gE, nE * 5 + i * 5 + 3, none⟩ = some (.slice adK nK cK) := by rw [← h5, ← eK]; exact hx.c_kv
   have r4 : wr.cell? ⟨gE, nE * 5 + i * 5 + 4, none⟩ = some (.int .i64 (at0 : Int)) := by rw [← h5, ← hat0]; exact hx.c_at_
   have q1 : (i : Int) < (nE' : Int) := by omega
   have q0 : (0 : Int) ≤ (i : Int) := by omega
   have bE := Blk.new wr #[.int .i64 e.k, .string e.x, .slice adA nA cA, .slice adK nK cK, .int .i64 (at0 : Int)] 38
   have t2 := bE.cell 2
   obtain ⟨w6, hw6⟩ : ∃ w6, (wr.alloc (.cells #[.int .i64 e.k, .string e.x, .slice adA nA cA, .slice adK nK cK, .int .i64 (at0 : Int)] 38)) = w6 := ⟨_, rfl⟩
   have HSL := Lib.hid (HJi.out.more (below_new wr (.cells #[.int .i64 e.k, .string e.x, .slice adA nA cA, .slice adK nK cK, .int .i64 (at0 : Int)] 38)))
   have hQ : Bz ≤ wr.heap.size := by have h1 := HJi.out.p2; have h2 := HJi.out.p4; omega
   have HW6 := Lib.hid hw6
   have HE := Lib.hid (And.intro he (And.intro hx0 (And.intro hnA (And.intro eA (And.intro hcell hat0)))))
   have HBk := Lib.hid bE
   have HQQ := Lib.hid hQ
   rw [hw6] at HSL HBk
   clear hx bE hw6 he hx0 hnA hnK eA eK hat0 hcell h5 hst hz hq hmn hkn hQ e0 hcE0 hrE
   go_wp2_with fail
   rw [HW6.out]
   clear r0 r1 r2 r3 r4 t2
   obtain ⟨Q, hQ⟩ : ∃ k, wr.heap.size = k := ⟨_, rfl⟩
   rw [hQ] at HBk HQQ ⊢
   clear hQ HW6 HJi
   go_loopg [117] (nA + 1) (fun gf s117 wx => ∃ j : Nat, s117 = .int .i64 (j : Int) ∧ j ≤ nA ∧ JS w7 wx F lo Bz Bh m0 p fa fb nE nB i j 0 0 0 (.slice aH i cH) (.slice none 0 0) (.slice none 0 0) i 0 0 ∧ Hid (Blk wx Q #[.int .i64 e.k, .string e.x, .slice adA nA cA, .slice adK nK cK, .int .i64 (at0 : Int)] 38) ∧ j + gf = nA + 1)
   case atStart => exact ⟨0, rfl, by omega, HSL, HBk, by omega⟩
   case round =>
    obtain ⟨j, rfl, hjle, HSj, HBj, hgj⟩ := hrel
    clear HSL HBk
    by_cases hj : j < nA
    ·obtain ⟨gj', rfl⟩ : ∃ g', gk = g' + 1 := ⟨gk - 1, by omega⟩
     obtain ⟨he, hx0, hnA, eA, hcell, hat0⟩ := HE.out
     obtain ⟨a1, ha⟩ : ∃ a, e.args[j]? = some a := ⟨_, List.getElem?_eq_getElem (by omega)⟩
     have ha1 : a1 < i := HUS.out.1 i e he a1 (List.mem_of_getElem? ha)
     have hst : (lsE p fa fb i j)[nE + i]? = some (exE p fa j e) := by rw [← HNA.out.1, lsE_at he, stE_at]
     obtain ⟨gE', cE0, -, -, hx⟩ := HSj.out.file.ex hx0 hst
     have hrow := hx.args
     have hmn : (exE p fa j e).args.length = nA := (midN_len _).trans hnA
     rw [hmn] at hrow
     rcases hrow.2 with h0 | ⟨gA, cA', e1, hcA, hgA, hr⟩
     ·omega
     have e2 := eA.symm.trans e1
     cases e2
     have rA : wr.cell? ⟨gA, j, none⟩ = some (.int .i64 ((a1 : Int) + (nE : Int))) := hr j _ (by
      show (intsV (midN _ _ _))[j]? = _
      unfold intsV
      rw [List.getElem?_map, midN_at ha, HNA.out.1]
      simp)
     obtain ⟨hnow, hg0, hg1, fA⟩ := HSj.out.file.arg hx0 e1 hst (k := j) (by rw [hmn]; exact hj) a1
     have hs9 := HSj.out.put hg0 hg1 (.int .i64 (a1 : Int)) hnow
     have hstep := lsE_step (p := p) (f0 := fa) he ha
     rw [HNA.out.1] at hstep
     rw [hstep] at hs9
     have HS9 := Lib.hid hs9
     have HB9 := Lib.hid (HBj.out.other (p := ⟨gA, j, none⟩) (by show Q ≠ gA; have := HQQ.out; omega) (.int .i64 (a1 : Int)))
     have t2 := HBj.out.cell 2
     have u0 : (0 : Int) ≤ (a1 : Int) := by omega
     have u4 : (a1 : Int) ≤ 16384 := by have := HN.out.2.1; omega
     have u6 : (j : Int) < (nA : Int) := by omega
     have u7 : (0 : Int) ≤ (j : Int) := by omega
     clear he hx0 hnA eA hcell hat0 ha ha1 hst hx hrow hmn e1 hr hnow hs9 hstep hg0 hg1 hgA
     go_wp2_with fail
     go_roundg gj'
     case measure => omega
     case rel => exact ⟨j + 1, by push_cast; rfl, by omega, HS9, HB9, by omega⟩
    ·have u6 : ¬ (j : Int) < (nA : Int) := by omega
     obtain ⟨he, hx0, hnA, eA, hcell, hat0⟩ := HE.out
     obtain rfl : j = nA := by omega
     have hs1 := HSj.out
     have hnx := lsE_next (p := p) (f0 := fa) he
     rw [hnA] at hnx
     rw [hnx] at hs1
     obtain ⟨iV, zV, hiV, hzV, hzV5, hsV, hbV⟩ := infoE
     have hdr : (m0.ms.drop nE)[i]? = some x0 := by rw [List.getElem?_drop]; exact hx0
     have hcE1 : ((m0.ms.drop nE).take (i + 1)).flatMap ExM.cells = ((m0.ms.drop nE).take i).flatMap ExM.cells ++ [.int .i64 e.k, .string e.x, .slice adA j cA, .slice adK nK cK, .int .i64 (at0 : Int)] := by
      have h9 : x0.cells = [.int .i64 e.k, .string e.x, .slice adA j cA, .slice adK nK cK, .int .i64 (at0 : Int)] := by rw [hcell, ← hat0]; rfl
      rw [flat_takeJ hdr, h9]
     have hrow := hs1.oE.alloc (.cells #[.int .i64 e.k, .string e.x, .slice adA j cA, .slice adK nK cK, .int .i64 (at0 : Int)] 38)
     have hblk := World.alloc_heap_new wr (.cells #[.int .i64 e.k, .string e.x, .slice adA j cA, .slice adK nK cK, .int .i64 (at0 : Int)] 38)
     have t0 := HBj.out.cell 0
     have t1 := HBj.out.cell 1
     have t2 := HBj.out.cell 2
     have t3 := HBj.out.cell 3
     have t4 := HBj.out.cell 4
     have kh := hs1.bh.cell 0
     have HS1 := Lib.hid hs1
     have HC1 := Lib.hid hcE1
     have hL : Bh + 1 ≤ wr.heap.size := hs1.p4
     have hlw : Bh < Bh + 1 := by omega
     clear he hx0 hnA eA hcell hat0 hs1 hnx hdr hcE1
     go_wp2_with (at_builtin; refine wpList_append_lies _ rfl (.tmp 130) (.tmp 132) 24 rfl (Bh + 1) 38 iV zV 5 80 Tryz.underlying24 hiV hzV hsV hbV (by rw [hzV5]) (by decide) _ _ _ rfl hrow ⟨wr.heap.size, 0, none⟩ 1 1 [.int .i64 e.k, .string e.x, .slice adA j cA, .slice adK nK cK, .int .i64 (at0 : Int)] rfl rfl (World.news_of_block hblk) (by intro u hu; simp at hu; rcases hu with rfl | rfl | rfl | rfl | rfl <;> rfl) (by decide) (by unfold maxLen; omega) (by omega) (by simp; omega) _ rfl ?_; intro g2 cap2 w5 hown hgrow hat hlt; refine Hid.out ?_)
     refine Lib.hid ?_
     obtain ⟨hs2, f5⟩ := HS1.out.appE hown hgrow hat
     have c5 := ((HS1.out.bh.alloc (.cells #[.int .i64 e.k, .string e.x, .slice adA j cA, .slice adK nK cK, .int .i64 (at0 : Int)] 38)).grw hgrow (own_ne HS1.out.oE hlw)).cell 0
     rw [← HC1.out] at hs2
     have HS2 := Lib.hid hs2
     clear hs2 hown hgrow hat hlt hrow hblk
     go_wp2_with fail
     go_roundg g'
     case measure => omega
     case rel => exact ⟨i + 1, some ⟨g2, 0, none⟩, cap2, by push_cast; rfl, by omega, HS2, by omega⟩
  ·have q1 : ¬ (i : Int) < (nE' : Int) := by omega
   obtain rfl : nE' = i := by omega
   have kz1 : wr.cell? ⟨Bz, 1, none⟩ = some (.slice zB (nB + nB') yB) := by rw [← HM.out.2.1]; exact HJi.out.bz.cell 1
   obtain ⟨qB, rB, hslB, hqB⟩ := tail_bl zB nB nB' yB HL.out.2.1
   have HQB := Lib.hid hqB
   have w1 : (0 : Int) ≤ (nB : Int) := by omega
   clear hqB HJ hslE
   go_wp2_with fail
   clear kz1
   go_loopg [141] (nB' + 1) (fun gf s141 wx => ∃ (i : Nat) (aG : Option Addr) (cG : Nat), s141 = .int .i64 (i : Int) ∧ i ≤ nB' ∧ JS w7 wx F lo Bz Bh m0 p fa fb nE nB nE' 0 i 0 0 (.slice aH nE' cH) (.slice aG i cG) (.slice none 0 0) nE' i 0 ∧ i + gf = nB' + 1)
   case atStart => exact ⟨0, none, 0, rfl, by omega, HJi, by omega⟩
   case round =>
    obtain ⟨i, aG, cG, rfl, hile, HKi, hgf⟩ := hrel
    clear HJi
    by_cases hi : i < nB'
    ·obtain ⟨g', rfl⟩ : ∃ g', gk = g' + 1 := ⟨gk - 1, by omega⟩
     obtain ⟨b, he⟩ : ∃ e, fb.blocks[i]? = some e := ⟨_, List.getElem?_eq_getElem (by rw [HNB.out.2.1]; exact hi)⟩
     obtain ⟨x0, hx0⟩ : ∃ x, m0.ns[nB + i]? = some x := ⟨_, List.getElem?_eq_getElem (by rw [HM.out.2.2.2.2.1]; omega)⟩
     have hst : (lsB p fa fb i 0 0)[nB + i]? = some (exB p fa 0 0 b) := by rw [← HNA.out.2.1, lsB_at he, stB_at]
     obtain ⟨gE, cE0, e0, hcE0, hx⟩ := HKi.out.file.bl hx0 hst
     rw [HM.out.2.1] at e0
     have hz : zB = some ⟨gE, 0, none⟩ := by injection e0
     obtain ⟨hq, hrE⟩ := HQB.out (by omega)
     have hq2 : qB = some ⟨gE, nB * 5, none⟩ := by rw [hq, hz]; show some (Addr.add _ _) = _; rw [add_off]
     subst hq2
     obtain ⟨nL, hnL⟩ : ∃ n, b.labels.length = n := ⟨_, rfl⟩
     obtain ⟨nA, hnA⟩ : ∃ n, b.attrs.length = n := ⟨_, rfl⟩
     obtain ⟨nK, hnK⟩ : ∃ n, b.blocks.length = n := ⟨_, rfl⟩
     obtain ⟨at0, hat0⟩ : ∃ n, b.at_ + p = n := ⟨_, rfl⟩
     obtain ⟨⟨adL, cL, eL⟩, -⟩ := hx.labels
     obtain ⟨⟨adA, cA, eA⟩, -⟩ := hx.attrs
     obtain ⟨⟨adK, cK, eK⟩, -⟩ := hx.blocks
     have hsm := HY.out.2.2.1.blocks b (List.mem_of_getElem? he)
     have hbA : nA ≤ 9223372036854775807 := by rw [← hnA]; exact hsm.2.1
     have hbK : nK ≤ 9223372036854775807 := by rw [← hnK]; exact hsm.2.2
     have hbE : nB' ≤ 16384 := HN.out.2.2.2.1
     have hln : (exB p fa 0 0 b).labels.length = nL := hnL
     have hmn : (exB p fa 0 0 b).attrs.length = nA := (midA_len _).trans hnA
     have hkn : (exB p fa 0 0 b).blocks.length = nK := (midN_len _).trans hnK
     rw [hln] at eL
     rw [hmn] at eA
     rw [hkn] at eK
     have h5 : (nB + i) * 5 = nB * 5 + i * 5 := Nat.add_mul _ _ _
     have hcell := HKi.out.file.cellsB hx0 hst
     rw [eL, eA, eK] at hcell
     have r0 : wr.cell? ⟨gE, nB * 5 + i * 5, none⟩ = some (.string b.t) := by rw [← h5]; exact hx.c_t
     have r1 : wr.cell? ⟨gE, nB * 5 + i * 5 + 1, none⟩ = some (.slice adL nL cL) := by rw [← h5, ← eL]; exact hx.c_lv
     have r2 : wr.cell? ⟨gE, nB * 5 + i * 5 + 2, none⟩ = some (.slice adA nA cA) := by rw [← h5, ← eA]; exact hx.c_av
     have r3 : wr.cell? ⟨gE, nB * 5 + i * 5 + 3, none⟩ = some (.slice adK nK cK) := by rw [← h5, ← eK]; exact hx.c_bv
     have r4 : wr.cell? ⟨gE, nB * 5 + i * 5 + 4, none⟩ = some (.int .i64 (at0 : Int)) := by rw [← h5, ← hat0]; exact hx.c_at_
     have q1 : (i : Int) < (nB' : Int) := by omega
     have q0 : (0 : Int) ≤ (i : Int) := by omega
     have bE := Blk.new wr #[.string b.t, .slice adL nL cL, .slice adA nA cA, .slice adK nK cK, .int .i64 (at0 : Int)] 41
     have t2 := bE.cell 2
     obtain ⟨w6, hw6⟩ : ∃ w6, (wr.alloc (.cells #[.string b.t, .slice adL nL cL, .slice adA nA cA, .slice adK nK cK, .int .i64 (at0 : Int)] 41)) = w6 := ⟨_, rfl⟩
     have HSL := Lib.hid (HKi.out.more (below_new wr (.cells #[.string b.t, .slice adL nL cL, .slice adA nA cA, .slice adK nK cK, .int .i64 (at0 : Int)] 41)))
     have hQ : Bz ≤ wr.heap.size := by have h1 := HKi.out.p2; have h2 := HKi.out.p4; omega
     have HW6 := Lib.hid hw6
     have HE := Lib.hid (And.intro he (And.intro hx0 (And.intro hnA (And.intro eA (And.intro hcell (And.intro hat0 (And.intro hnK eK)))))))
     have HBk := Lib.hid bE
     have HQQ := Lib.hid hQ
     rw [hw6] at HSL HBk
     clear hx bE hw6 he hx0 hnL hnA hnK eL eA eK hat0 hcell h5 hst hz hq hln hmn hkn hQ e0 hcE0 hrE hsm
     go_wp2_with fail
     rw [HW6.out]
     clear r0 r1 r2 r3 r4 t2
     obtain ⟨Q, hQ⟩ : ∃ k, wr.heap.size = k := ⟨_, rfl⟩
     rw [hQ] at HBk HQQ ⊢
     clear hQ HW6 HKi
     go_loopg [148] (nA + 1) (fun gf s148 wx => ∃ j : Nat, s148 = .int .i64 (j : Int) ∧ j ≤ nA ∧ JS w7 wx F lo Bz Bh m0 p fa fb nE nB nE' 0 i j 0 (.slice aH nE' cH) (.slice aG i cG) (.slice none 0 0) nE' i 0 ∧ Hid (Blk wx Q #[.string b.t, .slice adL nL cL, .slice adA nA cA, .slice adK nK cK, .int .i64 (at0 : Int)] 41) ∧ j + gf = nA + 1)
     case atStart => exact ⟨0, rfl, by omega, HSL, HBk, by omega⟩
     case round =>
      obtain ⟨j, rfl, hjle, HSj, HBj, hgj⟩ := hrel
      clear HSL HBk
      by_cases hj : j < nA
      ·obtain ⟨gj', rfl⟩ : ∃ g', gk = g' + 1 := ⟨gk - 1, by omega⟩
       obtain ⟨he, hx0, hnA, eA, hcell, hat0, -, -⟩ := HE.out
       obtain ⟨a1, ha⟩ : ∃ a, b.attrs[j]? = some a := ⟨_, List.getElem?_eq_getElem (by omega)⟩
       have ha1 : a1.e < nE' := by rw [← HNB.out.1]; exact HUS.out.2.1 b (List.mem_of_getElem? he) a1 (List.mem_of_getElem? ha)
       have hst : (lsB p fa fb i j 0)[nB + i]? = some (exB p fa j 0 b) := by rw [← HNA.out.2.1, lsB_at he, stB_at]
       obtain ⟨gE', cE0, -, -, hx⟩ := HSj.out.file.bl hx0 hst
       have hrow := hx.attrs
       have hmn : (exB p fa j 0 b).attrs.length = nA := (midA_len _).trans hnA
       have hat1 : (exB p fa j 0 b).attrs[j]? = some ⟨a1.n, a1.e + fa.exprs.length, a1.at_ + p⟩ := midA_at ha
       rw [hmn] at hrow
       rcases hrow.2 with h0 | ⟨gA, cA', e1, hcA, hgA, hr⟩
       ·omega
       have e2 := eA.symm.trans e1
       cases e2
       have rA : wr.cell? ⟨gA, j * 3 + 1, none⟩ = some (.int .i64 ((a1.e : Int) + (nE : Int))) := hr (j * 3 + 1) _ ((flat_at AtS.cells 3 (fun _ => rfl) _ j 1 _ hat1 (by omega)).trans (by
        rw [HNA.out.1]
        show some (Value.int .i64 ((a1.e + nE : Nat) : Int)) = _
        simp))
       obtain ⟨hnow, hg0, hg1, fA⟩ := HSj.out.file.attr hx0 e1 hst hat1 a1.e
       have hstep := lsB_stepA (p := p) (f0 := fa) (kb := 0) he ha
       rw [HNA.out.2.1] at hstep
       have hnow2 : Now (wr.setCell ⟨gA, j * 3 + 1, none⟩ (.int .i64 (a1.e : Int))) F lo w7.heap.size Bz m0 ⟨lsE p fa fb nE' 0, lsB p fa fb i (j + 1) 0, fa.top ++ fb.top.map (· + fa.blocks.length)⟩ := by
        rw [← hstep]; exact hnow
       have HS9 := Lib.hid (HSj.out.put hg0 hg1 (.int .i64 (a1.e : Int)) hnow2)
       have HB9 := Lib.hid (HBj.out.other (p := ⟨gA, j * 3 + 1, none⟩) (by show Q ≠ gA; have := HQQ.out; omega) (.int .i64 (a1.e : Int)))
       have t2 := HBj.out.cell 2
       have u0 : (0 : Int) ≤ (a1.e : Int) := by omega
       have u4 : (a1.e : Int) ≤ 16384 := by have := HN.out.2.1; omega
       have u6 : (j : Int) < (nA : Int) := by omega
       have u7 : (0 : Int) ≤ (j : Int) := by omega
       clear he hx0 hnA eA hcell hat0 ha ha1 hst hx hrow hmn hat1 e1 hr hnow hnow2 hstep hg0 hg1 hgA
       go_wp2_with fail
       go_roundg gj'
       case measure => omega
       case rel => exact ⟨j + 1, by push_cast; rfl, by omega, HS9, HB9, by omega⟩
      ·have u6 : ¬ (j : Int) < (nA : Int) := by omega
       obtain rfl : nA = j := by omega
       have t3 := HBj.out.cell 3
       go_wp2_with fail
       clear t3
       go_loopg [165] (nK + 1) (fun gf s165 wx => ∃ j : Nat, s165 = .int .i64 (j : Int) ∧ j ≤ nK ∧ JS w7 wx F lo Bz Bh m0 p fa fb nE nB nE' 0 i nA j (.slice aH nE' cH) (.slice aG i cG) (.slice none 0 0) nE' i 0 ∧ Hid (Blk wx Q #[.string b.t, .slice adL nL cL, .slice adA nA cA, .slice adK nK cK, .int .i64 (at0 : Int)] 41) ∧ j + gf = nK + 1)
       case atStart => exact ⟨0, rfl, by omega, HSj, HBj, by omega⟩
       case round =>
        obtain ⟨j, rfl, hjle, HSl, HBl, hgj⟩ := hrel
        clear HSj HBj
        by_cases hj : j < nK
        ·obtain ⟨gj', rfl⟩ : ∃ g', gk = g' + 1 := ⟨gk - 1, by omega⟩
         obtain ⟨he, hx0, -, -, hcell, hat0, hnK, eK⟩ := HE.out
         obtain ⟨a1, ha⟩ : ∃ a, b.blocks[j]? = some a := ⟨_, List.getElem?_eq_getElem (by omega)⟩
         have ha1 : a1 < i := HUS.out.2.2.1 i b he a1 (List.mem_of_getElem? ha)
         have hst : (lsB p fa fb i nA j)[nB + i]? = some (exB p fa nA j b) := by rw [← HNA.out.2.1, lsB_at he, stB_at]
         obtain ⟨gE', cE0, -, -, hx⟩ := HSl.out.file.bl hx0 hst
         have hrow := hx.blocks
         have hmn : (exB p fa nA j b).blocks.length = nK := (midN_len _).trans hnK
         rw [hmn] at hrow
         rcases hrow.2 with h0 | ⟨gA, cA', e1, hcA, hgA, hr⟩
         ·omega
         have e2 := eK.symm.trans e1
         cases e2
         have rA : wr.cell? ⟨gA, j, none⟩ = some (.int .i64 ((a1 : Int) + (nB : Int))) := hr j _ (by
          show (intsV (midN _ _ _))[j]? = _
          unfold intsV
          rw [List.getElem?_map, midN_at ha, HNA.out.2.1]
          simp)
         obtain ⟨hnow, hg0, hg1, fA⟩ := HSl.out.file.kid hx0 e1 hst (k := j) (by rw [hmn]; exact hj) a1
         have hs9 := HSl.out.put hg0 hg1 (.int .i64 (a1 : Int)) hnow
         have hstep := lsB_stepB (p := p) (f0 := fa) (ka := nA) he ha
         rw [HNA.out.2.1] at hstep
         rw [hstep] at hs9
         have HS9 := Lib.hid hs9
         have HB9 := Lib.hid (HBl.out.other (p := ⟨gA, j, none⟩) (by show Q ≠ gA; have := HQQ.out; omega) (.int .i64 (a1 : Int)))
         have t3 := HBl.out.cell 3
         have u0 : (0 : Int) ≤ (a1 : Int) := by omega
         have u4 : (a1 : Int) ≤ 16384 := by omega
         have u6 : (j : Int) < (nK : Int) := by omega
         have u7 : (0 : Int) ≤ (j : Int) := by omega
         clear he hx0 hnK eK hcell hat0 ha ha1 hst hx hrow hmn e1 hr hnow hs9 hstep hg0 hg1 hgA
         go_wp2_with fail
         go_roundg gj'
         case measure => omega
         case rel => exact ⟨j + 1, by push_cast; rfl, by omega, HS9, HB9, by omega⟩
        ·have u6 : ¬ (j : Int) < (nK : Int) := by omega
         obtain ⟨he, hx0, hnA, -, hcell, hat0, hnK, -⟩ := HE.out
         obtain rfl : nK = j := by omega
         have hs1 := HSl.out
         have hnx := lsB_next (p := p) (f0 := fa) he
         rw [hnA, hnK] at hnx
         rw [hnx] at hs1
         obtain ⟨iV, zV, hiV, hzV, hzV5, hsV, hbV⟩ := infoB
         have hdr : (m0.ns.drop nB)[i]? = some x0 := by rw [List.getElem?_drop]; exact hx0
         have hcE1 : ((m0.ns.drop nB).take (i + 1)).flatMap BlM.cells = ((m0.ns.drop nB).take i).flatMap BlM.cells ++ [.string b.t, .slice adL nL cL, .slice adA nA cA, .slice adK nK cK, .int .i64 (at0 : Int)] := by
          have h9 : x0.cells = [.string b.t, .slice adL nL cL, .slice adA nA cA, .slice adK nK cK, .int .i64 (at0 : Int)] := by rw [hcell, ← hat0]; rfl
          rw [flat_takeJ hdr, h9]
         have hrow := hs1.oB.alloc (.cells #[.string b.t, .slice adL nL cL, .slice adA nA cA, .slice adK nK cK, .int .i64 (at0 : Int)] 41)
         have hblk := World.alloc_heap_new wr (.cells #[.string b.t, .slice adL nL cL, .slice adA nA cA, .slice adK nK cK, .int .i64 (at0 : Int)] 41)
         have t0 := HBl.out.cell 0
         have t1 := HBl.out.cell 1
         have t2 := HBl.out.cell 2
         have t3 := HBl.out.cell 3
         have t4 := HBl.out.cell 4
         have kh := hs1.bh.cell 1
         have HS1 := Lib.hid hs1
         have HC1 := Lib.hid hcE1
         have hL : Bh + 1 ≤ wr.heap.size := hs1.p4
         have hlw : Bh < Bh + 1 := by omega
         clear he hx0 hnA hnK hcell hat0 hs1 hnx hdr hcE1
         go_wp2_with (at_builtin; refine wpList_append_lies _ rfl (.tmp 178) (.tmp 180) 25 rfl (Bh + 1) 41 iV zV 5 96 Tryz.underlying25 hiV hzV hsV hbV (by rw [hzV5]) (by decide) _ _ _ rfl hrow ⟨wr.heap.size, 0, none⟩ 1 1 [.string b.t, .slice adL nL cL, .slice adA nA cA, .slice adK nK cK, .int .i64 (at0 : Int)] rfl rfl (World.news_of_block hblk) (by intro u hu; simp at hu; rcases hu with rfl | rfl | rfl | rfl | rfl <;> rfl) (by decide) (by unfold maxLen; omega) (by omega) (by simp; omega) _ rfl ?_; intro g2 cap2 w5 hown hgrow hat hlt; refine Hid.out ?_)
         refine Lib.hid ?_
         obtain ⟨hs2, f5⟩ := HS1.out.appB hown hgrow hat
         have c5 := ((HS1.out.bh.alloc (.cells #[.string b.t, .slice adL nL cL, .slice adA nA cA, .slice adK nK cK, .int .i64 (at0 : Int)] 41)).grw hgrow (own_ne HS1.out.oB hlw)).cell 1
         rw [← HC1.out] at hs2
         have HS2 := Lib.hid hs2
         clear hs2 hown hgrow hat hlt hrow hblk
         go_wp2_with fail
         go_roundg g'
         case measure => omega
         case rel => exact ⟨i + 1, some ⟨g2, 0, none⟩, cap2, by push_cast; rfl, by omega, HS2, by omega⟩
    ·have q1 : ¬ (i : Int) < (nB' : Int) := by omega
     obtain rfl : nB' = i := by omega
     have kz2 : wr.cell? ⟨Bz, 2, none⟩ = some (.slice zT (nT + nT') yT) := by rw [← HM.out.2.2.1]; exact HKi.out.bz.cell 2
     have kx2 := (HX6.out.1.below HKi.out.below).cell 2
     obtain ⟨qT, rT, hslT, hqT⟩ := tail_in zT nT nT' yT HL.out.2.2
     have HQT := Lib.hid hqT
     have w2 : (0 : Int) ≤ (nT : Int) := by omega
     clear hqT hslB
     go_wp2_with fail
     clear kz2 kx2
     go_loopg [191] (nT' + 1) (fun gf s191 wx => ∃ (i : Nat) (aU : Option Addr) (cU : Nat), s191 = .int .i64 (i : Int) ∧ i ≤ nT' ∧ JS w7 wx F lo Bz Bh m0 p fa fb nE nB nE' 0 nB' 0 0 (.slice aH nE' cH) (.slice aG nB' cG) (.slice aU i cU) nE' nB' i ∧ i + gf = nT' + 1)
     case atStart => exact ⟨0, none, 0, rfl, by omega, HKi, by omega⟩
     case round =>
      obtain ⟨i, aU, cU, rfl, hile, HTi, hgf⟩ := hrel
      clear HKi
      by_cases hi : i < nT'
      ·obtain ⟨g', rfl⟩ : ∃ g', gk = g' + 1 := ⟨gk - 1, by omega⟩
       obtain ⟨a1, ha⟩ : ∃ e, fb.top[i]? = some e := ⟨_, List.getElem?_eq_getElem (by rw [HNB.out.2.2]; exact hi)⟩
       have ha1 : a1 < nB' := by rw [← HNB.out.2.1]; exact HUS.out.2.2.2 a1 (List.mem_of_getElem? ha)
       have hrow := HTi.out.file.tp
       have hat : (intsV (fa.top ++ fb.top.map (· + fa.blocks.length)))[nT + i]? = some (.int .i64 ((a1 : Int) + (nB : Int))) := by
        unfold intsV
        rw [List.getElem?_map, List.getElem?_append_right (by rw [HNA.out.2.2]; omega), HNA.out.2.2, show nT + i - nT = i by omega, List.getElem?_map, ha, HNA.out.2.1]
        simp
       rcases hrow.2 with h0 | ⟨gT, cA', e1, hcA, hgA, hr⟩
       ·have h1 : (fa.top ++ fb.top.map (· + fa.blocks.length)).length = 0 := h0
        rw [List.length_append, List.length_map, HNB.out.2.2] at h1
        omega
       rw [HM.out.2.2.1] at e1
       have hz : zT = some ⟨gT, 0, none⟩ := by injection e1
       obtain ⟨hq, hrE⟩ := HQT.out (by omega)
       have hq2 : qT = some ⟨gT, nT, none⟩ := by rw [hq, hz]; show some (Addr.add _ _) = _; rw [add_off, Nat.mul_one]
       subst hq2
       have rA : wr.cell? ⟨gT, nT + i, none⟩ = some (.int .i64 ((a1 : Int) + (nB : Int))) := hr _ _ hat
       obtain ⟨iI, hiI, hzI, hsI, hbI⟩ := info_of infoInt0
       have hcE1 : intsV (fb.top.take (i + 1)) = intsV (fb.top.take i) ++ [.int .i64 (a1 : Int)] := by
        unfold intsV
        rw [List.take_add_one, ha, List.map_append]
        rfl
       have hrw := HTi.out.oT.alloc (.cells #[.int .i64 (a1 : Int)] 3)
       have hblk := World.alloc_heap_new wr (.cells #[.int .i64 (a1 : Int)] 3)
       have kh := HTi.out.bh.cell 2
       have HC1 := Lib.hid hcE1
       have hL : Bh + 1 ≤ wr.heap.size := HTi.out.p4
       have hlw : Bh < Bh + 1 := by omega
       have u0 : (0 : Int) ≤ (a1 : Int) := by omega
       have u4 : (a1 : Int) ≤ 16384 := by have := HN.out.2.2.2.1; omega
       have u5 : nT' ≤ 16384 := HN.out.2.2.2.2.2
       have q1 : (i : Int) < (nT' : Int) := by omega
       have q0 : (0 : Int) ≤ (i : Int) := by omega
       clear ha ha1 hrow hat e1 hr hz hq hrE hcE1 hgA hcA
       go_wp2_with (at_builtin; refine wpList_append_lies _ rfl (.tmp 196) (.tmp 200) 26 rfl (Bh + 1) 3 iI (.int .i64 0) 1 8 Tryz.underlying26 hiI hzI hsI hbI rfl (by decide) _ _ _ rfl hrw ⟨wr.heap.size, 0, none⟩ 1 1 [.int .i64 (a1 : Int)] rfl rfl (World.news_of_block hblk) (by intro u hu; simp at hu; subst hu; rfl) (by decide) (by unfold maxLen; omega) (by omega) (by simp; omega) _ rfl ?_; intro g2 cap2 w5 hown hgrow hat hlt; refine Hid.out ?_)
       refine Lib.hid ?_
       obtain ⟨hs2, f5⟩ := HTi.out.appT hown hgrow hat
       have c5 := ((HTi.out.bh.alloc (.cells #[.int .i64 (a1 : Int)] 3)).grw hgrow (own_ne HTi.out.oT hlw)).cell 2
       rw [← HC1.out] at hs2
       have HS2 := Lib.hid hs2
       clear hs2 hown hgrow hat hlt hrw hblk
       go_wp2_with fail
       go_roundg g'
       case measure => omega
       case rel => exact ⟨i + 1, some ⟨g2, 0, none⟩, cap2, by push_cast; rfl, by omega, HS2, by omega⟩
      ·have q1 : ¬ (i : Int) < (nT' : Int) := by omega
       obtain rfl : nT' = i := by omega
       clear hslT
       go_wp2_with fail
       have lE : (lsE p fa fb nE' 0).length = nE + nE' := by rw [lsE_len, HNA.out.1, HNB.out.1]
       have lB : (lsB p fa fb nB' 0 0).length = nB + nB' := by rw [lsB_len, HNA.out.2.1, HNB.out.2.1]
       have lT : (fa.top ++ fb.top.map (· + fa.blocks.length)).length = nT + nT' := by rw [List.length_append, List.length_map, HNA.out.2.2, HNB.out.2.2]
       have hfr := HTi.out.file.front (n := nE) (m := nB) (t := nT) (by show nE ≤ (lsE p fa fb nE' 0).length; omega) (by show nB ≤ (lsB p fa fb nB' 0 0).length; omega) (by show nT ≤ (fa.top ++ fb.top.map (· + fa.blocks.length)).length; omega) (by rw [HM.out.1]; show _ = Value.slice zE (lsE p fa fb nE' 0).length yE; rw [lE]) (by rw [HM.out.2.1]; show _ = Value.slice zB (lsB p fa fb nB' 0 0).length yB; rw [lB]) (by rw [HM.out.2.2.1]; show _ = Value.slice zT (fa.top ++ fb.top.map (· + fa.blocks.length)).length yT; rw [lT])
       have g1 : (lsE p fa fb nE' 0).take nE = fa.exprs := by rw [← HNA.out.1]; exact lsE_take
       have g2 : (lsB p fa fb nB' 0 0).take nB = fa.blocks := by rw [← HNA.out.2.1]; exact lsB_take
       have g3 : (fa.top ++ fb.top.map (· + fa.blocks.length)).take nT = fa.top := by rw [← HNA.out.2.2]; simp
       have hfr2 : FileRd wr (.slice zE nE yE) (.slice zB nB yB) (.slice zT nT yT) fa := by
        have h1 : FileRd wr (.slice zE nE yE) (.slice zB nB yB) (.slice zT nT yT) ⟨(lsE p fa fb nE' 0).take nE, (lsB p fa fb nB' 0 0).take nB, (fa.top ++ fb.top.map (· + fa.blocks.length)).take nT⟩ := hfr
        rw [g1, g2, g3] at h1
        exact h1
       have hbh := HTi.out.behind (n := nE) (m := nB) (tl := fb.top) (by rw [List.take_of_length_le (by rw [List.length_drop, HM.out.2.2.2.1]; omega)]) (by rw [List.take_of_length_le (by rw [List.length_drop, HM.out.2.2.2.2.1]; omega)]) (by rw [List.take_of_length_le (by rw [HNB.out.2.2]; omega)]) (by show nE' = ((lsE p fa fb nE' 0).drop nE).length; rw [List.length_drop, lE]; omega) (by show nB' = ((lsB p fa fb nB' 0 0).drop nB).length; rw [List.length_drop, lB]; omega) HNB.out.2.2.symm
       have hlk := like_behind (p := p) (f0 := fa) (fb := fb) 0 0 0
       have hsb := small_behind (p := p) (f0 := fa) HY.out.2.2.1 0 0 0
       rw [HNA.out.1, HNB.out.1, HNA.out.2.1, HNB.out.2.1] at hlk hsb
       have hxr := HX6.out.2.1.below HTi.out.below
       have hyr := HY.out.2.1.below HTi.out.below
       have HC1 : Hid (∀ w', Below wr.heap.size wr w' → Calls Tryz.prog 12 #[.agg #[.slice zE nE yE, .slice zB nB yB, .slice zT nT yT], .agg #[.slice aE nE cE, .slice aB nB cB, .slice aT nT cT], .bool true] w' fun e w'' => e = .returned (.bool true) ∧ Below w'.heap.size w' w'') := Lib.hid (fun w' hb => same_places (hfr2.below hb) (hxr.below hb) (like_self true fa) HX6.out.2.2.1)
       have HC2 : Hid (∀ w', Below wr.heap.size wr w' → Calls Tryz.prog 12 #[.agg #[.slice aH nE' cH, .slice aG nB' cG, .slice aU nT' cU], .agg #[.slice aE' nE' cE', .slice aB' nB' cB', .slice aT' nT' cT'], .bool false] w' fun e w'' => e = .returned (.bool true) ∧ Below w'.heap.size w' w'') := Lib.hid (fun w' hb => same_else (hbh.below hb) (hyr.below hb) hlk hsb)
       have hBz := HTi.out.bz
       rw [HM.out.1, HM.out.2.1, HM.out.2.2.1] at hBz
       have HS : Hid (∀ w', Below wr.heap.size wr w' → Hid (Below wr.heap.size wr w') ∧ w'.cell? ⟨Bz, 0, none⟩ = some (.slice zE (nE + nE') yE) ∧ w'.cell? ⟨Bz, 1, none⟩ = some (.slice zB (nB + nB') yB) ∧ w'.cell? ⟨Bz, 2, none⟩ = some (.slice zT (nT + nT') yT) ∧ w'.cell? ⟨Bx, 0, none⟩ = some (.slice aE nE cE) ∧ w'.cell? ⟨Bx, 1, none⟩ = some (.slice aB nB cB) ∧ w'.cell? ⟨Bx, 2, none⟩ = some (.slice aT nT cT) ∧ w'.cell? ⟨Bh, 0, none⟩ = some (.slice aH nE' cH) ∧ w'.cell? ⟨Bh, 1, none⟩ = some (.slice aG nB' cG) ∧ w'.cell? ⟨Bh, 2, none⟩ = some (.slice aU nT' cU) ∧ w'.cell? ⟨By, 0, none⟩ = some (.slice aE' nE' cE') ∧ w'.cell? ⟨By, 1, none⟩ = some (.slice aB' nB' cB') ∧ w'.cell? ⟨By, 2, none⟩ = some (.slice aT' nT' cT')) := Lib.hid (fun w' hb => by
        have x := (HX6.out.1.below HTi.out.below).below hb
        have y := (HY.out.1.below HTi.out.below).below hb
        have z := hBz.below hb
        have h := HTi.out.bh.below hb
        exact ⟨Lib.hid hb, z.cell 0, z.cell 1, z.cell 2, x.cell 0, x.cell 1, x.cell 2, h.cell 0, h.cell 1, h.cell 2, y.cell 0, y.cell 1, y.cell 2⟩)
       have HW := Lib.hid (HB6.out.trans (HTi.out.below.mono HB6.out.size))
       have hd1 := head_ex zE nE (nE + nE') yE (by have := HL.out.1; omega) HM.out.2.2.2.2.2.1
       have hd2 := head_bl zB nB (nB + nB') yB (by have := HL.out.2.1; omega) HM.out.2.2.2.2.2.2.1
       have hd3 := head_in zT nT (nT + nT') yT (by have := HL.out.2.2; omega) HM.out.2.2.2.2.2.2.2
       clear lE lB lT hfr g1 g2 g3 hfr2 hbh hlk hsb hxr hyr hBz HTi HX6 HY HM HL HZ H79 H910 HB6 HUS HBD HNA HNB HN HPA HPB HPZ HR HQE HQB HQT
       go_region_held3 (fun w' => Hid (Below wr.heap.size wr w') ∧ w'.cell? ⟨Bz, 0, none⟩ = some (.slice zE (nE + nE') yE) ∧ w'.cell? ⟨Bz, 1, none⟩ = some (.slice zB (nB + nB') yB) ∧ w'.cell? ⟨Bz, 2, none⟩ = some (.slice zT (nT + nT') yT) ∧ w'.cell? ⟨Bx, 0, none⟩ = some (.slice aE nE cE) ∧ w'.cell? ⟨Bx, 1, none⟩ = some (.slice aB nB cB) ∧ w'.cell? ⟨Bx, 2, none⟩ = some (.slice aT nT cT) ∧ w'.cell? ⟨Bh, 0, none⟩ = some (.slice aH nE' cH) ∧ w'.cell? ⟨Bh, 1, none⟩ = some (.slice aG nB' cG) ∧ w'.cell? ⟨Bh, 2, none⟩ = some (.slice aU nT' cU) ∧ w'.cell? ⟨By, 0, none⟩ = some (.slice aE' nE' cE') ∧ w'.cell? ⟨By, 1, none⟩ = some (.slice aB' nB' cB') ∧ w'.cell? ⟨By, 2, none⟩ = some (.slice aT' nT' cT'))
        (first | exact HS.out _ ((‹Hid (Below wr.heap.size wr _) ∧ _›).1.out.trans ((‹Below _ _ _›).mono (‹Hid (Below wr.heap.size wr _) ∧ _›).1.out.size)) | exact HS.out _ (Below.refl _ _).drew | go_keep)
        (first
         | (go_at_call 12; with_reducible refine (HC1.out _ (‹Hid (Below wr.heap.size wr _) ∧ _›).1.out).mono ?_; rintro e w20 ⟨rfl, hb20⟩)
         | (go_at_call 12; with_reducible refine (HC2.out _ (‹Hid (Below wr.heap.size wr _) ∧ _›).1.out).mono ?_; rintro e w22 ⟨rfl, hb22⟩))
       go_wp2_with fail
       go_ret
       exact ⟨rfl, HW.out.trans ((‹Hid (Below wr.heap.size wr _) ∧ _›).1.out.mono HW.out.size)⟩
end Go.Proofs.YtljgggohjigaoaaGreatDoor
namespace Go.Proofs.YtljgggohjigaoaaGreatDoor
open Go.RowKit Go.Shelf
theorem cut_short (a : ByteArray) : (a.extract 0 (min a.size 2000)).size ≤ 2000 := by
 rw [ByteArray.size_extract]
 omega
theorem joinl_any {W : World} (a b : ByteArray) (hW : ReadyP W) : Calls Tryz.prog 5 #[.string a, .string b] W fun e w' => e = .returned (.bool true) ∧ Below W.heap.size W w' := by
 cases hpa : parseF (a.extract 0 (min a.size 2000)) with
 | error e => exact joined_bad rfl rfl rfl rfl hpa rfl (.inl fun f h => by cases h) hW
 | ok fa =>
  cases hpb : parseF (b.extract 0 (min b.size 2000)) with
  | error e => exact joined_bad rfl rfl rfl rfl hpa hpb (.inr fun f h => by cases h) hW
  | ok fb => exact joined_ok rfl rfl rfl rfl hpa hpb (parse_two (two_cat _ _) (cut_short a) (cut_short b) hpa hpb) rfl (cut_short a) (cut_short b) (use_bounds hpa).1 (use_bounds hpb).1 (use_bounds hpb).2 hW
end Go.Proofs.YtljgggohjigaoaaGreatDoor
