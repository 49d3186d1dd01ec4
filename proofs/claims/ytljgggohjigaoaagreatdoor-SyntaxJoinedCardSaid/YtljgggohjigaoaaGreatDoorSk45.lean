/- . -/
import Derived.Test.YtljgggohjigaoaaGreatDoorSk33
import Derived.Test.YtljgggohjigaoaaGreatDoorSk43
import Derived.Test.YtljgggohjigaoaaGreatDoorSk44
namespace Go.Proofs.YtljgggohjigaoaaGreatDoor
open Go.RowKit Go.Shelf
set_option linter.unusedVariables false

theorem use_bounds {t : ByteArray} {f : Fi} (hp : parseF t = .ok f) : (f.exprs.length ≤ 16384 ∧ f.blocks.length ≤ 16384 ∧ f.top.length ≤ 16384) ∧ (∀ (i : Nat) (e : Ex), f.exprs[i]? = some e → ∀ a ∈ e.args, a < i) ∧ (∀ b ∈ f.blocks, ∀ a ∈ b.attrs, a.e < f.exprs.length) ∧ (∀ (i : Nat) (b : Bl), f.blocks[i]? = some b → ∀ k ∈ b.blocks, k < i) ∧ ∀ k ∈ f.top, k < f.blocks.length := by
 have hU := parse_use hp
 have hL := parse_len hp
 have hT := hU.lenK
 exact ⟨⟨by omega, by omega, by omega⟩, hU.args, fun b hb a ha => (hU.attrs b hb a ha).1, hU.blocks, hU.top⟩
theorem two_cat (a b : ByteArray) : (a ++ ⟨#[10]⟩ ++ b).data.toList = a.data.toList ++ 10 :: b.data.toList := by
 rw [ByteArray.data_append, ByteArray.data_append, Array.toList_append, Array.toList_append]
 -- parse_any awake5 same_places same_else parse_two readyP_of laidS returns_of ReadyP below par_any
 -- Jst more put arg attr kid ex bl cellsE cellsB appE appB appT behind front own_form lsE_len lsB_len lsE_take lsB_take like_behind like_self small_behind
 -- lsE_start lsB_start lsE_at lsB_at stE_at stB_at lsE_step lsB_stepA lsB_stepB lsE_next lsB_next midN_at midA_at midN_len midA_len midN_zero midN_all midA_zero exE_zero exB_zero
 -- infoE infoB info_of infoInt0 below_drw2 below_new cells_keep flat_at add_off rd small lt slices map_at len_map row_read row_lt slice_of below_put5 grow grw own scan_len mod_of same keep frozen alloc cell set other new size_list
 simp
end Go.Proofs.YtljgggohjigaoaaGreatDoor
