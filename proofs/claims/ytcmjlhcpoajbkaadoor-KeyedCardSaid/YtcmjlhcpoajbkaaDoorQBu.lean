import Derived.Shelf.Strings.Builder1
import Derived.Test.YtcmjlhcpoajbkaaDoorQAp
namespace Go.Proofs.YtcmjlhcpoajbkaaDoor
set_option maxRecDepth 100000
set_option linter.unusedSimpArgs false
open Go.RowKit
/-- A builder: its own address (or none yet), its bytes in a row of one's own, beyond B. -/
structure Bld (w : World) (B g : Nat) (xs : List Int) : Prop where
  base : g < B
  size : B ≤ w.heap.size
  bytes : Bytes xs
  at_ : ∃ ad v, w.heap[g]? = some (.cells #[ad, v] 132) ∧ (ad = .pointer none ∨ ad = .pointer (some ⟨g, 0, none⟩)) ∧ w.ownsRow B 5 1 v xs.length (xs.map (Value.int .u8))
theorem sizeBld : ∃ j, Tryd.prog.info? 132 = some j ∧ j.size = 2 := ⟨_, rfl, by kernel_rfl⟩
theorem copyCheck_fresh (w : World) (g : Nat) (v : Value) (h : w.heap[g]? = some (.cells #[.pointer none, v] 132)) :
    Calls Tryd.prog 105 #[.pointer (some ⟨g, 0, none⟩)] w fun e w' => e = .returned (.tuple #[]) ∧ w' = w.setCell ⟨g, 0, none⟩ (.pointer (some ⟨g, 0, none⟩)) := by
  have hc : w.cell? ⟨g, 0, none⟩ = some (.pointer none) := by rw [cell_of_row _ _ _ _ _ _ h]; rfl
  have hf := frozen_of_row w g 0 _ _ h
  obtain ⟨j, hj, hjs⟩ := sizeBld
  have hsh : w.shape? g = some (132, 2) := by simp [World.shape?, h]
  have c1 : (convert 130 178 (.pointer (some ⟨g, 0, none⟩))).run Tryd.prog w = .ok (.pointer (some ⟨g, 0, none⟩)) w := Lib.run_to_unsafe w ⟨g, 0, none⟩ Tryd.underlying130 Tryd.underlying178 hj (by rw [hjs]; decide) hsh (Nat.zero_lt_succ 1)
  have c2 : (convert 178 130 (.pointer (some ⟨g, 0, none⟩))).run Tryd.prog w = .ok (.pointer (some ⟨g, 0, none⟩)) w := Lib.run_from_unsafe w ⟨g, 0, none⟩ Tryd.underlying178 Tryd.underlying130 hj hsh (by kernel_rfl)
  go_enter Tryd.func105, Tryd.ntmps105
  go_wp2_with fail
  rw [run_callFunc_extern Tryd.func122 (by kernel_rfl) (by kernel_rfl) (by kernel_rfl) (e := Extern.AbiNoEscape.same) (by kernel_rfl)]
  rw [Lib.run_noEscape]
  simp only [Result.andThen]
  rw [Oper.upon_value]
  go_wp2_with fail
  go_end0
  exact ⟨rfl, rfl⟩
theorem copyCheck_used (w : World) (g : Nat) (v : Value) (h : w.heap[g]? = some (.cells #[.pointer (some ⟨g, 0, none⟩), v] 132)) :
    Calls Tryd.prog 105 #[.pointer (some ⟨g, 0, none⟩)] w fun e w' => e = .returned (.tuple #[]) ∧ w' = w := by
  have hc : w.cell? ⟨g, 0, none⟩ = some (.pointer (some ⟨g, 0, none⟩)) := by rw [cell_of_row _ _ _ _ _ _ h]; rfl
  obtain ⟨j, hj, hjs⟩ := sizeBld
  go_enter Tryd.func105, Tryd.ntmps105
  go_wp2_with fail
  rw [Lib.run_neq_ptr_same w _ Tryd.underlying130 hj]
  go_wp2_with fail
  go_end0
  exact ⟨rfl, rfl⟩
/-- Nothing below B has changed but the block g. -/
def KpG (B g : Nat) (w w' : World) : Prop := Kp (fun k => k = g ∨ B ≤ k) w w'
theorem Bld.below {w w' : World} {B g : Nat} {xs : List Int} (h : Bld w B g xs) (hb : Below w.heap.size w w') : Bld w' B g xs := by
  obtain ⟨h1, h2, h3, ad, v, h4, h5, h6⟩ := h
  refine ⟨h1, Nat.le_trans h2 hb.size, h3, ad, v, (hb.block g (row_lt h4)).trans h4, h5, ?_⟩
  obtain ⟨e1, e2 | ⟨q, cap, cur, hv, hg, hh, r⟩⟩ := h6
  · exact ⟨e1, .inl e2⟩
  · exact ⟨e1, .inr ⟨q, cap, cur, hv, hg, (hb.block q (row_lt hh)).trans hh, r⟩⟩
theorem Bld.used {w : World} {B g : Nat} {xs : List Int} (h : Bld w B g xs) :
    Calls Tryd.prog 105 #[.pointer (some ⟨g, 0, none⟩)] w fun e w' => e = .returned (.tuple #[]) ∧ Kp (fun k => k = g) w w' ∧ B ≤ w'.heap.size ∧ ∃ v, w'.heap[g]? = some (.cells #[.pointer (some ⟨g, 0, none⟩), v] 132) ∧ w'.ownsRow B 5 1 v xs.length (xs.map (Value.int .u8)) := by
  obtain ⟨h1, h2, h3, ad, v, h4, h5 | h5, h6⟩ := h
  · subst h5
    refine (copyCheck_fresh w g v h4).mono ?_
    rintro e w' ⟨rfl, rfl⟩
    refine ⟨rfl, ⟨rfl, rfl, rfl, by simp [World.setCell], fun k hk hx => Below.heap_setCell _ _ _ _ (fun e => hx e)⟩, by simpa [World.setCell] using h2, v, ?_, ?_⟩
    · have := heap_setCell_same w g 0 _ _ (.pointer (some ⟨g, 0, none⟩)) h4
      simpa using this
    · obtain ⟨e1, e2 | ⟨q, cap, cur, hv, hg, hh, r⟩⟩ := h6
      · exact ⟨e1, .inl e2⟩
      · exact ⟨e1, .inr ⟨q, cap, cur, hv, hg, (Below.heap_setCell _ _ _ _ (by show q ≠ g; omega)).trans hh, r⟩⟩
  · subst h5
    refine (copyCheck_used w g v h4).mono ?_
    rintro e w' ⟨rfl, rfl⟩
    exact ⟨rfl, ⟨rfl, rfl, rfl, Nat.le_refl _, fun _ _ _ => rfl⟩, h2, v, h4, h6⟩
end Go.Proofs.YtcmjlhcpoajbkaaDoor
