import Derived.Test.YtcmjlhcpoajbkaaDoorQSv
namespace Go.Proofs.YtcmjlhcpoajbkaaDoor
set_option maxRecDepth 10000
set_option linter.unusedSimpArgs false
open Go.RowKit
set_option maxHeartbeats 2000000 in
/-- What String tells of a builder into which nothing was written. -/
theorem string_none (w : World) (g : Nat) (h4 : w.heap[g]? = some (.cells #[.pointer none, .slice none 0 0] 132)) (B0 : Nat) :
    Calls Tryd.prog 82 #[.pointer (some ⟨g, 0, none⟩)] w fun e w' => e = .returned (.string ByteArray.empty) ∧ Below B0 w w' := by
  have c0 := two_cell1 h4
  have c1 : w.drew.cell? ⟨g, 1, none⟩ = some (.slice none 0 0) := c0
  have hSD : (Builtin.unsafeSliceData_ #[22] 164 #[.slice none 0 0]).run Tryd.prog w.drew = .ok (.pointer none) w.drew := Lib.run_unsafeSliceData_nil _ _ _ _ _
  have hUS : (Builtin.unsafeString_ #[164, 3] 9 #[.pointer none, .int .i64 0]).run Tryd.prog w.drew = .ok (.string ByteArray.empty) w.drew := Lib.run_unsafeString_none _ _ _ _ _
  have HBF : Hid (Below B0 w w.drew) := (Below.refl B0 w).drew
  go_enter Tryd.func82, Tryd.ntmps82
  go_wp2_with fail
  go_region
  all_goals (go_wp2_with fail)
  all_goals go_ret
  all_goals exact ⟨rfl, HBF.out⟩
set_option maxHeartbeats 8000000 in
theorem save_none (w : World) (g : Nat) (key : List Int) (hL : LogR w g key []) :
    Calls Tryd.prog 39 #[.pointer (some ⟨g, 0, none⟩)] w fun e w' => e = .returned (.string ByteArray.empty) ∧ Below w.heap.size w w' := by
  obtain ⟨⟨kp, kn, kc, hk0, hkI⟩, ⟨ep, ec, he0, hE, _⟩, hfew⟩ := hL
  have hb0 := below2 w (.cells #[.pointer none, .slice none 0 0] 132) (.cells Z8x32 25)
  have V0 := heap2 w (.cells #[.pointer none, .slice none 0 0] 132) (.cells Z8x32 25)
  have HBL : Hid (Below w.heap.size w ((w.alloc (.cells #[.pointer none, .slice none 0 0] 132)).alloc (.cells Z8x32 25))) := hb0
  have HV0 : Hid (((w.alloc (.cells #[.pointer none, .slice none 0 0] 132)).alloc (.cells Z8x32 25)).heap[w.heap.size]? = some (.cells #[.pointer none, .slice none 0 0] 132)) := V0.1
  have he0' : w.cell? ⟨g, 1, none⟩ = some (.slice ep 0 ec) := he0
  have hcw := fun o1 o2 => cell_alloc (cell_alloc he0' o1) o2
  clear hb0 V0 he0 hk0 hkI hE he0'
  go_enter Tryd.func39, Tryd.ntmps39
  go_wp2_with fail
  go_loopw [12] (fun i wr => i = .int .i64 0 ∧ wr = (w.alloc (.cells #[.pointer none, .slice none 0 0] 132)).alloc (.cells Z8x32 25)) (fun i _ => 0)
  case atStart => exact ⟨rfl, rfl⟩
  case round =>
    obtain ⟨rfl, rfl⟩ := hrel
    go_wp2_with fail
    refine (string_none _ _ HV0.out w.heap.size).mono ?_
    rintro ex w2 ⟨rfl, b2⟩
    have B2 := HBL.out.trans b2
    go_wp2_with fail
    go_ret
    exact ⟨rfl, B2⟩
/-- Save of any log. -/
theorem save_all (w : World) (hT : Tabs KS HS w) (g : Nat) (key : List Int) (es : List (List Int)) (hL : LogR w g key es) :
    Calls Tryd.prog 39 #[.pointer (some ⟨g, 0, none⟩)] w fun e w' => e = .returned (.string ⟨(toU (saveP key es)).toArray⟩) ∧ Below w.heap.size w w' := by
  rcases Nat.eq_zero_or_pos es.length with h | h
  · have : es = [] := List.length_eq_zero_iff.1 h
    subst this
    exact save_none w g key hL
  · exact save_any w hT g key es hL h
end Go.Proofs.YtcmjlhcpoajbkaaDoor
