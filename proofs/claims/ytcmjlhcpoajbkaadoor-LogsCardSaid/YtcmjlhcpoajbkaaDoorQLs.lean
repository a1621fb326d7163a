import Derived.Test.YtcmjlhcpoajbkaaDoorQSg
import Derived.Lib.SlBytesConst
import Derived.Test.YtcmjlhcpoajbkaaDoorQKd
import Derived.Test.YtcmjlhcpoajbkaaDoorQDs
import Derived.Test.YtcmjlhcpoajbkaaDoorQCl
namespace Go.Proofs.YtcmjlhcpoajbkaaDoor
set_option maxRecDepth 10000
open Go.RowKit
theorem in8_lit (w : World) (g : Nat) (t : TypeId) (fr : Nat × Nat) (xs : List Int) (hb : Bytes xs) (hs : xs.length ≤ 1000) (h : w.heap[g]? = some (.cells (A8 xs) t fr)) : In8 w (some ⟨g, 0, none⟩) xs.length xs.length xs :=
  ⟨rfl, hb, Nat.le_refl _, by omega, by omega, fun _ => ⟨g, 0, rfl, row_lt h, fun j hj => by rw [cell_of_row _ _ _ _ _ _ h, Nat.zero_add, A8_get _ _ hj]⟩⟩
set_option maxHeartbeats 1000000 in
theorem alive_any (w : World) (hT : Tabs KS HS w) : Calls Tryd.prog 26 #[] w fun e w' => e = .returned (.bool true) ∧ Below w.heap.size w w' := by
  have hb0 : Below w.heap.size w (w.alloc (.cells #[.int .u8 97, .int .u8 98, .int .u8 99] 5 (3, 4))) := (Below.refl _ _).alloc (Nat.le_refl _) _
  have h0 := heapN w (.cells #[.int .u8 97, .int .u8 98, .int .u8 99] 5 (3, 4)) _ rfl
  have hI : In8 (w.alloc (.cells #[.int .u8 97, .int .u8 98, .int .u8 99] 5 (3, 4))) (some ⟨w.heap.size, 0, none⟩) 3 3 [97, 98, 99] :=
    in8_lit _ _ _ _ [97, 98, 99] (.of fun x hx => by simp only [List.mem_cons, List.not_mem_nil, or_false] at hx; omega) (by simp) h0
  have hcv := Lib.run_convert_bytes_const (P := Tryd.prog) w 22 5 #[.int .u8 97, .int .u8 98, .int .u8 99] 3 3 Tryd.underlying22 Tryd.underlying5
  go_enter Tryd.func26, Tryd.ntmps26
  go_wp2_with fail
  refine (annalHash_any KS HS _ (hT.below hb0) _ 3 3 [97, 98, 99] hI).mono ?_
  rintro e w1 ⟨rfl, b1⟩
  have hab : (hashP KS HS [97, 98, 99]).take 2 = [186, 120] := abc_hash
  have hl := hashP_len KS HS [97, 98, 99]
  have B1 : Below w.heap.size w w1 := hb0.trans (b1.mono (by simp))
  have n1 : Hid (Dg (w1.alloc (.cells Z8x32 25)) w1.heap.size Z32) := Dg.new w1 _ rfl
  have hs1 := B1.size
  clear b1 hI h0 hb0 hcv
  generalize hashP KS HS [97, 98, 99] = D at *
  have hD0 : D.getD 0 0 = 186 := by
    have := congrArg (fun l : List Int => l[0]?) hab
    simp only [List.getElem?_take] at this
    rw [List.getD_eq_getElem?_getD]; simp at this; rw [this]; rfl
  have hD1 : D.getD 1 0 = 120 := by
    have := congrArg (fun l : List Int => l[1]?) hab
    simp only [List.getElem?_take] at this
    rw [List.getD_eq_getElem?_getD]; simp at this; rw [this]; rfl
  go_wp2_with (first
    | (with_reducible refine atStore 25 ?_
       refine store_D rfl _ _ rfl w1.heap.size D rfl rfl Z32 n1.out hl ?_
       intro U hU
       refine hideGoal ?_))
  have dU := hU.dg hl
  have BU := hU.below _ _ hs1 (B1.alloc hs1 _)
  clear hU n1 B1 hab
  have lU := dU.lt
  generalize w1.heap.size = g1 at *
  refine openGoal ?_
  go_wp2_with fail
  refine (new_nil U).mono ?_
  rintro e w2 ⟨rfl, hw2⟩
  have h2 := heapN U (.cells #[.slice none 0 0, .slice none 0 0] 116) _ rfl
  have B2 : Below w.heap.size w (U.alloc (.cells #[.slice none 0 0, .slice none 0 0] 116)) := BU.alloc BU.size _
  have d2 := dU.alloc (.cells #[.slice none 0 0, .slice none 0 0] 116)
  rw [← hw2] at h2 B2 d2
  have hg := BU.size
  clear hw2 dU BU
  generalize U.heap.size = g2 at *
  have c0 : w2.cell? ⟨g1, 0, none⟩ = some (.int .u8 186) := by rw [cell_of_row _ _ _ _ _ _ d2.here, A8_get _ _ (by omega), hD0]
  have c1 : w2.cell? ⟨g1, 1, none⟩ = some (.int .u8 120) := by rw [cell_of_row _ _ _ _ _ _ d2.here, A8_get _ _ (by omega), hD1]
  have hcv := Lib.run_convert_bytes_const (P := Tryd.prog) w2 22 5 #[.int .u8 97] 1 1 Tryd.underlying22 Tryd.underlying5
  go_wp2_with fail
  have h3 := heapN w2 (.cells #[.int .u8 97] 5 (1, 2)) _ rfl
  have hI3 : In8 (w2.alloc (.cells #[.int .u8 97] 5 (1, 2))) (some ⟨w2.heap.size, 0, none⟩) 1 1 [97] :=
    in8_lit _ _ _ _ [97] (.of fun x hx => by simp only [List.mem_cons, List.not_mem_nil, or_false] at hx; omega) (by simp) h3
  have hg2 : g2 < w2.heap.size := row_lt h2
  refine (append_first _ g2 _ 1 1 [97] ((heapO w2 _ g2 hg2).trans h2) hI3 (by omega)).mono ?_
  rintro e w4 ⟨rfl, b4⟩
  have B4 : Hid (Below w.heap.size w w4) := b4 _ _ hg (by simp; omega) (B2.alloc (by omega) _)
  clear b4 hI3 h3 hcv B2 d2 c0 c1 h2
  go_wp2_with fail
  go_ret
  exact ⟨rfl, B4.out⟩
end Go.Proofs.YtcmjlhcpoajbkaaDoor
namespace Go.Proofs.YtcmjlhcpoajbkaaDoor
set_option maxRecDepth 10000
set_option linter.unusedSimpArgs false
open Go.RowKit
/-- The cells of a head. -/
def headCells (n : Int) (R T : List Int) : Array Value := (Value.int .i64 n :: ((R ++ T).map (Value.int .u8))).toArray
theorem headCells_size (n : Int) (R T : List Int) (hR : R.length = 32) (hT : T.length = 32) : (headCells n R T).size = 65 := by simp [headCells, hR, hT]
theorem build_head (n : Int) (R T : List Int) (hR : R.length = 32) (hT : T.length = 32) (w : World) : (Instr.build 42 #[(0, .int .i64 n), (1, .agg (A8 R)), (2, .agg (A8 T))]).run Tryd.prog w = .ok (.agg (headCells n R T)) w := by
  obtain ⟨x0, x1, x2, x3, x4, x5, x6, x7, x8, x9, x10, x11, x12, x13, x14, x15, x16, x17, x18, x19, x20, x21, x22, x23, x24, x25, x26, x27, x28, x29, x30, x31, rfl⟩ := list32 R hR
  obtain ⟨y0, y1, y2, y3, y4, y5, y6, y7, y8, y9, y10, y11, y12, y13, y14, y15, y16, y17, y18, y19, y20, y21, y22, y23, y24, y25, y26, y27, y28, y29, y30, y31, rfl⟩ := list32 T hT
  kernel_rfl
end Go.Proofs.YtcmjlhcpoajbkaaDoor
namespace Go.Proofs.YtcmjlhcpoajbkaaDoor
set_option maxRecDepth 10000
open Go.RowKit
theorem und42 : ∃ fs, Tryd.prog.underlying 42 = some (.struct fs) := ⟨_, Tryd.underlying42⟩
theorem info42 : (Tryd.prog.info? 42).map (·.size) = some 65 := by kernel_rfl
end Go.Proofs.YtcmjlhcpoajbkaaDoor
