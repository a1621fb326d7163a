import Derived.Test.YtcmjlhcpoajbkaaDoorQLd
import Derived.Test.YtcmjlhcpoajbkaaDoorQLf
import Derived.Test.YtcmjlhcpoajbkaaDoorQSv
import Derived.Test.YtcmjlhcpoajbkaaDoorQHh
import Derived.RangeFuncNested
import Derived.RangeFuncBound
import Derived.RangeFuncCalls
import Derived.RangeFuncLeaves
import Derived.Shelf.Abstract
import Derived.Shelf.RegionOpen
import Derived.WalkKit
import Derived.OwnWalkIn
import Derived.TacticsInMore
import Derived.LoopNIn
import Derived.LoopIn
import Derived.Test.YtcmjlhcpoajbkaaDoorQRc
import Derived.Test.YtcmjlhcpoajbkaaDoorQKd
import Derived.TacticsIn
import Derived.OrdersIn
import Derived.Test.YtcmjlhcpoajbkaaDoorQTag
import Derived.Test.YtcmjlhcpoajbkaaDoorQMk
import Derived.Test.YtcmjlhcpoajbkaaDoorQEs
import Derived.Test.YtcmjlhcpoajbkaaDoorQDs
import Derived.Test.YtcmjlhcpoajbkaaDoorQGe
import Derived.Test.YtcmjlhcpoajbkaaDoorQSw
namespace Go.Proofs.YtcmjlhcpoajbkaaDoor
set_option maxRecDepth 10000
set_option linter.unusedSimpArgs false
open Go.RowKit
/-- Append to a row without room. -/
theorem app_full (w : World) (g : Nat) (xs : List Int) (h1 : In8 w (some ⟨g, 0, none⟩) 32 32 xs) (q : Option Addr) (m d : Nat) (ys : List Int) (h2 : In8 w q m d ys) (hm : m ≤ 1000) (ty : TypeId) :
    ∃ p n c w', (Builtin.append_ #[22, 22] ty #[.slice (some ⟨g, 0, none⟩) 32 32, .slice q m d]).run Tryd.prog w = .ok (.slice p n c) w' ∧ In8 w' p n c (xs ++ ys) ∧ Below w.heap.size w w' := by
  have hl1 := h1.len
  have hl2 := h2.len
  rcases Nat.eq_zero_or_pos m with h0 | h0
  · subst h0
    have : ys = [] := List.length_eq_zero_iff.1 hl2
    subst this
    rw [List.append_nil]
    exact ⟨_, _, _, w, run_app_none w ty (some ⟨g, 0, none⟩) q 32 32 d (by omega), h1, Below.refl _ _⟩
  · obtain ⟨i, hi, hz, hsz, hby⟩ := info5'
    obtain ⟨b, o, rfl, hbl, hc⟩ := h2.lies (by omega)
    obtain ⟨b', o', hp, hbl', hc'⟩ := h1.lies (by omega)
    cases hp
    have hx : ∀ j v, (xs.map (Value.int .u8))[j]? = some v → w.cell? ((⟨g, 0, none⟩ : Addr).add j) = some v := fun j v hv => by
      have hj : j < xs.length := by
        rcases Nat.lt_or_ge j xs.length with h | h
        · exact h
        · rw [List.getElem?_eq_none (by simpa using h)] at hv; cases hv
      rw [addr_add, hc' j hj]
      simp only [List.getElem?_map, List.getElem?_eq_getElem hj, Option.map_some, Option.some.injEq] at hv
      rw [← hv, List.getD_eq_getElem?_getD, List.getElem?_eq_getElem hj]; rfl
    have hy : ∀ j v, (ys.map (Value.int .u8))[j]? = some v → w.cell? ((⟨b, o, none⟩ : Addr).add j) = some v := fun j v hv => by
      have hj : j < ys.length := by
        rcases Nat.lt_or_ge j ys.length with h | h
        · exact h
        · rw [List.getElem?_eq_none (by simpa using h)] at hv; cases hv
      rw [addr_add, hc j hj]
      simp only [List.getElem?_map, List.getElem?_eq_getElem hj, Option.map_some, Option.some.injEq] at hv
      rw [← hv, List.getD_eq_getElem?_getD, List.getElem?_eq_getElem hj]; rfl
    have hr := run_append_grow (P := Tryd.prog) w 22 ty 5 i _ Tryd.underlying22 hi hz ⟨g, 0, none⟩ 32 32 (xs.map (Value.int .u8)) (by rw [List.length_map, hl1, hsz]) hx ⟨b, o, none⟩ m d (ys.map (Value.int .u8)) (by rw [List.length_map, hl2, hsz, Nat.mul_one]) hy (by omega) (by omega) (growslice_fits (by omega) (by rw [hby]; omega))
    have hge := grownCap_ge w (32 + m) 32 5
    have hcm := grownCap_le_maxLen w (32 + m) 32 5 (by unfold maxLen; omega)
    have hb : Below w.heap.size w (w.drew.alloc (.cells ((xs.map (Value.int .u8)).toArray ++ (ys.map (Value.int .u8)).toArray ++ Builtin.zeroCells (Value.int .u8 0).cells (grownCap w (32 + m) 32 5 - (32 + m))) 5)) := (Below.refl _ _).drew.alloc (Nat.le_refl _) _
    have hN := heapN w.drew (.cells ((xs.map (Value.int .u8)).toArray ++ (ys.map (Value.int .u8)).toArray ++ Builtin.zeroCells (Value.int .u8 0).cells (grownCap w (32 + m) 32 5 - (32 + m))) 5) _ rfl
    refine ⟨_, _, _, _, hr, ⟨by rw [List.length_append]; omega, ?_, hge, by unfold maxLen at hcm; omega, by omega, fun _ => ⟨w.heap.size, 0, rfl, row_lt hN, fun j hj => ?_⟩⟩, hb⟩
    · refine .of fun x hx => ?_
      rw [List.mem_append] at hx
      rcases hx with h | h
      · exact h1.bytes.mem x h
      · exact h2.bytes.mem x h
    · rw [List.length_append] at hj
      have hN' : (w.drew.alloc (.cells ((xs.map (Value.int .u8)).toArray ++ (ys.map (Value.int .u8)).toArray ++ Builtin.zeroCells (Value.int .u8 0).cells (grownCap w (32 + m) 32 5 - (32 + m))) 5)).heap[w.heap.size]? = _ := hN
      rw [Nat.zero_add, cell_of_row _ _ _ _ _ _ hN']
      have e : (xs.map (Value.int .u8)).toArray ++ (ys.map (Value.int .u8)).toArray = ((xs ++ ys).map (Value.int .u8)).toArray := by simp
      rw [e, Array.getElem?_append_left (by simp; omega), List.getElem?_toArray, List.getElem?_map, List.getD_eq_getElem?_getD, List.getElem?_eq_getElem (by rw [List.length_append]; omega)]
      rfl
theorem LogAt.fit {w : World} {B g : Nat} {ev : Value} {key : List Int} {es : List (List Int)} (h : LogAt w B g ev key es) : Fit es := by
  obtain ⟨vs, _, h5⟩ := h.own
  refine ⟨h.few, fun k => ?_⟩
  rcases Nat.lt_or_ge k es.length with hk | hk
  · obtain ⟨p, n, c, _, e2, e3, _⟩ := h5 k hk
    exact ⟨by rw [e2.len]; exact e3, e2.bytes⟩
  · rw [List.getD_eq_getElem?_getD, List.getElem?_eq_none hk]
    exact ⟨by simp, fun j => by simp⟩
theorem load_H {ops : Array Oper} {rest : List Oper} {o : Oper} {a : Act} {w : World} {Q : Exit → Act → World → Prop} (hw : Region.wanted o (yielded ops a.tmps) = true) (x : Operand) (ho : o.op = .load 42 x) (g : Nat) (hx : a.eval x = .pointer (some ⟨g, 0, none⟩)) (C : Array Value) (hC : C.size = 65) (h0 : w.heap[g]? = some (.cells C 42))
    (h : wpList Tryd.prog ops Q rest (a.put o.dst (.agg C)) w) : wpList Tryd.prog ops Q (o :: rest) a w := by
  obtain ⟨fs, hfs⟩ := und42
  exact wpList_w hw fun _ hK => wp_load_row 42 x ho g hx 42 C (0, 0) (.struct fs) h0 hfs rfl (by rw [info42, hC]) (hK _ _ h)
theorem take_short (xs : List Int) (k : Nat) : (xs.take k).take k = xs.take k := by rw [List.take_take, Nat.min_self]
/-- Whether a head is signed by another key hangs on the tags alone. -/
theorem signed_eq (key : List Int) (n : Nat) (R T : List Int) : signedP key (n : Int) R T = decide (T = signP key n R) := by unfold signedP; rw [if_pos (by omega)]
end Go.Proofs.YtcmjlhcpoajbkaaDoor
