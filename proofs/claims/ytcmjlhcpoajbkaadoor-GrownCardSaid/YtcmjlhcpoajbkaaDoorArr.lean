import Derived.Test.YtcmjlhcpoajbkaaDoorLeaf
import Derived.Deep.WholeRow
import Derived.Laws.CopyRow
import Derived.Laws.CopyOwn
namespace Go.Proofs.YtcmjlhcpoajbkaaDoor
open Go.RowKit
/-- Numbers as cells. -/
def A8 (l : List Int) : Array Value := (l.map (Value.int .u8)).toArray
def A32 (l : List Int) : Array Value := (l.map (Value.int .u32)).toArray
theorem A8_size (l : List Int) : (A8 l).size = l.length := by simp [A8]
theorem A32_size (l : List Int) : (A32 l).size = l.length := by simp [A32]
theorem A8_get (l : List Int) (k : Nat) (h : k < l.length) : (A8 l)[k]? = some (.int .u8 (l.getD k 0)) := by
  simp [A8, h]
theorem A32_get (l : List Int) (k : Nat) (h : k < l.length) : (A32 l)[k]? = some (.int .u32 (l.getD k 0)) := by
  simp [A32, h]
theorem A8_set (l : List Int) (k : Nat) (v : Int) : (A8 l).setIfInBounds k (.int .u8 v) = A8 (l.set k v) := by
  simp [A8, List.map_set]
theorem A32_set (l : List Int) (k : Nat) (v : Int) : (A32 l).setIfInBounds k (.int .u32 v) = A32 (l.set k v) := by
  simp [A32, List.map_set]
theorem A8_one (l : List Int) : (A8 l).all (·.oneCell') = true := by
  simp [A8, Value.oneCell']
theorem A32_one (l : List Int) : (A32 l).all (·.oneCell') = true := by
  simp [A32, Value.oneCell']
theorem info43 : (Tryd.prog.info? 146).map (·.size) = some 64 := by kernel_rfl
theorem info25 : (Tryd.prog.info? 25).map (·.size) = some 32 := by kernel_rfl
theorem info40 : (Tryd.prog.info? 143).map (·.size) = some 8 := by kernel_rfl
theorem info49 : (Tryd.prog.info? 167).map (·.size) = some 64 := by kernel_rfl
theorem und43 : Tryd.prog.underlying 146 = some (.array 64 5) := Tryd.underlying146
theorem und25 : Tryd.prog.underlying 25 = some (.array 32 5) := Tryd.underlying25
theorem und40 : Tryd.prog.underlying 143 = some (.array 8 98) := Tryd.underlying143
theorem und49 : Tryd.prog.underlying 167 = some (.array 64 98) := Tryd.underlying167
theorem Below.setRow {B g : Nat} {w0 w : World} (hb : Below B w0 w) (hBg : B ≤ g) (cs : Array Value) : Below B w0 (w.setRow g cs) := below_setRow hb hBg cs
theorem heapN (w : World) (o : Obj) (k : Nat) (h : k = w.heap.size) : (w.alloc o).heap[k]? = some o := by
  subst h
  show (w.heap.push o)[w.heap.size]? = _
  simp
theorem heapO (w : World) (o : Obj) (k : Nat) (h : k < w.heap.size) : (w.alloc o).heap[k]? = w.heap[k]? := by
  show (w.heap.push o)[k]? = _
  rw [Array.getElem?_push, if_neg (by omega)]
theorem heap2 (w : World) (A B : Obj) : ((w.alloc A).alloc B).heap[w.heap.size]? = some A ∧ ((w.alloc A).alloc B).heap[w.heap.size + 1]? = some B :=
  ⟨(heapO _ _ _ (by simp)).trans (heapN _ _ _ rfl), heapN _ _ _ (by simp)⟩
theorem heap3 (w : World) (A B C : Obj) : (((w.alloc A).alloc B).alloc C).heap[w.heap.size]? = some A ∧ (((w.alloc A).alloc B).alloc C).heap[w.heap.size + 1]? = some B ∧ (((w.alloc A).alloc B).alloc C).heap[w.heap.size + 2]? = some C :=
  ⟨(heapO _ _ _ (by simp; omega)).trans (heap2 w A B).1, (heapO _ _ _ (by simp)).trans (heap2 w A B).2, heapN _ _ _ (by simp)⟩
theorem heap4 (w : World) (A B C D : Obj) : ((((w.alloc A).alloc B).alloc C).alloc D).heap[w.heap.size]? = some A ∧ ((((w.alloc A).alloc B).alloc C).alloc D).heap[w.heap.size + 1]? = some B ∧ ((((w.alloc A).alloc B).alloc C).alloc D).heap[w.heap.size + 2]? = some C ∧ ((((w.alloc A).alloc B).alloc C).alloc D).heap[w.heap.size + 3]? = some D :=
  ⟨(heapO _ _ _ (by simp only [World.size_alloc]; omega)).trans (heap3 w A B C).1, (heapO _ _ _ (by simp only [World.size_alloc]; omega)).trans (heap3 w A B C).2.1, (heapO _ _ _ (by simp)).trans (heap3 w A B C).2.2, heapN _ _ _ (by simp)⟩
theorem below2 (w : World) (A B : Obj) : Below w.heap.size w ((w.alloc A).alloc B) :=
  ((Below.refl _ _).alloc (Nat.le_refl _) _).alloc (by simp) _
theorem below3 (w : World) (A B C : Obj) : Below w.heap.size w (((w.alloc A).alloc B).alloc C) := (below2 w A B).alloc (by simp; omega) _
theorem below4 (w : World) (A B C D : Obj) : Below w.heap.size w ((((w.alloc A).alloc B).alloc C).alloc D) := (below3 w A B C).alloc (by simp; omega) _
/-- Where the walk stands: at a load, a store of this type. -/
theorem atLoad {P : Program} {ops : Array Oper} {Q : Exit → Act → World → Prop} {rest : List Oper} {a : Act} {w : World} {d x t p af g} (ty : TypeId)
    (h : wpList P ops Q (⟨d, .load ty x, t, p, af, g⟩ :: rest) a w) : wpList P ops Q (⟨d, .load ty x, t, p, af, g⟩ :: rest) a w := h
theorem atStore {P : Program} {ops : Array Oper} {Q : Exit → Act → World → Prop} {rest : List Oper} {a : Act} {w : World} {d x y t p af g} (ty : TypeId)
    (h : wpList P ops Q (⟨d, .store ty x y, t, p, af, g⟩ :: rest) a w) : wpList P ops Q (⟨d, .store ty x y, t, p, af, g⟩ :: rest) a w := h
theorem hideGoal {p : Prop} (h : Hid p) : p := h
theorem openGoal {p : Prop} (h : p) : Hid p := h
/-- 64, 32, 8 cells of nought. -/
def Z8x64 : Array Value := (List.replicate 64 (Value.int .u8 0)).toArray
def Z8x32 : Array Value := (List.replicate 32 (Value.int .u8 0)).toArray
def Z32x64 : Array Value := (List.replicate 64 (Value.int .u32 0)).toArray
def Z32x8 : Array Value := (List.replicate 8 (Value.int .u32 0)).toArray
/-- What a store of a whole row leaves. -/
structure Stored (w W : World) (g : Nat) (cells : Array Value) (t : TypeId) : Prop where
  here : W.heap[g]? = some (.cells cells t)
  other : ∀ k, k ≠ g → W.heap[k]? = w.heap[k]?
  size : W.heap.size = w.heap.size
  below : ∀ B w0, B ≤ g → Below B w0 w → Below B w0 W
theorem wpList_store_W {P : Program} {ops : Array Oper} {rest : List Oper} {o : Oper} {a : Act} {w : World} {Q : Exit → Act → World → Prop} (hgd : o.guard = none) (ty : TypeId) (x y : Operand) (ho : o.op = .store ty x y)
    (g : Nat) (cells : Array Value) (hx : a.eval x = .pointer (some ⟨g, 0, none⟩)) (hy : a.eval y = .agg cells)
    (t : TypeId) (old : Array Value) (hg : w.heap[g]? = some (.cells old t (0, 0))) (hi : (P.info? ty).map (·.size) = some cells.size)
    (hold : old.size = cells.size) (h1 : cells.all (·.oneCell') = true)
    (h : ∀ W, Stored w W g cells t → wpList P ops Q rest (a.put o.dst undef) W) : wpList P ops Q (o :: rest) a w :=
  wpList_store_row hgd ty x y ho g cells hx hy t old hg hi hold h1
    (h _ ⟨setRow_heap _ _ _ _ _ _ hg, fun _ hk => setRow_other _ _ _ _ hk, setRow_size _ _ _, fun _ _ hB hb => below_setRow hb hB _⟩)
/-- The first k bytes masked. -/
def mpart (bs : List Int) (m : Int) (k : Nat) : List Int := ((bs.take k).map fun b => bits .xor .u8 b m) ++ bs.drop k
theorem mpart_len (bs : List Int) (m : Int) (k : Nat) : (mpart bs m k).length = bs.length := by simp [mpart]; omega
theorem mpart_zero (bs : List Int) (m : Int) : mpart bs m 0 = bs := by simp [mpart]
theorem mpart_all (bs : List Int) (m : Int) (k : Nat) (h : bs.length ≤ k) : mpart bs m k = bs.map fun b => bits .xor .u8 b m := by
  simp [mpart, List.take_of_length_le h, List.drop_of_length_le h]
theorem mpart_get (bs : List Int) (m : Int) (k : Nat) (h : k < bs.length) : (mpart bs m k).getD k 0 = bs.getD k 0 := by
  simp only [mpart, List.getD_eq_getElem?_getD]
  rw [List.getElem?_append_right (by simp; omega)]
  simp [Nat.min_eq_left (Nat.le_of_lt h)]
theorem mpart_step (bs : List Int) (m : Int) (k : Nat) (h : k < bs.length) : (mpart bs m k).set k (bits .xor .u8 (bs.getD k 0) m) = mpart bs m (k + 1) := by
  apply List.ext_getElem?
  intro i
  simp only [mpart, List.getElem?_set, List.getD_eq_getElem?_getD]
  by_cases hi : k = i
  · subst hi
    rw [if_pos rfl, List.getElem?_append_left (by simp; omega)]
    have h2 : k < min k bs.length + (bs.length - k) := by omega
    simp [h, h2]
  · simp only [if_neg hi]
    by_cases hl : i < k
    · rw [List.getElem?_append_left (by simp; omega), List.getElem?_append_left (by simp; omega)]
      simp [hl, show i < k + 1 by omega]
    · rw [List.getElem?_append_right (by simp; omega), List.getElem?_append_right (by simp; omega)]
      simp only [List.length_map, List.length_take, List.getElem?_drop]
      congr 1
      omega
set_option maxHeartbeats 400000 in
theorem masked_any (bs : List Int) (m : Int) (w : World) (hb : bs.length = 64) :
    Calls Tryd.prog 91 #[.agg (A8 bs), .int .u8 m] w fun e w' => e = .returned (.agg (A8 (bs.map fun b => bits .xor .u8 b m))) ∧ Below w.heap.size w w' := by
  have Hb := hb
  clear hb
  go_enter Tryd.func91, Tryd.ntmps91
  go_wp2_with fail
  go_loopw [6] (fun i wr => ∃ k : Nat, k ≤ 64 ∧ i = .int .i64 k ∧ wr.heap[w.heap.size]? = some (.cells (A8 (mpart bs m k)) 146) ∧ (∃ Z, wr.heap[w.heap.size+1]? = some (.cells Z 146) ∧ Z.size = 64) ∧ Below w.heap.size w wr) (fun i _ => 64 - (intOf i).toNat)
  case atStart =>
    refine ⟨0, by omega, rfl, ?_, ⟨_, heap_alloc2_new _ _ _, rfl⟩, ((Below.refl _ _).alloc (Nat.le_refl _) _).alloc (by simp) _⟩
    rw [mpart_zero]; exact heap_alloc2_old _ _ _
  case round =>
    obtain ⟨k, hk, rfl, hg, ⟨Z, hz, hzs⟩, hbel⟩ := hrel
    by_cases hlt : k < 64
    · have hc : wr.cell? ⟨w.heap.size, k, none⟩ = some (.int .u8 (bs.getD k 0)) := by
        rw [cell_of_row _ _ _ _ _ _ hg, A8_get _ _ (by rw [mpart_len]; omega), mpart_get _ _ _ (by omega)]
      have hf := frozen_of_row wr w.heap.size k _ _ hg
      have hG := heap_setCell_same wr w.heap.size k _ _ (.int .u8 (bits .xor .u8 (bs.getD k 0) m)) hg
      rw [A8_set, mpart_step _ _ _ (by omega)] at hG
      generalize bs.getD k 0 = x at hc hG
      have HG : Hid _ := hG
      have hZ : Hid (wr.heap[w.heap.size + 1]? = some (.cells Z 146)) := hz
      clear hg hz hG
      go_wp2_with fail
      go_roundw
      case rel =>
        refine ⟨k + 1, by omega, by go_num, HG.out, ⟨Z, ?_, hzs⟩, hbel.setCell (Nat.le_refl _) _⟩
        rw [heap_setCell_other _ _ _ _ (by simp)]; exact hZ.out
      case measure => simp [intOf]; omega
    · have hk' : k = 64 := by omega
      subst hk'
      have hG : Hid _ := hg
      have hZ : Hid (wr.heap[w.heap.size + 1]? = some (.cells Z 146)) := hz
      clear hg hz
      go_wp2_with (first
        | refine wpList_load_row rfl 146 (.tmp 2) rfl _ rfl 146 _ (0, 0) _ hG.out und43 rfl (by rw [info43, A8_size, mpart_len, Hb]) ?_
        | refine wpList_store_row rfl 146 (.tmp 4) (.tmp 16) rfl _ _ rfl rfl 146 _ hZ.out (by rw [info43, A8_size, mpart_len, Hb]) (by rw [hzs, A8_size, mpart_len, Hb]) (A8_one _) ?_)
      refine bodyPost_ret (v := .agg (A8 (mpart bs m 64))) (results_cell_row rfl _ _ (w.heap.size + 1) 146 _ (0, 0) _ rfl (setRow_heap _ _ _ _ _ _ hZ.out) und43 rfl (by rw [info43, A8_size, mpart_len, Hb])) rfl ⟨?_, ?_⟩
      · rw [mpart_all _ _ _ (by omega)]
      · exact Below.setRow hbel (by omega) _
end Go.Proofs.YtcmjlhcpoajbkaaDoor
