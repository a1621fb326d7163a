import Derived.Test.YtcmjlhcpoajbkaaDoorQRo
import Derived.Deep.MidRow
import Derived.Deep.Upon
namespace Go.Proofs.YtcmjlhcpoajbkaaDoor
set_option maxRecDepth 10000
set_option linter.unusedSimpArgs false
open Go.RowKit
/-- The mark of a list's number. -/
def markP (i : Nat) : List Int := [35, (i : Int) % 256, (i : Int) / 256 % 256, (i : Int) / 65536 % 256] ++ List.replicate 28 0
theorem markP_len (i : Nat) : (markP i).length = 32 := by simp [markP]
theorem markP_bytes (i : Nat) : Bytes (markP i) := .of fun x hx => by
  unfold markP at hx
  simp only [List.mem_append, List.mem_cons, List.not_mem_nil, or_false, List.mem_replicate] at hx
  rcases hx with (rfl | rfl | rfl | rfl) | ⟨_, rfl⟩ <;> omega
/-- A slice whose digests are all one. -/
def MkV (w : World) (M : List Int) (v : Value) (n : Nat) : Prop :=
  ∃ p c, v = .slice p n c ∧ n ≤ c ∧ c ≤ 9223372036854775807 ∧ (0 < n → ∃ q, p = some ⟨q, 0, none⟩ ∧ q < w.heap.size ∧ ∀ i, i < n * 32 → w.cell? ⟨q, i, none⟩ = some (.int .u8 (M.getD (i % 32) 0)))
theorem rep_all {n : Nat} {M : List Int} (hM : M.length = 32) : ∀ d ∈ List.replicate n M, d.length = 32 := fun d hd => by rw [(List.mem_replicate.1 hd).2]; exact hM
theorem rep_get {n k : Nat} {M : List Int} (hk : k < n) : (List.replicate n M).getD k [] = M := by
  rw [List.getD_eq_getElem?_getD, List.getElem?_replicate, if_pos hk]; rfl
theorem mkV_of {w : World} {B : Nat} {v : Value} {n : Nat} {M : List Int} (hM : M.length = 32) (h : w.ownsRow B 25 32 v n (F8 (List.replicate n M))) : MkV w M v n := by
  obtain ⟨p, c, hv, h1, h2⟩ := owns_shape h
  refine ⟨p, c, hv, h1, h2, fun h0 => ?_⟩
  obtain ⟨g, cap, hv', _, hgl, _, _, _, hc⟩ := owns25 h (rep_all hM) h0
  rw [hv] at hv'
  injection hv' with e1
  refine ⟨g, e1, hgl, fun i hi => ?_⟩
  have := hc (i / 32) (by omega) (i % 32) (by omega)
  rw [show i / 32 * 32 + i % 32 = i by omega, rep_get (by omega)] at this
  exact this
theorem MkV.kp {X : Nat → Prop} {w w' : World} {M : List Int} {v : Value} {n : Nat} (h : MkV w M v n) (hk : Kp X w w') (hX : ∀ k, v.ownBlock = some k → ¬ X k) : MkV w' M v n := by
  obtain ⟨p, c, rfl, h1, h2, h3⟩ := h
  refine ⟨p, c, rfl, h1, h2, fun h0 => ?_⟩
  obtain ⟨q, rfl, hq, hc⟩ := h3 h0
  refine ⟨q, rfl, Nat.lt_of_lt_of_le hq hk.size, fun i hi => ?_⟩
  rw [World.cell?_of_block (w := w) (a := ⟨q, i, none⟩) (hk.block q hq (hX q rfl))]
  exact hc i hi
set_option maxHeartbeats 1000000 in
/-- Marks appended to a row of marks. -/
theorem app25K (w : World) (B q m cap : Nat) (M : List Int) (hM : M.length = 32) (hown : w.ownsRow B 25 32 (.slice (some ⟨q, 0, none⟩) m cap) m (F8 (List.replicate m M))) (hm1 : m ≤ 1000) (hB : B ≤ w.heap.size) (gk k : Nat) (hk0 : 0 < k) (hk : k ≤ 6)
    (hgk : ∀ j, j < k * 32 → w.cell? ⟨gk, j, none⟩ = some (.int .u8 (M.getD (j % 32) 0))) (ty : TypeId) :
    ∃ q' cap' w', (Builtin.append_ #[31, 31] ty #[.slice (some ⟨q, 0, none⟩) m cap, .slice (some ⟨gk, 0, none⟩) k k]).run Tryd.prog w = .ok (.slice (some ⟨q', 0, none⟩) (m + k) cap') w' ∧
      w'.ownsRow B 25 32 (.slice (some ⟨q', 0, none⟩) (m + k) cap') (m + k) (F8 (List.replicate (m + k) M)) ∧ w'.ownsRow B 25 32 (.slice (some ⟨q, 0, none⟩) m cap) m (F8 (List.replicate m M)) ∧ w.grownBy w' (some q) ∧ (q' = q ∨ q' = w.heap.size ∧ w'.heap[q]? = w.heap[q]?) := by
  obtain ⟨i, hi, hz, hsz, hby⟩ := info25'
  have hall := rep_all (n := k) hM
  have hF : (F8 (List.replicate k M)).length = k * 32 := by rw [F8_len _ hall, List.length_replicate]
  have hnews : ∀ j u, (F8 (List.replicate k M))[j]? = some u → w.cell? ((⟨gk, 0, none⟩ : Addr).add j) = some u := fun j u hu => by
    obtain ⟨hj, rfl⟩ := F8_get _ hall j u hu
    rw [List.length_replicate] at hj
    rw [addr_add, Nat.zero_add, hgk j hj, rep_get (by omega)]
  have h1 : ∀ u ∈ F8 (List.replicate k M), u.oneCell' = true := fun u hu => by
    simp only [F8, List.mem_map] at hu; obtain ⟨y, _, rfl⟩ := hu; rfl
  have hrep : F8 (List.replicate (m + k) M) = F8 (List.replicate m M) ++ F8 (List.replicate k M) := by rw [← List.replicate_append_replicate, F8_append]
  obtain ⟨hlen, ⟨h2, _⟩ | ⟨g', cap', cur, hv, hg, hh, hc, hm, hs, ht⟩⟩ := hown
  · cases h2
  · cases hv
    have hlen2 : (F8 (List.replicate m M) ++ F8 (List.replicate k M)).length = (m + k) * 32 := by rw [List.length_append, hlen, hF, Nat.add_mul]
    rw [hrep]
    by_cases hroom : m + k ≤ cap
    · have hr := run_append_room (P := Tryd.prog) w 31 ty 25 i Tryd.underlying31 hi q m cap cur hh ⟨gk, 0, none⟩ k k (F8 (List.replicate k M)) (by rw [hF, hsz]) hnews h1 hroom (by rw [hF, hsz, hs]; omega)
      rw [hsz, ht] at hr
      have hG := setRow_heap w q cur (F8 (List.replicate m M) ++ F8 (List.replicate k M) ++ cur.toList.drop (m * 32 + (F8 (List.replicate k M)).length)).toArray 25 _ hh
      refine ⟨q, cap, _, hr, ⟨hlen2, .inr ⟨q, cap, _, rfl, hg, hG, hroom, hm, ?_, ?_⟩⟩, ⟨hlen, .inr ⟨q, cap, _, rfl, hg, hG, hc, hm, ?_, ?_⟩⟩, ⟨rfl, rfl, rfl, by simp [World.setRow], fun k _ hk => setRow_other w q k _ (fun e => hk (by rw [e]))⟩, .inl rfl⟩
      · simp only [List.size_toArray, List.length_append, List.length_drop, Array.length_toList, hlen, hF, hs]; omega
      · show List.take _ (F8 (List.replicate m M) ++ F8 (List.replicate k M) ++ _) = _
        rw [← hlen2]; exact List.take_left
      · simp only [List.size_toArray, List.length_append, List.length_drop, Array.length_toList, hlen, hF, hs]; omega
      · show List.take _ (F8 (List.replicate m M) ++ F8 (List.replicate k M) ++ _) = _
        rw [← hlen, List.append_assoc]; exact List.take_left
    · have hown' : w.ownsRow B 25 32 (.slice (some ⟨q, 0, none⟩) m cap) m (F8 (List.replicate m M)) := ⟨hlen, .inr ⟨q, cap, cur, rfl, hg, hh, hc, hm, hs, ht⟩⟩
      have holds := hown'.cells (g := q) rfl
      have hr := run_append_grow (P := Tryd.prog) w 31 ty 25 i _ Tryd.underlying31 hi hz ⟨q, 0, none⟩ m cap (F8 (List.replicate m M)) (by rw [hlen, hsz]) holds ⟨gk, 0, none⟩ k k (F8 (List.replicate k M)) (by rw [hF, hsz]) hnews (by omega) (by omega) (growslice_fits (by omega) (by rw [hby]; omega))
      have hge := grownCap_ge w (m + k) cap 25
      have hcm := grownCap_le_maxLen w (m + k) cap 25 (by unfold maxLen; omega)
      refine ⟨w.heap.size, _, _, hr, ⟨hlen2, .inr ⟨w.heap.size, _, _, rfl, hB, heapN w.drew _ _ rfl, hge, hcm, ?_, ?_⟩⟩, ?_, ⟨rfl, rfl, rfl, by simp, fun k hk _ => heapO w.drew _ k hk⟩, .inr ⟨rfl, heapO w.drew _ q (row_lt hh)⟩⟩
      · simp only [Array.size_append, List.size_toArray, size_zeroCells, hlen, hF]
        show m * 32 + k * 32 + (grownCap w (m + k) cap 25 - (m + k)) * 32 = _
        omega
      · show List.take _ ((F8 (List.replicate m M)).toArray ++ (F8 (List.replicate k M)).toArray ++ _).toList = _
        simp only [Array.toList_append]
        rw [← hlen2]; exact List.take_left
      · exact ⟨hlen, .inr ⟨q, cap, cur, rfl, hg, (heapO w.drew _ q (row_lt hh)).trans hh, hc, hm, hs, ht⟩⟩
/-- A list as its owner has written it full. -/
def LvM (w : World) (B : Nat) (M : List Int) (lv : Value) (m : Nat) : Prop := w.ownsRow B 25 32 lv m (F8 (List.replicate m M))
/-- Marks appended to a list of marks: the list stays, what was appended earlier stays. -/
theorem appM (w : World) (B : Nat) (M : List Int) (hM : M.length = 32) (lv : Value) (m : Nat) (h : LvM w B M lv m) (hm1 : m ≤ 1000) (hB : B ≤ w.heap.size) (gk k : Nat) (hk0 : 0 < k) (hk : k ≤ 6)
    (hgk : ∀ j, j < k * 32 → w.cell? ⟨gk, j, none⟩ = some (.int .u8 (M.getD (j % 32) 0))) (ty : TypeId) :
    ∃ v' w', (Builtin.append_ #[31, 31] ty #[lv, .slice (some ⟨gk, 0, none⟩) k k]).run Tryd.prog w = .ok v' w' ∧ LvM w' B M lv m ∧ MkV w' M v' (m + k) ∧ (∀ r, v'.ownBlock = some r → B ≤ r) ∧ Kp (fun r => lv.ownBlock = some r) w w' ∧
      (∀ v0 n0, n0 ≤ m + k → MkV w M v0 n0 → MkV w' M v0 n0) := by
  have h' := h
  obtain ⟨hlen, ⟨rfl, rfl⟩ | ⟨q, cap, cur, rfl, hg, hh, _⟩⟩ := h'
  · obtain ⟨i, hi, hz, hsz, hby⟩ := info25'
    have hall := rep_all (n := k) hM
    obtain ⟨g, cap, w', hr, ho, hgr, hwh, _⟩ := run_append_lies (P := Tryd.prog) w 31 ty B 25 i (.agg Z8x32) 32 32 Tryd.underlying31 hi hz hsz hby rfl (by omega) (.slice none 0 0) 0 [] (World.ownsRow_nil _ _ _ _)
      ⟨gk, 0, none⟩ k k (F8 (List.replicate k M)) (by rw [F8_len _ hall, List.length_replicate]) (fun j u hu => by
        obtain ⟨hj, rfl⟩ := F8_get _ hall j u hu
        rw [List.length_replicate] at hj
        rw [addr_add, Nat.zero_add, hgk j hj, rep_get (by omega)]) (fun u hu => by simp only [F8, List.mem_map] at hu; obtain ⟨y, _, rfl⟩ := hu; rfl) hk0 (by unfold maxLen; omega) (by omega) hB _ rfl
    have hkp : Kp (fun r => (Value.slice none 0 0).ownBlock = some r) w w' := ⟨hgr.os, hgr.tape, hgr.output, hgr.size, fun r hr' hx => hgr.block r hr' (fun e => hx e.symm)⟩
    have ho' : w'.ownsRow B 25 32 (.slice (some ⟨g, 0, none⟩) (0 + k) cap) (0 + k) (F8 (List.replicate (0 + k) M)) := by rw [List.nil_append] at ho; rw [Nat.zero_add] at ho ⊢; exact ho
    refine ⟨_, w', hr, World.ownsRow_nil _ _ _ _, mkV_of hM ho', fun r hr' => ?_, hkp, fun v0 n0 _ h0 => h0.kp hkp (fun r _ e => by cases e)⟩
    exact (ho'.lt r hr').1
  · obtain ⟨q', cap', w', hr, ho, hl, hgr, hq⟩ := app25K w B q m cap M hM h hm1 hB gk k hk0 hk hgk ty
    have hkp : Kp (fun r => (Value.slice (some ⟨q, 0, none⟩) m cap).ownBlock = some r) w w' := ⟨hgr.os, hgr.tape, hgr.output, hgr.size, fun r hr' hx => hgr.block r hr' (fun e => hx e.symm)⟩
    refine ⟨_, w', hr, hl, mkV_of hM ho, fun r hr' => (ho.lt r hr').1, hkp, fun v0 n0 hn0 h0 => ?_⟩
    obtain ⟨p, c, rfl, h1, h2, h3⟩ := h0
    refine ⟨p, c, rfl, h1, h2, fun hz => ?_⟩
    obtain ⟨q0, rfl, hq0, hc0⟩ := h3 hz
    refine ⟨q0, rfl, Nat.lt_of_lt_of_le hq0 hgr.size, fun i hi => ?_⟩
    by_cases e : q0 = q
    · subst e
      rcases hq with rfl | ⟨_, hq⟩
      · obtain ⟨_, _, e1, _, _, e3⟩ := mkV_of hM ho
        obtain ⟨q2, e2, _, hc2⟩ := e3 (by omega)
        rw [e2] at e1
        injection e1 with e1
        injection e1 with e1
        injection e1 with e1
        subst e1
        exact hc2 i (by have := Nat.mul_le_mul_right 32 hn0; omega)
      · rw [World.cell?_of_block (w := w) (a := ⟨q0, i, none⟩) hq]; exact hc0 i hi
    · rw [World.cell?_of_block (w := w) (a := ⟨q0, i, none⟩) (hkp.block q0 hq0 (fun e' => by simp only [Value.ownBlock, Option.some.injEq] at e'; exact e e'.symm))]; exact hc0 i hi
theorem build_mark (a b c : Int) (w : World) : (Instr.build 25 #[(0, .int .u8 35), (1, .int .u8 a), (2, .int .u8 b), (3, .int .u8 c)]).run Tryd.prog w = .ok (.agg (A8 ([35, a, b, c] ++ List.replicate 28 0))) w := by kernel_rfl
theorem wpList_build_mark {ops : Array Oper} {rest : List Oper} {o : Oper} {a : Act} {w : World} {Q : Exit → Act → World → Prop} (hgd : o.guard = none) (x y z : Operand) (ho : o.op = .build 25 #[(0, .const (.int .u8 35)), (1, x), (2, y), (3, z)]) (x' y' z' : Int) (hx : a.eval x = .int .u8 x') (hy : a.eval y = .int .u8 y') (hz : a.eval z = .int .u8 z')
    (h : wpList Tryd.prog ops Q rest (a.put o.dst (.agg (A8 ([35, x', y', z'] ++ List.replicate 28 0)))) w) : wpList Tryd.prog ops Q (o :: rest) a w := by
  have hr := build_mark x' y' z' w
  have hc : a.eval (.const (.int .u8 35)) = .int .u8 35 := rfl
  refine wpList_plain hgd fun _ hK => ?_
  unfold Oper.wp execOp
  simp only [ho, Sem.run_bind, Sem.run_pure, Result.andThen_ok, List.map_toArray, List.map_cons, List.map_nil, hc, hx, hy, hz, hr]
  exact hK _ _ h
set_option maxHeartbeats 2000000 in
theorem mark_any (i : Nat) (w : World) (hi : i ≤ 9223372036854775807) :
    Calls Tryd.prog 75 #[.int .i64 i] w fun e w' => e = .returned (.agg (A8 (markP i))) ∧ Below w.heap.size w w' := by
  have hb0 : Below w.heap.size w (w.alloc (.cells Z8x32 25)) := (Below.refl _ _).alloc (Nat.le_refl _) _
  have d0 : Hid (Dg (w.alloc (.cells Z8x32 25)) w.heap.size Z32) := Dg.new w _ rfl
  have hl := markP_len i
  obtain ⟨D, hD⟩ : ∃ D, markP i = D := ⟨_, rfl⟩
  have HD : Hid ([35, (i : Int) % 256, (i : Int) / 256 % 256, (i : Int) / 65536 % 256] ++ List.replicate 28 0 = D) := hD
  rw [hD] at hl ⊢
  clear hD
  go_enter Tryd.func75, Tryd.ntmps75
  go_wp2_with (first
    | (with_reducible refine atBuild 25 ?_
       refine wpList_build_mark rfl (.tmp 4) (.tmp 7) (.tmp 10) rfl _ _ _ rfl rfl rfl ?_
       rw [HD.out])
    | (with_reducible refine atStore 25 ?_
       refine store_D rfl _ _ rfl w.heap.size D rfl rfl Z32 d0.out hl ?_
       intro U hU))
  exact bodyPost_ret (results_D rfl _ _ w.heap.size D rfl (hU.dg hl)) rfl ⟨rfl, hU.below _ _ (Nat.le_refl _) hb0⟩
end Go.Proofs.YtcmjlhcpoajbkaaDoor
