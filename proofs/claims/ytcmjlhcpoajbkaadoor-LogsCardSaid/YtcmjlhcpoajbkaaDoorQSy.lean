import Derived.Test.YtcmjlhcpoajbkaaDoorQSl
import Derived.Test.YtcmjlhcpoajbkaaDoorQSq
import Derived.Test.YtcmjlhcpoajbkaaDoorQSr
import Derived.Test.YtcmjlhcpoajbkaaDoorQLs
namespace Go.Proofs.YtcmjlhcpoajbkaaDoor
set_option maxRecDepth 10000
set_option linter.unusedSimpArgs false
open Go.RowKit
/-- Any step. -/
theorem step_any (w w0 : World) (hw0 : Below w0.heap.size w0 w) (hT : Tabs KS HS w) (F G : Nat → Prop) (gp gx gy gb n : Nat) (ev yv kv blv : Value) (key : List Int) (es : List (List Int)) (hP : PairAt w F gp gx gy ev yv kv key es) (hB : BookAt w G gb blv n) (hF : ∀ k, F k → k < w.heap.size) (hG : ∀ k, G k → k < w.heap.size) (hF0 : ∀ k, F k → w0.heap.size ≤ k) (hFG : ∀ k, F k → ¬ G k) (hn : n ≤ 4398046511104) (k a i m : Int) (bv : Value) (xs : List Int) (hbv : Arg w0 bv xs) (hkv : Arg w0 kv key) :
    Calls Tryd.prog 33 #[.pointer (some ⟨gp, 0, none⟩), opV k a i m bv, .pointer (some ⟨gb, 0, none⟩)] w (StepOut w F G gp gy gb n kv key) := by
  by_cases h1 : k = 1
  · subst h1; exact step_append w w0 hw0 F G gp gx gy gb n ev yv kv blv key es hP hB hF hG hF0 hFG a i m bv xs hbv
  by_cases h2 : k = 2
  · subst h2; exact step_root w hT F G gp gx gy gb n ev yv kv blv key es hP hB a i m bv
  by_cases h3 : k = 3
  · subst h3; exact step_head w hT F G gp gx gy gb n ev yv kv blv key es hP hB a i m bv
  by_cases h4 : k = 4
  · subst h4; exact step_path w hT F G gp gx gy gb n ev yv kv blv key es hP hB hF hG hFG hn a i m bv
  by_cases h5 : k = 5
  · subst h5; exact step_link w hT F G gp gx gy gb n ev yv kv blv key es hP hB hF hG hFG hn a i m bv
  by_cases h6 : k = 6
  · subst h6; exact step_save w hT F G gp gx gy gb n ev yv kv blv key es hP hB a i m bv
  by_cases h7 : k = 7
  · subst h7; exact step_load w w0 hw0 hT F G gp gx gy gb n ev yv kv blv key es hP hB hF hG hFG a i m bv hkv
  exact step_other w F G gp gx gy gb n ev yv kv blv key es hP hB k a i m bv h1 h2 h3 h4 h5 h6 h7
theorem PairAt.bound {F : Nat → Prop} {w : World} {gp gx gy : Nat} {ev yv kv : Value} {key : List Int} {es : List (List Int)} (h : PairAt w F gp gx gy ev yv kv key es) : PairAt w (fun k => F k ∧ k < w.heap.size) gp gx gy ev yv kv key es :=
  ⟨h.blk, ⟨h.fgp, row_lt h.blk⟩, h.log, fun k hk => ⟨h.flog k hk, (h.log.blk_ge hk).2⟩, h.ref, ⟨h.fgy, row_lt h.ref.blk⟩, fun k hk => ⟨h.frow k hk, h.ref.rowlt k hk⟩, h.apart, h.klen, h.kbytes⟩
theorem BookAt.bound {F : Nat → Prop} {w : World} {gb n : Nat} {blv : Value} (h : BookAt w F gb blv n) : BookAt w (fun k => F k ∧ k < w.heap.size) gb blv n := by
  obtain ⟨h1, h2, ⟨ss, h3, h4⟩, h5⟩ := h
  refine ⟨h1, ⟨h2, row_lt h1⟩, ⟨ss, h3, fun i hi => ?_⟩, fun k hk => ⟨h5 k hk, (h3.lt k hk).2⟩⟩
  obtain ⟨s, hs, r, d, nn, e1, ⟨cs, e2⟩, e3, e4⟩ := h4 i hi
  refine ⟨s, hs, r, d, nn, e1, ⟨cs, e2⟩, ⟨e3, row_lt e2⟩, fun k hk => ⟨(e4 k hk).1, (e4 k hk).2.1, fun h0 q hq => ⟨(e4 k hk).2.2 h0 q hq, ?_⟩⟩⟩
  obtain ⟨p, c, hv, _, _, h6⟩ := (e4 k hk).2.1
  obtain ⟨q', hp, hq', _⟩ := h6 h0
  rw [hv, hp] at hq
  simp only [Value.ownBlock, Option.some.injEq] at hq
  omega
structure PR where
  gp : Nat
  gx : Nat
  gy : Nat
  ev : Value
  yv : Value
  kv : Value
  key : List Int
  es : List (List Int)
/-- The blocks that belong to c. -/
def FO (w0 W : World) (ow : Nat → Int) (c : Int) (k : Nat) : Prop := ow k = c ∧ w0.heap.size ≤ k ∧ k < W.heap.size
def ptrs (PS : List PR) : List Value := PS.map fun r => .pointer (some ⟨r.gp, 0, none⟩)
/-- Logs in turns, and the book. -/
def LInv (w0 W : World) (lv : Value) (PS : List PR) (gb : Nat) (blv : Value) (n : Nat) : Prop :=
  Below w0.heap.size w0 W ∧ ∃ ow : Nat → Int, (∀ (i : Nat) (r : PR), PS[i]? = some r → PairAt W (FO w0 W ow i) r.gp r.gx r.gy r.ev r.yv r.kv r.key r.es ∧ Arg w0 r.kv r.key) ∧ BookAt W (FO w0 W ow (-1)) gb blv n ∧ W.ownsRow w0.heap.size 57 1 lv PS.length (ptrs PS) ∧ ∀ k, lv.ownBlock = some k → ow k = -2
theorem LInv.below {w0 W W' : World} {lv : Value} {PS : List PR} {gb n : Nat} {blv : Value} (h : LInv w0 W lv PS gb blv n) (hb : Below W.heap.size W W') : LInv w0 W' lv PS gb blv n := by
  obtain ⟨h1, ow, h2, h3, h4, h5⟩ := h
  have hm : ∀ c k, FO w0 W ow c k → FO w0 W' ow c k := fun c k hk => ⟨hk.1, hk.2.1, Nat.lt_of_lt_of_le hk.2.2 hb.size⟩
  exact ⟨h1.trans (hb.mono h1.size), ow, fun i r hr => ⟨((h2 i r hr).1.below hb).mono (hm i), (h2 i r hr).2⟩, (h3.below hb).mono (hm (-1)), owns_below h4 hb, h5⟩
theorem LInv.step {w0 W W' : World} {lv : Value} {PS : List PR} {gb n : Nat} (hb : Below w0.heap.size w0 W) (ow : Nat → Int) (h2 : ∀ (i : Nat) (r : PR), PS[i]? = some r → PairAt W (FO w0 W ow i) r.gp r.gx r.gy r.ev r.yv r.kv r.key r.es ∧ Arg w0 r.kv r.key) (h4 : W.ownsRow w0.heap.size 57 1 lv PS.length (ptrs PS)) (h5 : ∀ k, lv.ownBlock = some k → ow k = -2)
    {i : Nat} {r : PR} (hi : PS[i]? = some r) {e : Ending} (hs : StepOut W (FO w0 W ow i) (FO w0 W ow (-1)) r.gp r.gy gb n r.kv r.key e W') : e = .returned (.bool true) ∧ ∃ PS' blv' n', PS'.length = PS.length ∧ ptrs PS' = ptrs PS ∧ n' ≤ n + 1 ∧ LInv w0 W' lv PS' gb blv' n' := by
  obtain ⟨he, t, gx, ev, yv, es, blv', n', hP, hB, hn, hk⟩ := hs
  refine ⟨he, PS.set i ⟨r.gp, gx, r.gy, ev, yv, r.kv, r.key, es⟩, blv', n', by simp, ?_, hn, ?_⟩
  · unfold ptrs
    rw [List.map_set]
    apply List.ext_getElem?
    intro j
    rw [List.getElem?_set]
    by_cases hj : i = j
    · subst hj
      simp [hi]
      have := (List.getElem?_eq_some_iff.1 hi).1
      omega
    · rw [if_neg hj]
  have hsz := hk.size
  refine ⟨hk.below (fun k hx => by rcases hx with hx | hx <;> exact hx.2.1) hb.size hb, fun k => if k < W.heap.size then ow k else if t = true then (i : Int) else -1, fun j r' hr' => ?_, ?_, ?_, fun k hk' => ?_⟩
  · rw [List.getElem?_set] at hr'
    by_cases hj : i = j
    · subst hj
      have hil := (List.getElem?_eq_some_iff.1 hi).1
      rw [if_pos rfl, if_pos hil] at hr'
      cases hr'
      refine ⟨hP.bound.mono (fun k hk' => ?_), (h2 i r hi).2⟩
      rcases hk'.1 with h | ⟨ht, h⟩
      · exact ⟨by show (if k < W.heap.size then ow k else _) = _; rw [if_pos h.2.2]; exact h.1, h.2.1, hk'.2⟩
      · exact ⟨by show (if k < W.heap.size then ow k else _) = _; rw [if_neg (by omega), if_pos ht], by have := hb.size; omega, hk'.2⟩
    · rw [if_neg hj] at hr'
      obtain ⟨hpj, haj⟩ := h2 j r' hr'
      refine ⟨(hpj.frame hk (fun k hf hx => ?_)).mono (fun k hf => ⟨by show (if k < W.heap.size then ow k else _) = _; rw [if_pos hf.2.2]; exact hf.1, hf.2.1, by have := hf.2.2; omega⟩), haj⟩
      rcases hx with hx | hx
      · have := hf.1.symm.trans hx.1; omega
      · have := hf.1.symm.trans hx.1; omega
  · refine hB.bound.mono (fun k hk' => ?_)
    rcases hk'.1 with h | ⟨ht, h⟩
    · exact ⟨by show (if k < W.heap.size then ow k else _) = _; rw [if_pos h.2.2]; exact h.1, h.2.1, hk'.2⟩
    · exact ⟨by show (if k < W.heap.size then ow k else _) = _; rw [if_neg (by omega), if_neg (by rw [ht]; decide)], by have := hb.size; omega, hk'.2⟩
  · have hpt : ptrs (PS.set i ⟨r.gp, gx, r.gy, ev, yv, r.kv, r.key, es⟩) = ptrs PS := by
      unfold ptrs
      rw [List.map_set]
      apply List.ext_getElem?
      intro j
      rw [List.getElem?_set]
      by_cases hj : i = j
      · subst hj
        simp [hi]
        have := (List.getElem?_eq_some_iff.1 hi).1
        omega
      · rw [if_neg hj]
    rw [hpt, List.length_set]
    exact owns_kp h4 hk (fun k hk' hx => by
      have := h5 k hk'
      rcases hx with hx | hx
      · have := hx.1; omega
      · have := hx.1; omega)
  · have hl := (h4.lt k hk').2
    show (if k < W.heap.size then ow k else _) = _
    rw [if_pos hl]
    exact h5 k hk'
end Go.Proofs.YtcmjlhcpoajbkaaDoor
namespace Go.Proofs.YtcmjlhcpoajbkaaDoor
set_option maxRecDepth 10000
set_option linter.unusedSimpArgs false
open Go.RowKit
theorem info57' : ∃ i, Tryd.prog.info? 57 = some i ∧ i.zero = some (.pointer none) ∧ i.size = 1 ∧ i.bytes = 8 := ⟨_, rfl, by kernel_rfl, by kernel_rfl, by kernel_rfl⟩
theorem LInv.add {w0 W W4 : World} {lv : Value} {PS : List PR} {gb n : Nat} {blv : Value} (h : LInv w0 W lv PS gb blv n) (hb : Below W.heap.size W W4) (r : PR) (hP : PairAt W4 (fun k => W.heap.size ≤ k) r.gp r.gx r.gy r.ev r.yv r.kv r.key r.es) (hA : Arg w0 r.kv r.key) (g1 : Nat) (h1 : W4.heap[g1]? = some (.cells #[.pointer (some ⟨r.gp, 0, none⟩)] 57)) (hl : PS.length ≤ 5864062014806) :
    ∃ ga cap W5, (Builtin.append_ #[49, 49] 49 #[lv, .slice (some ⟨g1, 0, none⟩) 1 1]).run Tryd.prog W4 = .ok (.slice (some ⟨ga, 0, none⟩) (PS.length + 1) cap) W5 ∧ LInv w0 W5 (.slice (some ⟨ga, 0, none⟩) (PS.length + 1) cap) (PS ++ [r]) gb blv n := by
  obtain ⟨hb0, ow, h2, h3, h4, h5⟩ := h
  obtain ⟨i57, hi57, hz, hsz, hby⟩ := info57'
  have h4' := owns_below h4 hb
  have hs4 := hb.size
  have hs0 := hb0.size
  obtain ⟨ga, cap, W5, hr, ho, hgr, hwh, hga⟩ := run_append_lies (P := Tryd.prog) W4 49 49 w0.heap.size 57 i57 (.pointer none) 1 8 Tryd.underlying49 hi57 hz hsz hby rfl (by omega) lv PS.length (ptrs PS) h4'
    ⟨g1, 0, none⟩ 1 1 [.pointer (some ⟨r.gp, 0, none⟩)] rfl (fun j u hu => by
      have e : j = 0 := by
        have := (List.getElem?_eq_some_iff.1 hu).1
        simp at this; omega
      subst e
      rw [addr_add, cell_of_row _ _ _ _ _ _ h1]
      simpa using hu) (fun u hu => by simp only [List.mem_singleton] at hu; subst hu; rfl) (by omega) (by unfold maxLen; omega) (by omega) (by omega) _ rfl
  have k5 : Kp (fun z => lv.ownBlock = some z) W4 W5 := ⟨hgr.os, hgr.tape, hgr.output, hgr.size, fun k hk hx => hgr.block k hk (fun e => hx e.symm)⟩
  have hlt : ∀ z, lv.ownBlock = some z → w0.heap.size ≤ z ∧ z < W.heap.size := fun z hz => h4.lt z hz
  have hs5 := k5.size
  have hB4 : Below w0.heap.size w0 W4 := hb0.trans (hb.mono hs0)
  have hga' : ga < W.heap.size → ow ga = -2 := fun hg => by
    rcases hwh with e | e
    · exact h5 ga e
    · omega
  have hnew : ∀ c k, FO w0 W ow c k → c ≠ -2 → FO w0 W5 (fun z => if z < W.heap.size then ow z else if z = ga then -2 else (PS.length : Int)) c k := fun c k hk _ => ⟨by show (if k < W.heap.size then ow k else _) = _; rw [if_pos hk.2.2]; exact hk.1, hk.2.1, by have := hk.2.2; omega⟩
  refine ⟨ga, cap, W5, hr, k5.below (fun z hz => (hlt z hz).1) (by omega) hB4, fun z => if z < W.heap.size then ow z else if z = ga then -2 else (PS.length : Int), fun j r' hr' => ?_, ?_, ?_, fun k hk => ?_⟩
  · rcases Nat.lt_or_ge j PS.length with hj | hj
    · rw [List.getElem?_append_left hj] at hr'
      obtain ⟨hp, ha⟩ := h2 j r' hr'
      refine ⟨((hp.below hb).frame k5 (fun k hf hx => ?_)).mono (fun k hf => hnew j k hf (by omega)), ha⟩
      have e1 := hf.1
      have e2 := h5 k hx
      omega
    · rw [List.getElem?_append_right hj] at hr'
      have e0 : j = PS.length := by
        rcases Nat.eq_or_lt_of_le hj with e | e
        · exact e.symm
        · rw [List.getElem?_eq_none (by simp; omega)] at hr'; cases hr'
      subst e0
      rw [Nat.sub_self] at hr'
      cases hr'
      refine ⟨(hP.bound.frame k5 (fun k hf hx => by have := (hlt k hx).2; omega)).mono (fun k hf => ⟨?_, by omega, by omega⟩), hA⟩
      show (if k < W.heap.size then ow k else _) = _
      rw [if_neg (by omega), if_neg (by
        intro e
        subst e
        rcases hwh with e | e
        · have := (hlt _ e).2; omega
        · omega)]
  · refine ((h3.below hb).frame k5 (fun k hf hx => ?_)).mono (fun k hf => hnew (-1) k hf (by omega))
    have e1 := hf.1
    have e2 := h5 k hx
    omega
  · rw [List.length_append]
    show W5.ownsRow _ _ _ _ _ (ptrs (PS ++ [r]))
    unfold ptrs
    rw [List.map_append]
    exact ho
  · simp only [Value.ownBlock, Option.some.injEq] at hk
    subst hk
    show (if ga < W.heap.size then ow ga else _) = _
    by_cases hg : ga < W.heap.size
    · rw [if_pos hg]; exact hga' hg
    · rw [if_neg hg, if_pos rfl]
theorem LInv.start {w0 W : World} (hb : Below w0.heap.size w0 W) : LInv w0 (W.alloc (.cells #[.slice none 0 0] 53)) (.slice none 0 0) [] W.heap.size (.slice none 0 0) 0 := by
  have hs := hb.size
  refine ⟨hb.alloc hs _, fun _ => -1, fun i r hr => by simp at hr, ⟨heapN W _ _ rfl, ⟨rfl, hs, by simp⟩, ⟨[], World.ownsRow_nil _ _ _ _, fun i hi => by omega⟩, fun k hk => by cases hk⟩, World.ownsRow_nil _ _ _ _, fun k hk => by cases hk⟩
/-- Keys as they were handed in. -/
structure KeysAt (w : World) (p : Option Addr) (n c : Nat) (ks : List (List Int)) : Prop where
  fits : n ≤ c
  room : c ≤ 9223372036854775807
  lies : 0 < n → ∃ b o, p = some ⟨b, o, none⟩ ∧ b < w.heap.size ∧ ∀ i, i < n → ∃ kp kn kc, w.cell? ⟨b, o + i, none⟩ = some (.slice kp kn kc) ∧ Arg w (.slice kp kn kc) (ks.getD i [])
/-- A script as it was handed in. -/
structure SOp where
  k : Int
  a : Int
  i : Int
  n : Int
  b : List Int
structure ScriptAt (w : World) (p : Option Addr) (n c : Nat) (sc : Nat → SOp) : Prop where
  fits : n ≤ c
  room : c ≤ 9223372036854775807
  lies : 0 < n → ∃ b o, p = some ⟨b, o, none⟩ ∧ b < w.heap.size ∧ ∀ i, i < n → (-9223372036854775808 ≤ (sc i).a ∧ (sc i).a ≤ 9223372036854775807) ∧ ∃ bp bn bc, w.cell? ⟨b, o + i * 5, none⟩ = some (.int .i64 (sc i).k) ∧ w.cell? ⟨b, o + i * 5 + 1, none⟩ = some (.int .i64 (sc i).a) ∧ w.cell? ⟨b, o + i * 5 + 2, none⟩ = some (.int .i64 (sc i).i) ∧ w.cell? ⟨b, o + i * 5 + 3, none⟩ = some (.int .i64 (sc i).n) ∧ w.cell? ⟨b, o + i * 5 + 4, none⟩ = some (.slice bp bn bc) ∧ Arg w (.slice bp bn bc) (sc i).b
def pickL (c n : Int) : Int := (if c < 0 then -(c + 1) else c) % n
theorem pickL_lo (c n : Int) (hn : 0 < n) : 0 ≤ pickL c n := Int.emod_nonneg _ (by omega)
theorem pickL_hi (c n : Int) (hn : 0 < n) : pickL c n < n := Int.emod_lt_of_pos _ hn
set_option maxHeartbeats 1000000 in
theorem lawPick_any (w : World) (c n : Int) (h1 : -9223372036854775808 ≤ c) (h2 : c ≤ 9223372036854775807) (h3 : 0 < n) (h4 : n ≤ 9223372036854775807) :
    Calls Tryd.prog 32 #[.int .i64 c, .int .i64 n] w fun e w' => e = .returned (.int .i64 (pickL c n)) ∧ w' = w := by
  have hz : ¬ n = 0 := by omega
  by_cases h : c < 0
  · have e : pickL c n = -(c + 1).tmod n := by
      unfold pickL; rw [if_pos h, ← Int.neg_tmod, Int.tmod_eq_emod_of_nonneg (by omega)]
    have hlo := pickL_lo c n h3
    have hhi := pickL_hi c n h3
    rw [e] at hlo hhi ⊢
    go_enter Tryd.func32, Tryd.ntmps32
    go_wp2_with fail
    go_ret
    exact ⟨rfl, rfl⟩
  · have e : pickL c n = c % n := by
      unfold pickL; rw [if_neg h]
    have hlo := pickL_lo c n h3
    have hhi := pickL_hi c n h3
    rw [e] at hlo hhi ⊢
    go_enter Tryd.func32, Tryd.ntmps32
    go_wp2_with fail
    go_ret
    exact ⟨rfl, rfl⟩
end Go.Proofs.YtcmjlhcpoajbkaaDoor
