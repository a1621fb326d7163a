import Derived.Test.YtcmjlhcpoajbkaaDoorSched
namespace Go.Proofs.YtcmjlhcpoajbkaaDoor
set_option maxRecDepth 10000
open Go.RowKit
structure R8 where
  a : Int
  b : Int
  c : Int
  d : Int
  e : Int
  f : Int
  g : Int
  h : Int
def t1of (r : R8) (k x : Int) : Int := (r.h + bs1 r.e + chs r.e r.f r.g + k + x) % 4294967296
def t2of (r : R8) : Int := (bs0 r.a + maj r.a r.b r.c) % 4294967296
def rstep (r : R8) (k x : Int) : R8 := ⟨(t1of r k x + t2of r) % 4294967296, r.a, r.b, r.c, (r.d + t1of r k x) % 4294967296, r.e, r.f, r.g⟩
def rinit (st : List Int) : R8 := ⟨st.getD 0 0, st.getD 1 0, st.getD 2 0, st.getD 3 0, st.getD 4 0, st.getD 5 0, st.getD 6 0, st.getD 7 0⟩
def rrun (ks ws : List Int) (r : R8) : Nat → R8
  | 0 => r
  | i + 1 => rstep (rrun ks ws r i) (ks.getD i 0) (ws.getD i 0)
/-- The state behind one more block. -/
def tstate (ks : List Int) (st bs : List Int) : List Int :=
  let r := rrun ks (wlist bs 64) (rinit st) 64
  [(st.getD 0 0 + r.a) % 4294967296, (st.getD 1 0 + r.b) % 4294967296, (st.getD 2 0 + r.c) % 4294967296, (st.getD 3 0 + r.d) % 4294967296,
   (st.getD 4 0 + r.e) % 4294967296, (st.getD 5 0 + r.f) % 4294967296, (st.getD 6 0 + r.g) % 4294967296, (st.getD 7 0 + r.h) % 4294967296]
theorem tstate_len (ks st bs : List Int) : (tstate ks st bs).length = 8 := rfl
set_option maxHeartbeats 400000 in
theorem take_any (ks st bs : List Int) (w : World) (hk : ks.length = 64) (hs : st.length = 8) (hb : bs.length = 64) (hr : ∀ j, 0 ≤ bs.getD j 0 ∧ bs.getD j 0 < 256)
    (hK : ∃ t fr, w.heap[1]? = some (.cells (A32 ks) t fr)) :
    Calls Tryd.prog 90 #[.agg (A32 st), .agg (A8 bs)] w fun e w' => e = .returned (.agg (A32 (tstate ks st bs))) ∧ Below w.heap.size w w' := by
  obtain ⟨tK, fr, hK⟩ := hK
  have h1 : 1 < w.heap.size := by
    rcases Nat.lt_or_ge 1 w.heap.size with h | h
    · exact h
    · rw [Array.getElem?_eq_none h] at hK; cases hK
  have HK : Hid (w.heap[1]? = _) := hK
  have Hs : Hid (st.length = 8) := hs
  have Hk : Hid (ks.length = 64) := hk
  have Hr : Hid (∀ j, 0 ≤ bs.getD j 0 ∧ bs.getD j 0 < 256) := hr
  have Hb : Hid (bs.length = 64) := hb
  clear hK hs hk hr hb
  go_enter Tryd.func90, Tryd.ntmps90
  go_wp2_with (first
    | (refine wpList_load_row rfl 146 (.tmp 3) rfl (w.heap.size + 1) rfl 146 (A8 bs) (0, 0) (.array 64 5) ?_ und43 rfl (by rw [info43, A8_size, Hb.out]) ?_
       · exact (heap3 w (.cells (A32 st) 143) (.cells (A8 bs) 146) _).2.1))
  refine (schedule_any bs _ Hb.out Hr.out).mono ?_
  rintro e w1 ⟨rfl, hb1⟩
  have f0 := (hb1.block w.heap.size (by simp; omega)).trans (heap3 w _ _ _).1
  have f2 := (hb1.block (w.heap.size + 2) (by simp)).trans (heap3 w _ _ _).2.2
  have hz1 : w.heap.size + 2 < w1.heap.size := by have := hb1.size; simp at this; omega
  have hB1 : Below w.heap.size w w1 := (below3 w _ _ _).trans (hb1.mono (by simp; omega))
  have F0 : Hid (w1.heap[w.heap.size]? = _) := f0
  have F2 : Hid (w1.heap[w.heap.size + 2]? = _) := f2
  clear f0 f2 hb1
  go_wp2_with (first
    | (with_reducible refine atStore 167 ?_
       refine wpList_store_W rfl 167 (.tmp 5) (.tmp 18) rfl w1.heap.size (A32 (wlist bs 64)) rfl rfl 167 Z32x64 ?_ (by rw [info49, A32_size, wlist_len]) (by rw [A32_size, wlist_len]; rfl) (A32_one _) ?_
       · exact heapN w1 _ _ rfl
       intro W hS
       refine hideGoal ?_))
  have G0 : Hid (W.heap[w.heap.size]? = _) := ((hS.other w.heap.size (by omega)).trans (heapO w1 _ _ (by omega))).trans F0.out
  have G2 : Hid (W.heap[w.heap.size + 2]? = _) := ((hS.other (w.heap.size + 2) (by omega)).trans (heapO w1 _ _ (by omega))).trans F2.out
  have G1 : Hid (W.heap[1]? = _) := ((hS.other 1 (by omega)).trans (heapO w1 _ _ (by omega))).trans ((hB1.block 1 h1).trans HK.out)
  have G5 : Hid (W.heap[w1.heap.size]? = _) := hS.here
  have hB : Below w.heap.size w W := hS.below _ _ (by omega) (hB1.alloc (by omega) _)
  have hg5 : w.heap.size + 2 < w1.heap.size := hz1
  clear hS F0 F2 hB1 hz1
  generalize w1.heap.size = g at *
  clear w1
  have hc : ∀ i, i < 8 → W.cell? ⟨w.heap.size, i, none⟩ = some (.int .u32 (st.getD i 0)) := fun i hi => by
    rw [cell_of_row _ _ _ _ _ _ G0.out, A32_get _ _ (by rw [Hs.out]; omega)]
  have c0 := hc 0 (by omega)
  have c1 := hc 1 (by omega)
  have c2 := hc 2 (by omega)
  have c3 := hc 3 (by omega)
  have c4 := hc 4 (by omega)
  have c5 := hc 5 (by omega)
  have c6 := hc 6 (by omega)
  have c7 := hc 7 (by omega)
  have HR : Hid (rinit st = ⟨st.getD 0 0, st.getD 1 0, st.getD 2 0, st.getD 3 0, st.getD 4 0, st.getD 5 0, st.getD 6 0, st.getD 7 0⟩) := rfl
  have HT : Hid (∀ r, rrun ks (wlist bs 64) (rinit st) 64 = r → tstate ks st bs = [(st.getD 0 0 + r.a) % 4294967296, (st.getD 1 0 + r.b) % 4294967296, (st.getD 2 0 + r.c) % 4294967296, (st.getD 3 0 + r.d) % 4294967296,
      (st.getD 4 0 + r.e) % 4294967296, (st.getD 5 0 + r.f) % 4294967296, (st.getD 6 0 + r.g) % 4294967296, (st.getD 7 0 + r.h) % 4294967296]) := fun r h => by subst h; rfl
  generalize st.getD 0 0 = x0 at c0 HR HT
  generalize st.getD 1 0 = x1 at c1 HR HT
  generalize st.getD 2 0 = x2 at c2 HR HT
  generalize st.getD 3 0 = x3 at c3 HR HT
  generalize st.getD 4 0 = x4 at c4 HR HT
  generalize st.getD 5 0 = x5 at c5 HR HT
  generalize st.getD 6 0 = x6 at c6 HR HT
  generalize st.getD 7 0 = x7 at c7 HR HT
  clear hc
  refine openGoal ?_
  go_wp2_with fail
  go_quiet (fail)
  go_wp2_with fail
  go_loopw [6, 7, 8, 9, 10, 11, 12, 13, 35] (fun va vb vc vd ve vf vg vh i wr => ∃ k : Nat, k ≤ 64 ∧ i = .int .i64 k ∧ ∃ r : R8, rrun ks (wlist bs 64) (rinit st) k = r ∧ va = .int .u32 r.a ∧ vb = .int .u32 r.b ∧ vc = .int .u32 r.c ∧ vd = .int .u32 r.d ∧ ve = .int .u32 r.e ∧ vf = .int .u32 r.f ∧ vg = .int .u32 r.g ∧ vh = .int .u32 r.h ∧ wr.heap = W.heap ∧ Below w.heap.size w wr) (fun _ _ _ _ _ _ _ _ i _ => 64 - (intOf i).toNat)
  case atStart =>
    refine ⟨0, by omega, rfl, _, HR.out, rfl, rfl, rfl, rfl, rfl, rfl, rfl, rfl, rfl, ?_⟩
    exact ⟨hB.os, hB.tape, hB.output, hB.size, hB.block⟩
  case round =>
    obtain ⟨k, hk, rfl, r, hrr, rfl, rfl, rfl, rfl, rfl, rfl, rfl, rfl, hh, hBr⟩ := hrel
    have Hrr : Hid (rrun ks (wlist bs 64) (rinit st) k = r) := hrr
    have k1 : wr.heap[1]? = _ := (congrArg (fun h : Array Obj => h[1]?) hh).trans G1.out
    have k5 : wr.heap[g]? = _ := (congrArg (fun h : Array Obj => h[g]?) hh).trans G5.out
    have Hh : Hid (wr.heap = W.heap) := hh
    have hcell : ∀ p, wr.cell? p = W.cell? p := fun p => World.cell?_of_block (congrArg (fun h : Array Obj => h[p.block]?) hh)
    rw [← hcell] at c0 c1 c2 c3 c4 c5 c6 c7
    clear hrr hh hcell
    by_cases hlt : k < 64
    · have q1 : wr.cell? ⟨1, k, none⟩ = some (.int .u32 (ks.getD k 0)) := by
        rw [cell_of_row _ _ _ _ _ _ k1, A32_get _ _ (by rw [Hk.out]; omega)]
      have q5 : wr.cell? ⟨g, k, none⟩ = some (.int .u32 ((wlist bs 64).getD k 0)) := by
        rw [cell_of_row _ _ _ _ _ _ k5, A32_get _ _ (by rw [wlist_len]; omega)]
      have HS : Hid (rrun ks (wlist bs 64) (rinit st) (k + 1) = rstep r (ks.getD k 0) ((wlist bs 64).getD k 0)) := by
        show rstep (rrun ks (wlist bs 64) (rinit st) k) _ _ = _
        rw [Hrr.out]
      generalize ks.getD k 0 = kk at q1 HS
      generalize (wlist bs 64).getD k 0 = ww at q5 HS
      clear k1 k5 c0 c1 c2 c3 c4 c5 c6 c7
      go_wp2_with fail
      go_quiet ((first | (go_at_call 111; exact Calls.quiet_of_same (bs1_any _ _)) | (go_at_call 112; exact Calls.quiet_of_same (chs_any _ _ _ _))))
      go_wp2_with (first
        | (go_at_call 113; refine (bs0_any _ _).mono ?_; rintro e w' ⟨rfl, rfl⟩)
        | (go_at_call 114; refine (maj_any _ _ _ _).mono ?_; rintro e w' ⟨rfl, rfl⟩))
      go_roundw
      case rel =>
        refine ⟨k + 1, by omega, by go_num, _, HS.out, rfl, rfl, rfl, rfl, rfl, rfl, rfl, rfl, Hh.out, ?_⟩
        exact ⟨hBr.os, hBr.tape, hBr.output, hBr.size, hBr.block⟩
      case measure => simp [intOf]; omega
    · have k2 : wr.heap[w.heap.size + 2]? = _ := (congrArg (fun h : Array Obj => h[w.heap.size + 2]?) Hh.out).trans G2.out
      have K2 : Hid (wr.heap[w.heap.size + 2]? = _) := k2
      have e : k = 64 := by omega
      have h64 := Hrr.out
      rw [e] at h64
      have HTr := HT.out r h64
      have HTR : Hid _ := HTr
      obtain ⟨T, hT⟩ : ∃ T, T = [(x0 + r.a) % 4294967296, (x1 + r.b) % 4294967296, (x2 + r.c) % 4294967296, (x3 + r.d) % 4294967296,
        (x4 + r.e) % 4294967296, (x5 + r.f) % 4294967296, (x6 + r.g) % 4294967296, (x7 + r.h) % 4294967296] := ⟨_, rfl⟩
      have HT2 : Hid (T = _) := hT
      have HTl : Hid (T.length = 8) := by rw [hT]; rfl
      clear k1 k2 k5 e HTr h64 hT
      go_wp2_with (first
        | (with_reducible refine atStore 143 ?_
           refine wpList_store_W rfl 143 (.tmp 4) (.tmp 107) rfl (w.heap.size + 2) (A32 T) rfl ?_ 143 Z32x8 K2.out (by rw [info40, A32_size, HTl.out]) (by rw [A32_size, HTl.out]; rfl) (A32_one _) ?_
           · rw [HT2.out]; rfl
           intro V hS))
      refine bodyPost_ret (v := .agg (A32 T)) (results_cell_row rfl _ _ (w.heap.size + 2) 143 _ (0, 0) _ rfl hS.here und40 rfl (by rw [info40, A32_size, HTl.out])) rfl ⟨?_, ?_⟩
      · rw [HTR.out, HT2.out]
      · exact hS.below _ _ (by omega) hBr
end Go.Proofs.YtcmjlhcpoajbkaaDoor
