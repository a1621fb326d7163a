import Derived.Test.YtcmjlhcpoajbkaaDoorQReg
namespace Go.Proofs.YtcmjlhcpoajbkaaDoor
set_option maxRecDepth 10000
open Go.RowKit
theorem lies_next {w : World} {xs : List Int} {b o c q m : Nat} (hbl : b < w.heap.size) (hl : (xs.drop (64 * q)).length = m) (hmc : m ≤ c)
    (hc : ∀ j, j < (xs.drop (64 * q)).length → w.cell? ⟨b, o + j, none⟩ = some (.int .u8 ((xs.drop (64 * q)).getD j 0))) :
    Lies w (if c = 64 then some ⟨b, o, none⟩ else some ⟨b, o + 64, none⟩) (xs.drop (64 * (q + 1))) := fun h0 => by
  have e : xs.drop (64 * (q + 1)) = (xs.drop (64 * q)).drop 64 := by rw [List.drop_drop]; congr 1
  rw [e] at h0 ⊢
  rw [List.length_drop] at h0
  refine ⟨b, o + 64, by rw [if_neg (by omega)], hbl, fun j hj => ?_⟩
  rw [List.length_drop] at hj
  rw [Nat.add_assoc, hc (64 + j) (by omega)]
  simp only [List.getD_eq_getElem?_getD, List.getElem?_drop]
theorem finP_long (ks st xs : List Int) (t q m : Nat) (B0 : List Int) (hx : xs.length = 64 * q + m) (hm : m < 64) (h : 56 ≤ m) (hB : fblock (xs.drop (64 * q)) = B0) :
    dbytes (tstate ks (tstate ks (hst ks st xs q) (B0.set m 128)) (setlen (List.replicate 64 0) t 8)) = finP ks st t xs := by
  have e1 : xs.length / 64 = q := by omega
  have e2 : xs.length % 64 = m := by omega
  rw [finP, e1, e2, if_pos h, hB]
theorem finP_short (ks st xs : List Int) (t q m : Nat) (B0 : List Int) (hx : xs.length = 64 * q + m) (hm : m < 64) (h : ¬ 56 ≤ m) (hB : fblock (xs.drop (64 * q)) = B0) :
    dbytes (tstate ks (hst ks st xs q) (setlen (B0.set m 128) t 8)) = finP ks st t xs := by
  have e1 : xs.length / 64 = q := by omega
  have e2 : xs.length % 64 = m := by omega
  rw [finP, e1, e2, if_neg h, hB]
theorem follows : Tryd.prog.follows .mixedOrders = true := by kernel_rfl
set_option maxHeartbeats 400000 in
theorem finish_any (ks st : List Int) (ahead n cap : Nat) (p : Option Addr) (xs : List Int) (w : World) (hk : ks.length = 64) (hs : st.length = 8) (hx : xs.length = n) (hr : Bytes xs)
    (hn : n ≤ 140737488355328) (hcap : n ≤ cap) (hc2 : cap ≤ 9223372036854775807) (ha : ahead ≤ 64) (hL : Lies w p xs) (hK : ∃ t fr, w.heap[1]? = some (.cells (A32 ks) t fr)) :
    Calls Tryd.prog 88 #[.agg (A32 st), .int .i64 ahead, .slice p n cap] w fun e w' => e = .returned (.agg (A8 (finP ks st (ahead + n) xs))) ∧ Below w.heap.size w w' := by
  have h1 : 1 < w.heap.size := by
    obtain ⟨tK, fr, hK⟩ := hK
    rcases Nat.lt_or_ge 1 w.heap.size with h | h
    · exact h
    · rw [Array.getElem?_eq_none h] at hK; cases hK
  have HK : Hid (∃ t fr, w.heap[1]? = some (.cells (A32 ks) t fr)) := hK
  have Hs : Hid (st.length = 8) := hs
  have Hk : Hid (ks.length = 64) := hk
  have Hx : Hid (xs.length = n) := hx
  clear hK hs hk hx
  go_enter Tryd.func88, Tryd.ntmps88
  go_wp2_with fail
  go_loopw [2] (fun v wr => ∃ (q m c : Nat) (pp : Option Addr), 64 * q + m = n ∧ m ≤ c ∧ c ≤ 9223372036854775807 ∧ v = .slice pp m c ∧ Lies w pp (xs.drop (64 * q)) ∧ wr.heap[w.heap.size]? = some (.cells (A32 (hst ks st xs q)) 143) ∧ wr.heap[w.heap.size + 1]? = some (.cells Z8x32 25) ∧ Below w.heap.size w wr ∧ w.heap.size + 1 < wr.heap.size) (fun v _ => match v with | .slice _ m _ => m | _ => 0)
  case atStart =>
    exact ⟨0, n, cap, p, by omega, hcap, hc2, rfl, hL, (heap2 _ _ _).1, (heap2 _ _ _).2, below2 _ _ _, by simp⟩
  case round =>
    obtain ⟨q, m, c, pp, hqm, hmc, hcc, rfl, hLp, h0, hz, hbel, hsz⟩ := hrel
    have H0 : Hid (wr.heap[w.heap.size]? = _) := h0
    have Hz : Hid (wr.heap[w.heap.size + 1]? = _) := hz
    have HL : Hid (Lies w pp (xs.drop (64 * q))) := hLp
    clear h0 hz hLp hL
    by_cases h64 : 64 ≤ m
    · obtain ⟨b, o, rfl, hbl, hcells⟩ := HL.out (by rw [List.length_drop, Hx.out]; omega)
      have hcells' : Hid _ := hcells
      clear hcells
      go_wp2_with fail
      refine wp_region_noPanic ?_
      refine wp_region_held (S := fun _ => True) follows ?_
      refine wpAnyH_take (i := 1) rfl (by kernel_rfl) (by kernel_rfl) (by kernel_rfl) (fun _ _ _ h => h) (yieldsIf_move rfl (.tmp 2) rfl) trivial ?_
      have hl2 : (xs.drop (64 * q)).length = m := by rw [List.length_drop, Hx.out]; omega
      have hcl := hst_len ks st xs Hs.out q
      have hbd : Below w.heap.size w wr.drew := hbel.drew
      have hyb : Bytes (fblock (xs.drop (64 * q))) := (hr.drop _).fblock
      have hstep : hst ks st xs (q + 1) = tstate ks (hst ks st xs q) (fblock (xs.drop (64 * q))) := by
        rw [fblock_full _ (by omega)]; rfl
      have hLn := lies_next (w := w) (xs := xs) (b := b) (o := o) (c := c) (q := q) hbl hl2 hmc hcells'.out
      refine any_two (i := 0) (j := 2) (by kernel_rfl) ?_ ?_
      · refine wpOp_load_row rfl rfl 143 (.tmp 3) rfl w.heap.size rfl 143 (A32 (hst ks st xs q)) (0, 0) (.array 8 98) H0.out und40 rfl (by rw [info40, A32_size, hcl]) ⟨trivial, ?_⟩
        refine any_one (i := 2) (by kernel_rfl) ?_
        refine wpOp_call (f := 108) (args := #[.slice (some ⟨b, o, none⟩) m c]) rfl rfl (by go_simp) ?_
        refine (firstBlock_any (some ⟨b, o, none⟩) m c (xs.drop (64 * q)) _ hl2 (HL.out.below hbd)).mono ?_
        rintro e w1 ⟨rfl, hb1⟩
        refine ⟨_, rfl, trivial, ?_⟩
        have k1 : ∃ t fr, w1.heap[1]? = some (.cells (A32 ks) t fr) := by
          obtain ⟨tK, fr, h⟩ := HK.out
          exact ⟨tK, fr, (hb1.block 1 (by show 1 < wr.heap.size; omega)).trans ((hbel.block 1 h1).trans h)⟩
        have k0 := (hb1.block w.heap.size (by show _ < wr.heap.size; omega)).trans H0.out
        have kz := (hb1.block (w.heap.size + 1) hsz).trans Hz.out
        have kb := hbd.trans (hb1.mono (by show _ ≤ wr.heap.size; omega))
        refine any_one (i := 3) (by kernel_rfl) ?_
        refine wpOp_call (f := 90) (args := #[.agg (A32 (hst ks st xs q)), .agg (A8 (fblock (xs.drop (64 * q))))]) rfl rfl (by go_simp) ?_
        refine (take_any ks _ _ w1 Hk.out hcl (fblock_len _) hyb k1).mono ?_
        rintro e w2 ⟨rfl, hb2⟩
        refine ⟨_, rfl, trivial, ?_⟩
        have hs1 : wr.heap.size ≤ w1.heap.size := hb1.size
        have l0 := (hb2.block w.heap.size (by omega)).trans k0
        have lz := (hb2.block (w.heap.size + 1) (by omega)).trans kz
        have lb := kb.trans (hb2.mono (by omega))
        have hs2 : w1.heap.size ≤ w2.heap.size := hb2.size
        refine any_one (i := 4) (by kernel_rfl) ?_
        refine wpOp_store_W rfl rfl 143 (.tmp 3) (.tmp 23) rfl w.heap.size (A32 (tstate ks (hst ks st xs q) (fblock (xs.drop (64 * q))))) rfl rfl 143 (A32 (hst ks st xs q)) l0 (by rw [info40, A32_size, tstate_len]) (by rw [A32_size, A32_size, tstate_len, hcl]) (A32_one _) ?_
        intro V hV
        refine ⟨trivial, wpAnyH_done (by kernel_rfl) ?_ _⟩
        refine NoPanic.normal ?_
        have v0 := hV.here
        have vz := (hV.other (w.heap.size + 1) (by omega)).trans lz
        have vb := hV.below _ _ (Nat.le_refl _) lb
        have vs : w.heap.size + 1 < V.heap.size := by rw [hV.size]; omega
        rw [← hstep] at v0
        clear hV l0 lz lb k0 kz kb k1 hb1 hb2 hs1 hs2
        go_wp2_with fail
        refine ⟨⟨q + 1, m - 64, c - 64, _, by omega, by omega, by omega, rfl, hLn, v0, vz, vb, vs⟩, ?_⟩
        show m - 64 < m
        omega
      · refine wpOp_call (f := 108) (args := #[.slice (some ⟨b, o, none⟩) m c]) rfl rfl (by go_simp) ?_
        refine (firstBlock_any (some ⟨b, o, none⟩) m c (xs.drop (64 * q)) _ hl2 (HL.out.below hbd)).mono ?_
        rintro e w1 ⟨rfl, hb1⟩
        refine ⟨_, rfl, trivial, ?_⟩
        have k1 : ∃ t fr, w1.heap[1]? = some (.cells (A32 ks) t fr) := by
          obtain ⟨tK, fr, h⟩ := HK.out
          exact ⟨tK, fr, (hb1.block 1 (by show 1 < wr.heap.size; omega)).trans ((hbel.block 1 h1).trans h)⟩
        have k0 := (hb1.block w.heap.size (by show _ < wr.heap.size; omega)).trans H0.out
        have kz := (hb1.block (w.heap.size + 1) hsz).trans Hz.out
        have kb := hbd.trans (hb1.mono (by show _ ≤ wr.heap.size; omega))
        refine any_one (i := 0) (by kernel_rfl) ?_
        refine wpOp_load_row rfl rfl 143 (.tmp 3) rfl w.heap.size rfl 143 (A32 (hst ks st xs q)) (0, 0) (.array 8 98) k0 und40 rfl (by rw [info40, A32_size, hcl]) ⟨trivial, ?_⟩
        refine any_one (i := 3) (by kernel_rfl) ?_
        refine wpOp_call (f := 90) (args := #[.agg (A32 (hst ks st xs q)), .agg (A8 (fblock (xs.drop (64 * q))))]) rfl rfl (by go_simp) ?_
        refine (take_any ks _ _ w1 Hk.out hcl (fblock_len _) hyb k1).mono ?_
        rintro e w2 ⟨rfl, hb2⟩
        refine ⟨_, rfl, trivial, ?_⟩
        have hs1 : wr.heap.size ≤ w1.heap.size := hb1.size
        have l0 := (hb2.block w.heap.size (by omega)).trans k0
        have lz := (hb2.block (w.heap.size + 1) (by omega)).trans kz
        have lb := kb.trans (hb2.mono (by omega))
        have hs2 : w1.heap.size ≤ w2.heap.size := hb2.size
        refine any_one (i := 4) (by kernel_rfl) ?_
        refine wpOp_store_W rfl rfl 143 (.tmp 3) (.tmp 23) rfl w.heap.size (A32 (tstate ks (hst ks st xs q) (fblock (xs.drop (64 * q))))) rfl rfl 143 (A32 (hst ks st xs q)) l0 (by rw [info40, A32_size, tstate_len]) (by rw [A32_size, A32_size, tstate_len, hcl]) (A32_one _) ?_
        intro V hV
        refine ⟨trivial, wpAnyH_done (by kernel_rfl) ?_ _⟩
        refine NoPanic.normal ?_
        have v0 := hV.here
        have vz := (hV.other (w.heap.size + 1) (by omega)).trans lz
        have vb := hV.below _ _ (Nat.le_refl _) lb
        have vs : w.heap.size + 1 < V.heap.size := by rw [hV.size]; omega
        rw [← hstep] at v0
        clear hV l0 lz lb k0 kz kb k1 hb1 hb2 hs1 hs2
        go_wp2_with fail
        refine ⟨⟨q + 1, m - 64, c - 64, _, by omega, by omega, by omega, rfl, hLn, v0, vz, vb, vs⟩, ?_⟩
        show m - 64 < m
        omega
    · have hl2 : (xs.drop (64 * q)).length = m := by rw [List.length_drop, Hx.out]; omega
      have hcl := hst_len ks st xs Hs.out q
      have hyb : Bytes (fblock (xs.drop (64 * q))) := (hr.drop _).fblock
      go_wp2_with fail
      refine (firstBlock_any pp m c (xs.drop (64 * q)) _ hl2 (HL.out.below hbel)).mono ?_
      rintro e w1 ⟨rfl, hb1⟩
      have k0 := (hb1.block w.heap.size (by omega)).trans H0.out
      have kz := (hb1.block (w.heap.size + 1) hsz).trans Hz.out
      have kb := hbel.trans (hb1.mono (by omega))
      have hs1 : wr.heap.size ≤ w1.heap.size := hb1.size
      generalize hB0 : fblock (xs.drop (64 * q)) = B0 at *
      have hBl : B0.length = 64 := by rw [← hB0]; exact fblock_len _
      have HB0 : Hid (fblock (xs.drop (64 * q)) = B0) := hB0
      clear hB0 hb1
      have K0 : Hid (w1.heap[w.heap.size]? = _) := k0
      have KZ : Hid (w1.heap[w.heap.size + 1]? = _) := kz
      clear k0 kz
      go_wp2_with (first
        | (with_reducible refine atStore 146 ?_
           refine wpList_store_W rfl 146 (.tmp 8) (.tmp 27) rfl w1.heap.size (A8 B0) rfl rfl 146 Z8x64 ?_ (by rw [info43, A8_size, hBl]) (by rw [A8_size, hBl]; rfl) (A8_one _) ?_
           · exact heapN w1 _ _ rfl
           intro V hV
           refine hideGoal ?_))
      have v0 : V.heap[w.heap.size]? = _ := ((hV.other w.heap.size (by omega)).trans (heapO w1 _ _ (by omega))).trans K0.out
      have vz : V.heap[w.heap.size + 1]? = _ := ((hV.other (w.heap.size + 1) (by omega)).trans (heapO w1 _ _ (by omega))).trans KZ.out
      have vg := hV.here
      have vb := hV.below _ _ (by omega) (kb.alloc (by omega) _)
      have vs : w1.heap.size < V.heap.size := by rw [hV.size]; simp
      have hg1 : w.heap.size + 1 < w1.heap.size := by omega
      generalize w1.heap.size = g at *
      have hc0 : V.cell? ⟨g, m, none⟩ = some (.int .u8 (B0.getD m 0)) := by
        rw [cell_of_row _ _ _ _ _ _ vg, A8_get _ _ (by omega)]
      have hf0 := frozen_of_row V g m _ _ vg
      have vg2 := heap_setCell_same V g m _ _ (.int .u8 128) vg
      rw [A8_set] at vg2
      have v02 := (heap_setCell_other V ⟨g, m, none⟩ w.heap.size (.int .u8 128) (by simp; omega)).trans v0
      have vz2 := (heap_setCell_other V ⟨g, m, none⟩ (w.heap.size + 1) (.int .u8 128) (by simp; omega)).trans vz
      have vb2 : Below w.heap.size w (V.setCell ⟨g, m, none⟩ (.int .u8 128)) := vb.setCell (by simp; omega) _
      have vs2 : g < (V.setCell ⟨g, m, none⟩ (.int .u8 128)).heap.size := by simpa using vs
      have V02 : Hid _ := v02
      have VZ2 : Hid _ := vz2
      have VG2 : Hid _ := vg2
      have VB2 : Hid _ := vb2
      have VS2 : Hid _ := vs2
      generalize B0.getD m 0 = y0 at hc0
      clear hV K0 KZ HL H0 Hz kb hs1 v0 vz vg vb vs v02 vz2 vg2 vb2 vs2
      refine openGoal ?_
      by_cases h56 : 56 ≤ m
      · go_wp2_with (first
          | (with_reducible refine atLoad 143 ?_
             refine hideGoal ?_))
        generalize V.setCell ⟨g, m, none⟩ (.int .u8 128) = X at *
        clear hc0 hf0
        have hB2 : Bytes (B0.set m 128) := hyb.set _ _ (by omega)
        have hB2l : (B0.set m 128).length = 64 := by rw [List.length_set, hBl]
        refine openGoal ?_
        go_wp2_with (first
          | (with_reducible refine atLoad 143 ?_
             refine wpList_load_row rfl 143 (.tmp 3) rfl w.heap.size rfl 143 (A32 (hst ks st xs q)) (0, 0) (.array 8 98) V02.out und40 rfl (by rw [info40, A32_size, hcl]) ?_)
          | (with_reducible refine atLoad 146 ?_
             refine wpList_load_row rfl 146 (.tmp 8) rfl g rfl 146 (A8 (B0.set m 128)) (0, 0) (.array 64 5) VG2.out und43 rfl (by rw [info43, A8_size, hB2l]) ?_))
        have k1 : ∃ t fr, X.heap[1]? = some (.cells (A32 ks) t fr) := by
          obtain ⟨tK, fr, h⟩ := HK.out
          exact ⟨tK, fr, (VB2.out.block 1 h1).trans h⟩
        refine (take_any ks _ _ X Hk.out hcl hB2l hB2 k1).mono ?_
        rintro e w2 ⟨rfl, hb2⟩
        have vs3 := VS2.out
        have hs2 : X.heap.size ≤ w2.heap.size := hb2.size
        have x0 : Hid (w2.heap[w.heap.size]? = _) := (hb2.block w.heap.size (by omega)).trans V02.out
        have xz : Hid (w2.heap[w.heap.size + 1]? = _) := (hb2.block (w.heap.size + 1) (by omega)).trans VZ2.out
        have xg : Hid (w2.heap[g]? = _) := (hb2.block g vs3).trans VG2.out
        have xb := VB2.out.trans (hb2.mono (by omega))
        have hE : dbytes (tstate ks (tstate ks (hst ks st xs q) (B0.set m 128)) (setlen (List.replicate 64 0) (ahead + n) 8)) = finP ks st (ahead + n) xs :=
          finP_long ks st xs (ahead + n) q m B0 (by rw [Hx.out]; omega) (by omega) h56 HB0.out
        have HEE : Hid _ := hE
        have hTl := tstate_len ks (hst ks st xs q) (B0.set m 128)
        generalize tstate ks (hst ks st xs q) (B0.set m 128) = S2 at *
        clear hE hb2 k1
        go_wp2_with (first
          | (with_reducible refine atStore 143 ?_
             refine wpList_store_W rfl 143 (.tmp 3) (.tmp 36) rfl w.heap.size (A32 S2) rfl rfl 143 (A32 (hst ks st xs q)) x0.out (by rw [info40, A32_size, hTl]) (by rw [A32_size, A32_size, hTl, hcl]) (A32_one _) ?_
             intro Y hY
             refine hideGoal ?_))
        have y0 : Hid (Y.heap[w.heap.size]? = _) := hY.here
        have yz : Hid (Y.heap[w.heap.size + 1]? = _) := (hY.other (w.heap.size + 1) (by omega)).trans xz.out
        have yg : Hid (Y.heap[g]? = _) := (hY.other g (by omega)).trans xg.out
        have yb := hY.below _ _ (Nat.le_refl _) xb
        have ys : g < Y.heap.size := by rw [hY.size]; omega
        clear hY x0 xz xg xb hs2 VS2 V02 VZ2 VG2 VB2
        refine openGoal ?_
        go_wp2_with (first
          | (with_reducible refine atStore 146 ?_
             refine wpList_store_W rfl 146 (.tmp 8) (.tmp 37) rfl g (A8 (List.replicate 64 0)) rfl ?_ 146 (A8 (B0.set m 128)) yg.out (by rw [info43, A8_size, List.length_replicate]) (by rw [A8_size, A8_size, List.length_replicate, hB2l]) (A8_one _) ?_
             · rfl
             intro U hU
             refine hideGoal ?_))
        have u0 : U.heap[w.heap.size]? = _ := (hU.other w.heap.size (by omega)).trans y0.out
        have uz : U.heap[w.heap.size + 1]? = _ := (hU.other (w.heap.size + 1) (by omega)).trans yz.out
        have ug := hU.here
        have ub := hU.below _ _ (by omega) yb
        have us : g < U.heap.size := by rw [hU.size]; omega
        obtain ⟨L1, hL1⟩ : ∃ L1 : List Int, L1 = List.replicate 64 0 := ⟨_, rfl⟩
        have hL1l : L1.length = 64 := by rw [hL1, List.length_replicate]
        have hL1b : Bytes L1 := by rw [hL1]; exact Bytes.zeros _
        have HE2 : Hid (dbytes (tstate ks S2 (setlen L1 (ahead + n) 8)) = finP ks st (ahead + n) xs) := by rw [hL1]; exact HEE.out
        rw [← hL1] at ug
        have U0 : Hid _ := u0
        have UZ : Hid _ := uz
        have UG : Hid _ := ug
        clear hL1 u0 uz ug hU HEE
        refine openGoal ?_
        go_wp2_with fail
        go_loopw [38] (fun v wq => ∃ i : Nat, i ≤ 8 ∧ v = .int .i64 i ∧ wq.heap[w.heap.size]? = some (.cells (A32 S2) 143) ∧ wq.heap[w.heap.size + 1]? = some (.cells Z8x32 25) ∧ wq.heap[g]? = some (.cells (A8 (setlen L1 (ahead + n) i)) 146) ∧ Below w.heap.size w wq ∧ g < wq.heap.size) (fun v _ => 8 - (intOf v).toNat)
        case atStart => exact ⟨0, by omega, rfl, U0.out, UZ.out, UG.out, ub, us⟩
        case round =>
          obtain ⟨i, hi, rfl, d0, dz, dg, db, ds⟩ := hrel
          have D0 : Hid (wr.heap[w.heap.size]? = _) := d0
          have DZ : Hid (wr.heap[w.heap.size + 1]? = _) := dz
          have DG : Hid (wr.heap[g]? = _) := dg
          clear d0 dz
          by_cases hi8 : i < 8
          · have hc : wr.cell? ⟨g, 63 - i, none⟩ = some (.int .u8 ((setlen L1 (ahead + n) i).getD (63 - i) 0)) := by
              rw [cell_of_row _ _ _ _ _ _ dg, A8_get _ _ (by rw [setlen_len, hL1l]; omega)]
            have hf := frozen_of_row wr g (63 - i) _ _ dg
            have hG := heap_setCell_same wr g (63 - i) _ _ (.int .u8 (8 * ((ahead + n : Nat) : Int) / 2 ^ (8 * i) % 256)) dg
            rw [A8_set] at hG
            rw [Int.natCast_add] at hG
            have HG : Hid _ := hG
            generalize (setlen L1 (ahead + n) i).getD (63 - i) 0 = y1 at hc
            have hb1 : (i : Int) < 8 := by omega
            clear dg hG
            go_wp2_with fail
            go_roundw
            case rel =>
              refine ⟨i + 1, by omega, by go_num, ?_, ?_, ?_, db.setCell (by simp; omega) _, by simpa using ds⟩
              · rw [heap_setCell_other _ _ _ _ (by simp; omega)]; exact D0.out
              · rw [heap_setCell_other _ _ _ _ (by simp; omega)]; exact DZ.out
              · have := HG.out
                simp only [setlen, Int.natCast_add]
                exact this
            case measure => simp [intOf]; omega
          · have e8 : i = 8 := by omega
            have DG8 : Hid (wr.heap[g]? = some (.cells (A8 (setlen L1 (ahead + n) 8)) 146)) := by rw [← e8]; exact dg
            have hbt : Bytes (setlen L1 (ahead + n) 8) := (hL1b).setlen _ _
            have hlt8 : (setlen L1 (ahead + n) 8).length = 64 := by rw [setlen_len, hL1l]
            have HE : Hid (_ = _) := HE2.out
            generalize setlen L1 (ahead + n) 8 = L8 at DG8 hbt hlt8 HE
            clear dg e8 DG
            go_wp2_with (first
              | (with_reducible refine atLoad 143 ?_
                 refine wpList_load_row rfl 143 (.tmp 3) rfl w.heap.size rfl 143 (A32 S2) (0, 0) (.array 8 98) D0.out und40 rfl (by rw [info40, A32_size, hTl]) ?_)
              | (with_reducible refine atLoad 146 ?_
                 refine wpList_load_row rfl 146 (.tmp 8) rfl g rfl 146 (A8 L8) (0, 0) (.array 64 5) DG8.out und43 rfl (by rw [info43, A8_size, hlt8]) ?_))
            have k1 : ∃ t fr, wr.heap[1]? = some (.cells (A32 ks) t fr) := by
              obtain ⟨tK, fr, h⟩ := HK.out
              exact ⟨tK, fr, (db.block 1 h1).trans h⟩
            refine (take_any ks _ _ wr Hk.out hTl hlt8 hbt k1).mono ?_
            rintro e w2 ⟨rfl, hb2⟩
            go_wp2_with fail
            refine (digest_any _ w2 (tstate_len _ _ _)).mono ?_
            rintro e w3 ⟨rfl, hb3⟩
            have hs2 : wr.heap.size ≤ w2.heap.size := hb2.size
            have zz : Hid (w3.heap[w.heap.size + 1]? = _) := (hb3.block (w.heap.size + 1) (by omega)).trans ((hb2.block (w.heap.size + 1) (by omega)).trans DZ.out)
            have zb := (db.trans (hb2.mono (by omega))).trans (hb3.mono (by omega))
            rw [HE.out]
            have hfl : (finP ks st (ahead + n) xs).length = 32 := by rw [← HE.out]; simp [dbytes]
            generalize hF : finP ks st (ahead + n) xs = F at hfl
            have HF : Hid (finP ks st (ahead + n) xs = F) := hF
            clear hF
            go_wp2_with (first
              | (with_reducible refine atStore 25 ?_
                 refine wpList_store_W rfl 25 (.tmp 6) (.tmp 53) rfl (w.heap.size + 1) (A8 F) rfl rfl 25 Z8x32 zz.out (by rw [info25, A8_size, hfl]) (by rw [A8_size, hfl]; rfl) (A8_one _) ?_
                 intro U hU))
            refine bodyPost_ret (v := .agg (A8 F)) (results_cell_row rfl _ _ (w.heap.size + 1) 25 _ (0, 0) _ rfl hU.here und25 rfl (by rw [info25, A8_size, hfl])) rfl ⟨by rw [HF.out], ?_⟩
            exact hU.below _ _ (by omega) zb
      · generalize hL1 : B0.set m 128 = L1 at *
        have hL1l : L1.length = 64 := by rw [← hL1, List.length_set, hBl]
        have hL1b : Bytes L1 := by rw [← hL1]; exact hyb.set _ _ (by omega)
        have HE2 : Hid (dbytes (tstate ks (hst ks st xs q) (setlen L1 (ahead + n) 8)) = finP ks st (ahead + n) xs) := by
          rw [← hL1]; exact finP_short ks st xs (ahead + n) q m B0 (by rw [Hx.out]; omega) (by omega) h56 HB0.out
        clear hL1
        go_wp2_with fail
        go_loopw [38] (fun v wq => ∃ i : Nat, i ≤ 8 ∧ v = .int .i64 i ∧ wq.heap[w.heap.size]? = some (.cells (A32 (hst ks st xs q)) 143) ∧ wq.heap[w.heap.size + 1]? = some (.cells Z8x32 25) ∧ wq.heap[g]? = some (.cells (A8 (setlen L1 (ahead + n) i)) 146) ∧ Below w.heap.size w wq ∧ g < wq.heap.size) (fun v _ => 8 - (intOf v).toNat)
        case atStart => exact ⟨0, by omega, rfl, V02.out, VZ2.out, VG2.out, VB2.out, VS2.out⟩
        case round =>
          obtain ⟨i, hi, rfl, d0, dz, dg, db, ds⟩ := hrel
          have D0 : Hid (wr.heap[w.heap.size]? = _) := d0
          have DZ : Hid (wr.heap[w.heap.size + 1]? = _) := dz
          have DG : Hid (wr.heap[g]? = _) := dg
          clear d0 dz
          by_cases hi8 : i < 8
          · have hc : wr.cell? ⟨g, 63 - i, none⟩ = some (.int .u8 ((setlen L1 (ahead + n) i).getD (63 - i) 0)) := by
              rw [cell_of_row _ _ _ _ _ _ dg, A8_get _ _ (by rw [setlen_len, hL1l]; omega)]
            have hf := frozen_of_row wr g (63 - i) _ _ dg
            have hG := heap_setCell_same wr g (63 - i) _ _ (.int .u8 (8 * ((ahead + n : Nat) : Int) / 2 ^ (8 * i) % 256)) dg
            rw [A8_set] at hG
            rw [Int.natCast_add] at hG
            have HG : Hid _ := hG
            generalize (setlen L1 (ahead + n) i).getD (63 - i) 0 = y1 at hc
            have hb1 : (i : Int) < 8 := by omega
            clear dg hG
            go_wp2_with fail
            go_roundw
            case rel =>
              refine ⟨i + 1, by omega, by go_num, ?_, ?_, ?_, db.setCell (by simp; omega) _, by simpa using ds⟩
              · rw [heap_setCell_other _ _ _ _ (by simp; omega)]; exact D0.out
              · rw [heap_setCell_other _ _ _ _ (by simp; omega)]; exact DZ.out
              · have := HG.out
                simp only [setlen, Int.natCast_add]
                exact this
            case measure => simp [intOf]; omega
          · have e8 : i = 8 := by omega
            have DG8 : Hid (wr.heap[g]? = some (.cells (A8 (setlen L1 (ahead + n) 8)) 146)) := by rw [← e8]; exact dg
            have hbt : Bytes (setlen L1 (ahead + n) 8) := (hL1b).setlen _ _
            have hlt8 : (setlen L1 (ahead + n) 8).length = 64 := by rw [setlen_len, hL1l]
            have HE : Hid (_ = _) := HE2.out
            generalize setlen L1 (ahead + n) 8 = L8 at DG8 hbt hlt8 HE
            clear dg e8 DG
            go_wp2_with (first
              | (with_reducible refine atLoad 143 ?_
                 refine wpList_load_row rfl 143 (.tmp 3) rfl w.heap.size rfl 143 (A32 (hst ks st xs q)) (0, 0) (.array 8 98) D0.out und40 rfl (by rw [info40, A32_size, hcl]) ?_)
              | (with_reducible refine atLoad 146 ?_
                 refine wpList_load_row rfl 146 (.tmp 8) rfl g rfl 146 (A8 L8) (0, 0) (.array 64 5) DG8.out und43 rfl (by rw [info43, A8_size, hlt8]) ?_))
            have k1 : ∃ t fr, wr.heap[1]? = some (.cells (A32 ks) t fr) := by
              obtain ⟨tK, fr, h⟩ := HK.out
              exact ⟨tK, fr, (db.block 1 h1).trans h⟩
            refine (take_any ks _ _ wr Hk.out hcl hlt8 hbt k1).mono ?_
            rintro e w2 ⟨rfl, hb2⟩
            go_wp2_with fail
            refine (digest_any _ w2 (tstate_len _ _ _)).mono ?_
            rintro e w3 ⟨rfl, hb3⟩
            have hs2 : wr.heap.size ≤ w2.heap.size := hb2.size
            have zz : Hid (w3.heap[w.heap.size + 1]? = _) := (hb3.block (w.heap.size + 1) (by omega)).trans ((hb2.block (w.heap.size + 1) (by omega)).trans DZ.out)
            have zb := (db.trans (hb2.mono (by omega))).trans (hb3.mono (by omega))
            rw [HE.out]
            have hfl : (finP ks st (ahead + n) xs).length = 32 := by rw [← HE.out]; simp [dbytes]
            generalize hF : finP ks st (ahead + n) xs = F at hfl
            have HF : Hid (finP ks st (ahead + n) xs = F) := hF
            clear hF
            go_wp2_with (first
              | (with_reducible refine atStore 25 ?_
                 refine wpList_store_W rfl 25 (.tmp 6) (.tmp 53) rfl (w.heap.size + 1) (A8 F) rfl rfl 25 Z8x32 zz.out (by rw [info25, A8_size, hfl]) (by rw [A8_size, hfl]; rfl) (A8_one _) ?_
                 intro U hU))
            refine bodyPost_ret (v := .agg (A8 F)) (results_cell_row rfl _ _ (w.heap.size + 1) 25 _ (0, 0) _ rfl hU.here und25 rfl (by rw [info25, A8_size, hfl])) rfl ⟨by rw [HF.out], ?_⟩
            exact hU.below _ _ (by omega) zb
end Go.Proofs.YtcmjlhcpoajbkaaDoor
namespace Go.Proofs.YtcmjlhcpoajbkaaDoor
set_option maxRecDepth 10000
open Go.RowKit
/-- The two tables lie where they were laid. -/
structure Tabs (ks hs : List Int) (w : World) : Prop where
  klen : ks.length = 64
  hlen : hs.length = 8
  start : ∃ t fr, w.heap[0]? = some (.cells (A32 hs) t fr)
  rounds : ∃ t fr, w.heap[1]? = some (.cells (A32 ks) t fr)
theorem Tabs.size {ks hs : List Int} {w : World} (h : Tabs ks hs w) : 1 < w.heap.size := by
  obtain ⟨tK, fr, hK⟩ := h.rounds
  rcases Nat.lt_or_ge 1 w.heap.size with h | h
  · exact h
  · rw [Array.getElem?_eq_none h] at hK; cases hK
theorem Tabs.below {ks hs : List Int} {w w' : World} (h : Tabs ks hs w) (hb : Below w.heap.size w w') : Tabs ks hs w' :=
  ⟨h.klen, h.hlen, by obtain ⟨tK, fr, e⟩ := h.start; exact ⟨tK, fr, (hb.block 0 (by have := h.size; omega)).trans e⟩,
   by obtain ⟨tK, fr, e⟩ := h.rounds; exact ⟨tK, fr, (hb.block 1 h.size).trans e⟩⟩
def hashP (ks hs xs : List Int) : List Int := finP ks hs (0 + xs.length) xs
theorem dbytes_len (st : List Int) : (dbytes st).length = 32 := by simp [dbytes]
theorem finP_len (ks st : List Int) (t : Nat) (xs : List Int) : (finP ks st t xs).length = 32 := by
  unfold finP; split <;> exact dbytes_len _
theorem dbytes_bytes (st : List Int) : Bytes (dbytes st) := .of fun x hx => by
  simp only [dbytes, List.mem_map] at hx
  obtain ⟨i, _, rfl⟩ := hx
  unfold dbyte; omega
theorem finP_bytes (ks st : List Int) (t : Nat) (xs : List Int) : Bytes (finP ks st t xs) := by
  unfold finP; split <;> exact dbytes_bytes _
/-- A slice of bytes that came in. -/
structure In8 (w : World) (p : Option Addr) (n cap : Nat) (xs : List Int) : Prop where
  len : xs.length = n
  bytes : Bytes xs
  fits : n ≤ cap
  room : cap ≤ 9223372036854775807
  small : n ≤ 140737488355328
  lies : Lies w p xs
theorem In8.below {w w' : World} {p : Option Addr} {n cap : Nat} {xs : List Int} (h : In8 w p n cap xs) (hb : Below w.heap.size w w') : In8 w' p n cap xs :=
  ⟨h.len, h.bytes, h.fits, h.room, h.small, h.lies.below hb⟩
theorem fin_in {ks hs st : List Int} {w : World} (hT : Tabs ks hs w) (hs : st.length = 8) (ahead : Nat) (ha : ahead ≤ 64) {p : Option Addr} {n cap : Nat} {xs : List Int} (hi : In8 w p n cap xs) :
    Calls Tryd.prog 88 #[.agg (A32 st), .int .i64 ahead, .slice p n cap] w fun e w' => e = .returned (.agg (A8 (finP ks st (ahead + n) xs))) ∧ Below w.heap.size w w' :=
  finish_any ks st ahead n cap p xs w hT.klen hs hi.len hi.bytes hi.small hi.fits hi.room ha hi.lies hT.rounds
set_option maxHeartbeats 400000 in
theorem hash_any (ks hs : List Int) (w : World) (hT : Tabs ks hs w) (p : Option Addr) (n cap : Nat) (xs : List Int) (hi : In8 w p n cap xs) :
    Calls Tryd.prog 54 #[.slice p n cap] w fun e w' => e = .returned (.agg (A8 (hashP ks hs xs))) ∧ Below w.heap.size w w' := by
  obtain ⟨tS, fr, hst⟩ := hT.start
  have h1 := hT.size
  have H0 : Hid ((w.alloc (.cells Z8x32 25)).heap[0]? = _) := (heapO w (.cells Z8x32 25) 0 (by omega)).trans hst
  have hb0 : Below w.heap.size w (w.alloc (.cells Z8x32 25)) := (Below.refl _ _).alloc (Nat.le_refl _) _
  clear hst
  go_enter Tryd.func54, Tryd.ntmps54
  go_wp2_with (first
    | (with_reducible refine atLoad 143 ?_
       refine wpList_load_row rfl 143 (.global 0) rfl 0 rfl tS (A32 hs) fr (.array 8 98) H0.out und40 rfl (by rw [info40, A32_size, hT.hlen]) ?_))
  refine (fin_in (hT.below hb0) hT.hlen 0 (by omega) (hi.below hb0)).mono ?_
  rintro e w1 ⟨rfl, hb1⟩
  have hz : Hid (w1.heap[w.heap.size]? = _) := (hb1.block w.heap.size (by simp)).trans (heapN w _ _ rfl)
  have hB := hb0.trans (hb1.mono (by simp))
  have hl := finP_len ks hs (0 + n) xs
  have hF : hashP ks hs xs = finP ks hs (0 + n) xs := by rw [hashP, hi.len]
  generalize finP ks hs (0 + n) xs = F at *
  have HF : Hid (hashP ks hs xs = F) := hF
  clear hF
  go_wp2_with (first
    | (with_reducible refine atStore 25 ?_
       refine wpList_store_W rfl 25 (.tmp 2) (.tmp 5) rfl w.heap.size (A8 F) rfl rfl 25 Z8x32 hz.out (by rw [info25, A8_size, hl]) (by rw [A8_size, hl]; rfl) (A8_one _) ?_
       intro U hU))
  refine bodyPost_ret (v := .agg (A8 F)) (results_cell_row rfl _ _ w.heap.size 25 _ (0, 0) _ rfl hU.here und25 rfl (by rw [info25, A8_size, hl])) rfl ⟨?_, ?_⟩
  · rw [HF.out]
  · exact hU.below _ _ (by omega) hB
def kblock (ks hs key : List Int) : List Int := if 64 < key.length then fblock (hashP ks hs key) else fblock key
theorem kblock_len (ks hs key : List Int) : (kblock ks hs key).length = 64 := by unfold kblock; split <;> exact fblock_len _
theorem hashP_len (ks hs xs : List Int) : (hashP ks hs xs).length = 32 := finP_len _ _ _ _
theorem hashP_bytes (ks hs xs : List Int) : Bytes (hashP ks hs xs) := finP_bytes _ _ _ _
theorem row_lt {w : World} {g : Nat} {o : Obj} (h : w.heap[g]? = some o) : g < w.heap.size := by
  rcases Nat.lt_or_ge g w.heap.size with h' | h'
  · exact h'
  · rw [Array.getElem?_eq_none h'] at h; cases h
/-- A digest in a block of its own, as a slice. -/
theorem in8_row {w : World} {g : Nat} {F : List Int} {t : TypeId} {fr : Nat × Nat} (h : w.heap[g]? = some (.cells (A8 F) t fr)) (hl : F.length = 32) (hb : Bytes F) : In8 w (some ⟨g, 0, none⟩) 32 32 F :=
  ⟨hl, hb, Nat.le_refl _, by omega, by omega, fun _ => ⟨g, 0, rfl, row_lt h, fun j hj => (cell_of_row w g (0 + j) _ _ _ h).trans (by rw [Nat.zero_add, A8_get _ _ hj])⟩⟩
set_option maxHeartbeats 400000 in
theorem keyBlock_any (ks hs : List Int) (w : World) (hT : Tabs ks hs w) (p : Option Addr) (n cap : Nat) (xs : List Int) (hi : In8 w p n cap xs) :
    Calls Tryd.prog 89 #[.slice p n cap] w fun e w' => e = .returned (.agg (A8 (kblock ks hs xs))) ∧ Below w.heap.size w w' := by
  have hb0 : Below w.heap.size w (w.alloc (.cells Z8x64 146)) := (Below.refl _ _).alloc (Nat.le_refl _) _
  have hn : n ≤ 140737488355328 := hi.small
  by_cases h64 : 64 < n
  · have hF : kblock ks hs xs = fblock (hashP ks hs xs) := by rw [kblock, if_pos (by rw [hi.len]; exact h64)]
    have hl := hashP_len ks hs xs
    have hby := hashP_bytes ks hs xs
    go_enter Tryd.func89, Tryd.ntmps89
    go_wp2_with fail
    refine (hash_any ks hs _ (hT.below hb0) p n cap xs (hi.below hb0)).mono ?_
    rintro e w1 ⟨rfl, hb1⟩
    generalize hashP ks hs xs = D at *
    have HF : Hid (kblock ks hs xs = fblock D) := hF
    have hz : Hid (w1.heap[w.heap.size]? = _) := (hb1.block w.heap.size (by simp)).trans (heapN w _ _ rfl)
    have hB := hb0.trans (hb1.mono (by simp))
    have hz1 : w.heap.size < w1.heap.size := by have := hb1.size; simp at this; omega
    clear hF hb1
    go_wp2_with (first
      | (with_reducible refine atStore 25 ?_
         refine wpList_store_W rfl 25 (.tmp 3) (.tmp 8) rfl w1.heap.size (A8 D) rfl rfl 25 Z8x32 ?_ (by rw [info25, A8_size, hl]) (by rw [A8_size, hl]; rfl) (A8_one _) ?_
         · exact heapN w1 _ _ rfl
         intro U hU
         refine hideGoal ?_))
    have uz : Hid (U.heap[w.heap.size]? = _) := ((hU.other w.heap.size (by omega)).trans (heapO w1 _ _ (by omega))).trans hz.out
    have ub := hU.below _ _ (by omega) (hB.alloc (by omega) _)
    have hin := in8_row hU.here hl hby
    have us : w.heap.size < U.heap.size := by rw [hU.size]; simp; omega
    clear hU hz hB
    generalize w1.heap.size = g at *
    refine openGoal ?_
    go_wp2_with fail
    refine (firstBlock_any (some ⟨g, 0, none⟩) 32 32 D _ hin.len hin.lies).mono ?_
    rintro e w2 ⟨rfl, hb2⟩
    have yz : Hid (w2.heap[w.heap.size]? = _) := (hb2.block w.heap.size us).trans uz.out
    have yb := ub.trans (hb2.mono (by omega))
    have hfl := fblock_len D
    generalize fblock D = F at *
    go_wp2_with (first
      | (with_reducible refine atStore 146 ?_
         refine wpList_store_W rfl 146 (.tmp 2) (.tmp 10) rfl w.heap.size (A8 F) rfl rfl 146 Z8x64 yz.out (by rw [info43, A8_size, hfl]) (by rw [A8_size, hfl]; rfl) (A8_one _) ?_
         intro V hV))
    refine bodyPost_ret (v := .agg (A8 F)) (results_cell_row rfl _ _ w.heap.size 146 _ (0, 0) _ rfl hV.here und43 rfl (by rw [info43, A8_size, hfl])) rfl ⟨by rw [HF.out], ?_⟩
    exact hV.below _ _ (by omega) yb
  · have hF : kblock ks hs xs = fblock xs := by rw [kblock, if_neg (by rw [hi.len]; exact h64)]
    go_enter Tryd.func89, Tryd.ntmps89
    go_wp2_with fail
    refine (firstBlock_any p n cap xs _ hi.len (hi.below hb0).lies).mono ?_
    rintro e w2 ⟨rfl, hb2⟩
    have yz : Hid (w2.heap[w.heap.size]? = _) := (hb2.block w.heap.size (by simp)).trans (heapN w _ _ rfl)
    have yb := hb0.trans (hb2.mono (by simp))
    have hfl := fblock_len xs
    generalize fblock xs = F at *
    have HF : Hid (kblock ks hs xs = F) := hF
    clear hF
    go_wp2_with (first
      | (with_reducible refine atStore 146 ?_
         refine wpList_store_W rfl 146 (.tmp 2) (.tmp 12) rfl w.heap.size (A8 F) rfl rfl 146 Z8x64 yz.out (by rw [info43, A8_size, hfl]) (by rw [A8_size, hfl]; rfl) (A8_one _) ?_
         intro V hV))
    refine bodyPost_ret (v := .agg (A8 F)) (results_cell_row rfl _ _ w.heap.size 146 _ (0, 0) _ rfl hV.here und43 rfl (by rw [info43, A8_size, hfl])) rfl ⟨by rw [HF.out], ?_⟩
    exact hV.below _ _ (by omega) yb
end Go.Proofs.YtcmjlhcpoajbkaaDoor
