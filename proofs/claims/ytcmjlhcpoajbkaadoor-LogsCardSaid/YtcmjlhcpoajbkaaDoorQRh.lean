import Derived.Test.YtcmjlhcpoajbkaaDoorQRx
namespace Go.Proofs.YtcmjlhcpoajbkaaDoor
set_option maxRecDepth 10000
open Go.RowKit
set_option maxRecDepth 100000 in
set_option maxHeartbeats 4000000 in
theorem refHash_any (l : List UInt8) (w : World) (hl : l.length ≤ 140737488355500) :
    Calls Tryd.prog 19 #[.string ⟨l.toArray⟩] w fun e w' => e = .returned (.agg (A8 (dbytes (hst KS HS (toI (padB l 8)) ((padB l 8).length / 64))))) ∧ Below w.heap.size w w' := by
  go_enter Tryd.func19, Tryd.ntmps19
  go_wp2_with fail
  refine (keys_any _).mono ?_
  rintro e w1 ⟨rfl, rfl⟩
  go_wp2_with fail
  refine (padded_any l _ hl).mono ?_
  rintro e w2 ⟨rfl, hb2⟩
  have f0 : Hid (w2.heap[w.heap.size]? = _) := (hb2.block w.heap.size (by simp; omega)).trans (heap3 w _ _ _).1
  have fh : Hid (w2.heap[w.heap.size + 1]? = some (.cells (A32 HS) 98)) := (hb2.block (w.heap.size + 1) (by simp)).trans (heap3 w _ _ _).2.1
  have fk : Hid (w2.heap[w.heap.size + 2]? = _) := (hb2.block (w.heap.size + 2) (by simp)).trans (heap3 w _ _ _).2.2
  have hz2 : w.heap.size + 2 < w2.heap.size := by have := hb2.size; simp at this; omega
  have hB2 : Below w.heap.size w w2 := (below3 w _ _ _).trans (hb2.mono (by simp; omega))
  have hpl := padB_len l 8
  have hpz : padz l.length < 64 := Nat.mod_lt _ (by omega)
  have hp64 : (padB l 8).length % 64 = 0 := by rw [hpl]; unfold padz; omega
  have hpm : (padB l 8).length ≤ 140737488355700 := by omega
  have HPL : Hid _ := hpl
  clear hpl hb2 hpz
  generalize hTT : padB l 8 = T at *
  have HTT : Hid (padB l 8 = T) := hTT
  clear hTT
  go_wp2_with fail
  go_loopw [6] (fun v wr => ∃ q : Nat, 64 * q ≤ T.length ∧ v = .int .i64 (64 * (q : Int)) ∧ wr.heap[w.heap.size]? = some (.cells Z8x32 25) ∧ wr.heap[w.heap.size + 1]? = some (.cells (A32 (hst KS HS (toI T) q)) 98) ∧ wr.heap[w.heap.size + 2]? = some (.cells (A32 KS) 98) ∧ Below w.heap.size w wr ∧ w.heap.size + 2 < wr.heap.size) (fun v _ => T.length - (intOf v).toNat)
  case atStart => exact ⟨0, by omega, rfl, f0.out, fh.out, fk.out, hB2, hz2⟩
  case round =>
    clear f0 fh fk hz2 hB2
    obtain ⟨q, hq, rfl, d0, dh, dk, db, ds⟩ := hrel
    have D0 : Hid (wr.heap[w.heap.size]? = _) := d0
    have DH : Hid (wr.heap[w.heap.size + 1]? = _) := dh
    have DK : Hid (wr.heap[w.heap.size + 2]? = _) := dk
    have hcl := hst_len KS HS (toI T) rfl q
    clear d0 dh dk
    by_cases hlt : 64 * q < T.length
    · obtain ⟨bs, hbs⟩ : ∃ bs, bs = ((toI T).drop (64 * q)).take 64 := ⟨_, rfl⟩
      have hbl : bs.length = 64 := by rw [hbs]; simp [toI_len]; omega
      have HBS : Hid (bs = _) := hbs
      have hdt : decide (64 * (q : Int) < (T.length : Int)) = true := by simp; omega
      clear hbs hq
      generalize wr = W0 at *
      go_wp2_with fail
      clear hdt
      obtain ⟨B, hB⟩ : ∃ B, W0.heap.size = B := ⟨_, rfl⟩
      have HB : Hid (W0.heap.size = B) := hB
      clear hB
      go_loopw [7, 8] (fun v i wq => ∃ k : Nat, k ≤ 64 ∧ i = .int .i64 k ∧ wq.ownsRow B 98 1 v k ((wlist bs k).map (Value.int .u32)) ∧ Below B W0 wq ∧ B ≤ wq.heap.size) (fun _ i _ => 64 - (intOf i).toNat)
      case atStart => exact ⟨0, by omega, rfl, ⟨rfl, .inl ⟨rfl, rfl⟩⟩, Below.refl _ _, by rw [HB.out]; exact Nat.le_refl _⟩
      case round =>
        obtain ⟨k, hk, rfl, hown, hbk, hBk⟩ := hrel
        have HO : Hid (wr.ownsRow B 98 1 u7 k ((wlist bs k).map (Value.int .u32))) := hown
        clear hown
        by_cases h64 : k < 64
        · by_cases h16 : k < 16
          · go_wp2_with fail
            refine (word_at T _ (64 * q + 4 * k) (by omega) _ (by omega) (by omega)).mono ?_
            rintro e w3 ⟨rfl, rfl⟩
            rw [word_block T q k h16 bs HBS.out]
            have HW : Hid (wlist bs (k + 1) = wlist bs k ++ [wordOf bs k]) := by
              show wlist bs k ++ [wnext bs (wlist bs k)] = _
              rw [wnext_word bs k h16]
            generalize wordOf bs k = y at *
            go_wp2_with (first
              | (at_builtin
                 refine wpList_app1 rfl (.tmp 42) (.tmp 49) rfl B u7 (wlist bs k) k rfl (owns_alloc HO.out _) w3.heap.size y rfl (heapN w3 _ _ rfl) (by omega) (by simp; omega) ?_
                 intro v' w4 ho hg
                 refine hideGoal ?_))
            have ho' : Hid (w4.ownsRow B 98 1 v' (k + 1) ((wlist bs (k + 1)).map (Value.int .u32))) := by rw [HW.out]; exact ho
            have hb4 := hg.below W0 (hbk.alloc hBk _)
            have hs4 : B ≤ w4.heap.size := by have := hg.size; simp at this; omega
            clear ho hg HO hbk hBk HW
            refine openGoal ?_
            go_wp2_with fail
            go_roundw
            case rel => exact ⟨k + 1, by omega, by go_num, ho'.out, hb4, hs4⟩
            case measure => simp [intOf]; omega
          · have hk16 : 16 ≤ k := by omega
            obtain ⟨g, cap, rfl, hBg, hgs, hkc, hcm, _, hcell⟩ := owns_cell HO.out (by omega)
            unfold maxLen at hcm
            have c2 := hcell (k - 2) (by omega)
            have c7 := hcell (k - 7) (by omega)
            have c15 := hcell (k - 15) (by omega)
            have c16 := hcell (k - 16) (by omega)
            have HW : Hid (wlist bs (k + 1) = wlist bs k ++ [wsum (ss1 ((wlist bs k).getD (k - 2) 0)) ((wlist bs k).getD (k - 7) 0) (ss0 ((wlist bs k).getD (k - 15) 0)) ((wlist bs k).getD (k - 16) 0)]) := by
              show wlist bs k ++ [wnext bs (wlist bs k)] = _
              rw [wnext_grow bs k hk16]
            generalize (wlist bs k).getD (k - 2) 0 = x2 at *
            generalize (wlist bs k).getD (k - 7) 0 = x7 at *
            generalize (wlist bs k).getD (k - 15) 0 = x15 at *
            generalize (wlist bs k).getD (k - 16) 0 = x16 at *
            clear hcell
            have b7 : IntKind.i64.wrap ((k : Int) - 7) = ((k - 7 : Nat) : Int) := i64_sub k 7 (by omega) h64
            have b16 : IntKind.i64.wrap ((k : Int) - 16) = ((k - 16 : Nat) : Int) := i64_sub k 16 (by omega) h64
            have l7 : ((k - 7 : Nat) : Int) < (k : Int) := by omega
            have l16 : ((k - 16 : Nat) : Int) < (k : Int) := by omega
            have B7 : Hid _ := b7
            have B16 : Hid _ := b16
            clear b7 b16
            go_wp2_with fail
            refine (right7 _ _).mono ?_
            rintro e w3 ⟨rfl, n1, rfl⟩
            go_wp2_with fail
            refine (right18 _ _).mono ?_
            rintro e w3 ⟨rfl, n2, rfl⟩
            go_wp2_with fail
            refine (right17 _ _).mono ?_
            rintro e w3 ⟨rfl, n3, rfl⟩
            go_wp2_with fail
            refine (right19 _ _).mono ?_
            rintro e w3 ⟨rfl, n4, rfl⟩
            go_wp2_with fail
            have b7 := B7.out
            have b16 := B16.out
            generalize k - 7 = j7 at *
            generalize k - 16 = j16 at *
            generalize hwd : World.drewN wr _ = wd
            have hO2 : Hid (wd.ownsRow B 98 1 (.slice (some ⟨g, 0, none⟩) k cap) k ((wlist bs k).map (Value.int .u32))) := by rw [← hwd]; exact owns_heap HO.out rfl
            have hb2 : Below B W0 wd := by rw [← hwd]; exact ⟨hbk.os, hbk.tape, hbk.output, hbk.size, hbk.block⟩
            have hB2 : B ≤ wd.heap.size := by rw [← hwd]; exact hBk
            have e7 : wd.cell? ⟨g, j7, none⟩ = some (.int .u32 x7) := by rw [← hwd]; exact c7
            have e16 : wd.cell? ⟨g, j16, none⟩ = some (.int .u32 x16) := by rw [← hwd]; exact c16
            clear hwd c2 c7 c15 c16 HO hbk hBk B7 B16
            have HY : Hid (IntKind.u32.wrap (IntKind.u32.wrap (IntKind.u32.wrap (bits .xor .u32 (bits .xor .u32 (rr 17 x2) (rr 19 x2)) (x2 / 1024) + x7) + bits .xor .u32 (bits .xor .u32 (rr 7 x15) (rr 18 x15)) (x15 / 8)) + x16) = wsum (ss1 x2) x7 (ss0 x15) x16) := by
              show _ = _
              simp only [u32_wrap]
              exact wsum_nest (ss1 x2) x7 (ss0 x15) x16
            go_region_law ((refine step_app1 (by rfl) (.tmp 77) (.tmp 93) (by rfl) B (.slice (some ⟨g, 0, none⟩) k cap) (wlist bs k) k (by rfl) (by exact owns_heap (owns_alloc hO2.out _) rfl) wd.heap.size _ (by rfl) (by exact heapN wd _ _ rfl) (by omega) (by simp; omega) ?_; intro v' w4 ho hg))
            all_goals
              rw [HY.out] at ho
              have ho' : Hid (w4.ownsRow B 98 1 v' (k + 1) ((wlist bs (k + 1)).map (Value.int .u32))) := by rw [HW.out]; exact ho
              have hb4 := hg.below W0 ((hb2.alloc hB2 _).drew)
              have hs4 : B ≤ w4.heap.size := by have := hg.size; simp at this; omega
              clear ho hg hO2 hb2 hB2 HW HY e7 e16 b7 b16 l7 l16
              go_wp2_with fail
              go_roundw
              case rel => exact ⟨k + 1, by omega, by go_num, ho'.out, hb4, hs4⟩
              case measure => simp [intOf]; omega
        · have hk64 : k = 64 := by omega
          obtain ⟨g, cap, rfl, hBg, hgs, hkc, hcm, _, hcell⟩ := owns_cell HO.out (by omega)
          unfold maxLen at hcm
          have HC : Hid (∀ j, j < 64 → wr.cell? ⟨g, j, none⟩ = some (.int .u32 ((wlist bs 64).getD j 0))) := by
            have := hcell; rw [hk64] at this; exact this
          have hBs := HB.out
          have m0 : wr.heap[w.heap.size]? = _ := (hbk.block w.heap.size (by omega)).trans D0.out
          have mh : wr.heap[w.heap.size + 1]? = _ := (hbk.block (w.heap.size + 1) (by omega)).trans DH.out
          have mk : wr.heap[w.heap.size + 2]? = _ := (hbk.block (w.heap.size + 2) (by omega)).trans DK.out
          have mb : Below w.heap.size w wr := db.trans (hbk.mono (by omega))
          have ms : w.heap.size + 2 < wr.heap.size := by omega
          have M0 : Hid _ := m0
          have MH : Hid _ := mh
          have MK : Hid _ := mk
          have MB : Hid _ := mb
          have HST : Hid (hst KS HS (toI T) (q + 1) = tstate KS (hst KS HS (toI T) q) bs) := by
            show tstate KS (hst KS HS (toI T) q) _ = _
            rw [HBS.out]
          have hc : ∀ i, i < 8 → wr.cell? ⟨w.heap.size + 1, i, none⟩ = some (.int .u32 ((hst KS HS (toI T) q).getD i 0)) := fun i hi => by
            rw [cell_of_row _ _ _ _ _ _ mh, A32_get _ _ (by rw [hcl]; omega)]
          have c0 := hc 0 (by omega)
          have c1 := hc 1 (by omega)
          have c2 := hc 2 (by omega)
          have c3 := hc 3 (by omega)
          have c4 := hc 4 (by omega)
          have c5 := hc 5 (by omega)
          have c6 := hc 6 (by omega)
          have c7 := hc 7 (by omega)
          generalize wr = W1 at *
          clear hc hcell m0 mh mk mb HO hbk hBk D0 DH DK db ds hBs HB hBg
          generalize hst KS HS (toI T) q = st at *
          obtain ⟨x0, x1, x2, x3, x4, x5, x6, x7, hst8⟩ := list8 st hcl
          subst hst8
          have HR : Hid (rinit [x0, x1, x2, x3, x4, x5, x6, x7] = ⟨x0, x1, x2, x3, x4, x5, x6, x7⟩) := rfl
          have HT : Hid (∀ r, rrun KS (wlist bs 64) (rinit [x0, x1, x2, x3, x4, x5, x6, x7]) 64 = r → tstate KS [x0, x1, x2, x3, x4, x5, x6, x7] bs = [(x0 + r.a) % 4294967296, (x1 + r.b) % 4294967296, (x2 + r.c) % 4294967296, (x3 + r.d) % 4294967296,
              (x4 + r.e) % 4294967296, (x5 + r.f) % 4294967296, (x6 + r.g) % 4294967296, (x7 + r.h) % 4294967296]) := fun r h => by subst h; rfl
          have c0 : W1.cell? ⟨w.heap.size + 1, 0, none⟩ = some (.int .u32 x0) := c0
          have c1 : W1.cell? ⟨w.heap.size + 1, 1, none⟩ = some (.int .u32 x1) := c1
          have c2 : W1.cell? ⟨w.heap.size + 1, 2, none⟩ = some (.int .u32 x2) := c2
          have c3 : W1.cell? ⟨w.heap.size + 1, 3, none⟩ = some (.int .u32 x3) := c3
          have c4 : W1.cell? ⟨w.heap.size + 1, 4, none⟩ = some (.int .u32 x4) := c4
          have c5 : W1.cell? ⟨w.heap.size + 1, 5, none⟩ = some (.int .u32 x5) := c5
          have c6 : W1.cell? ⟨w.heap.size + 1, 6, none⟩ = some (.int .u32 x6) := c6
          have c7 : W1.cell? ⟨w.heap.size + 1, 7, none⟩ = some (.int .u32 x7) := c7
          have HK64 : Hid (k = 64) := hk64
          clear hk64 hk
          go_wp2_with fail
          go_quiet (fail)
          go_wp2_with fail
          go_quiet (fail)
          go_wp2_with fail
          go_loopw [11, 12, 13, 14, 15, 16, 17, 18, 19] (fun va vb vc vd ve vf vg vh i wr => ∃ j : Nat, j ≤ 64 ∧ i = .int .i64 j ∧ ∃ r : R8, rrun KS (wlist bs 64) (rinit [x0, x1, x2, x3, x4, x5, x6, x7]) j = r ∧ va = .int .u32 r.a ∧ vb = .int .u32 r.b ∧ vc = .int .u32 r.c ∧ vd = .int .u32 r.d ∧ ve = .int .u32 r.e ∧ vf = .int .u32 r.f ∧ vg = .int .u32 r.g ∧ vh = .int .u32 r.h ∧ wr.heap = W1.heap ∧ Below w.heap.size w wr) (fun _ _ _ _ _ _ _ _ i _ => 64 - (intOf i).toNat)
          case atStart =>
            have hB := MB.out
            refine ⟨0, by omega, rfl, _, HR.out, rfl, rfl, rfl, rfl, rfl, rfl, rfl, rfl, rfl, ?_⟩
            exact ⟨hB.os, hB.tape, hB.output, hB.size, hB.block⟩
          case round =>
            obtain ⟨j, hj, rfl, r, hrr, rfl, rfl, rfl, rfl, rfl, rfl, rfl, rfl, hh, hBr⟩ := hrel
            have Hrr : Hid (rrun KS (wlist bs 64) (rinit [x0, x1, x2, x3, x4, x5, x6, x7]) j = r) := hrr
            have Hh : Hid (wr.heap = W1.heap) := hh
            have hcell : ∀ p, wr.cell? p = W1.cell? p := fun p => World.cell?_of_block (congrArg (fun h : Array Obj => h[p.block]?) hh)
            have mk2 : wr.heap[w.heap.size + 2]? = _ := (congrArg (fun h : Array Obj => h[w.heap.size + 2]?) hh).trans MK.out
            have mh2 : wr.heap[w.heap.size + 1]? = _ := (congrArg (fun h : Array Obj => h[w.heap.size + 1]?) hh).trans MH.out
            by_cases hj64 : j < 64
            · have q1 : wr.cell? ⟨w.heap.size + 2, j, none⟩ = some (.int .u32 (KS.getD j 0)) := by
                rw [cell_of_row _ _ _ _ _ _ mk2, A32_get _ _ (by show j < 64; exact hj64)]
              have q5 : wr.cell? ⟨g, j, none⟩ = some (.int .u32 ((wlist bs 64).getD j 0)) := by
                rw [hcell]; exact HC.out j hj64
              have HS2 : Hid (rrun KS (wlist bs 64) (rinit [x0, x1, x2, x3, x4, x5, x6, x7]) (j + 1) = rstep r (KS.getD j 0) ((wlist bs 64).getD j 0)) := by
                show rstep (rrun KS (wlist bs 64) (rinit [x0, x1, x2, x3, x4, x5, x6, x7]) j) _ _ = _
                rw [Hrr.out]
              generalize KS.getD j 0 = kk at q1 HS2
              generalize (wlist bs 64).getD j 0 = ww at q5 HS2
              have hjk : (j : Int) < (k : Int) := by omega
              clear hcell mk2 mh2 c0 c1 c2 c3 c4 c5 c6 c7 hrr hh
              go_wp2_with fail
              refine (right6 _ _).mono ?_
              rintro e w3 ⟨rfl, n1, rfl⟩
              go_wp2_with fail
              refine (right11 _ _).mono ?_
              rintro e w3 ⟨rfl, n2, rfl⟩
              go_wp2_with fail
              refine (right25 _ _).mono ?_
              rintro e w3 ⟨rfl, n3, rfl⟩
              go_wp2_with fail
              go_quiet (fail)
              go_wp2_with fail
              refine (right2 _ _).mono ?_
              rintro e w3 ⟨rfl, n4, rfl⟩
              go_wp2_with fail
              refine (right13 _ _).mono ?_
              rintro e w3 ⟨rfl, n5, rfl⟩
              go_wp2_with fail
              refine (right22 _ _).mono ?_
              rintro e w3 ⟨rfl, n6, rfl⟩
              go_wp2_with fail
              go_roundw
              case rel =>
                refine ⟨j + 1, by omega, by go_num, _, HS2.out, rfl, rfl, rfl, rfl, rfl, rfl, rfl, rfl, Hh.out, ?_⟩
                exact ⟨hBr.os, hBr.tape, hBr.output, hBr.size, hBr.block⟩
              case measure => simp [intOf]; omega
            · rw [← hcell] at c0 c1 c2 c3 c4 c5 c6 c7
              have hj' : j = 64 := by omega
              have hT := HT.out r (by have := Hrr.out; rw [hj'] at this; exact this)
              rw [← HST.out] at hT
              have HT9 : Hid _ := hT
              have m02 : wr.heap[w.heap.size]? = _ := (congrArg (fun h : Array Obj => h[w.heap.size]?) hh).trans M0.out
              have S0 : Hid (wr.heap[w.heap.size]? = _) := m02
              have SK : Hid (wr.heap[w.heap.size + 2]? = _) := mk2
              have SH : Hid (wr.heap[w.heap.size + 1]? = some (.cells (A32 [x0, x1, x2, x3, x4, x5, x6, x7]) 98)) := mh2
              have SS : w.heap.size + 2 < wr.heap.size := by rw [congrArg Array.size hh]; exact ms
              clear hcell mk2 mh2 hT hrr hh m02 hj' c1 c2 c3 c4 c5 c6 c7 HC M0 MK MH MB HT Hrr Hh ms hgs
              generalize wr = V0 at *
              obtain ⟨v0, hv0⟩ : ∃ v, v = (x0 + r.a) % 4294967296 := ⟨_, rfl⟩
              have HV0 : Hid (v0 = (x0 + r.a) % 4294967296) := hv0
              clear hv0
              go_wp2_with (first
                | (with_reducible refine atStore 98 ?_
                   refine wpList_store_cell rfl (.tmp 192) (.tmp 191) rfl (w.heap.size + 1) 0 [x0, x1, x2, x3, x4, x5, x6, x7] v0 rfl ?_ SH.out (by show 0 < 8; omega) ?_
                   · rw [HV0.out]; rfl
                   intro V1 hS
                   refine hideGoal ?_))
              have S0' := (hS.other w.heap.size (by omega)).trans S0.out
              have SK' := (hS.other (w.heap.size + 2) (by omega)).trans SK.out
              have SH' : V1.heap[w.heap.size + 1]? = some (.cells (A32 [v0, x1, x2, x3, x4, x5, x6, x7]) 98) := hS.here
              have SS' : w.heap.size + 2 < V1.heap.size := by rw [hS.size]; exact SS
              have SB' := hS.below _ _ (by omega) hBr
              clear S0 SK SH SS hBr c0 hS
              have S0 : Hid _ := S0'
              have SK : Hid _ := SK'
              have SH : Hid _ := SH'
              have SS := SS'
              have hBr := SB'
              have c1 : V1.cell? ⟨w.heap.size + 1, 1, none⟩ = some (.int .u32 x1) := by rw [cell_of_row _ _ _ _ _ _ SH']; rfl
              clear S0' SK' SH' SS' SB'
              refine openGoal ?_
              obtain ⟨v1, hv1⟩ : ∃ v, v = (x1 + r.b) % 4294967296 := ⟨_, rfl⟩
              have HV1 : Hid (v1 = (x1 + r.b) % 4294967296) := hv1
              clear hv1
              go_wp2_with (first
                | (with_reducible refine atStore 98 ?_
                   refine wpList_store_cell rfl (.tmp 199) (.tmp 198) rfl (w.heap.size + 1) 1 [v0, x1, x2, x3, x4, x5, x6, x7] v1 rfl ?_ SH.out (by show 1 < 8; omega) ?_
                   · rw [HV1.out]; rfl
                   intro V2 hS
                   refine hideGoal ?_))
              have S0' := (hS.other w.heap.size (by omega)).trans S0.out
              have SK' := (hS.other (w.heap.size + 2) (by omega)).trans SK.out
              have SH' : V2.heap[w.heap.size + 1]? = some (.cells (A32 [v0, v1, x2, x3, x4, x5, x6, x7]) 98) := hS.here
              have SS' : w.heap.size + 2 < V2.heap.size := by rw [hS.size]; exact SS
              have SB' := hS.below _ _ (by omega) hBr
              clear S0 SK SH SS hBr c1 hS
              have S0 : Hid _ := S0'
              have SK : Hid _ := SK'
              have SH : Hid _ := SH'
              have SS := SS'
              have hBr := SB'
              have c2 : V2.cell? ⟨w.heap.size + 1, 2, none⟩ = some (.int .u32 x2) := by rw [cell_of_row _ _ _ _ _ _ SH']; rfl
              clear S0' SK' SH' SS' SB'
              refine openGoal ?_
              obtain ⟨v2, hv2⟩ : ∃ v, v = (x2 + r.c) % 4294967296 := ⟨_, rfl⟩
              have HV2 : Hid (v2 = (x2 + r.c) % 4294967296) := hv2
              clear hv2
              go_wp2_with (first
                | (with_reducible refine atStore 98 ?_
                   refine wpList_store_cell rfl (.tmp 206) (.tmp 205) rfl (w.heap.size + 1) 2 [v0, v1, x2, x3, x4, x5, x6, x7] v2 rfl ?_ SH.out (by show 2 < 8; omega) ?_
                   · rw [HV2.out]; rfl
                   intro V3 hS
                   refine hideGoal ?_))
              have S0' := (hS.other w.heap.size (by omega)).trans S0.out
              have SK' := (hS.other (w.heap.size + 2) (by omega)).trans SK.out
              have SH' : V3.heap[w.heap.size + 1]? = some (.cells (A32 [v0, v1, v2, x3, x4, x5, x6, x7]) 98) := hS.here
              have SS' : w.heap.size + 2 < V3.heap.size := by rw [hS.size]; exact SS
              have SB' := hS.below _ _ (by omega) hBr
              clear S0 SK SH SS hBr c2 hS
              have S0 : Hid _ := S0'
              have SK : Hid _ := SK'
              have SH : Hid _ := SH'
              have SS := SS'
              have hBr := SB'
              have c3 : V3.cell? ⟨w.heap.size + 1, 3, none⟩ = some (.int .u32 x3) := by rw [cell_of_row _ _ _ _ _ _ SH']; rfl
              clear S0' SK' SH' SS' SB'
              refine openGoal ?_
              obtain ⟨v3, hv3⟩ : ∃ v, v = (x3 + r.d) % 4294967296 := ⟨_, rfl⟩
              have HV3 : Hid (v3 = (x3 + r.d) % 4294967296) := hv3
              clear hv3
              go_wp2_with (first
                | (with_reducible refine atStore 98 ?_
                   refine wpList_store_cell rfl (.tmp 213) (.tmp 212) rfl (w.heap.size + 1) 3 [v0, v1, v2, x3, x4, x5, x6, x7] v3 rfl ?_ SH.out (by show 3 < 8; omega) ?_
                   · rw [HV3.out]; rfl
                   intro V4 hS
                   refine hideGoal ?_))
              have S0' := (hS.other w.heap.size (by omega)).trans S0.out
              have SK' := (hS.other (w.heap.size + 2) (by omega)).trans SK.out
              have SH' : V4.heap[w.heap.size + 1]? = some (.cells (A32 [v0, v1, v2, v3, x4, x5, x6, x7]) 98) := hS.here
              have SS' : w.heap.size + 2 < V4.heap.size := by rw [hS.size]; exact SS
              have SB' := hS.below _ _ (by omega) hBr
              clear S0 SK SH SS hBr c3 hS
              have S0 : Hid _ := S0'
              have SK : Hid _ := SK'
              have SH : Hid _ := SH'
              have SS := SS'
              have hBr := SB'
              have c4 : V4.cell? ⟨w.heap.size + 1, 4, none⟩ = some (.int .u32 x4) := by rw [cell_of_row _ _ _ _ _ _ SH']; rfl
              clear S0' SK' SH' SS' SB'
              refine openGoal ?_
              obtain ⟨v4, hv4⟩ : ∃ v, v = (x4 + r.e) % 4294967296 := ⟨_, rfl⟩
              have HV4 : Hid (v4 = (x4 + r.e) % 4294967296) := hv4
              clear hv4
              go_wp2_with (first
                | (with_reducible refine atStore 98 ?_
                   refine wpList_store_cell rfl (.tmp 220) (.tmp 219) rfl (w.heap.size + 1) 4 [v0, v1, v2, v3, x4, x5, x6, x7] v4 rfl ?_ SH.out (by show 4 < 8; omega) ?_
                   · rw [HV4.out]; rfl
                   intro V5 hS
                   refine hideGoal ?_))
              have S0' := (hS.other w.heap.size (by omega)).trans S0.out
              have SK' := (hS.other (w.heap.size + 2) (by omega)).trans SK.out
              have SH' : V5.heap[w.heap.size + 1]? = some (.cells (A32 [v0, v1, v2, v3, v4, x5, x6, x7]) 98) := hS.here
              have SS' : w.heap.size + 2 < V5.heap.size := by rw [hS.size]; exact SS
              have SB' := hS.below _ _ (by omega) hBr
              clear S0 SK SH SS hBr c4 hS
              have S0 : Hid _ := S0'
              have SK : Hid _ := SK'
              have SH : Hid _ := SH'
              have SS := SS'
              have hBr := SB'
              have c5 : V5.cell? ⟨w.heap.size + 1, 5, none⟩ = some (.int .u32 x5) := by rw [cell_of_row _ _ _ _ _ _ SH']; rfl
              clear S0' SK' SH' SS' SB'
              refine openGoal ?_
              obtain ⟨v5, hv5⟩ : ∃ v, v = (x5 + r.f) % 4294967296 := ⟨_, rfl⟩
              have HV5 : Hid (v5 = (x5 + r.f) % 4294967296) := hv5
              clear hv5
              go_wp2_with (first
                | (with_reducible refine atStore 98 ?_
                   refine wpList_store_cell rfl (.tmp 227) (.tmp 226) rfl (w.heap.size + 1) 5 [v0, v1, v2, v3, v4, x5, x6, x7] v5 rfl ?_ SH.out (by show 5 < 8; omega) ?_
                   · rw [HV5.out]; rfl
                   intro V6 hS
                   refine hideGoal ?_))
              have S0' := (hS.other w.heap.size (by omega)).trans S0.out
              have SK' := (hS.other (w.heap.size + 2) (by omega)).trans SK.out
              have SH' : V6.heap[w.heap.size + 1]? = some (.cells (A32 [v0, v1, v2, v3, v4, v5, x6, x7]) 98) := hS.here
              have SS' : w.heap.size + 2 < V6.heap.size := by rw [hS.size]; exact SS
              have SB' := hS.below _ _ (by omega) hBr
              clear S0 SK SH SS hBr c5 hS
              have S0 : Hid _ := S0'
              have SK : Hid _ := SK'
              have SH : Hid _ := SH'
              have SS := SS'
              have hBr := SB'
              have c6 : V6.cell? ⟨w.heap.size + 1, 6, none⟩ = some (.int .u32 x6) := by rw [cell_of_row _ _ _ _ _ _ SH']; rfl
              clear S0' SK' SH' SS' SB'
              refine openGoal ?_
              obtain ⟨v6, hv6⟩ : ∃ v, v = (x6 + r.g) % 4294967296 := ⟨_, rfl⟩
              have HV6 : Hid (v6 = (x6 + r.g) % 4294967296) := hv6
              clear hv6
              go_wp2_with (first
                | (with_reducible refine atStore 98 ?_
                   refine wpList_store_cell rfl (.tmp 234) (.tmp 233) rfl (w.heap.size + 1) 6 [v0, v1, v2, v3, v4, v5, x6, x7] v6 rfl ?_ SH.out (by show 6 < 8; omega) ?_
                   · rw [HV6.out]; rfl
                   intro V7 hS
                   refine hideGoal ?_))
              have S0' := (hS.other w.heap.size (by omega)).trans S0.out
              have SK' := (hS.other (w.heap.size + 2) (by omega)).trans SK.out
              have SH' : V7.heap[w.heap.size + 1]? = some (.cells (A32 [v0, v1, v2, v3, v4, v5, v6, x7]) 98) := hS.here
              have SS' : w.heap.size + 2 < V7.heap.size := by rw [hS.size]; exact SS
              have SB' := hS.below _ _ (by omega) hBr
              clear S0 SK SH SS hBr c6 hS
              have S0 : Hid _ := S0'
              have SK : Hid _ := SK'
              have SH : Hid _ := SH'
              have SS := SS'
              have hBr := SB'
              have c7 : V7.cell? ⟨w.heap.size + 1, 7, none⟩ = some (.int .u32 x7) := by rw [cell_of_row _ _ _ _ _ _ SH']; rfl
              clear S0' SK' SH' SS' SB'
              refine openGoal ?_
              obtain ⟨v7, hv7⟩ : ∃ v, v = (x7 + r.h) % 4294967296 := ⟨_, rfl⟩
              have HV7 : Hid (v7 = (x7 + r.h) % 4294967296) := hv7
              clear hv7
              go_wp2_with (first
                | (with_reducible refine atStore 98 ?_
                   refine wpList_store_cell rfl (.tmp 241) (.tmp 240) rfl (w.heap.size + 1) 7 [v0, v1, v2, v3, v4, v5, v6, x7] v7 rfl ?_ SH.out (by show 7 < 8; omega) ?_
                   · rw [HV7.out]; rfl
                   intro V8 hS
                   refine hideGoal ?_))
              have S0' := (hS.other w.heap.size (by omega)).trans S0.out
              have SK' := (hS.other (w.heap.size + 2) (by omega)).trans SK.out
              have SH' : V8.heap[w.heap.size + 1]? = some (.cells (A32 [v0, v1, v2, v3, v4, v5, v6, v7]) 98) := hS.here
              have SS' : w.heap.size + 2 < V8.heap.size := by rw [hS.size]; exact SS
              have SB' := hS.below _ _ (by omega) hBr
              clear S0 SK SH SS hBr c7 hS
              have S0 : Hid _ := S0'
              have SK : Hid _ := SK'
              have SH : Hid _ := SH'
              have SS := SS'
              have hBr := SB'
              clear S0' SK' SH' SS' SB'
              refine openGoal ?_
              go_wp2_with fail
              go_roundw
              case rel =>
                refine ⟨q + 1, by omega, by go_num, S0.out, ?_, SK.out, hBr, SS⟩
                rw [HT9.out, ← HV0.out, ← HV1.out, ← HV2.out, ← HV3.out, ← HV4.out, ← HV5.out, ← HV6.out, ← HV7.out]
                exact SH.out
              case measure => simp [intOf]; omega
    · have e64 : T.length / 64 = q := by omega
      have HE : Hid (dbytes (hst KS HS (toI T) (T.length / 64)) = dpart (hst KS HS (toI T) q) 32) := by rw [e64, dpart_all]; rfl
      have a0 : (wr.alloc (.cells Z8x32 25)).heap[w.heap.size]? = _ := (heapO wr _ _ (by omega)).trans D0.out
      have ah : (wr.alloc (.cells Z8x32 25)).heap[w.heap.size + 1]? = _ := (heapO wr _ _ (by omega)).trans DH.out
      have ao : (wr.alloc (.cells Z8x32 25)).heap[wr.heap.size]? = some (.cells (A8 (dpart (hst KS HS (toI T) q) 0)) 25) := by rw [dpart_zero]; exact heapN wr _ _ rfl
      have ab : Below w.heap.size w (wr.alloc (.cells Z8x32 25)) := db.alloc (by omega) _
      clear D0 DH DK db e64
      generalize hst KS HS (toI T) q = st at *
      obtain ⟨go, hgo⟩ : ∃ go, wr.heap.size = go := ⟨_, rfl⟩
      rw [hgo] at ao ds
      have A0 : Hid _ := a0
      have AH : Hid _ := ah
      have AO : Hid _ := ao
      clear a0 ah ao hq
      go_wp2_with fail
      go_loopw [25] (fun v wq => ∃ i : Nat, i ≤ 32 ∧ v = .int .i64 i ∧ wq.heap[w.heap.size]? = some (.cells Z8x32 25) ∧ wq.heap[w.heap.size + 1]? = some (.cells (A32 st) 98) ∧ wq.heap[go]? = some (.cells (A8 (dpart st i)) 25) ∧ Below w.heap.size w wq) (fun v _ => 32 - (intOf v).toNat)
      case atStart => exact ⟨0, by omega, rfl, A0.out, AH.out, AO.out, ab⟩
      case round =>
        clear A0 AH AO ab hgo
        obtain ⟨i, hi, rfl, d0, dh, dg, db⟩ := hrel
        have D0 : Hid (wr.heap[w.heap.size]? = _) := d0
        have DH : Hid (wr.heap[w.heap.size + 1]? = _) := dh
        clear d0
        by_cases hi32 : i < 32
        · have hc : wr.cell? ⟨w.heap.size + 1, i / 4, none⟩ = some (.int .u32 (st.getD (i / 4) 0)) := by
            rw [cell_of_row _ _ _ _ _ _ dh, A32_get _ _ (by rw [hcl]; omega)]
          have hc2 : wr.cell? ⟨go, i, none⟩ = some (.int .u8 ((dpart st i).getD i 0)) := by
            rw [cell_of_row _ _ _ _ _ _ dg, A8_get _ _ (by rw [dpart_len]; omega)]
          have hf := frozen_of_row wr go i _ _ dg
          have hG := heap_setCell_same wr go i _ _ (.int .u8 (dbyte st i)) dg
          rw [A8_set, dpart_step _ _ hi32] at hG
          have hsh : Hid (dbyte st i = st.getD (i / 4) 0 / 2 ^ (24 - 8 * (i % 4)) % 256) := by
            show _ = _
            rw [dbyte, show 8 * (3 - i % 4) = 24 - 8 * (i % 4) by omega]
          generalize (dpart st i).getD i 0 = y at hc2
          generalize st.getD (i / 4) 0 = x at hc hsh
          have HG : Hid _ := hG
          have h4 : i / 4 < 8 := by omega
          clear dh dg hG
          go_wp2_with fail
          go_roundw
          case rel =>
            refine ⟨i + 1, by omega, by go_num, ?_, ?_, ?_, db.setCell (by simp; omega) _⟩
            · rw [heap_setCell_other _ _ _ _ (by simp; omega)]; exact D0.out
            · rw [heap_setCell_other _ _ _ _ (by simp; omega)]; exact DH.out
            · have := HG.out
              rw [hsh.out] at this
              exact this
          case measure => simp [intOf]; omega
        · have e : i = 32 := by omega
          have DG : Hid (wr.heap[go]? = some (.cells (A8 (dpart st 32)) 25)) := by
            have := dg; rw [e] at this; exact this
          have hl32 := dpart_len st 32
          generalize dpart st 32 = R at *
          clear dg dh e
          go_wp2_with (first
            | (with_reducible refine atLoad 25 ?_
               refine wpList_load_row rfl 25 (.tmp 24) rfl go rfl 25 (A8 R) (0, 0) (.array 32 5) DG.out und25 rfl (by rw [info25, A8_size, hl32]) ?_)
            | (with_reducible refine atStore 25 ?_
               refine wpList_store_W rfl 25 (.tmp 2) (.tmp 259) rfl w.heap.size (A8 R) rfl rfl 25 Z8x32 D0.out (by rw [info25, A8_size, hl32]) (by rw [A8_size, hl32]; rfl) (A8_one _) ?_
               intro U hU))
          exact bodyPost_ret (v := .agg (A8 R)) (results_cell_row rfl _ _ w.heap.size 25 _ (0, 0) _ rfl hU.here und25 rfl (by rw [info25, A8_size, hl32])) rfl ⟨by rw [HTT.out, HE.out], hU.below _ _ (Nat.le_refl _) db⟩
end Go.Proofs.YtcmjlhcpoajbkaaDoor
