import Derived.Test.YtcmjlhcpoajbkaaDoorQBw
import Derived.Test.YtcmjlhcpoajbkaaDoorQSg
namespace Go.Proofs.YtcmjlhcpoajbkaaDoor
set_option maxRecDepth 10000
set_option linter.unusedSimpArgs false
open Go.RowKit
/-- The 32 bytes behind an entry in a file. -/
def sealP (key s e : List Int) : List Int := tagP KS HS key (s ++ e)
theorem sealP_len (key s e : List Int) : (sealP key s e).length = 32 := tagP_len _ _ _ _
theorem sealP_bytes (key s e : List Int) : Bytes (sealP key s e) := finP_bytes _ _ _ _
set_option maxHeartbeats 2000000 in
theorem sealOf_any (w : World) (hT : Tabs KS HS w) (p : Option Addr) (m c : Nat) (key : List Int) (hi : In8 w p m c key) (R : List Int) (hl : R.length = 32) (hb : Bytes R) (q : Option Addr) (n d : Nat) (e : List Int) (he : In8 w q n d e) (hn : n ≤ 1000) :
    Calls Tryd.prog 79 #[.slice p m c, .agg (A8 R), .slice q n d] w fun ex w' => ex = .returned (.agg (A8 (sealP key R e))) ∧ Below w.heap.size w w' := by
  have hb0 := below2 w (.cells (A8 R) 25) (.cells Z8x32 25)
  have V0 := heap2 w (.cells (A8 R) 25) (.cells Z8x32 25)
  have hel := he.len
  have ec := cat2 R e
  have B1 : Below w.heap.size w (((w.alloc (.cells (A8 R) 25)).alloc (.cells Z8x32 25)).alloc (.cells #[.slice (some ⟨w.heap.size, 0, none⟩) 32 32, .slice q n d] 22)) := hb0.alloc (by have := hb0.size; simp; omega) _
  have h2' := heapN ((w.alloc (.cells (A8 R) 25)).alloc (.cells Z8x32 25)) (.cells #[.slice (some ⟨w.heap.size, 0, none⟩) 32 32, .slice q n d] 22) _ rfl
  have r2 : (((w.alloc (.cells (A8 R) 25)).alloc (.cells Z8x32 25)).alloc (.cells #[.slice (some ⟨w.heap.size, 0, none⟩) 32 32, .slice q n d] 22)).heap[w.heap.size]? = some (.cells (A8 R) 25) := (heapO _ _ _ (row_lt V0.1)).trans V0.1
  have d2 : Dg (((w.alloc (.cells (A8 R) 25)).alloc (.cells Z8x32 25)).alloc (.cells #[.slice (some ⟨w.heap.size, 0, none⟩) 32 32, .slice q n d] 22)) (w.heap.size + 1) Z32 := ⟨rfl, (heapO _ _ _ (row_lt V0.2)).trans V0.2⟩
  go_enter Tryd.func79, Tryd.ntmps79
  go_wp2_with fail
  simp only [World.size_alloc] at h2'
  refine (concat_any (w.heap.size + 1 + 1) 2 (pf2 (some ⟨w.heap.size, 0, none⟩) q) (nf2 32 n) (nf2 32 d) (xf2 R e) (((w.alloc (.cells (A8 R) 25)).alloc (.cells Z8x32 25)).alloc (.cells #[.slice (some ⟨w.heap.size, 0, none⟩) 32 32, .slice q n d] 22)) (by omega) ?_ ?_ (by rw [ec, List.length_append]; omega) (by rw [ec, List.length_append]; omega)).mono ?_
  · intro i hi'
    rw [cell_of_row _ _ _ _ _ _ h2']
    rcases i with _ | _ | i
    · rfl
    · rfl
    · omega
  · intro i hi'
    rcases i with _ | _ | i
    · exact in8_blk (n := 32) hl hb (by omega) r2
    · exact he.below B1
    · omega
  rintro ex w3 ⟨p3, n3, c3, rfl, b3, hi3⟩
  rw [ec] at hi3
  have B3 : Below w.heap.size w w3 := B1.trans (b3.mono B1.size)
  have d3 : Hid (Dg w3 (w.heap.size + 1) Z32) := d2.next b3
  have HI3 : Hid (In8 w3 p3 n3 c3 (R ++ e)) := hi3
  clear hi3 b3 B1 h2' r2 d2 V0 hb0
  go_wp2_with fail
  refine (tag_any KS HS w3 (hT.below B3) p p3 m c n3 c3 key (R ++ e) (hi.below B3) HI3.out).mono ?_
  rintro ex w4 ⟨rfl, b4⟩
  have B4 : Below w.heap.size w w4 := B3.trans (b4.mono B3.size)
  have d4 : Hid (Dg w4 (w.heap.size + 1) Z32) := d3.out.next b4
  have hkl := sealP_len key R e
  have es : tagP KS HS key (R ++ e) = sealP key R e := rfl
  rw [es]
  obtain ⟨D, hD⟩ : ∃ D, sealP key R e = D := ⟨_, rfl⟩
  have HD : Hid (sealP key R e = D) := hD
  rw [hD] at hkl ⊢
  clear hD es b4 d3 HI3 B3
  go_wp2_with (first
    | (with_reducible refine atStore 25 ?_
       refine store_D rfl _ _ rfl (w.heap.size + 1) D rfl rfl Z32 d4.out hkl ?_
       intro U hU))
  exact bodyPost_ret (results_D rfl _ _ (w.heap.size + 1) D rfl (hU.dg hkl)) rfl ⟨by rw [HD.out], hU.below _ _ (by omega) B4⟩
/-- The seal and the file, entry by entry. -/
def sealU (key : List Int) (es : List (List Int)) : Nat → List Int
  | 0 => Z32
  | k + 1 => sealP key (sealU key es k) (es.getD k [])
def saveU (key : List Int) (es : List (List Int)) : Nat → List Int
  | 0 => []
  | k + 1 => saveU key es k ++ (longI ((es.getD k []).length : Nat) 4 ++ (es.getD k [] ++ sealU key es (k + 1)))
def saveP (key : List Int) (es : List (List Int)) : List Int := saveU key es es.length
theorem sealU_ok (key : List Int) (es : List (List Int)) (k : Nat) : (sealU key es k).length = 32 ∧ Bytes (sealU key es k) := by
  cases k with
  | zero => exact ⟨rfl, Z32_bytes⟩
  | succ k => exact ⟨sealP_len _ _ _, sealP_bytes _ _ _⟩
theorem saveU_len (key : List Int) (es : List (List Int)) (h : ∀ k, (es.getD k []).length ≤ 300) : ∀ k, (saveU key es k).length ≤ k * 336 := by
  intro k
  induction k with
  | zero => simp [saveU]
  | succ k ih =>
    have h1 := h k
    have h2 := (sealU_ok key es (k + 1)).1
    have h3 := longI_len ((es.getD k []).length : Nat) 4
    simp only [saveU, List.length_append, h2, h3]
    omega
theorem in8_dg {w : World} {g : Nat} {D : List Int} (h : Dg w g D) (hb : Bytes D) : In8 w (some ⟨g, 0, none⟩) 32 32 D := in8_blk (n := 32) h.len hb (by omega) h.here
theorem KpG.dg {B g k : Nat} {w w' : World} {D : List Int} (h : KpG B g w w') (hd : Dg w k D) (h1 : k < B) (h2 : k ≠ g) : Dg w' k D := ⟨hd.len, (h.block k hd.lt (fun hx => by rcases hx with hx | hx; exact h2 hx; omega)).trans hd.here⟩
set_option maxHeartbeats 8000000 in
theorem save_any (w : World) (hT : Tabs KS HS w) (g : Nat) (key : List Int) (es : List (List Int)) (hL : LogR w g key es) (hne : 1 ≤ es.length) :
    Calls Tryd.prog 39 #[.pointer (some ⟨g, 0, none⟩)] w fun e w' => e = .returned (.string ⟨(toU (saveP key es)).toArray⟩) ∧ Below w.heap.size w w' := by
  obtain ⟨⟨kp, kn, kc, hk0, hkI⟩, ⟨ep, ec, he0, hE, _⟩, hfew⟩ := hL
  obtain ⟨eb, eo, rfl, hebl, hec⟩ := hE.lies (by omega)
  have hfit := hE.fits
  have hroom := hE.room
  have he300 : Hid (∀ k, (es.getD k []).length ≤ 300) := fun k => by
    rcases Nat.lt_or_ge k es.length with h | h
    · obtain ⟨p', n', c', _, h2, h3⟩ := hec k h
      have := h2.len; omega
    · rw [List.getD_eq_getElem?_getD, List.getElem?_eq_none h]; simp
  have HEC : Hid (∀ i, i < es.length → ∃ p' n' c', w.cell? ⟨eb, eo + i, none⟩ = some (.slice p' n' c') ∧ In8 w p' n' c' (es.getD i []) ∧ n' ≤ 300) := hec
  clear hec hE
  have hb0 := below2 w (.cells #[.pointer none, .slice none 0 0] 132) (.cells Z8x32 25)
  have V0 := heap2 w (.cells #[.pointer none, .slice none 0 0] 132) (.cells Z8x32 25)
  have HB0 : Hid (Bld ((w.alloc (.cells #[.pointer none, .slice none 0 0] 132)).alloc (.cells Z8x32 25)) (w.heap.size + 2) w.heap.size (saveU key es 0)) :=
    ⟨by omega, by simp, fun j => by simp [saveU], .pointer none, .slice none 0 0, V0.1, .inl rfl, rfl, .inl ⟨rfl, rfl⟩⟩
  have HD0 : Hid (Dg ((w.alloc (.cells #[.pointer none, .slice none 0 0] 132)).alloc (.cells Z8x32 25)) (w.heap.size + 1) (sealU key es 0)) := ⟨rfl, V0.2⟩
  have HBL : Hid (Below w.heap.size w ((w.alloc (.cells #[.pointer none, .slice none 0 0] 132)).alloc (.cells Z8x32 25))) := hb0
  have hcw := fun o1 o2 => cell_alloc (cell_alloc he0 o1) o2
  clear hb0 V0
  go_enter Tryd.func39, Tryd.ntmps39
  go_wp2_with fail
  go_loopw [12] (fun i wr => ∃ k : Nat, k ≤ es.length ∧ i = .int .i64 k ∧ Bld wr (w.heap.size + 2) w.heap.size (saveU key es k) ∧ Dg wr (w.heap.size + 1) (sealU key es k) ∧ Below w.heap.size w wr) (fun i _ => es.length - (intOf i).toNat)
  case atStart => exact ⟨0, by omega, rfl, HB0.out, HD0.out, HBL.out⟩
  case round =>
    obtain ⟨k, hk, rfl, hB, hD, hbr⟩ := hrel
    have HB : Hid _ := hB
    have HD : Hid _ := hD
    clear hB hD HB0 HD0 HBL hcw
    have hlen := saveU_len key es he300.out k
    by_cases hlt : k < es.length
    · obtain ⟨q, qn, qc, hcell, hq, hq3⟩ := HEC.out k hlt
      have hcr : wr.cell? ⟨eb, eo + k, none⟩ = some (.slice q qn qc) := by rw [hbr.cell (p := ⟨eb, eo + k, none⟩) hebl]; exact hcell
      have HQ : Hid (In8 w q qn qc (es.getD k [])) := hq
      have hix : ∀ W : World, (Instr.indexAt 47 (.slice (some ⟨eb, eo, none⟩) es.length ec) (.int .i64 k)).run Tryd.prog W = .ok (.pointer (some ⟨eb, eo + k, none⟩)) W := fun W => by
        have h1 : (k : Int) < es.length := by omega
        go_simp
      have hkr : wr.drew.cell? ⟨g, 0, none⟩ = some (.slice kp kn kc) := by
        have : wr.cell? ⟨g, 0, none⟩ = some (.slice kp kn kc) := by rw [hbr.cell (block_lt_of_cell hk0)]; exact hk0
        exact this
      have hgs : g < w.heap.size := by have := block_lt_of_cell hk0; simpa using this
      have hks : ∀ W : World, Below w.heap.size w W → W.cell? ⟨g, 0, none⟩ = some (.slice kp kn kc) := fun W hW => by rw [hW.cell (block_lt_of_cell hk0)]; exact hk0
      clear hq hcell
      go_wp2_with fail
      have hbd : Below w.heap.size w wr.drew := hbr.drew
      have HDd : Dg wr.drew (w.heap.size + 1) (sealU key es k) := ⟨HD.out.len, HD.out.here⟩
      refine wp_region_noPanic ?_
      refine wp_region_held (S := fun W => W.cell? ⟨g, 0, none⟩ = some (.slice kp kn kc)) follows ?_
      refine wpAnyH_take (i := 0) (v := .pointer (some ⟨g, 0, none⟩)) rfl (by kernel_rfl) (by kernel_rfl) (by kernel_rfl) (fun _ _ _ h => h) (.inl ⟨rfl, fun W _ => by go_simp⟩) hkr ?_
      simp only [Act.put, List.getElem_toArray, List.getElem_cons_zero, List.getElem_cons_succ, List.setIfInBounds_toArray, List.set_cons_zero, List.set_cons_succ]
      refine wpAnyH_take (i := 1) (v := .pointer (some ⟨g, 0, none⟩)) rfl (by kernel_rfl) (by kernel_rfl) (by kernel_rfl) (fun _ _ _ h => h) (.inl ⟨rfl, fun W _ => by go_simp⟩) hkr ?_
      simp only [Act.put, List.getElem_toArray, List.getElem_cons_zero, List.getElem_cons_succ, List.setIfInBounds_toArray, List.set_cons_zero, List.set_cons_succ]
      refine wpAnyH_take (i := 2) (v := .pointer (some ⟨g, 0, none⟩)) rfl (by kernel_rfl) (by kernel_rfl) (by kernel_rfl) (fun _ _ _ h => h) (.inl ⟨rfl, fun W _ => by go_simp⟩) hkr ?_
      simp only [Act.put, List.getElem_toArray, List.getElem_cons_zero, List.getElem_cons_succ, List.setIfInBounds_toArray, List.set_cons_zero, List.set_cons_succ]
      refine wpAnyH_take (i := 3) (v := .slice kp kn kc) rfl (by kernel_rfl) (by kernel_rfl) (by kernel_rfl) (fun _ _ _ h => h) (.inl ⟨rfl, fun W hW => by have e := hW; go_simp⟩) hkr ?_
      simp only [Act.put, List.getElem_toArray, List.getElem_cons_zero, List.getElem_cons_succ, List.setIfInBounds_toArray, List.set_cons_zero, List.set_cons_succ]
      refine wpAnyH_take (i := 5) (v := .slice q qn qc) rfl (by kernel_rfl) (by kernel_rfl) (by kernel_rfl) (fun _ _ _ h => h) (.inl ⟨rfl, fun W _ => by go_simp⟩) hkr ?_
      simp only [Act.put, List.getElem_toArray, List.getElem_cons_zero, List.getElem_cons_succ, List.setIfInBounds_toArray, List.set_cons_zero, List.set_cons_succ]
      refine relist #[true, true, true, true, false, true, false, false] (by kernel_rfl) ?_
      refine any_one (i := 4) (by kernel_rfl) ?_
      refine wpOp_load_D rfl rfl (.tmp 4) rfl (w.heap.size + 1) rfl (sealU key es k) HDd ?_
      refine ⟨hkr, ?_⟩
      simp only [Act.put, List.getElem_toArray, List.getElem_cons_zero, List.getElem_cons_succ, List.setIfInBounds_toArray, List.set_cons_zero, List.set_cons_succ]
      refine relist #[true, true, true, true, true, true, false, false] (by kernel_rfl) ?_
      refine any_one (i := 6) (by kernel_rfl) ?_
      refine wpOp_call (f := 79) (args := #[.slice kp kn kc, .agg (A8 (sealU key es k)), .slice q qn qc]) rfl rfl (by go_simp) ?_
      refine (sealOf_any wr.drew (hT.below hbd) kp kn kc key (hkI.below hbd) (sealU key es k) (sealU_ok _ _ _).1 (sealU_ok _ _ _).2 q qn qc (es.getD k []) (HQ.out.below hbd) (by omega)).mono ?_
      rintro ex w1 ⟨rfl, b1⟩
      have es1 : sealP key (sealU key es k) (es.getD k []) = sealU key es (k + 1) := rfl
      rw [es1]
      have B1 : Below w.heap.size w w1 := hbd.trans (b1.mono hbd.size)
      have D1 : Dg w1 (w.heap.size + 1) (sealU key es k) := HDd.next b1
      have HB1 : Bld w1 (w.heap.size + 2) w.heap.size (saveU key es k) := Bld.below (w := wr) HB.out (show Below wr.heap.size wr w1 from (Below.refl _ _).drew.trans b1)
      obtain ⟨hsl, hsb⟩ := sealU_ok key es (k + 1)
      refine ⟨_, rfl, hks _ B1, ?_⟩
      simp only [Act.put, List.getElem_toArray, List.getElem_cons_zero, List.getElem_cons_succ, List.setIfInBounds_toArray, List.set_cons_zero, List.set_cons_succ]
      refine relist #[true, true, true, true, true, true, true, false] (by kernel_rfl) ?_
      refine any_one (i := 7) (by kernel_rfl) ?_
      refine wpOp_store_D rfl rfl (.tmp 4) (.tmp 22) rfl (w.heap.size + 1) (sealU key es (k + 1)) rfl rfl (sealU key es k) D1 hsl ?_
      intro U hU
      have BU : Below w.heap.size w U := hU.below _ _ (by omega) B1
      refine ⟨hks _ BU, ?_⟩
      simp only [Act.put, List.getElem_toArray, List.getElem_cons_zero, List.getElem_cons_succ, List.setIfInBounds_toArray, List.set_cons_zero, List.set_cons_succ]
      refine wpAnyH_done (by kernel_rfl) ?_ _
      refine NoPanic.normal ?_
      have DU : Hid (Dg U (w.heap.size + 1) (sealU key es (k + 1))) := hU.dg hsl
      have HBU : Hid (Bld U (w.heap.size + 2) w.heap.size (saveU key es k)) := by
        obtain ⟨h1, h2, h3, ad, v, h4, h5, h6⟩ := HB1
        refine ⟨h1, by rw [hU.size]; exact h2, h3, ad, v, (hU.other _ (by omega)).trans h4, h5, ?_⟩
        obtain ⟨e1, e2 | ⟨q', cap, cur, hv, hg', hh, r⟩⟩ := h6
        · exact ⟨e1, .inl e2⟩
        · exact ⟨e1, .inr ⟨q', cap, cur, hv, hg', (hU.other _ (by omega)).trans hh, r⟩⟩
      have hql := HQ.out.len
      have hqe : ((es.getD k []).length : Int) = qn := by omega
      have HSV : Hid (saveU key es (k + 1) = saveU key es k ++ (longI ((es.getD k []).length : Nat) 4 ++ (es.getD k [] ++ sealU key es (k + 1)))) := rfl
      rw [hql] at HSV
      clear hU HB1 D1 HDd HB HD b1 B1 hkr hcr hbd
      obtain ⟨SL, hSL⟩ : ∃ SL, sealU key es (k + 1) = SL := ⟨_, rfl⟩
      have HSL : Hid (sealU key es (k + 1) = SL) := hSL
      rw [hSL] at DU hsl hsb HSV ⊢
      clear hSL
      generalize saveU key es k = SF at *
      have hu : IntKind.u64.wrap (qn : Int) = qn := by simp only [IntKind.wrap, IntKind.bits, IntKind.signed]; simp; omega
      go_wp2_with fail
      refine (highest_any (qn : Int) 4 U (by omega)).mono ?_
      rintro ex w2 ⟨rfl, b2, hg2⟩
      have B2 := BU.trans (b2.mono BU.size)
      have HB2 : Hid (Bld w2 (w.heap.size + 2) w.heap.size SF) := HBU.out.below b2
      have D2 : Hid (Dg w2 (w.heap.size + 1) SL) := DU.out.next b2
      have I2 : In8 w2 (some ⟨U.heap.size, 0, none⟩) 4 4 (longI qn 4) := in8_blk (n := 4) (longI_len _ _) (longI_bytes _ _) (by omega) hg2
      have hUs := HBU.out.size
      clear HBU DU b2 hg2
      go_wp2_with fail
      refine (write_any w2 _ _ SF HB2.out _ 4 4 (longI qn 4) I2 (fun _ ad ha => by cases ha; show U.heap.size ≠ _; omega) (by omega)).mono ?_
      rintro ex w3 ⟨⟨v3, rfl⟩, HB3, k3⟩
      have B3 : Below w.heap.size w w3 := Kp.below k3 (fun k hk => by rcases hk with hk | hk <;> omega) B2.size B2
      have D3 : Hid (Dg w3 (w.heap.size + 1) SL) := k3.dg D2.out (by omega) (by omega)
      have HB3' : Hid _ := HB3
      clear HB2 D2 k3 HB3 I2 B2
      go_wp2_with fail
      refine (write_any w3 _ _ _ HB3'.out q qn qc (es.getD k []) (HQ.out.below B3) (fun h0 ad ha => by
        obtain ⟨gg, off, hp, hlt', _⟩ := HQ.out.lies (by omega)
        rw [hp] at ha; cases ha; show gg ≠ _; omega) (by rw [List.length_append, longI_len]; omega)).mono ?_
      rintro ex w4 ⟨⟨v4, rfl⟩, HB4, k4⟩
      have B4 : Below w.heap.size w w4 := Kp.below k4 (fun k hk => by rcases hk with hk | hk <;> omega) B3.size B3
      have D4 : Hid (Dg w4 (w.heap.size + 1) SL) := k4.dg D3.out (by omega) (by omega)
      have HB4' : Hid _ := HB4
      clear HB3' D3 k4 HB4 B3
      go_wp2_with fail
      refine (write_any w4 _ _ _ HB4'.out (some ⟨w.heap.size + 1, 0, none⟩) 32 32 SL (in8_dg D4.out hsb) (fun _ ad ha => by cases ha; show w.heap.size + 1 ≠ _; omega) (by rw [List.length_append, List.length_append, longI_len]; omega)).mono ?_
      rintro ex w5 ⟨⟨v5, rfl⟩, HB5, k5⟩
      have B5 : Below w.heap.size w w5 := Kp.below k5 (fun k hk => by rcases hk with hk | hk <;> omega) B4.size B4
      have D5 : Hid (Dg w5 (w.heap.size + 1) SL) := k5.dg D4.out (by omega) (by omega)
      have HB5' : Hid (Bld w5 (w.heap.size + 2) w.heap.size (SF ++ (longI (qn : Int) 4 ++ (es.getD k [] ++ SL)))) := by
        have h := HB5
        rw [List.append_assoc, List.append_assoc] at h
        exact h
      clear HB4' D4 k5 HB5 B4
      go_wp2_with fail
      go_roundw
      case rel => exact ⟨k + 1, by omega, by go_num, by rw [HSV.out]; exact HB5'.out, by rw [HSL.out]; exact D5.out, B5⟩
      case measure => simp [intOf]; omega
    · have ek : k = es.length := by omega
      subst ek
      have hpos : 0 < (saveU key es es.length).length := by
        obtain ⟨j, hj⟩ : ∃ j, es.length = j + 1 := ⟨es.length - 1, by omega⟩
        rw [hj]
        have h3 := longI_len ((es.getD j []).length : Nat) 4
        simp only [saveU, List.length_append, h3]
        omega
      go_wp2_with fail
      refine (string_any wr _ _ _ HB.out hpos (by omega) w.heap.size (by omega)).mono ?_
      rintro ex w2 ⟨rfl, b2⟩
      have B2 := hbr.trans b2
      go_wp2_with fail
      go_ret
      exact ⟨rfl, B2⟩
end Go.Proofs.YtcmjlhcpoajbkaaDoor
