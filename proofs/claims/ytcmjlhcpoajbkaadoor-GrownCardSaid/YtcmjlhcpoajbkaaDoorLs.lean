import Derived.Test.YtcmjlhcpoajbkaaDoorSd
namespace Go.Proofs.YtcmjlhcpoajbkaaDoor
set_option maxRecDepth 10000
open Go.RowKit
theorem und42 : ∃ fs, Tryd.prog.underlying 42 = some (.struct fs) := ⟨_, Tryd.underlying42⟩
theorem info42 : (Tryd.prog.info? 42).map (·.size) = some 65 := by kernel_rfl
set_option maxHeartbeats 4000000 in
theorem signs_any (v0 : Value) (n : Int) (R T xs : List Int) (w : World) (hT : Tabs KS HS w) (h0 : Arg w v0 xs) (hn : n ≤ 9223372036854775807) (hl : R.length = 32) (hb : Bytes R) (hl' : T.length = 32) (hb' : Bytes T) :
    Calls Tryd.prog 5 #[v0, .agg (headCells n R T)] w fun e w' => e = .returned (.bool true) ∧ Below w.heap.size w w' := by
  have hsm := h0.small
  have hxb := h0.bytes
  have H0 : Hid (Arg w v0 xs) := h0
  have HTb : Hid (Tabs KS HS w) := hT
  clear h0 hT
  have hb0 : Below w.heap.size w (w.alloc (.cells (headCells n R T) 42)) := (Below.refl _ _).alloc (Nat.le_refl _) _
  have hg := heapN w (.cells (headCells n R T) 42) _ rfl
  have hHs := headCells_size n R T hl hl'
  go_enter Tryd.func5, Tryd.ntmps5
  go_wp2_with fail
  refine (alive_any _ (HTb.out.below hb0)).mono ?_
  rintro e w1 ⟨rfl, b1⟩
  have B1 : Below w.heap.size w w1 := hb0.trans (b1.mono (by simp))
  have hg1 : w1.heap[w.heap.size]? = some (.cells (headCells n R T) 42) := (b1.block _ (by simp)).trans hg
  have HH1 := hd_of hl hl' hg1
  have c1 := (H0.out.below B1).conv
  have s1 := HH1.size
  have HR1 : Hid (At8 w1 ⟨w.heap.size, 1, none⟩ R) := HH1.root
  have l1 := row_lt hg1
  have Hg1 : Hid (w1.heap[w.heap.size]? = _) := hg1
  clear b1 hg hg1 HH1
  go_wp2_with (first
    | (with_reducible refine atLoad 25 ?_
       refine load_at rfl _ rfl ⟨w.heap.size, 1, none⟩ rfl R hl HR1.out ?_))
  refine (refSign_any w1 (toU xs) xs (toI_toU xs hxb) (by rw [toU_len]; omega) n R hl hb).mono ?_
  rintro e w2 ⟨rfl, b2⟩
  have B2 := B1.trans (b2.mono B1.size)
  have hkl := signP_len xs n R
  have hkb := signP_bytes xs n R
  have Hg2 : Hid (w2.heap[w.heap.size]? = _) := (b2.block _ l1).trans Hg1.out
  have n2 : Hid (Dg (w2.alloc (.cells Z8x32 25)) w2.heap.size Z32) := Dg.new w2 _ rfl
  have l2 := row_lt Hg2.out
  have hs2 := B2.size
  obtain ⟨D, hD⟩ : ∃ D, signP xs n R = D := ⟨_, rfl⟩
  have HD : Hid (signP xs n R = D) := hD
  rw [hD] at hkl hkb ⊢
  clear hD b2 c1 s1 HR1 Hg1
  go_wp2_with (first
    | (with_reducible refine atStore 25 ?_
       refine store_D rfl _ _ rfl w2.heap.size D rfl rfl Z32 n2.out hkl ?_
       intro U hU
       refine hideGoal ?_))
  have BU := hU.below _ _ hs2 (B2.alloc hs2 _)
  have dU : Hid (Dg U w2.heap.size D) := hU.dg hkl
  have HgU : Hid (U.heap[w.heap.size]? = _) := ((hU.other _ (by omega)).trans (heapO w2 _ _ l2)).trans Hg2.out
  clear hU n2 Hg2
  generalize w2.heap.size = g2 at *
  refine openGoal ?_
  go_wp2_with fail
  refine (roomy_any (H0.out.below BU)).mono ?_
  rintro e w3 ⟨p, ne, cap, rfl, b3, hP, hI⟩
  have B3 := BU.trans (b3.mono BU.size)
  have d3 : Hid (Dg w3 g2 D) := dU.out.next b3
  have Hg3 : Hid (w3.heap[w.heap.size]? = _) := (b3.block _ (row_lt HgU.out)).trans HgU.out
  have HP : Hid (Pair w3 v0 p ne cap xs) := hP
  have HI : Hid (In8 w3 p ne cap xs) := hI
  clear hP hI b3 dU HgU BU
  obtain ⟨fs, hfs⟩ := und42
  go_wp2_with (first
    | (with_reducible refine atLoad 42 ?_
       refine wpList_load_row rfl 42 (.tmp 3) rfl w.heap.size rfl 42 (headCells n R T) (0, 0) (.struct fs) Hg3.out hfs rfl (by rw [info42, hHs]) ?_))
  refine (signed_any w3 (HTb.out.below B3) p ne cap xs HI.out n hn R T hl hb hl' hb').mono ?_
  rintro e w4 ⟨rfl, b4⟩
  have B4 := B3.trans (b4.mono B3.size)
  have d4 : Hid (Dg w4 g2 D) := d3.out.next b4
  have hg4 : w4.heap[w.heap.size]? = some (.cells (headCells n R T) 42) := (b4.block _ (row_lt Hg3.out)).trans Hg3.out
  have HP4 : Hid (Pair w4 v0 p ne cap xs) := HP.out.below b4
  have HI4 : Hid (In8 w4 p ne cap xs) := HI.out.below b4
  have HH4 := hd_of hl hl' hg4
  have s4 := HH4.size
  have HR4 : Hid (At8 w4 ⟨w.heap.size, 1, none⟩ R) := HH4.root
  have Hg4 : Hid (w4.heap[w.heap.size]? = _) := hg4
  have HS1 : Hid (signedP xs n R T = if 0 ≤ n then decide (T = D) else false) := by
    show signedP xs n R T = _
    unfold signedP; rw [HD.out]
  have HS2 : Hid (signedP xs n R D = if 0 ≤ n then true else false) := by
    show signedP xs n R D = _
    unfold signedP; rw [HD.out]; simp
  clear b4 HP HI d3 Hg3 hg4 HH4 B3
  generalize signedP xs n R T = sg1 at *
  go_wp2_with (first
    | (with_reducible refine atLoad 25 ?_
       first
         | refine load_at rfl _ rfl ⟨w.heap.size, 1, none⟩ rfl R hl HR4.out ?_
         | refine load_D rfl _ rfl g2 rfl D d4.out ?_)
    | (with_reducible refine atBuild 42 ?_
       refine wpList_build_head rfl _ _ _ rfl n R D rfl rfl rfl hl hkl ?_))
  refine (signed_any w4 (HTb.out.below B4) p ne cap xs HI4.out n hn R D hl hb hkl hkb).mono ?_
  rintro e w5 ⟨rfl, b5⟩
  have B5 := B4.trans (b5.mono B4.size)
  have d5 : Hid (Dg w5 g2 D) := d4.out.next b5
  have hg5 : w5.heap[w.heap.size]? = some (.cells (headCells n R T) 42) := (b5.block _ (row_lt Hg4.out)).trans Hg4.out
  have HP5 : Hid (Pair w5 v0 p ne cap xs) := HP4.out.below b5
  have HH5 := hd_of hl hl' hg5
  have s5 := HH5.size
  have HT5 : Hid (At8 w5 ⟨w.heap.size, 33, none⟩ T) := HH5.tag
  clear b5 HP4 HI4 d4 Hg4 hg5 HH5 B4 s4 HR4
  generalize signedP xs n R D = sg2 at *
  go_wp2_with fail
  refine (kept_any HP5.out).mono ?_
  rintro e w6 ⟨rfl, hw6⟩
  rw [hw6]
  clear hw6 w6
  have hs1 := HS1.out
  have hs2 := HS2.out
  by_cases hz : 0 ≤ n
  · rw [if_pos hz] at hs1 hs2
    subst hs2
    go_wp2_with (first
      | (with_reducible refine atLoad 25 ?_
         first
           | refine load_at rfl _ rfl ⟨w.heap.size, 33, none⟩ rfl T hl' HT5.out ?_
           | refine load_D rfl _ rfl g2 rfl D d5.out ?_)
      | (with_reducible refine atBin .eql 25 25 ?_
         refine wpList_eql rfl _ _ rfl T D hl' hb' hkl hkb rfl rfl ?_))
    go_ret
    exact ⟨by simp, B5⟩
  · rw [if_neg hz] at hs1 hs2
    subst hs1 hs2
    go_wp2_with fail
    go_ret
    exact ⟨rfl, B5⟩
end Go.Proofs.YtcmjlhcpoajbkaaDoor
