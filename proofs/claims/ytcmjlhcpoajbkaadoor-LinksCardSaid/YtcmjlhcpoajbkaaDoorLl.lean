import Derived.Test.YtcmjlhcpoajbkaaDoorGe
import Derived.Test.YtcmjlhcpoajbkaaDoorLc
namespace Go.Proofs.YtcmjlhcpoajbkaaDoor
set_option maxRecDepth 10000
open Go.RowKit
set_option maxHeartbeats 4000000 in
theorem links_any (m n : Int) (v2 : Value) (ds : List (List Int)) (old now : List Int) (w : World) (hT : Tabs KS HS w) (h2 : DArg w v2 ds) (ho : Ok32 old) (hw : Ok32 now) (hn : n ≤ 9223372036854775807) :
    Calls Tryd.prog 6 #[.int .i64 m, .int .i64 n, v2, .agg (A8 old), .agg (A8 now)] w fun e w' => e = .returned (.bool true) ∧ Below w.heap.size w w' := by
  have hb0 := below2 w (.cells (A8 old) 25) (.cells (A8 now) 25)
  have V0 := heap2 w (.cells (A8 old) 25) (.cells (A8 now) 25)
  obtain ⟨V, hV⟩ : ∃ V, V = (w.alloc (.cells (A8 old) 25)).alloc (.cells (A8 now) 25) := ⟨_, rfl⟩
  rw [← hV] at hb0 V0
  have oV : Dg V w.heap.size old := ⟨ho.1, V0.1⟩
  have wV : Dg V (w.heap.size + 1) now := ⟨hw.1, V0.2⟩
  clear V0
  have H2 : Hid (DArg w v2 ds) := h2
  have HTb : Hid (Tabs KS HS w) := hT
  clear h2 hT
  go_enter Tryd.func6, Tryd.ntmps6
  go_wp2_with fail
  refine (alive_any _ (hV ▸ HTb.out.below hb0)).mono ?_
  rintro e w1 ⟨rfl, b1⟩
  have b1' : Below V.heap.size V w1 := by rw [hV]; exact b1
  have B1 : Below w.heap.size w w1 := hb0.trans (b1'.mono hb0.size)
  have o1 := oV.next b1'
  have n1 := wV.next b1'
  clear b1 b1' oV wV hb0
  go_wp2_with fail
  refine (roomyD_any (H2.out.below B1)).mono ?_
  rintro e w2 ⟨q, k, cap, rfl, b2, hP, hD⟩
  have B2 := B1.trans (b2.mono B1.size)
  have O2 : Hid (Dg w2 w.heap.size old) := o1.next b2
  have N2 : Hid (Dg w2 (w.heap.size + 1) now) := n1.next b2
  have HP : Hid (PairD w2 v2 q k cap ds) := hP
  have HD : Hid (D32 w2 q k cap ds) := hD
  clear hP hD b2 o1 n1 B1
  go_wp2_with (first
    | (with_reducible refine atLoad 25 ?_
       first
         | refine load_D rfl _ rfl w.heap.size rfl old O2.out ?_
         | refine load_D rfl _ rfl (w.heap.size + 1) rfl now N2.out ?_))
  refine (extends_any m n k q cap ds old now ho hw w2 (HTb.out.below B2) HD.out hn).mono ?_
  rintro e w3 ⟨rfl, b3⟩
  have B3 := B2.trans (b3.mono B2.size)
  have O3 : Hid (Dg w3 w.heap.size old) := O2.out.next b3
  have N3 : Hid (Dg w3 (w.heap.size + 1) now) := N2.out.next b3
  have HP3 : Hid (PairD w3 v2 q k cap ds) := HP.out.below b3
  have HD3 : Hid (D32 w3 q k cap ds) := HD.out.below b3
  have EA : Hid (extP Z32 m n ds old now = extP old m n ds old now) := extP_indep _ _ _ _ _ _ _
  rw [EA.out]
  clear b3 O2 N2 HP HD B2 EA
  go_wp2_with (first
    | (with_reducible refine atLoad 25 ?_
       refine load_D rfl _ rfl w.heap.size rfl old O3.out ?_))
  refine (extends_any m n k q cap ds old old ho ho w3 (HTb.out.below B3) HD3.out hn).mono ?_
  rintro e w4 ⟨rfl, b4⟩
  have B4 := B3.trans (b4.mono B3.size)
  have O4 : Hid (Dg w4 w.heap.size old) := O3.out.next b4
  have N4 : Hid (Dg w4 (w.heap.size + 1) now) := N3.out.next b4
  have HP4 : Hid (PairD w4 v2 q k cap ds) := HP3.out.below b4
  have EA : Hid (extP Z32 m n ds old old = extP old m n ds old old) := extP_indep _ _ _ _ _ _ _
  rw [EA.out]
  clear b4 O3 N3 HP3 HD3 B3 EA
  go_wp2_with fail
  refine (keptD_any HP4.out).mono ?_
  rintro e w5 ⟨rfl, b5⟩
  have B5 := B4.trans (b5.mono B4.size)
  have O5 : Hid (Dg w5 w.heap.size old) := O4.out.next b5
  have N5 : Hid (Dg w5 (w.heap.size + 1) now) := N4.out.next b5
  clear b5 O4 N4 HP4 B4
  obtain ⟨p2, q2, c2, hv2, hd2⟩ := (H2.out.below B5).d32
  have HD5 : Hid (D32 w5 p2 q2 c2 ds) := hd2
  clear hd2
  subst hv2
  have HX1 : Hid (∀ W : World, Below w5.heap.size w5 W → Calls Tryd.prog 30 #[.int .i64 m, .int .i64 n, .slice p2 q2 c2, .agg (A8 old), .agg (A8 now)] W fun ex w' => ex = .returned (.bool (extP old m n ds old now)) ∧ Below W.heap.size W w') := fun W hW => refExtends_any m n q2 p2 c2 ds old now ho hw W (HD5.out.below hW) hn
  have HX2 : Hid (∀ W : World, Below w5.heap.size w5 W → Calls Tryd.prog 30 #[.int .i64 m, .int .i64 n, .slice p2 q2 c2, .agg (A8 old), .agg (A8 old)] W fun ex w' => ex = .returned (.bool (extP old m n ds old old)) ∧ Below W.heap.size W w') := fun W hW => refExtends_any m n q2 p2 c2 ds old old ho ho W (HD5.out.below hW) hn
  generalize extP old m n ds old now = r1 at *
  generalize extP old m n ds old old = r2 at *
  go_wp2_with (first
    | (with_reducible refine atLoad 25 ?_
       first
         | refine load_D rfl _ rfl w.heap.size rfl old O5.out ?_
         | refine load_D rfl _ rfl (w.heap.size + 1) rfl now N5.out ?_))
  refine (HX1.out w5 (Below.refl _ _)).mono ?_
  rintro e w6 ⟨rfl, b6⟩
  have B6 := B5.trans (b6.mono B5.size)
  have O6 : Hid (Dg w6 w.heap.size old) := O5.out.next b6
  have hr1 : (r1 == r1) = true := by simp
  go_wp2_with (first
    | (with_reducible refine atLoad 25 ?_
       refine load_D rfl _ rfl w.heap.size rfl old O6.out ?_))
  refine (HX2.out w6 b6).mono ?_
  rintro e w7 ⟨rfl, b7⟩
  have B7 := B6.trans (b7.mono B6.size)
  have hr2 : (r2 == r2) = true := by simp
  clear HX1 HX2 O5 N5 HD5 O6 b6 b7 B6 B5
  go_wp2_with fail
  go_ret
  exact ⟨rfl, B7⟩
end Go.Proofs.YtcmjlhcpoajbkaaDoor
