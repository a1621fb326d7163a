import Derived.Test.YtcmjlhcpoajbkaaDoorCa
import Derived.Test.YtcmjlhcpoajbkaaDoorKd
namespace Go.Proofs.YtcmjlhcpoajbkaaDoor
set_option maxRecDepth 10000
open Go.RowKit
/-- Digests that were handed in. -/
def DArg (w : World) (v : Value) (ds : List (List Int)) : Prop :=
  (v = .slice none 0 0 ∧ ds = []) ∨ ∃ ad n cap, v = .slice (some ad) n cap ∧ n ≤ 4398046510976 ∧ D32 w (some ad) n cap ds
theorem DArg.below {w w' : World} {v : Value} {ds : List (List Int)} (h : DArg w v ds) (hb : Below w.heap.size w w') : DArg w' v ds := by
  rcases h with h | ⟨ad, n, cap, h1, h2, h3⟩
  · exact .inl h
  · exact .inr ⟨ad, n, cap, h1, h2, h3.below hb⟩
theorem d32_nil (w : World) : D32 w none 0 0 [] := ⟨rfl, fun d hd => by simp at hd, by omega, by omega, fun h => by omega⟩
theorem DArg.d32 {w : World} {v : Value} {ds : List (List Int)} (h : DArg w v ds) : ∃ p n cap, v = .slice p n cap ∧ D32 w p n cap ds := by
  rcases h with ⟨rfl, rfl⟩ | ⟨ad, n, cap, h1, h2, h3⟩
  · exact ⟨none, 0, 0, rfl, d32_nil w⟩
  · exact ⟨some ad, n, cap, h1, h3⟩
theorem roomyD_any {w : World} {v : Value} {ds : List (List Int)} (h : DArg w v ds) :
    Calls Tryd.prog 21 #[v] w fun e w' => ∃ p n cap, e = .returned (.slice p n cap) ∧ Below w.heap.size w w' ∧ PairD w' v p n cap ds ∧ D32 w' p n cap ds := by
  rcases h with ⟨rfl, rfl⟩ | ⟨ad, n, cap, rfl, h2, h3⟩
  · refine (roomyD_nil w).mono fun e w' ⟨he, hw⟩ => ?_
    subst hw
    exact ⟨none, 0, 0, he, Below.refl _ _, .inl ⟨rfl, rfl, rfl, rfl⟩, d32_nil _⟩
  · refine (roomyD_some ad n cap ds w h3 h2).mono fun e w' ⟨g, cap', he, hR⟩ => ?_
    have hD : D32 w' (some ⟨g, 0, none⟩) n cap' ds := ⟨h3.len, h3.all, by have := hR.fits; omega, hR.most, fun _ => ⟨_, rfl, hR.here, fun k hk j hj => by rw [addr_add, Nat.zero_add]; exact hR.cells k hk j hj⟩⟩
    exact ⟨_, n, cap', he, hR.below, .inr ⟨ad, cap, g, rfl, rfl, h2, hR.fits, hR.here, h3.below hR.below, hD, fun j hj => by rw [addr_add]; exact hR.mark j hj⟩, hD⟩
theorem keptD_any {w : World} {v : Value} {p : Option Addr} {n cap : Nat} {ds : List (List Int)} (h : PairD w v p n cap ds) :
    Calls Tryd.prog 24 #[.slice p n cap, v] w fun e w' => e = .returned (.bool true) ∧ Below w.heap.size w w' := by
  rcases h with ⟨rfl, rfl, rfl, rfl⟩ | ⟨ad, c, g, rfl, rfl, h3, h4, h5, h6, h7, h8⟩
  · exact (keptD_nil w).mono fun e w' ⟨he, hw⟩ => ⟨he, by rw [hw]; exact Below.refl _ _⟩
  · exact keptD_some ad g n c cap ds w h3 h4 h6 h7 h8
set_option maxHeartbeats 4000000 in
theorem climbs_any (v0 v3 : Value) (i n : Int) (xs : List Int) (ds : List (List Int)) (w : World) (hT : Tabs KS HS w) (h0 : Arg w v0 xs) (h3 : DArg w v3 ds) (hi : i ≤ 9223372036854775807) (hn : n ≤ 9223372036854775807) :
    Calls Tryd.prog 4 #[v0, .int .i64 i, .int .i64 n, v3] w fun e w' => e = .returned (.bool true) ∧ Below w.heap.size w w' := by
  have hsm := h0.small
  have hxb := h0.bytes
  have H0 : Hid (Arg w v0 xs) := h0
  have H3 : Hid (DArg w v3 ds) := h3
  have HTb : Hid (Tabs KS HS w) := hT
  clear h0 h3 hT
  go_enter Tryd.func4, Tryd.ntmps4
  go_wp2_with fail
  refine (roomy_any H0.out).mono ?_
  rintro e w1 ⟨p, ne, cap, rfl, b1, hP0, hI0⟩
  have HP0 : Hid (Pair w1 v0 p ne cap xs) := hP0
  have HI0 : Hid (In8 w1 p ne cap xs) := hI0
  clear hP0 hI0
  go_wp2_with fail
  refine (roomyD_any (H3.out.below b1)).mono ?_
  rintro e w2 ⟨q, m, cap', rfl, b2, hP3, hD3⟩
  have B2 := b1.trans (b2.mono b1.size)
  have HP0' : Hid (Pair w2 v0 p ne cap xs) := HP0.out.below b2
  have HI0' : Hid (In8 w2 p ne cap xs) := HI0.out.below b2
  have HP3 : Hid (PairD w2 v3 q m cap' ds) := hP3
  have HD3 : Hid (D32 w2 q m cap' ds) := hD3
  have hne : ne < 140737488355328 := by have := HI0.out.len; omega
  clear hP3 hD3 HP0 HI0 b1 b2
  go_wp2_with fail
  refine (annalClimb_any xs p ne cap hne i n q m cap' ds w2 (HTb.out.below B2) HI0'.out HD3.out hi hn).mono ?_
  rintro e w3 ⟨rfl, b3⟩
  obtain ⟨hl, hb⟩ := climbOut_ok xs i n ds
  have HO : Hid (climbOut xs i n ds = climbOut xs i n ds) := rfl
  have B3 := B2.trans (b3.mono B2.size)
  have HP0 : Hid (Pair w3 v0 p ne cap xs) := HP0'.out.below b3
  have HP3' : Hid (PairD w3 v3 q m cap' ds) := HP3.out.below b3
  have n3 : Hid (Dg (w3.alloc (.cells Z8x32 25)) w3.heap.size Z32) := Dg.new w3 _ rfl
  obtain ⟨O, hO⟩ : ∃ O, climbOut xs i n ds = O := ⟨_, rfl⟩
  have HOO : Hid (climbOut xs i n ds = O) := hO
  rw [hO] at hl hb ⊢
  clear hO b3 HP0' HP3 HD3 HI0' HO
  obtain ⟨D, f⟩ := O
  have hs3 := B3.size
  go_wp2_with (first
    | (with_reducible refine atStore 25 ?_
       refine store_D rfl _ _ rfl w3.heap.size D rfl rfl Z32 n3.out hl ?_
       intro U hU
       refine hideGoal ?_))
  have hAl : Below w3.heap.size w3 U := hU.below _ _ (Nat.le_refl _) ((Below.refl _ _).alloc (Nat.le_refl _) _)
  have BU := B3.trans (hAl.mono hs3)
  have UP0 : Hid (Pair U v0 p ne cap xs) := HP0.out.below hAl
  have UP3 : Hid (PairD U v3 q m cap' ds) := HP3'.out.below hAl
  have uD : Hid (Dg U w3.heap.size D) := hU.dg hl
  have cU := (H0.out.below BU).conv
  clear hU HP0 HP3' n3 B3 hAl
  generalize w3.heap.size = g3 at *
  obtain ⟨p3, m3, c3, hv3, hd3⟩ := (H3.out.below BU).d32
  have HD : Hid (D32 U p3 m3 c3 ds) := hd3
  clear hd3
  subst hv3
  refine openGoal ?_
  go_wp2_with fail
  refine (refClimbs_any (toU xs) xs (toI_toU xs hxb) (by rw [toU_len]; omega) i n p3 m3 c3 ds U HD.out hi hn).mono ?_
  rintro e w4 ⟨rfl, b4⟩
  rw [HOO.out]
  have B4 := BU.trans (b4.mono BU.size)
  have d4 : Hid (Dg w4 g3 D) := uD.out.next b4
  have l4 := d4.out.lt
  have n4 : Hid (Dg (w4.alloc (.cells Z8x32 25)) w4.heap.size Z32) := Dg.new w4 _ rfl
  have P0 : Hid (Pair w4 v0 p ne cap xs) := UP0.out.below b4
  have P3 : Hid (PairD w4 (.slice p3 m3 c3) q m cap' ds) := UP3.out.below b4
  have hs4 := B4.size
  clear b4 UP0 UP3 uD cU BU HD
  go_wp2_with (first
    | (with_reducible refine atStore 25 ?_
       refine store_D rfl _ _ rfl w4.heap.size D rfl rfl Z32 n4.out hl ?_
       intro V hV
       refine hideGoal ?_))
  have hAl : Below w4.heap.size w4 V := hV.below _ _ (Nat.le_refl _) ((Below.refl _ _).alloc (Nat.le_refl _) _)
  have BV := B4.trans (hAl.mono hs4)
  have VP0 : Hid (Pair V v0 p ne cap xs) := P0.out.below hAl
  have VP3 : Hid (PairD V (.slice p3 m3 c3) q m cap' ds) := P3.out.below hAl
  have vA : Hid (Dg V g3 D) := d4.out.next hAl
  have vB : Hid (Dg V w4.heap.size D) := hV.dg hl
  clear hV P0 P3 n4 B4 hAl d4
  generalize w4.heap.size = g4 at *
  refine openGoal ?_
  go_wp2_with fail
  refine (kept_any VP0.out).mono ?_
  rintro e w5 ⟨rfl, hw5⟩
  rw [hw5]
  clear hw5 w5
  go_wp2_with fail
  refine (keptD_any VP3.out).mono ?_
  rintro e w5 ⟨rfl, b5⟩
  have B5 := BV.trans (b5.mono BV.size)
  have eA : Hid (Dg w5 g3 D) := vA.out.next b5
  have eB : Hid (Dg w5 g4 D) := vB.out.next b5
  clear VP0 VP3 vA vB b5 BV
  go_wp2_with (first
    | (with_reducible refine atLoad 25 ?_
       first
         | refine load_D rfl _ rfl g3 rfl D eA.out ?_
         | refine load_D rfl _ rfl g4 rfl D eB.out ?_)
    | (with_reducible refine atBin .eql 25 25 ?_
       refine wpList_eql rfl _ _ rfl D D hl hb hl hb rfl rfl ?_))
  refine (num_any f w5).mono ?_
  rintro e w6 ⟨rfl, rfl⟩
  go_wp2_with fail
  go_ret
  exact ⟨rfl, B5⟩
end Go.Proofs.YtcmjlhcpoajbkaaDoor
