import Derived.Test.YtcmjlhcpoajbkaaDoorRc
import Derived.Test.YtcmjlhcpoajbkaaDoorWa
namespace Go.Proofs.YtcmjlhcpoajbkaaDoor
set_option maxRecDepth 10000
open Go.RowKit
/-- What Climb tells: the root, the error. -/
def climbOut (e : List Int) (i n : Int) (ds : List (List Int)) : List Int × Int :=
  if n < 1 ∨ i < 0 ∨ n ≤ i then (Z32, 1) else if (climbR e ds.reverse i.toNat n.toNat).2 = true then ((climbR e ds.reverse i.toNat n.toNat).1, 0) else (Z32, 1)
theorem climbOut_ok (e : List Int) (i n : Int) (ds : List (List Int)) : (climbOut e i n ds).1.length = 32 ∧ Bytes (climbOut e i n ds).1 := by
  unfold climbOut
  split
  · exact ⟨rfl, Z32_bytes⟩
  · split
    · exact climbR_ok _ _ _ _
    · exact ⟨rfl, Z32_bytes⟩
theorem isIn_any (i n : Int) (w : World) : Calls Tryd.prog 61 #[.int .i64 i, .int .i64 n] w fun ex w' => ex = .returned (.bool (decide (0 ≤ i) && decide (i < n))) ∧ w' = w := by
  obtain ⟨b, hb⟩ : ∃ b, (decide (0 ≤ i) && decide (i < n)) = b := ⟨_, rfl⟩
  rw [hb]
  by_cases h0 : 0 ≤ i
  · by_cases h1 : i < n
    · have HB : Hid (b = true) := by show b = true; rw [← hb, decide_eq_true h0, decide_eq_true h1]; rfl
      clear hb
      go_enter Tryd.func61, Tryd.ntmps61
      go_wp2_with fail
      go_ret
      exact ⟨by rw [HB.out]; rfl, rfl⟩
    · have HB : Hid (b = false) := by show b = false; rw [← hb, decide_eq_false h1]; simp
      clear hb
      go_enter Tryd.func61, Tryd.ntmps61
      go_wp2_with fail
      go_ret
      exact ⟨by rw [HB.out]; rfl, rfl⟩
  · have HB : Hid (b = false) := by show b = false; rw [← hb, decide_eq_false h0]; rfl
    clear hb
    go_enter Tryd.func61, Tryd.ntmps61
    go_wp2_with fail
    go_ret
    exact ⟨by rw [HB.out]; rfl, rfl⟩
set_option maxHeartbeats 1000000 in
theorem annalClimb_any (e : List Int) (pe : Option Addr) (ne ce : Nat) (hne : ne < 140737488355328) (i n : Int) (p : Option Addr) (m cap : Nat) (ds : List (List Int)) (w : World) (hT : Tabs KS HS w) (hI : In8 w pe ne ce e) (hD : D32 w p m cap ds) (hi : i ≤ 9223372036854775807) (hn : n ≤ 9223372036854775807) :
    Calls Tryd.prog 22 #[.slice pe ne ce, .int .i64 i, .int .i64 n, .slice p m cap] w fun ex w' => ex = .returned (.tuple #[.agg (A8 (climbOut e i n ds).1), .int .i64 (climbOut e i n ds).2]) ∧ Below w.heap.size w w' := by
  have hb0 : Below w.heap.size w (w.alloc (.cells Z8x32 25)) := (Below.refl _ _).alloc (Nat.le_refl _) _
  have d0 : Hid (Dg (w.alloc (.cells Z8x32 25)) w.heap.size Z32) := Dg.new w _ rfl
  by_cases h1 : 0 ≤ i ∧ i < n
  · have hin : (decide (0 ≤ i) && decide (i < n)) = true := by simp [h1.1, h1.2]
    obtain ⟨a, rfl⟩ : ∃ a : Nat, i = a := ⟨i.toNat, by omega⟩
    obtain ⟨b, rfl⟩ : ∃ b : Nat, n = b := ⟨n.toNat, by omega⟩
    have HE : Hid (climbOut e a b ds = if (climbR e ds.reverse a b).2 = true then ((climbR e ds.reverse a b).1, 0) else (Z32, 1)) := by
      show climbOut e a b ds = _
      unfold climbOut; rw [if_neg (by omega), Int.toNat_natCast, Int.toNat_natCast]
    go_enter Tryd.func22, Tryd.ntmps22
    go_wp2_with fail
    refine (isIn_any _ _ _).mono ?_
    rintro ex w0 ⟨rfl, rfl⟩
    rw [hin]
    go_wp2_with fail
    refine (climb_any e pe ne ce hne m a b p cap ds _ (hT.below hb0) (hI.below hb0) (hD.below hb0) (by omega) (by omega)).mono ?_
    rintro ex w1 ⟨rfl, b1⟩
    obtain ⟨hcl, hcb⟩ := climbR_ok e ds.reverse a b
    have d1 : Hid (Dg w1 w.heap.size Z32) := d0.out.next b1
    have B1 : Below w.heap.size w w1 := hb0.trans (b1.mono (by simp))
    have l1 := d1.out.lt
    have n1 : Hid (Dg (w1.alloc (.cells Z8x32 25)) w1.heap.size Z32) := Dg.new w1 _ rfl
    clear b1 d0
    generalize climbR e ds.reverse a b = C at *
    obtain ⟨C, ok⟩ := C
    have HD : Hid ((if ok = true then C else Z32).length = 32) := by
      show _ = _
      split
      · exact hcl
      · rfl
    generalize hDD : (if ok = true then C else Z32) = D at *
    have HDD : Hid ((if ok = true then C else Z32) = D) := hDD
    clear hDD
    go_wp2_with (first
      | (with_reducible refine atStore 25 ?_
         refine store_D rfl _ _ rfl w1.heap.size D rfl rfl Z32 n1.out HD.out ?_
         intro X hX
         refine hideGoal ?_))
    have dX : Hid (Dg X w.heap.size Z32) := (d1.out.alloc _).other hX (by omega)
    have cX : Hid (Dg X w1.heap.size D) := hX.dg HD.out
    have bX : Hid (Below w.heap.size w X) := hX.below _ _ (by omega) (B1.alloc (by omega) _)
    clear hX d1 n1 B1
    generalize w1.heap.size = g1 at *
    refine openGoal ?_
    cases ok with
    | true =>
      have hdc : C = D := HDD.out
      subst hdc
      go_wp2_with (first
        | (with_reducible refine atLoad 25 ?_
           refine load_D rfl _ rfl g1 rfl C cX.out ?_)
        | (with_reducible refine atStore 25 ?_
           refine store_D rfl _ _ rfl w.heap.size C rfl rfl Z32 dX.out hcl ?_
           intro Y hY
           refine hideGoal ?_))
      have dY : Hid (Dg Y w.heap.size C) := hY.dg hcl
      have bY : Hid (Below w.heap.size w Y) := hY.below _ _ (Nat.le_refl _) bX.out
      clear hY dX cX bX
      refine openGoal ?_
      go_wp2_with fail
      exact bodyPost_ret (results_DT rfl _ _ w.heap.size C rfl dY.out) rfl ⟨by rw [HE.out]; rfl, bY.out⟩
    | false =>
      go_wp2_with (first
        | (with_reducible refine atStore 25 ?_
           refine store_D rfl _ _ rfl w.heap.size Z32 rfl rfl Z32 dX.out rfl ?_
           intro Y hY
           refine hideGoal ?_))
      have dY : Hid (Dg Y w.heap.size Z32) := hY.dg rfl
      have bY : Hid (Below w.heap.size w Y) := hY.below _ _ (Nat.le_refl _) bX.out
      clear hY dX cX bX
      refine openGoal ?_
      go_wp2_with fail
      exact bodyPost_ret (results_DT rfl _ _ w.heap.size Z32 rfl dY.out) rfl ⟨by rw [HE.out]; rfl, bY.out⟩
  · have hin : (decide (0 ≤ i) && decide (i < n)) = false := by
      cases hd : (decide (0 ≤ i) && decide (i < n)) with
      | false => rfl
      | true => simp at hd; exact absurd hd h1
    have HE : Hid (climbOut e i n ds = (Z32, 1)) := by
      show climbOut e i n ds = _
      unfold climbOut; rw [if_pos (by omega)]
    go_enter Tryd.func22, Tryd.ntmps22
    go_wp2_with fail
    refine (isIn_any _ _ _).mono ?_
    rintro ex w0 ⟨rfl, rfl⟩
    rw [hin]
    go_wp2_with (first
      | (with_reducible refine atStore 25 ?_
         refine store_D rfl _ _ rfl w.heap.size Z32 rfl rfl Z32 d0.out rfl ?_
         intro X hX
         refine hideGoal ?_))
    have dX : Hid (Dg X w.heap.size Z32) := hX.dg rfl
    have bX : Hid (Below w.heap.size w X) := hX.below _ _ (Nat.le_refl _) hb0
    clear hX d0
    refine openGoal ?_
    go_wp2_with fail
    exact bodyPost_ret (results_DT rfl _ _ w.heap.size Z32 rfl dX.out) rfl ⟨by rw [HE.out]; rfl, bX.out⟩
set_option maxHeartbeats 1000000 in
theorem refClimbs_any (l : List UInt8) (e : List Int) (he : toI l = e) (hle : l.length ≤ 140737488355400) (i n : Int) (p : Option Addr) (m cap : Nat) (ds : List (List Int)) (w : World) (hD : D32 w p m cap ds) (hi : i ≤ 9223372036854775807) (hn : n ≤ 9223372036854775807) :
    Calls Tryd.prog 23 #[.string ⟨l.toArray⟩, .int .i64 i, .int .i64 n, .slice p m cap] w fun ex w' => ex = .returned (.tuple #[.agg (A8 (climbOut e i n ds).1), .int .i64 (climbOut e i n ds).2]) ∧ Below w.heap.size w w' := by
  have hb0 : Below w.heap.size w (w.alloc (.cells Z8x32 25)) := (Below.refl _ _).alloc (Nat.le_refl _) _
  have d0 : Hid (Dg (w.alloc (.cells Z8x32 25)) w.heap.size Z32) := Dg.new w _ rfl
  by_cases h1 : n < 1
  · have HE : Hid (climbOut e i n ds = (Z32, 1)) := by
      show climbOut e i n ds = _
      unfold climbOut; rw [if_pos (by omega)]
    go_enter Tryd.func23, Tryd.ntmps23
    go_wp2_with (first
      | (with_reducible refine atStore 25 ?_
         refine store_D rfl _ _ rfl w.heap.size Z32 rfl rfl Z32 d0.out rfl ?_
         intro X hX
         refine hideGoal ?_))
    have dX : Hid (Dg X w.heap.size Z32) := hX.dg rfl
    have bX : Hid (Below w.heap.size w X) := hX.below _ _ (Nat.le_refl _) hb0
    clear hX d0
    refine openGoal ?_
    go_wp2_with fail
    exact bodyPost_ret (results_DT rfl _ _ w.heap.size Z32 rfl dX.out) rfl ⟨by rw [HE.out]; rfl, bX.out⟩
  · by_cases h2 : i < 0
    · have HE : Hid (climbOut e i n ds = (Z32, 1)) := by
        show climbOut e i n ds = _
        unfold climbOut; rw [if_pos (by omega)]
      go_enter Tryd.func23, Tryd.ntmps23
      go_wp2_with (first
        | (with_reducible refine atStore 25 ?_
           refine store_D rfl _ _ rfl w.heap.size Z32 rfl rfl Z32 d0.out rfl ?_
           intro X hX
           refine hideGoal ?_))
      have dX : Hid (Dg X w.heap.size Z32) := hX.dg rfl
      have bX : Hid (Below w.heap.size w X) := hX.below _ _ (Nat.le_refl _) hb0
      clear hX d0
      refine openGoal ?_
      go_wp2_with fail
      exact bodyPost_ret (results_DT rfl _ _ w.heap.size Z32 rfl dX.out) rfl ⟨by rw [HE.out]; rfl, bX.out⟩
    · by_cases h3 : n ≤ i
      · have HE : Hid (climbOut e i n ds = (Z32, 1)) := by
          show climbOut e i n ds = _
          unfold climbOut; rw [if_pos (by omega)]
        go_enter Tryd.func23, Tryd.ntmps23
        go_wp2_with (first
          | (with_reducible refine atStore 25 ?_
             refine store_D rfl _ _ rfl w.heap.size Z32 rfl rfl Z32 d0.out rfl ?_
             intro X hX
             refine hideGoal ?_))
        have dX : Hid (Dg X w.heap.size Z32) := hX.dg rfl
        have bX : Hid (Below w.heap.size w X) := hX.below _ _ (Nat.le_refl _) hb0
        clear hX d0
        refine openGoal ?_
        go_wp2_with fail
        exact bodyPost_ret (results_DT rfl _ _ w.heap.size Z32 rfl dX.out) rfl ⟨by rw [HE.out]; rfl, bX.out⟩
      · obtain ⟨a, rfl⟩ : ∃ a : Nat, i = a := ⟨i.toNat, by omega⟩
        obtain ⟨b, rfl⟩ : ∃ b : Nat, n = b := ⟨n.toNat, by omega⟩
        have HE : Hid (climbOut e a b ds = if (climbR e ds.reverse a b).2 = true then ((climbR e ds.reverse a b).1, 0) else (Z32, 1)) := by
          show climbOut e a b ds = _
          unfold climbOut; rw [if_neg (by omega), Int.toNat_natCast, Int.toNat_natCast]
        have h3' : ¬ (b : Int) ≤ a := h3
        go_enter Tryd.func23, Tryd.ntmps23
        go_wp2_with fail
        refine (refClimb_any l e he hle m a b p cap ds _ (hD.below hb0) (by omega) (by omega)).mono ?_
        rintro ex w1 ⟨rfl, b1⟩
        obtain ⟨hcl, hcb⟩ := climbR_ok e ds.reverse a b
        have d1 : Hid (Dg w1 w.heap.size Z32) := d0.out.next b1
        have B1 : Below w.heap.size w w1 := hb0.trans (b1.mono (by simp))
        have l1 := d1.out.lt
        have n1 : Hid (Dg (w1.alloc (.cells Z8x32 25)) w1.heap.size Z32) := Dg.new w1 _ rfl
        clear b1 d0
        generalize climbR e ds.reverse a b = C at *
        obtain ⟨C, ok⟩ := C
        go_wp2_with (first
          | (with_reducible refine atStore 25 ?_
             refine store_D rfl _ _ rfl w1.heap.size C rfl rfl Z32 n1.out hcl ?_
             intro X hX
             refine hideGoal ?_))
        have dX : Hid (Dg X w.heap.size Z32) := (d1.out.alloc _).other hX (by omega)
        have cX : Hid (Dg X w1.heap.size C) := hX.dg hcl
        have bX : Hid (Below w.heap.size w X) := hX.below _ _ (by omega) (B1.alloc (by omega) _)
        clear hX d1 n1 B1
        generalize w1.heap.size = g1 at *
        refine openGoal ?_
        cases ok with
        | true =>
          go_wp2_with (first
            | (with_reducible refine atLoad 25 ?_
               refine load_D rfl _ rfl g1 rfl C cX.out ?_)
            | (with_reducible refine atStore 25 ?_
               refine store_D rfl _ _ rfl w.heap.size C rfl rfl Z32 dX.out hcl ?_
               intro Y hY
               refine hideGoal ?_))
          have dY : Hid (Dg Y w.heap.size C) := hY.dg hcl
          have bY : Hid (Below w.heap.size w Y) := hY.below _ _ (Nat.le_refl _) bX.out
          clear hY dX cX bX
          refine openGoal ?_
          go_wp2_with fail
          exact bodyPost_ret (results_DT rfl _ _ w.heap.size C rfl dY.out) rfl ⟨by rw [HE.out]; rfl, bY.out⟩
        | false =>
          go_wp2_with (first
            | (with_reducible refine atStore 25 ?_
               refine store_D rfl _ _ rfl w.heap.size Z32 rfl rfl Z32 dX.out rfl ?_
               intro Y hY
               refine hideGoal ?_))
          have dY : Hid (Dg Y w.heap.size Z32) := hY.dg rfl
          have bY : Hid (Below w.heap.size w Y) := hY.below _ _ (Nat.le_refl _) bX.out
          clear hY dX cX bX
          refine openGoal ?_
          go_wp2_with fail
          exact bodyPost_ret (results_DT rfl _ _ w.heap.size Z32 rfl dY.out) rfl ⟨by rw [HE.out]; rfl, bY.out⟩
end Go.Proofs.YtcmjlhcpoajbkaaDoor
