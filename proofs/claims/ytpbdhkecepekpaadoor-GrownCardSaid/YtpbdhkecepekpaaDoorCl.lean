import Derived.Test.YtpbdhkecepekpaaDoorTr
import Derived.Test.YtpbdhkecepekpaaDoorDs
import Derived.Test.YtpbdhkecepekpaaDoorHalf
namespace Go.Proofs.YtpbdhkecepekpaaDoor
set_option maxRecDepth 10000
open Go.RowKit
/-- Where a path leads, from the root down. -/
def climbR (e : List Int) : List (List Int) → Nat → Nat → List Int × Bool
  | [], _, n => if n = 1 then (leafP e, true) else (Z32, false)
  | top :: rest, i, n => if n = 1 then (leafP e, false) else if i < halfN n then (knotP (climbR e rest i (halfN n)).1 top, (climbR e rest i (halfN n)).2) else (knotP top (climbR e rest (i - halfN n) (n - halfN n)).1, (climbR e rest (i - halfN n) (n - halfN n)).2)
theorem Z32_bytes : Bytes Z32 := .of fun x hx => by
  have := List.eq_of_mem_replicate hx
  omega
theorem climbR_ok (e : List Int) (l : List (List Int)) (i n : Nat) : (climbR e l i n).1.length = 32 ∧ Bytes (climbR e l i n).1 := by
  cases l with
  | nil => unfold climbR; split
           · exact ⟨leafP_len _, leafP_bytes _⟩
           · exact ⟨rfl, Z32_bytes⟩
  | cons t r => unfold climbR; split
                · exact ⟨leafP_len _, leafP_bytes _⟩
                · split
                  · exact ⟨knotP_len _ _, knotP_bytes _ _⟩
                  · exact ⟨knotP_len _ _, knotP_bytes _ _⟩
theorem rev_last (ds : List (List Int)) (m : Nat) (h : ds.length = m + 1) : ds.reverse = ds.getD m [] :: (ds.take m).reverse := by
  have e : ds = ds.take m ++ [ds.getD m []] := by
    conv => lhs; rw [← List.take_append_drop m ds]
    congr 1
    rw [List.drop_eq_getElem_cons (by omega), List.drop_of_length_le (by omega), List.getD_eq_getElem?_getD, List.getElem?_eq_getElem (by omega)]
    rfl
  conv => lhs; rw [e]
  rw [List.reverse_append]
  rfl
theorem eq1 (n : Nat) : ((n : Int) == 1) = decide (n = 1) := by
  by_cases h : n = 1
  · subst h; rfl
  · have : ¬ ((n : Int) = 1) := by omega
    simp [h, this]
set_option maxHeartbeats 2000000 in
theorem climb_any (e : List Int) (pe : Option Addr) (ne ce : Nat) (hne : ne < 140737488355328) : ∀ (m i n : Nat) (p : Option Addr) (cap : Nat) (ds : List (List Int)) (w : World), Tabs KS HS w → In8 w pe ne ce e → D32 w p m cap ds → i < n → n ≤ 9223372036854775807 →
    Calls Tryd.prog 44 #[.slice pe ne ce, .int .i64 i, .int .i64 n, .slice p m cap] w fun ex w' => ex = .returned (.tuple #[.agg (A8 (climbR e ds.reverse i n).1), .bool (climbR e ds.reverse i n).2]) ∧ Below w.heap.size w w' := by
  intro m
  induction m with
  | zero =>
    intro i n p cap ds w hT hI hD hi hn
    have hb0 : Below w.heap.size w (w.alloc (.cells Z8x32 25)) := (Below.refl _ _).alloc (Nat.le_refl _) _
    have d0 : Hid (Dg (w.alloc (.cells Z8x32 25)) w.heap.size Z32) := Dg.new w _ rfl
    have hds : ds = [] := List.length_eq_zero_iff.1 hD.len
    subst hds
    have hq := eq1 n
    by_cases h1 : n = 1
    · have HE : Hid (climbR e ([] : List (List Int)).reverse i n = (leafP e, true)) := by
        show climbR e [] i n = _
        simp [climbR, h1]
      rw [decide_eq_true h1] at hq
      go_enter Tryd.func44, Tryd.ntmps44
      go_wp2_with fail
      refine (leafOf_any _ (hT.below hb0) pe ne ce e (hI.below hb0) hne).mono ?_
      rintro ex w1 ⟨rfl, b1⟩
      have d1 : Hid (Dg w1 w.heap.size Z32) := d0.out.next b1
      have B1 : Below w.heap.size w w1 := hb0.trans (b1.mono (by simp))
      have hl := leafP_len e
      clear b1 d0
      obtain ⟨D, hD'⟩ : ∃ D, leafP e = D := ⟨_, rfl⟩
      rw [hD'] at hl HE ⊢
      clear hD'
      go_wp2_with (first
        | (with_reducible refine atStore 25 ?_
           refine store_D rfl _ _ rfl w.heap.size D rfl rfl Z32 d1.out hl ?_
           intro U hU
           refine hideGoal ?_))
      have dU : Hid (Dg U w.heap.size D) := hU.dg hl
      have bU : Hid (Below w.heap.size w U) := hU.below _ _ (Nat.le_refl _) B1
      clear hU d1 B1
      refine openGoal ?_
      go_wp2_with fail
      exact bodyPost_ret (results_DT rfl _ _ w.heap.size D rfl dU.out) rfl ⟨by rw [HE.out]; rfl, bU.out⟩
    · have HE : Hid (climbR e ([] : List (List Int)).reverse i n = (Z32, false)) := by
        show climbR e [] i n = _
        simp [climbR, h1]
      rw [decide_eq_false h1] at hq
      go_enter Tryd.func44, Tryd.ntmps44
      go_wp2_with fail
      refine (cut_none _ p cap).mono ?_
      rintro ex w1 ⟨rfl, b1⟩
      have d1 : Hid (Dg w1 w.heap.size Z32) := d0.out.next b1
      have B1 : Below w.heap.size w w1 := hb0.trans (b1.mono (by simp))
      have hlt1 := d1.out.lt
      have d2 : Hid (Dg (w1.alloc (.cells Z8x32 25)) w1.heap.size Z32) := Dg.new w1 _ rfl
      clear b1 d0
      go_wp2_with (first
        | (with_reducible refine atStore 25 ?_
           refine store_D rfl _ _ rfl w1.heap.size Z32 rfl rfl Z32 d2.out rfl ?_
           intro U hU
           refine hideGoal ?_))
      have dU : Hid (Dg U w.heap.size Z32) := (d1.out.alloc _).other hU (by omega)
      have bU : Hid (Below w.heap.size w U) := hU.below _ _ (by omega) (B1.alloc (by omega) _)
      clear hU d1 B1 d2
      refine openGoal ?_
      go_wp2_with (first
        | (with_reducible refine atStore 25 ?_
           refine store_D rfl _ _ rfl w.heap.size Z32 rfl rfl Z32 dU.out rfl ?_
           intro X hX
           refine hideGoal ?_))
      have dX : Hid (Dg X w.heap.size Z32) := hX.dg rfl
      have bX : Hid (Below w.heap.size w X) := hX.below _ _ (Nat.le_refl _) bU.out
      clear hX dU bU
      refine openGoal ?_
      go_wp2_with fail
      exact bodyPost_ret (results_DT rfl _ _ w.heap.size Z32 rfl dX.out) rfl ⟨by rw [HE.out]; rfl, bX.out⟩
  | succ m ih =>
    intro i n p cap ds w hT hI hD hi hn
    have hb0 : Below w.heap.size w (w.alloc (.cells Z8x32 25)) := (Below.refl _ _).alloc (Nat.le_refl _) _
    have d0 : Hid (Dg (w.alloc (.cells Z8x32 25)) w.heap.size Z32) := Dg.new w _ rfl
    have hrev := rev_last ds m hD.len
    obtain ⟨ad, rfl, _, _⟩ := hD.lies (by omega)
    have hq := eq1 n
    by_cases h1 : n = 1
    · have HE : Hid (climbR e ds.reverse i n = (leafP e, false)) := by
        show climbR e ds.reverse i n = _
        rw [hrev]; simp [climbR, h1]
      rw [decide_eq_true h1] at hq
      have hm0 : ¬ ((m : Int) + 1 = 0) := by omega
      go_enter Tryd.func44, Tryd.ntmps44
      go_wp2_with fail
      refine (leafOf_any _ (hT.below hb0) pe ne ce e (hI.below hb0) hne).mono ?_
      rintro ex w1 ⟨rfl, b1⟩
      have d1 : Hid (Dg w1 w.heap.size Z32) := d0.out.next b1
      have B1 : Below w.heap.size w w1 := hb0.trans (b1.mono (by simp))
      have hl := leafP_len e
      clear b1 d0
      obtain ⟨D, hD'⟩ : ∃ D, leafP e = D := ⟨_, rfl⟩
      rw [hD'] at hl HE ⊢
      clear hD'
      go_wp2_with (first
        | (with_reducible refine atStore 25 ?_
           refine store_D rfl _ _ rfl w.heap.size D rfl rfl Z32 d1.out hl ?_
           intro U hU
           refine hideGoal ?_))
      have dU : Hid (Dg U w.heap.size D) := hU.dg hl
      have bU : Hid (Below w.heap.size w U) := hU.below _ _ (Nat.le_refl _) B1
      clear hU d1 B1
      refine openGoal ?_
      go_wp2_with fail
      exact bodyPost_ret (results_DT rfl _ _ w.heap.size D rfl dU.out) rfl ⟨by rw [HE.out]; simp [hm0], bU.out⟩
    · rw [decide_eq_false h1] at hq
      obtain ⟨hk1, hk2, hk3⟩ := halfN_spec n (by omega) (by omega)
      have HE : Hid (climbR e ds.reverse i n = if i < halfN n then (knotP (climbR e (ds.take m).reverse i (halfN n)).1 (ds.getD m []), (climbR e (ds.take m).reverse i (halfN n)).2) else (knotP (ds.getD m []) (climbR e (ds.take m).reverse (i - halfN n) (n - halfN n)).1, (climbR e (ds.take m).reverse (i - halfN n) (n - halfN n)).2)) := by
        show climbR e ds.reverse i n = _
        rw [hrev]; simp only [climbR, if_neg h1]
      have hpb := fun W => powerBelow_any n W (by omega) hn
      obtain ⟨hTl, hTb⟩ := hD.get m (by omega)
      go_enter Tryd.func44, Tryd.ntmps44
      go_wp2_with fail
      refine (cut_some _ ad m cap ds (hD.below hb0)).mono ?_
      rintro ex w1 ⟨rfl, b1⟩
      have d1 : Hid (Dg w1 w.heap.size Z32) := d0.out.next b1
      have B1 : Below w.heap.size w w1 := hb0.trans (b1.mono (by simp))
      have hlt1 := d1.out.lt
      have d2 : Hid (Dg (w1.alloc (.cells Z8x32 25)) w1.heap.size Z32) := Dg.new w1 _ rfl
      clear b1 d0
      generalize ds.getD m [] = T at *
      go_wp2_with (first
        | (with_reducible refine atStore 25 ?_
           refine store_D rfl _ _ rfl w1.heap.size T rfl rfl Z32 d2.out hTl ?_
           intro U hU
           refine hideGoal ?_))
      have dU : Hid (Dg U w.heap.size Z32) := (d1.out.alloc _).other hU (by omega)
      have tU : Hid (Dg U w1.heap.size T) := hU.dg hTl
      have bU : Hid (Below w.heap.size w U) := hU.below _ _ (by omega) (B1.alloc (by omega) _)
      have sU : w1.heap.size < U.heap.size := tU.out.lt
      clear hU d1 B1 d2
      generalize w1.heap.size = g1 at *
      refine openGoal ?_
      go_wp2_with fail
      refine (hpb U).mono ?_
      rintro ex w2 ⟨rfl, rfl⟩
      clear hpb
      generalize halfN n = k at *
      by_cases hik : i < k
      · have hik' : (i : Int) < k := by omega
        rw [if_pos hik] at HE
        go_wp2_with fail
        refine (ih i k (some ad) cap (ds.take m) w2 (hT.below bU.out) (hI.below bU.out) ((hD.front m (by omega)).below bU.out) hik (by omega)).mono ?_
        rintro ex w3 ⟨rfl, b3⟩
        obtain ⟨hcl, hcb⟩ := climbR_ok e (ds.take m).reverse i k
        have d3 : Hid (Dg w3 w.heap.size Z32) := dU.out.next b3
        have t3 : Hid (Dg w3 g1 T) := tU.out.next b3
        have B3 : Below w.heap.size w w3 := bU.out.trans (b3.mono bU.out.size)
        have l3 := d3.out.lt
        have l3' := t3.out.lt
        have n3 : Hid (Dg (w3.alloc (.cells Z8x32 25)) w3.heap.size Z32) := Dg.new w3 _ rfl
        clear b3 dU tU bU
        generalize climbR e (ds.take m).reverse i k = C at *
        obtain ⟨C, ok⟩ := C
        go_wp2_with (first
          | (with_reducible refine atStore 25 ?_
             refine store_D rfl _ _ rfl w3.heap.size C rfl rfl Z32 n3.out hcl ?_
             intro X hX
             refine hideGoal ?_))
        have dX : Hid (Dg X w.heap.size Z32) := (d3.out.alloc _).other hX (by omega)
        have tX : Hid (Dg X g1 T) := (t3.out.alloc _).other hX (by omega)
        have cX : Hid (Dg X w3.heap.size C) := hX.dg hcl
        have bX : Hid (Below w.heap.size w X) := hX.below _ _ (by omega) (B3.alloc (by omega) _)
        clear hX d3 t3 n3 B3
        generalize w3.heap.size = g3 at *
        refine openGoal ?_
        go_wp2_with (first
          | (with_reducible refine atLoad 25 ?_
             first
               | refine load_D rfl _ rfl g3 rfl C cX.out ?_
               | refine load_D rfl _ rfl g1 rfl T tX.out ?_))
        refine (knotOf_any X (hT.below bX.out) C T hcl hTl hcb hTb).mono ?_
        rintro ex w4 ⟨rfl, b4⟩
        have d4 : Hid (Dg w4 w.heap.size Z32) := dX.out.next b4
        have B4 : Below w.heap.size w w4 := bX.out.trans (b4.mono bX.out.size)
        have hkl := knotP_len C T
        clear b4 dX tX cX bX
        obtain ⟨D, hD'⟩ : ∃ D, knotP C T = D := ⟨_, rfl⟩
        rw [hD'] at hkl HE ⊢
        clear hD'
        go_wp2_with (first
          | (with_reducible refine atStore 25 ?_
             refine store_D rfl _ _ rfl w.heap.size D rfl rfl Z32 d4.out hkl ?_
             intro Y hY
             refine hideGoal ?_))
        have dY : Hid (Dg Y w.heap.size D) := hY.dg hkl
        have bY : Hid (Below w.heap.size w Y) := hY.below _ _ (Nat.le_refl _) B4
        clear hY d4 B4
        refine openGoal ?_
        go_wp2_with fail
        exact bodyPost_ret (results_DT rfl _ _ w.heap.size D rfl dY.out) rfl ⟨by rw [HE.out]; rfl, bY.out⟩
      · have hik' : ¬ (i : Int) < k := by omega
        rw [if_neg hik] at HE
        have ei : ((i : Int) - k) = ((i - k : Nat) : Int) := by omega
        have en : ((n : Int) - k) = ((n - k : Nat) : Int) := by omega
        go_wp2_with fail
        refine (ih (i - k) (n - k) (some ad) cap (ds.take m) w2 (hT.below bU.out) (hI.below bU.out) ((hD.front m (by omega)).below bU.out) (by omega) (by omega)).mono ?_
        rintro ex w3 ⟨rfl, b3⟩
        obtain ⟨hcl, hcb⟩ := climbR_ok e (ds.take m).reverse (i - k) (n - k)
        have d3 : Hid (Dg w3 w.heap.size Z32) := dU.out.next b3
        have t3 : Hid (Dg w3 g1 T) := tU.out.next b3
        have B3 : Below w.heap.size w w3 := bU.out.trans (b3.mono bU.out.size)
        have l3 := d3.out.lt
        have l3' := t3.out.lt
        have n3 : Hid (Dg (w3.alloc (.cells Z8x32 25)) w3.heap.size Z32) := Dg.new w3 _ rfl
        clear b3 dU tU bU
        generalize climbR e (ds.take m).reverse (i - k) (n - k) = C at *
        obtain ⟨C, ok⟩ := C
        go_wp2_with (first
          | (with_reducible refine atStore 25 ?_
             refine store_D rfl _ _ rfl w3.heap.size C rfl rfl Z32 n3.out hcl ?_
             intro X hX
             refine hideGoal ?_))
        have dX : Hid (Dg X w.heap.size Z32) := (d3.out.alloc _).other hX (by omega)
        have tX : Hid (Dg X g1 T) := (t3.out.alloc _).other hX (by omega)
        have cX : Hid (Dg X w3.heap.size C) := hX.dg hcl
        have bX : Hid (Below w.heap.size w X) := hX.below _ _ (by omega) (B3.alloc (by omega) _)
        clear hX d3 t3 n3 B3
        generalize w3.heap.size = g3 at *
        refine openGoal ?_
        go_wp2_with (first
          | (with_reducible refine atLoad 25 ?_
             first
               | refine load_D rfl _ rfl g3 rfl C cX.out ?_
               | refine load_D rfl _ rfl g1 rfl T tX.out ?_))
        refine (knotOf_any X (hT.below bX.out) T C hTl hcl hTb hcb).mono ?_
        rintro ex w4 ⟨rfl, b4⟩
        have d4 : Hid (Dg w4 w.heap.size Z32) := dX.out.next b4
        have B4 : Below w.heap.size w w4 := bX.out.trans (b4.mono bX.out.size)
        have hkl := knotP_len T C
        clear b4 dX tX cX bX
        obtain ⟨D, hD'⟩ : ∃ D, knotP T C = D := ⟨_, rfl⟩
        rw [hD'] at hkl HE ⊢
        clear hD'
        go_wp2_with (first
          | (with_reducible refine atStore 25 ?_
             refine store_D rfl _ _ rfl w.heap.size D rfl rfl Z32 d4.out hkl ?_
             intro Y hY
             refine hideGoal ?_))
        have dY : Hid (Dg Y w.heap.size D) := hY.dg hkl
        have bY : Hid (Below w.heap.size w Y) := hY.below _ _ (Nat.le_refl _) B4
        clear hY d4 B4
        refine openGoal ?_
        go_wp2_with fail
        exact bodyPost_ret (results_DT rfl _ _ w.heap.size D rfl dY.out) rfl ⟨by rw [HE.out]; rfl, bY.out⟩
end Go.Proofs.YtpbdhkecepekpaaDoor
