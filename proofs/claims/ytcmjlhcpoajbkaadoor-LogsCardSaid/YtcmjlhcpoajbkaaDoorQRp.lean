import Derived.Test.YtcmjlhcpoajbkaaDoorQRr
import Derived.Test.YtcmjlhcpoajbkaaDoorQPt
namespace Go.Proofs.YtcmjlhcpoajbkaaDoor
set_option maxRecDepth 10000
set_option linter.unusedSimpArgs false
open Go.RowKit
set_option maxHeartbeats 4000000 in
theorem refPath_any : ∀ (n i : Nat) (p : Option Addr) (cap : Nat) (es : List (List Int)) (w : World), S59 w p n cap es → n ≤ 1000 → i < n →
    Calls Tryd.prog 99 #[.int .i64 i, .slice p n cap] w fun e w' => ∃ v, e = .returned v ∧ Own w' w.heap.size v (pathP i es) ∧ Below w.heap.size w w' := by
  intro n
  induction n using Nat.strongRecOn with
  | ind n ih =>
    intro i p cap es w hE hn hin
    have hf := hE.fits
    have hr := hE.room
    have hlen := hE.len
    by_cases h0 : n = 1
    · subst h0
      have HX : Hid (pathP i es = []) := pathP_one i es (by omega)
      go_enter Tryd.func99, Tryd.ntmps99
      go_wp2_with fail
      go_ret
      exact ⟨_, rfl, by rw [HX.out]; exact ⟨rfl, .inl ⟨rfl, rfl⟩⟩, Below.refl _ _⟩
    · have h0' : ¬ (n : Int) < 2 := by omega
      obtain ⟨hk1, hk2, hk3⟩ := halfN_spec n (by omega) (by omega)
      obtain ⟨b, o, rfl, hbl, hcs⟩ := hE.lies (by omega)
      clear hcs
      have HM := pathP_more i es (by omega) (by omega)
      rw [hlen] at HM
      have HM' : Hid (pathP i es = _) := HM
      clear HM
      go_enter Tryd.func99, Tryd.ntmps99
      go_wp2_with fail
      refine (half_any n w (by omega) (by omega)).mono ?_
      rintro e w1 ⟨rfl, rfl⟩
      have eF := hE.front (halfN n) (by omega)
      have eB := hE.back (halfN n) hk1
      have hs1 := fun W => sslice_front ⟨b, o, none⟩ n cap (halfN n) (by omega) hf W
      have hs2 := fun W => sslice_back b o n cap (halfN n) hk1 hf W
      clear hE
      generalize halfN n = k at *
      by_cases hik : i < k
      · have hik' : (i : Int) < k := by omega
        have HX := HM'.out
        rw [if_pos hik] at HX
        have HX' : Hid (pathP i es = _) := HX
        clear HM' HX
        go_wp2_with fail
        refine (ih k (by omega) i _ cap (es.take k) w1 eF (by omega) hik).mono ?_
        rintro e w2 ⟨v, rfl, hO, b2⟩
        have hd := pathP_ok i (es.take k)
        have hdl := pathP_len i (es.take k)
        rw [eF.len] at hdl
        have eB2 := eB.below b2
        have B2 : Below w1.heap.size w1 w2 := b2
        have hO2 : Hid (Own w2 w1.heap.size v (pathP i (es.take k))) := hO
        clear hO b2 eF eB
        generalize pathP i (es.take k) = A at *
        go_wp2_with fail
        refine (refRoot_any (n - k) _ (cap - k) (es.drop k) w2 eB2).mono ?_
        rintro e w3 ⟨rfl, b3⟩
        obtain ⟨hRl, hRb⟩ := rootP_ok (es.drop k)
        have B3 : Below w1.heap.size w1 w3 := B2.trans (b3.mono B2.size)
        have hO3 : Hid (Own w3 w1.heap.size v A) := hO2.out.below b3
        have hs3 := B3.size
        clear b3 hO2 eB2 B2 hRb
        generalize rootP (es.drop k) = R at *
        have hT' : ∀ d ∈ [R], d.length = 32 := fun d hd => by simp only [List.mem_singleton] at hd; subst hd; exact hRl
        go_wp2_with (first
          | (with_reducible refine atBuildSlice 31 ?_
             refine wpList_bs1 rfl _ rfl R rfl hRl ?_)
          | (at_builtin
             refine wpList_app25 rfl (.tmp 22) (.tmp 27) rfl w1.heap.size v A A.length rfl (owns_alloc8 hO3.out _) ⟨w3.heap.size, 0, none⟩ 1 1 [R] rfl rfl hT' (one_cells w3 R hRl _ (heapN w3 _ _ rfl)) (by omega) (by omega) (by simp; omega) ?_
             intro v2 w4 ho4 hs4 hb4
             refine hideGoal ?_))
        have B4 : Hid (Below w1.heap.size w1 w4) := hb4 w1 (B3.alloc hs3 _)
        clear hb4 hO3 B3
        refine openGoal ?_
        go_wp2_with fail
        go_ret
        refine ⟨_, rfl, ?_, B4.out⟩
        rw [HX'.out]
        unfold Own
        rw [List.length_append]
        exact ho4.out
      · have hik' : ¬ (i : Int) < k := by omega
        have ei : ((i : Int) - k) = ((i - k : Nat) : Int) := by omega
        have HX := HM'.out
        rw [if_neg hik] at HX
        have HX' : Hid (pathP i es = _) := HX
        clear HM' HX
        go_wp2_with fail
        refine (ih (n - k) (by omega) (i - k) _ (cap - k) (es.drop k) w1 eB (by omega) (by omega)).mono ?_
        rintro e w2 ⟨v, rfl, hO, b2⟩
        have hd := pathP_ok (i - k) (es.drop k)
        have hdl := pathP_len (i - k) (es.drop k)
        rw [eB.len] at hdl
        have eF2 := eF.below b2
        have B2 : Below w1.heap.size w1 w2 := b2
        have hO2 : Hid (Own w2 w1.heap.size v (pathP (i - k) (es.drop k))) := hO
        clear hO b2 eF eB
        generalize pathP (i - k) (es.drop k) = A at *
        go_wp2_with fail
        refine (refRoot_any k _ cap (es.take k) w2 eF2).mono ?_
        rintro e w3 ⟨rfl, b3⟩
        obtain ⟨hRl, hRb⟩ := rootP_ok (es.take k)
        have B3 : Below w1.heap.size w1 w3 := B2.trans (b3.mono B2.size)
        have hO3 : Hid (Own w3 w1.heap.size v A) := hO2.out.below b3
        have hs3 := B3.size
        clear b3 hO2 eF2 B2 hRb
        generalize rootP (es.take k) = R at *
        have hT' : ∀ d ∈ [R], d.length = 32 := fun d hd => by simp only [List.mem_singleton] at hd; subst hd; exact hRl
        go_wp2_with (first
          | (with_reducible refine atBuildSlice 31 ?_
             refine wpList_bs1 rfl _ rfl R rfl hRl ?_)
          | (at_builtin
             refine wpList_app25 rfl (.tmp 36) (.tmp 41) rfl w1.heap.size v A A.length rfl (owns_alloc8 hO3.out _) ⟨w3.heap.size, 0, none⟩ 1 1 [R] rfl rfl hT' (one_cells w3 R hRl _ (heapN w3 _ _ rfl)) (by omega) (by omega) (by simp; omega) ?_
             intro v2 w4 ho4 hs4 hb4
             refine hideGoal ?_))
        have B4 : Hid (Below w1.heap.size w1 w4) := hb4 w1 (B3.alloc hs3 _)
        clear hb4 hO3 B3
        refine openGoal ?_
        go_wp2_with fail
        go_ret
        refine ⟨_, rfl, ?_, B4.out⟩
        rw [HX'.out]
        unfold Own
        rw [List.length_append]
        exact ho4.out
set_option maxHeartbeats 4000000 in
theorem refSub_any : ∀ (n m : Nat) (whole : Bool) (p : Option Addr) (cap : Nat) (es : List (List Int)) (w : World), S59 w p n cap es → n ≤ 1000 → 1 ≤ m → m ≤ n →
    Calls Tryd.prog 121 #[.int .i64 m, .slice p n cap, .bool whole] w fun e w' => ∃ v, e = .returned v ∧ Own w' w.heap.size v (subP m es whole) ∧ Below w.heap.size w w' := by
  intro n
  induction n using Nat.strongRecOn with
  | ind n ih =>
    intro m whole p cap es w hE hn hm1 hmn
    have hf := hE.fits
    have hr := hE.room
    have hlen := hE.len
    have hq := eqNat m n
    by_cases h0 : m = n
    · subst h0
      have hq : ((m : Int) == (m : Int)) = true := by simp
      have HX := subP_all es whole (by omega)
      rw [hlen] at HX
      cases whole with
      | true =>
        have HZ : Hid (subP m es true = []) := HX
        clear HX
        go_enter Tryd.func121, Tryd.ntmps121
        go_wp2_with fail
        go_ret
        exact ⟨_, rfl, by rw [HZ.out]; exact ⟨rfl, .inl ⟨rfl, rfl⟩⟩, Below.refl _ _⟩
      | false =>
        have HZ : Hid (subP m es false = [rootP es]) := HX
        clear HX
        go_enter Tryd.func121, Tryd.ntmps121
        go_wp2_with fail
        refine (refRoot_any m p cap es w hE).mono ?_
        rintro e w1 ⟨rfl, b1⟩
        obtain ⟨hRl, hRb⟩ := rootP_ok es
        have hs1 := b1.size
        obtain ⟨R, hR⟩ : ∃ R, rootP es = R := ⟨_, rfl⟩
        rw [hR] at hRl HZ ⊢
        clear hR hRb
        go_wp2_with (first
          | (with_reducible refine atBuildSlice 31 ?_
             refine wpList_bs1 rfl _ rfl R rfl hRl ?_))
        go_ret
        refine ⟨_, rfl, ?_, b1.alloc hs1 _⟩
        rw [HZ.out]
        exact own_one w1 R hRl w.heap.size hs1
    · rw [decide_eq_false h0] at hq
      obtain ⟨hk1, hk2, hk3⟩ := halfN_spec n (by omega) (by omega)
      obtain ⟨b, o, rfl, hbl, hcs⟩ := hE.lies (by omega)
      clear hcs
      have HL : Hid (m ≤ halfN n → subP m es whole = subP m (es.take (halfN n)) whole ++ [rootP (es.drop (halfN n))]) := fun hk => by
        have := subP_left m es whole hm1 (by omega) (by omega) (by rw [hlen]; exact hk)
        rw [hlen] at this; exact this
      have HR : Hid (¬ m ≤ halfN n → subP m es whole = subP (m - halfN n) (es.drop (halfN n)) false ++ [rootP (es.take (halfN n))]) := fun hk => by
        have := subP_right m es whole (by omega) (by omega) (by rw [hlen]; exact hk)
        rw [hlen] at this; exact this
      go_enter Tryd.func121, Tryd.ntmps121
      go_wp2_with fail
      refine (half_any n w (by omega) (by omega)).mono ?_
      rintro e w1 ⟨rfl, rfl⟩
      have eF := hE.front (halfN n) (by omega)
      have eB := hE.back (halfN n) hk1
      have hs1 := fun W => sslice_front ⟨b, o, none⟩ n cap (halfN n) (by omega) hf W
      have hs2 := fun W => sslice_back b o n cap (halfN n) hk1 hf W
      clear hE
      generalize halfN n = k at *
      by_cases hik : m ≤ k
      · have hik' : (m : Int) ≤ k := by omega
        have HX := HL.out hik
        have HX' : Hid (subP m es whole = _) := HX
        clear HL HR HX
        go_wp2_with fail
        refine (ih k (by omega) m whole _ cap (es.take k) w1 eF (by omega) hm1 hik).mono ?_
        rintro e w2 ⟨v, rfl, hO, b2⟩
        have hd := subP_ok m (es.take k) whole
        have hdl := subP_len m (es.take k) whole
        rw [eF.len] at hdl
        have eB2 := eB.below b2
        have B2 : Below w1.heap.size w1 w2 := b2
        have hO2 : Hid (Own w2 w1.heap.size v (subP m (es.take k) whole)) := hO
        clear hO b2 eF eB
        generalize subP m (es.take k) whole = A at *
        go_wp2_with fail
        refine (refRoot_any (n - k) _ (cap - k) (es.drop k) w2 eB2).mono ?_
        rintro e w3 ⟨rfl, b3⟩
        obtain ⟨hRl, hRb⟩ := rootP_ok (es.drop k)
        have B3 : Below w1.heap.size w1 w3 := B2.trans (b3.mono B2.size)
        have hO3 : Hid (Own w3 w1.heap.size v A) := hO2.out.below b3
        have hs3 := B3.size
        clear b3 hO2 eB2 B2 hRb
        generalize rootP (es.drop k) = R at *
        have hT' : ∀ d ∈ [R], d.length = 32 := fun d hd => by simp only [List.mem_singleton] at hd; subst hd; exact hRl
        go_wp2_with (first
          | (with_reducible refine atBuildSlice 31 ?_
             refine wpList_bs1 rfl _ rfl R rfl hRl ?_)
          | (at_builtin
             refine wpList_app25 rfl (.tmp 30) (.tmp 35) rfl w1.heap.size v A A.length rfl (owns_alloc8 hO3.out _) ⟨w3.heap.size, 0, none⟩ 1 1 [R] rfl rfl hT' (one_cells w3 R hRl _ (heapN w3 _ _ rfl)) (by omega) (by omega) (by simp; omega) ?_
             intro v2 w4 ho4 hs4 hb4
             refine hideGoal ?_))
        have B4 : Hid (Below w1.heap.size w1 w4) := hb4 w1 (B3.alloc hs3 _)
        clear hb4 hO3 B3
        refine openGoal ?_
        go_wp2_with fail
        go_ret
        refine ⟨_, rfl, ?_, B4.out⟩
        rw [HX'.out]
        unfold Own
        rw [List.length_append]
        exact ho4.out
      · have hik' : ¬ (m : Int) ≤ k := by omega
        have ei : ((m : Int) - k) = ((m - k : Nat) : Int) := by omega
        have HX := HR.out hik
        have HX' : Hid (subP m es whole = _) := HX
        clear HL HR HX
        go_wp2_with fail
        refine (ih (n - k) (by omega) (m - k) false _ (cap - k) (es.drop k) w1 eB (by omega) (by omega) (by omega)).mono ?_
        rintro e w2 ⟨v, rfl, hO, b2⟩
        have hd := subP_ok (m - k) (es.drop k) false
        have hdl := subP_len (m - k) (es.drop k) false
        rw [eB.len] at hdl
        have eF2 := eF.below b2
        have B2 : Below w1.heap.size w1 w2 := b2
        have hO2 : Hid (Own w2 w1.heap.size v (subP (m - k) (es.drop k) false)) := hO
        clear hO b2 eF eB
        generalize subP (m - k) (es.drop k) false = A at *
        go_wp2_with fail
        refine (refRoot_any k _ cap (es.take k) w2 eF2).mono ?_
        rintro e w3 ⟨rfl, b3⟩
        obtain ⟨hRl, hRb⟩ := rootP_ok (es.take k)
        have B3 : Below w1.heap.size w1 w3 := B2.trans (b3.mono B2.size)
        have hO3 : Hid (Own w3 w1.heap.size v A) := hO2.out.below b3
        have hs3 := B3.size
        clear b3 hO2 eF2 B2 hRb
        generalize rootP (es.take k) = R at *
        have hT' : ∀ d ∈ [R], d.length = 32 := fun d hd => by simp only [List.mem_singleton] at hd; subst hd; exact hRl
        go_wp2_with (first
          | (with_reducible refine atBuildSlice 31 ?_
             refine wpList_bs1 rfl _ rfl R rfl hRl ?_)
          | (at_builtin
             refine wpList_app25 rfl (.tmp 44) (.tmp 49) rfl w1.heap.size v A A.length rfl (owns_alloc8 hO3.out _) ⟨w3.heap.size, 0, none⟩ 1 1 [R] rfl rfl hT' (one_cells w3 R hRl _ (heapN w3 _ _ rfl)) (by omega) (by omega) (by simp; omega) ?_
             intro v2 w4 ho4 hs4 hb4
             refine hideGoal ?_))
        have B4 : Hid (Below w1.heap.size w1 w4) := hb4 w1 (B3.alloc hs3 _)
        clear hb4 hO3 B3
        refine openGoal ?_
        go_wp2_with fail
        go_ret
        refine ⟨_, rfl, ?_, B4.out⟩
        rw [HX'.out]
        unfold Own
        rw [List.length_append]
        exact ho4.out
set_option maxHeartbeats 2000000 in
theorem refLink_any (n m : Nat) (p : Option Addr) (cap : Nat) (es : List (List Int)) (w : World) (hE : S59 w p n cap es) (hn : n ≤ 1000) (hmn : m ≤ n) :
    Calls Tryd.prog 100 #[.int .i64 m, .slice p n cap] w fun e w' => ∃ v, e = .returned v ∧ Own w' w.heap.size v (linkP m es) ∧ Below w.heap.size w w' := by
  by_cases h0 : m = 0
  · subst h0
    have HX : Hid (linkP 0 es = []) := rfl
    clear hE
    go_enter Tryd.func100, Tryd.ntmps100
    go_wp2_with fail
    go_ret
    exact ⟨_, rfl, by rw [HX.out]; exact ⟨rfl, .inl ⟨rfl, rfl⟩⟩, Below.refl _ _⟩
  · have h0' : ((m : Int) == 0) = false := by simp; omega
    have HX : Hid (linkP m es = subP m es true) := by show _ = _; unfold linkP; rw [if_neg h0]
    have HR : Hid (Calls Tryd.prog 121 #[.int .i64 m, .slice p n cap, .bool true] w fun e w' => ∃ v, e = .returned v ∧ Own w' w.heap.size v (subP m es true) ∧ Below w.heap.size w w') := refSub_any n m true p cap es w hE hn (by omega) hmn
    clear hE
    go_enter Tryd.func100, Tryd.ntmps100
    go_wp2_with fail
    refine Calls.mono HR.out ?_
    rintro e w1 ⟨v, rfl, hO, b1⟩
    have HO : Hid (Own w1 w.heap.size v (subP m es true)) := hO
    clear hO HR
    go_wp2_with fail
    go_ret
    exact ⟨_, rfl, by rw [HX.out]; exact HO.out, b1⟩
end Go.Proofs.YtcmjlhcpoajbkaaDoor
