import Derived.Test.YtcmjlhcpoajbkaaDoorSb
namespace Go.Proofs.YtcmjlhcpoajbkaaDoor
set_option maxRecDepth 10000
set_option linter.unusedSimpArgs false
open Go.RowKit
/-- The path of the entry i. -/
def pathF : Nat → Nat → List (List Int) → List (List Int)
  | 0, _, _ => []
  | f + 1, i, es => if es.length ≤ 1 then [] else
      if i < halfN es.length then pathF f i (es.take (halfN es.length)) ++ [rootP (es.drop (halfN es.length))]
      else pathF f (i - halfN es.length) (es.drop (halfN es.length)) ++ [rootP (es.take (halfN es.length))]
def pathP (i : Nat) (es : List (List Int)) : List (List Int) := pathF es.length i es
theorem pathF_ok : ∀ (f i : Nat) (es : List (List Int)), ∀ d ∈ pathF f i es, d.length = 32 ∧ Bytes d := by
  intro f
  induction f with
  | zero => intro i es d hd; simp [pathF] at hd
  | succ f ih =>
    intro i es d hd
    unfold pathF at hd
    split at hd
    · simp at hd
    · split at hd
      · rcases List.mem_append.1 hd with h | h
        · exact ih _ _ d h
        · simp only [List.mem_singleton] at h; subst h; exact rootP_ok _
      · rcases List.mem_append.1 hd with h | h
        · exact ih _ _ d h
        · simp only [List.mem_singleton] at h; subst h; exact rootP_ok _
theorem pathF_len : ∀ (f i : Nat) (es : List (List Int)), (pathF f i es).length ≤ f := by
  intro f
  induction f with
  | zero => intro i es; simp [pathF]
  | succ f ih =>
    intro i es
    unfold pathF
    split
    · simp
    · split
      · rw [List.length_append]; have := ih i (es.take (halfN es.length)); simp; omega
      · rw [List.length_append]; have := ih (i - halfN es.length) (es.drop (halfN es.length)); simp; omega
theorem pathF_fuel : ∀ (f g i : Nat) (es : List (List Int)), es.length ≤ f → es.length ≤ g → es.length < 2 ^ 63 → pathF f i es = pathF g i es := by
  intro f
  induction f with
  | zero =>
    intro g i es h1 h2 h3
    cases g with
    | zero => rfl
    | succ g => unfold pathF; rw [if_pos (by omega)]
  | succ f ih =>
    intro g i es h1 h2 h3
    cases g with
    | zero => unfold pathF; rw [if_pos (by omega)]
    | succ g =>
      unfold pathF
      by_cases e : es.length ≤ 1
      · rw [if_pos e, if_pos e]
      · rw [if_neg e, if_neg e]
        obtain ⟨a, b, c⟩ := halfN_spec es.length (by omega) (by omega)
        rw [ih g i (es.take (halfN es.length)) (by rw [List.length_take]; omega) (by rw [List.length_take]; omega) (by rw [List.length_take]; omega),
          ih g (i - halfN es.length) (es.drop (halfN es.length)) (by rw [List.length_drop]; omega) (by rw [List.length_drop]; omega) (by rw [List.length_drop]; omega)]
theorem pathP_one (i : Nat) (es : List (List Int)) (h : es.length ≤ 1) : pathP i es = [] := by
  unfold pathP
  cases hl : es.length with
  | zero => rfl
  | succ n => unfold pathF; rw [if_pos h]
theorem pathP_more (i : Nat) (es : List (List Int)) (h : 2 ≤ es.length) (h3 : es.length < 2 ^ 63) :
    pathP i es = if i < halfN es.length then pathP i (es.take (halfN es.length)) ++ [rootP (es.drop (halfN es.length))] else pathP (i - halfN es.length) (es.drop (halfN es.length)) ++ [rootP (es.take (halfN es.length))] := by
  obtain ⟨a, b, c⟩ := halfN_spec es.length h (by omega)
  have h1 : pathP i es = pathF (es.length - 1 + 1) i es := by unfold pathP; rw [Nat.sub_add_cancel (by omega)]
  rw [h1]
  unfold pathF
  rw [if_neg (by omega)]
  unfold pathP
  rw [pathF_fuel (es.length - 1) (es.take (halfN es.length)).length i (es.take (halfN es.length)) (by rw [List.length_take]; omega) (Nat.le_refl _) (by rw [List.length_take]; omega),
    pathF_fuel (es.length - 1) (es.drop (halfN es.length)).length (i - halfN es.length) (es.drop (halfN es.length)) (by rw [List.length_drop]; omega) (Nat.le_refl _) (by rw [List.length_drop]; omega)]
theorem pathP_ok (i : Nat) (es : List (List Int)) : ∀ d ∈ pathP i es, d.length = 32 ∧ Bytes d := pathF_ok _ _ _
theorem pathP_len (i : Nat) (es : List (List Int)) : (pathP i es).length ≤ es.length := pathF_len _ _ _
set_option maxHeartbeats 4000000 in
theorem path_any : ∀ (n i : Nat) (p : Option Addr) (cap : Nat) (es : List (List Int)) (w : World), Tabs KS HS w → E22 w p n cap es → n ≤ 1000 → i < n →
    Calls Tryd.prog 85 #[.slice p n cap, .int .i64 i] w fun e w' => ∃ v, e = .returned v ∧ Own w' w.heap.size v (pathP i es) ∧ Below w.heap.size w w' := by
  intro n
  induction n using Nat.strongRecOn with
  | ind n ih =>
    intro i p cap es w hT hE hn hin
    have hf := hE.fits
    have hr := hE.room
    have hlen := hE.len
    by_cases h0 : n = 1
    · subst h0
      have HX : Hid (pathP i es = []) := pathP_one i es (by omega)
      go_enter Tryd.func85, Tryd.ntmps85
      go_wp2_with fail
      go_ret
      exact ⟨_, rfl, by rw [HX.out]; exact ⟨rfl, .inl ⟨rfl, rfl⟩⟩, Below.refl _ _⟩
    · have h0' : ¬ (n : Int) = 1 := by omega
      obtain ⟨hk1, hk2, hk3⟩ := halfN_spec n (by omega) (by omega)
      obtain ⟨b, o, rfl, hbl, hcs⟩ := hE.lies (by omega)
      clear hcs
      have HM := pathP_more i es (by omega) (by omega)
      rw [hlen] at HM
      have HM' : Hid (pathP i es = _) := HM
      clear HM
      go_enter Tryd.func85, Tryd.ntmps85
      go_wp2_with fail
      refine (split_any b o n cap w (by omega) hf hr).mono ?_
      rintro e w1 ⟨rfl, b1⟩
      have hT1 := hT.below b1
      have eF := (hE.front (halfN n) (by omega)).below b1
      have eB := (hE.back (halfN n) hk1).below b1
      generalize halfN n = k at *
      by_cases hik : i < k
      · have hik' : (i : Int) < k := by omega
        have HX := HM'.out
        rw [if_pos hik] at HX
        have HX' : Hid (pathP i es = _) := HX
        clear HM' HX
        go_wp2_with fail
        refine (ih k (by omega) i _ cap (es.take k) w1 hT1 eF (by omega) hik).mono ?_
        rintro e w2 ⟨v, rfl, hO, b2⟩
        have hd := pathP_ok i (es.take k)
        have hdl := pathP_len i (es.take k)
        rw [eF.len] at hdl
        have hT2 := hT1.below b2
        have eB2 := eB.below b2
        have B2 : Below w.heap.size w w2 := b1.trans (b2.mono b1.size)
        have hO2 : Hid (Own w2 w.heap.size v (pathP i (es.take k))) := hO.mono b1.size
        clear hO b1 b2 eF eB
        generalize pathP i (es.take k) = A at *
        go_wp2_with fail
        refine (troot_any (n - k) _ (cap - k) (es.drop k) w2 hT2 eB2).mono ?_
        rintro e w3 ⟨rfl, b3⟩
        obtain ⟨hRl, hRb⟩ := rootP_ok (es.drop k)
        have B3 : Below w.heap.size w w3 := B2.trans (b3.mono B2.size)
        have hO3 : Hid (Own w3 w.heap.size v A) := hO2.out.below b3
        have hs3 := B3.size
        clear b3 hO2 eB2 B2 hRb
        generalize rootP (es.drop k) = R at *
        have hT' : ∀ d ∈ [R], d.length = 32 := fun d hd => by simp only [List.mem_singleton] at hd; subst hd; exact hRl
        go_wp2_with (first
          | (with_reducible refine atBuildSlice 31 ?_
             refine wpList_bs1 rfl _ rfl R rfl hRl ?_)
          | (at_builtin
             refine wpList_app25 rfl (.tmp 21) (.tmp 24) rfl w.heap.size v A A.length rfl (owns_alloc8 hO3.out _) ⟨w3.heap.size, 0, none⟩ 1 1 [R] rfl rfl hT' (one_cells w3 R hRl _ (heapN w3 _ _ rfl)) (by omega) (by omega) (by simp; omega) ?_
             intro v2 w4 ho4 hs4 hb4
             refine hideGoal ?_))
        have B4 : Hid (Below w.heap.size w w4) := hb4 w (B3.alloc hs3 _)
        clear hb4 hO3 B3
        refine openGoal ?_
        go_wp2_with fail
        go_ret
        refine ⟨_, rfl, ?_, B4.out⟩
        rw [HX'.out]
        unfold Own
        rw [List.length_append]
        exact ho4.out
      · have hik' : ¬ (i : Int) < k := by omega
        have ei : ((i : Int) - k) = ((i - k : Nat) : Int) := by omega
        have HX := HM'.out
        rw [if_neg hik] at HX
        have HX' : Hid (pathP i es = _) := HX
        clear HM' HX
        go_wp2_with fail
        refine (ih (n - k) (by omega) (i - k) _ (cap - k) (es.drop k) w1 hT1 eB (by omega) (by omega)).mono ?_
        rintro e w2 ⟨v, rfl, hO, b2⟩
        have hd := pathP_ok (i - k) (es.drop k)
        have hdl := pathP_len (i - k) (es.drop k)
        rw [eB.len] at hdl
        have hT2 := hT1.below b2
        have eF2 := eF.below b2
        have B2 : Below w.heap.size w w2 := b1.trans (b2.mono b1.size)
        have hO2 : Hid (Own w2 w.heap.size v (pathP (i - k) (es.drop k))) := hO.mono b1.size
        clear hO b1 b2 eF eB
        generalize pathP (i - k) (es.drop k) = A at *
        go_wp2_with fail
        refine (troot_any k _ cap (es.take k) w2 hT2 eF2).mono ?_
        rintro e w3 ⟨rfl, b3⟩
        obtain ⟨hRl, hRb⟩ := rootP_ok (es.take k)
        have B3 : Below w.heap.size w w3 := B2.trans (b3.mono B2.size)
        have hO3 : Hid (Own w3 w.heap.size v A) := hO2.out.below b3
        have hs3 := B3.size
        clear b3 hO2 eF2 B2 hRb
        generalize rootP (es.take k) = R at *
        have hT' : ∀ d ∈ [R], d.length = 32 := fun d hd => by simp only [List.mem_singleton] at hd; subst hd; exact hRl
        go_wp2_with (first
          | (with_reducible refine atBuildSlice 31 ?_
             refine wpList_bs1 rfl _ rfl R rfl hRl ?_)
          | (at_builtin
             refine wpList_app25 rfl (.tmp 31) (.tmp 34) rfl w.heap.size v A A.length rfl (owns_alloc8 hO3.out _) ⟨w3.heap.size, 0, none⟩ 1 1 [R] rfl rfl hT' (one_cells w3 R hRl _ (heapN w3 _ _ rfl)) (by omega) (by omega) (by simp; omega) ?_
             intro v2 w4 ho4 hs4 hb4
             refine hideGoal ?_))
        have B4 : Hid (Below w.heap.size w w4) := hb4 w (B3.alloc hs3 _)
        clear hb4 hO3 B3
        refine openGoal ?_
        go_wp2_with fail
        go_ret
        refine ⟨_, rfl, ?_, B4.out⟩
        rw [HX'.out]
        unfold Own
        rw [List.length_append]
        exact ho4.out
end Go.Proofs.YtcmjlhcpoajbkaaDoor
