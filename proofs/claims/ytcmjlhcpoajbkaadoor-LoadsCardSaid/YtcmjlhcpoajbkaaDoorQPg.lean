import Derived.Test.YtcmjlhcpoajbkaaDoorQPt
import Derived.Test.YtcmjlhcpoajbkaaDoorQGr
import Derived.Test.YtcmjlhcpoajbkaaDoorQGe
namespace Go.Proofs.YtcmjlhcpoajbkaaDoor
/-- The half of a beginning that reaches beyond the half of all. -/
theorem halfN_mid (m n : Nat) (h2 : 2 ≤ n) (hm : halfN n < m) (hmn : m ≤ n) (h3 : n ≤ 2 ^ 64) : halfN m = halfN n := by
  obtain ⟨a, b, c⟩ := halfN_spec n h2 h3
  exact (halfN_of m (halfN n) (Lib.bitLen (n - 1) - 1) rfl hm (by omega) (by omega)).symm
/-- The document's link leads where it should. -/
theorem grow_link (z : List Int) : ∀ (f m : Nat) (es : List (List Int)) (whole : Bool) (known : List Int), es.length ≤ f → 1 ≤ m → m ≤ es.length → es.length < 2 ^ 63 → (whole = true → known = rootP (es.take m)) →
    growR z known (subP m es whole).reverse m es.length whole = (rootP (es.take m), rootP es, true) := by
  intro f
  induction f with
  | zero => intro m es whole known h1 h2 h3; omega
  | succ f ih =>
    intro m es whole known h1 h2 h3 h4 hk
    by_cases e : m = es.length
    · subst e
      rw [subP_all es whole (by omega)]
      cases whole with
      | true =>
        have hk' := hk rfl
        rw [List.take_of_length_le (Nat.le_refl _)] at hk' ⊢
        subst hk'
        simp [growR]
      | false =>
        rw [List.take_of_length_le (Nat.le_refl _)]
        simp [growR]
    · obtain ⟨a, b, c⟩ := halfN_spec es.length (by omega) (by omega)
      have hne : ¬ (m = es.length ∧ whole = true) := fun h => e h.1
      by_cases hm : m ≤ halfN es.length
      · rw [subP_left m es whole h2 (by omega) h4 hm, List.reverse_append]
        simp only [List.reverse_singleton, List.singleton_append, growR]
        rw [if_neg hne, if_neg e, if_pos hm]
        have hl : (es.take (halfN es.length)).length = halfN es.length := by rw [List.length_take]; omega
        have := ih m (es.take (halfN es.length)) whole known (by omega) h2 (by omega) (by omega) (fun hw => by rw [hk hw, List.take_take, Nat.min_eq_left hm])
        rw [hl] at this
        rw [this, List.take_take, Nat.min_eq_left hm, ← rootP_more es (by omega) h4]
      · rw [subP_right m es whole (by omega) h4 hm, List.reverse_append]
        simp only [List.reverse_singleton, List.singleton_append, growR]
        rw [if_neg hne, if_neg e, if_neg hm]
        have hl : (es.drop (halfN es.length)).length = es.length - halfN es.length := by rw [List.length_drop]
        have := ih (m - halfN es.length) (es.drop (halfN es.length)) false known (by omega) (by omega) (by omega) (by omega) (fun hw => by cases hw)
        rw [hl] at this
        rw [this]
        have hmid := halfN_mid m es.length (by omega) (by omega) (by omega) (by omega)
        have hm2 : (es.take m).length = m := by rw [List.length_take]; omega
        have h5 := rootP_more (es.take m) (by omega) (by omega)
        rw [hm2, hmid, List.take_take, Nat.min_eq_left (by omega), List.drop_take] at h5
        rw [← h5, ← rootP_more es (by omega) h4]
/-- The document's path leads to the root. -/
theorem climb_path : ∀ (f i : Nat) (es : List (List Int)), es.length ≤ f → i < es.length → es.length < 2 ^ 63 → climbR (es.getD i []) (pathP i es).reverse i es.length = (rootP es, true) := by
  intro f
  induction f with
  | zero => intro i es h1 h2; omega
  | succ f ih =>
    intro i es h1 h2 h3
    by_cases e : es.length ≤ 1
    · rw [pathP_one i es e]
      have e1 : es.length = 1 := by omega
      have ei : i = 0 := by omega
      subst ei
      match es, e1 with
      | [x], _ => simp [climbR, rootP_one]
    · obtain ⟨a, b, c⟩ := halfN_spec es.length (by omega) (by omega)
      rw [pathP_more i es (by omega) h3]
      by_cases hi : i < halfN es.length
      · rw [if_pos hi, List.reverse_append]
        simp only [List.reverse_singleton, List.singleton_append, climbR]
        rw [if_neg (by omega), if_pos hi]
        have hl : (es.take (halfN es.length)).length = halfN es.length := by rw [List.length_take]; omega
        have := ih i (es.take (halfN es.length)) (by omega) (by omega) (by omega)
        rw [hl, List.getD_eq_getElem?_getD, List.getElem?_take, if_pos hi, ← List.getD_eq_getElem?_getD] at this
        rw [this, ← rootP_more es (by omega) h3]
      · rw [if_neg hi, List.reverse_append]
        simp only [List.reverse_singleton, List.singleton_append, climbR]
        rw [if_neg (by omega), if_neg hi]
        have hl : (es.drop (halfN es.length)).length = es.length - halfN es.length := by rw [List.length_drop]
        have := ih (i - halfN es.length) (es.drop (halfN es.length)) (by omega) (by omega) (by omega)
        rw [hl, List.getD_eq_getElem?_getD, List.getElem?_drop, Nat.add_sub_cancel' (by omega), ← List.getD_eq_getElem?_getD] at this
        rw [this, ← rootP_more es (by omega) h3]
end Go.Proofs.YtcmjlhcpoajbkaaDoor
namespace Go.Proofs.YtcmjlhcpoajbkaaDoor
theorem growR_false (z k k' : List Int) (l : List (List Int)) : ∀ (m n : Nat), growR z k l m n false = growR z k' l m n false := by
  induction l with
  | nil => intro m n; simp [growR]
  | cons d r ih =>
    intro m n
    unfold growR
    simp only [Bool.false_eq_true, and_false, if_false]
    rw [ih m (halfN n), ih (m - halfN n) (n - halfN n)]
theorem halfN_two (n : Nat) : ∃ j, halfN n = 2 ^ j := ⟨_, rfl⟩
theorem and_pow (j : Nat) : 2 ^ j &&& (2 ^ j - 1) = 0 := by rw [Nat.and_two_pow_sub_one_eq_mod]; exact Nat.mod_self _
/-- The old root stands in the link itself only where the size is a power of two. -/
theorem growR_known (z k k' : List Int) (l : List (List Int)) : ∀ (m n : Nat), 1 ≤ m → m < n → n < 2 ^ 63 → m &&& (m - 1) ≠ 0 → growR z k l m n true = growR z k' l m n true := by
  induction l with
  | nil => intro m n h1 h2 h3 h4; simp [growR, show ¬ m = n by omega]
  | cons d r ih =>
    intro m n h1 h2 h3 h4
    obtain ⟨a, b, c⟩ := halfN_spec n (by omega) (by omega)
    unfold growR
    rw [if_neg (show ¬ (m = n ∧ true = true) from fun h => by omega), if_neg (show ¬ (m = n ∧ true = true) from fun h => by omega), if_neg (show ¬ m = n by omega), if_neg (show ¬ m = n by omega)]
    by_cases hm : m ≤ halfN n
    · rw [if_pos hm, if_pos hm]
      have hne : m ≠ halfN n := fun e => by
        obtain ⟨j, hj⟩ := halfN_two n
        rw [e, hj] at h4
        exact h4 (and_pow j)
      rw [ih m (halfN n) h1 (by omega) (by omega) h4]
    · rw [if_neg hm, if_neg hm, growR_false z k k' r]
/-- A link of another length leads nowhere. -/
theorem growR_len (z : List Int) : ∀ (f m : Nat) (es : List (List Int)) (whole : Bool) (k : List Int) (l : List (List Int)), es.length ≤ f → 1 ≤ m → m ≤ es.length → es.length < 2 ^ 63 → (growR z k l m es.length whole).2.2 = true → l.length = (subP m es whole).length := by
  intro f
  induction f with
  | zero => intro m es whole k l h1 h2 h3; omega
  | succ f ih =>
    intro m es whole k l h1 h2 h3 h4 hg
    by_cases e : m = es.length
    · subst e
      rw [subP_all es whole (by omega)]
      cases l with
      | nil =>
        cases whole with
        | true => rfl
        | false => simp [growR] at hg
      | cons d r =>
        cases whole with
        | true => simp [growR] at hg
        | false =>
          simp [growR] at hg
          subst hg; rfl
    · obtain ⟨a, b, c⟩ := halfN_spec es.length (by omega) (by omega)
      have hne : ¬ (m = es.length ∧ whole = true) := fun h => e h.1
      cases l with
      | nil =>
        unfold growR at hg
        rw [if_neg hne] at hg
        cases hg
      | cons d r =>
        unfold growR at hg
        rw [if_neg hne, if_neg e] at hg
        by_cases hm : m ≤ halfN es.length
        · rw [if_pos hm] at hg
          have hl : (es.take (halfN es.length)).length = halfN es.length := by rw [List.length_take]; omega
          have := ih m (es.take (halfN es.length)) whole k r (by omega) h2 (by omega) (by omega) (by rw [hl]; exact hg)
          rw [subP_left m es whole h2 (by omega) h4 hm, List.length_append, ← this]; rfl
        · rw [if_neg hm] at hg
          have hl : (es.drop (halfN es.length)).length = es.length - halfN es.length := by rw [List.length_drop]
          have := ih (m - halfN es.length) (es.drop (halfN es.length)) false k r (by omega) (by omega) (by omega) (by omega) (by rw [hl]; exact hg)
          rw [subP_right m es whole (by omega) h4 hm, List.length_append, ← this]; rfl
section
variable (z : List Int) (m n : Nat) (es : List (List Int))
theorem linkP_same (h : n ≤ es.length) : linkP n (es.take n) = [] := by
  unfold linkP
  by_cases h0 : n = 0
  · rw [if_pos h0]
  · rw [if_neg h0]
    have hl : (es.take n).length = n := by rw [List.length_take]; omega
    have := subP_all (es.take n) true (by omega)
    rw [hl] at this
    rw [this]; rfl
theorem ext_link (hmn : m ≤ n) (hn : n ≤ es.length) (h3 : es.length < 2 ^ 63) : extP z m n (linkP m (es.take n)) (rootP (es.take m)) (rootP (es.take n)) = true := by
  unfold extP
  rw [if_neg (by omega)]
  by_cases e : m = n
  · subst e
    rw [if_pos rfl, linkP_same m es hn]; simp
  · rw [if_neg (by omega)]
    by_cases h0 : m = 0
    · subst h0
      rw [if_pos (show ((0 : Nat) : Int) = 0 from rfl), List.take_zero, rootP_nil]; simp [linkP]
    · rw [if_neg (by omega)]
      have hl : (es.take n).length = n := by rw [List.length_take]; omega
      have := grow_link z n m (es.take n) true (rootP (es.take m)) (by omega) (by omega) (by omega) (by omega) (fun _ => by rw [List.take_take, Nat.min_eq_left hmn])
      rw [hl, List.take_take, Nat.min_eq_left hmn] at this
      unfold linkP
      rw [if_neg h0, Int.toNat_natCast, Int.toNat_natCast, this]; simp
theorem ext_len (hmn : m ≤ n) (hn : n ≤ es.length) (h3 : es.length < 2 ^ 63) (ds : List (List Int)) (old now : List Int) (h : extP z m n ds old now = true) : ds.length = (linkP m (es.take n)).length := by
  unfold extP at h
  rw [if_neg (by omega)] at h
  by_cases e : m = n
  · subst e
    rw [if_pos rfl] at h
    rw [linkP_same m es hn]
    simp at h
    rw [h.1]
  · rw [if_neg (by omega)] at h
    by_cases h0 : m = 0
    · subst h0
      rw [if_pos (show ((0 : Nat) : Int) = 0 from rfl)] at h
      simp at h
      rw [h.1]; simp [linkP]
    · rw [if_neg (by omega)] at h
      have hl : (es.take n).length = n := by rw [List.length_take]; omega
      simp only [Bool.and_eq_true, Int.toNat_natCast] at h
      have := growR_len z n m (es.take n) true old ds.reverse (by omega) (by omega) (by omega) (by omega) (by rw [hl]; exact h.1)
      rw [List.length_reverse] at this
      rw [this]; unfold linkP; rw [if_neg h0]
theorem ext_old (hmn : m ≤ n) (hn : n ≤ es.length) (h3 : es.length < 2 ^ 63) (old : List Int) (hne : old ≠ rootP (es.take m)) (hp : 0 < m → m < n → m &&& (m - 1) ≠ 0) : extP z m n (linkP m (es.take n)) old (rootP (es.take n)) = false := by
  unfold extP
  rw [if_neg (by omega)]
  by_cases e : m = n
  · subst e
    rw [if_pos rfl]
    simp [hne]
  · rw [if_neg (by omega)]
    by_cases h0 : m = 0
    · subst h0
      rw [List.take_zero, rootP_nil] at hne
      rw [if_pos (show ((0 : Nat) : Int) = 0 from rfl)]; simp [hne]
    · rw [if_neg (by omega)]
      have hl : (es.take n).length = n := by rw [List.length_take]; omega
      have := grow_link z n m (es.take n) true (rootP (es.take m)) (by omega) (by omega) (by omega) (by omega) (fun _ => by rw [List.take_take, Nat.min_eq_left hmn])
      rw [hl, List.take_take, Nat.min_eq_left hmn] at this
      unfold linkP
      rw [if_neg h0, Int.toNat_natCast, Int.toNat_natCast, growR_known z old (rootP (es.take m)) _ m n (by omega) (by omega) (by omega) (hp (by omega) (by omega)), this]
      simp [Ne.symm hne]
end
end Go.Proofs.YtcmjlhcpoajbkaaDoor
