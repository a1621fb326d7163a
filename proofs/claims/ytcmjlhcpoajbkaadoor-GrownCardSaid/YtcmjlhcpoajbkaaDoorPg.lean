import Derived.Test.YtcmjlhcpoajbkaaDoorPu
import Derived.Test.YtcmjlhcpoajbkaaDoorGe
namespace Go.Proofs.YtcmjlhcpoajbkaaDoor
theorem growR_false (z k k' : List Int) (l : List (List Int)) : ∀ (m n : Nat), growR z k l m n false = growR z k' l m n false := by
  induction l with
  | nil => intro m n; simp [growR]
  | cons d r ih =>
    intro m n
    unfold growR
    simp only [Bool.false_eq_true, and_false, if_false]
    rw [ih m (halfN n), ih (m - halfN n) (n - halfN n)]
theorem halfN_two (n : Nat) : ∃ j, halfN n = 2 ^ j := ⟨_, rfl⟩
theorem and_pow (j : Nat) : 2 ^ j &&& (2 ^ j - 1) = 0 := by rw [Nat.and_two_pow_sub_one_eq_mod]; exact Nat.mod_self _
/-- The old root stands in the link itself only where the size is a power of two. -/
theorem growR_known (z k k' : List Int) (l : List (List Int)) : ∀ (m n : Nat), 1 ≤ m → m < n → n < 2 ^ 63 → m &&& (m - 1) ≠ 0 → growR z k l m n true = growR z k' l m n true := by
  induction l with
  | nil => intro m n h1 h2 h3 h4; simp [growR, show ¬ m = n by omega]
  | cons d r ih =>
    intro m n h1 h2 h3 h4
    obtain ⟨a, b, c⟩ := halfN_spec n (by omega) (by omega)
    unfold growR
    rw [if_neg (show ¬ (m = n ∧ true = true) from fun h => by omega), if_neg (show ¬ (m = n ∧ true = true) from fun h => by omega), if_neg (show ¬ m = n by omega), if_neg (show ¬ m = n by omega)]
    by_cases hm : m ≤ halfN n
    · rw [if_pos hm, if_pos hm]
      have hne : m ≠ halfN n := fun e => by
        obtain ⟨j, hj⟩ := halfN_two n
        rw [e, hj] at h4
        exact h4 (and_pow j)
      rw [ih m (halfN n) h1 (by omega) (by omega) h4]
    · rw [if_neg hm, if_neg hm, growR_false z k k' r]
/-- A link of another length leads nowhere. -/
theorem growR_len (z : List Int) : ∀ (f m : Nat) (es : List (List Int)) (whole : Bool) (k : List Int) (l : List (List Int)), es.length ≤ f → 1 ≤ m → m ≤ es.length → es.length < 2 ^ 63 → (growR z k l m es.length whole).2.2 = true → l.length = (subP m es whole).length := by
  intro f
  induction f with
  | zero => intro m es whole k l h1 h2 h3; omega
  | succ f ih =>
    intro m es whole k l h1 h2 h3 h4 hg
    by_cases e : m = es.length
    · subst e
      rw [subP_all es whole (by omega)]
      cases l with
      | nil =>
        cases whole with
        | true => rfl
        | false => simp [growR] at hg
      | cons d r =>
        cases whole with
        | true => simp [growR] at hg
        | false =>
          simp [growR] at hg
          subst hg; rfl
    · obtain ⟨a, b, c⟩ := halfN_spec es.length (by omega) (by omega)
      have hne : ¬ (m = es.length ∧ whole = true) := fun h => e h.1
      cases l with
      | nil =>
        unfold growR at hg
        rw [if_neg hne] at hg
        cases hg
      | cons d r =>
        unfold growR at hg
        rw [if_neg hne, if_neg e] at hg
        by_cases hm : m ≤ halfN es.length
        · rw [if_pos hm] at hg
          have hl : (es.take (halfN es.length)).length = halfN es.length := by rw [List.length_take]; omega
          have := ih m (es.take (halfN es.length)) whole k r (by omega) h2 (by omega) (by omega) (by rw [hl]; exact hg)
          rw [subP_left m es whole h2 (by omega) h4 hm, List.length_append, ← this]; rfl
        · rw [if_neg hm] at hg
          have hl : (es.drop (halfN es.length)).length = es.length - halfN es.length := by rw [List.length_drop]
          have := ih (m - halfN es.length) (es.drop (halfN es.length)) false k r (by omega) (by omega) (by omega) (by omega) (by rw [hl]; exact hg)
          rw [subP_right m es whole (by omega) h4 hm, List.length_append, ← this]; rfl
section
variable (z : List Int) (m n : Nat) (es : List (List Int))
theorem linkP_same (h : n ≤ es.length) : linkP n (es.take n) = [] := by
  unfold linkP
  by_cases h0 : n = 0
  · rw [if_pos h0]
  · rw [if_neg h0]
    have hl : (es.take n).length = n := by rw [List.length_take]; omega
    have := subP_all (es.take n) true (by omega)
    rw [hl] at this
    rw [this]; rfl
theorem ext_link (hmn : m ≤ n) (hn : n ≤ es.length) (h3 : es.length < 2 ^ 63) : extP z m n (linkP m (es.take n)) (rootP (es.take m)) (rootP (es.take n)) = true := by
  unfold extP
  rw [if_neg (by omega)]
  by_cases e : m = n
  · subst e
    rw [if_pos rfl, linkP_same m es hn]; simp
  · rw [if_neg (by omega)]
    by_cases h0 : m = 0
    · subst h0
      rw [if_pos (show ((0 : Nat) : Int) = 0 from rfl), List.take_zero, rootP_nil]; simp [linkP]
    · rw [if_neg (by omega)]
      have hl : (es.take n).length = n := by rw [List.length_take]; omega
      have := grow_link z n m (es.take n) true (rootP (es.take m)) (by omega) (by omega) (by omega) (by omega) (fun _ => by rw [List.take_take, Nat.min_eq_left hmn])
      rw [hl, List.take_take, Nat.min_eq_left hmn] at this
      unfold linkP
      rw [if_neg h0, Int.toNat_natCast, Int.toNat_natCast, this]; simp
theorem ext_len (hmn : m ≤ n) (hn : n ≤ es.length) (h3 : es.length < 2 ^ 63) (ds : List (List Int)) (old now : List Int) (h : extP z m n ds old now = true) : ds.length = (linkP m (es.take n)).length := by
  unfold extP at h
  rw [if_neg (by omega)] at h
  by_cases e : m = n
  · subst e
    rw [if_pos rfl] at h
    rw [linkP_same m es hn]
    simp at h
    rw [h.1]
  · rw [if_neg (by omega)] at h
    by_cases h0 : m = 0
    · subst h0
      rw [if_pos (show ((0 : Nat) : Int) = 0 from rfl)] at h
      simp at h
      rw [h.1]; simp [linkP]
    · rw [if_neg (by omega)] at h
      have hl : (es.take n).length = n := by rw [List.length_take]; omega
      simp only [Bool.and_eq_true, Int.toNat_natCast] at h
      have := growR_len z n m (es.take n) true old ds.reverse (by omega) (by omega) (by omega) (by omega) (by rw [hl]; exact h.1)
      rw [List.length_reverse] at this
      rw [this]; unfold linkP; rw [if_neg h0]
theorem ext_old (hmn : m ≤ n) (hn : n ≤ es.length) (h3 : es.length < 2 ^ 63) (old : List Int) (hne : old ≠ rootP (es.take m)) (hp : 0 < m → m < n → m &&& (m - 1) ≠ 0) : extP z m n (linkP m (es.take n)) old (rootP (es.take n)) = false := by
  unfold extP
  rw [if_neg (by omega)]
  by_cases e : m = n
  · subst e
    rw [if_pos rfl]
    simp [hne]
  · rw [if_neg (by omega)]
    by_cases h0 : m = 0
    · subst h0
      rw [List.take_zero, rootP_nil] at hne
      rw [if_pos (show ((0 : Nat) : Int) = 0 from rfl)]; simp [hne]
    · rw [if_neg (by omega)]
      have hl : (es.take n).length = n := by rw [List.length_take]; omega
      have := grow_link z n m (es.take n) true (rootP (es.take m)) (by omega) (by omega) (by omega) (by omega) (fun _ => by rw [List.take_take, Nat.min_eq_left hmn])
      rw [hl, List.take_take, Nat.min_eq_left hmn] at this
      unfold linkP
      rw [if_neg h0, Int.toNat_natCast, Int.toNat_natCast, growR_known z old (rootP (es.take m)) _ m n (by omega) (by omega) (by omega) (hp (by omega) (by omega)), this]
      simp [Ne.symm hne]
end
end Go.Proofs.YtcmjlhcpoajbkaaDoor
