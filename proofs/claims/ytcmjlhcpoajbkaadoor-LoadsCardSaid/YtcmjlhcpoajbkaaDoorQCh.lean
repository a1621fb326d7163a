import Derived.Test.YtcmjlhcpoajbkaaDoorQPb
import Derived.Test.YtcmjlhcpoajbkaaDoorQCa
namespace Go.Proofs.YtcmjlhcpoajbkaaDoor
set_option maxRecDepth 10000
open Go.RowKit
theorem Parted.mono {w w0 w' : World} {m : Nat} {tx ty : Nat → List Int} {e : Ending} (h : Parted w w' m tx ty e) (hb : w0.heap.size ≤ w.heap.size) : Parted w0 w' m tx ty e := by
  rcases h with h | ⟨k, h1, h2, h3, v1, v2, h4, h5, h6, h7⟩
  · exact .inl h
  · exact .inr ⟨k, h1, h2, h3, v1, v2, h4, h5.mono hb, h6.mono hb, h7⟩
theorem Parted.shape {w w' : World} {m : Nat} {tx ty : Nat → List Int} {e : Ending} (h : Parted w w' m tx ty e) : ∃ v1 v2 b, e = .returned (.tuple #[v1, v2, .bool b]) := by
  rcases h with ⟨_, h⟩ | ⟨k, h1, h2, h3, v1, v2, h4, _⟩
  · exact ⟨_, _, _, h⟩
  · exact ⟨_, _, _, h4⟩
/-- The way up is as long as this. -/
def wayLen (i n : Nat) : Nat := (leftsP i n).length
/-- What Clash tells. -/
def Clashed (w w' : World) (i n : Int) (a : List Int) (p : List (List Int)) (b : List Int) (q : List (List Int)) (e : Ending) : Prop :=
  (¬ (0 ≤ i ∧ i < n ∧ p.length = wayLen i.toNat n.toNat ∧ q.length = wayLen i.toNat n.toNat) ∧ e = .returned (.tuple #[.slice none 0 0, .slice none 0 0, .bool false])) ∨
  (0 ≤ i ∧ i < n ∧ p.length = wayLen i.toNat n.toNat ∧ q.length = wayLen i.toNat n.toNat ∧ Parted w w' (wayLen i.toNat n.toNat) (textAt a (leftsP i.toNat n.toNat) p) (textAt b (leftsP i.toNat n.toNat) q) e)
theorem Clashed.shape {w w' : World} {i n : Int} {a b : List Int} {p q : List (List Int)} {e : Ending} (h : Clashed w w' i n a p b q e) : ∃ v1 v2 b, e = .returned (.tuple #[v1, v2, .bool b]) := by
  rcases h with ⟨_, h⟩ | ⟨_, _, _, _, h⟩
  · exact ⟨_, _, _, h⟩
  · exact h.shape
theorem noLen {i n : Nat} {a : Nat} (h : a ≠ wayLen i n) : ¬ (0 ≤ (i : Int) ∧ (i : Int) < n ∧ a = wayLen (i : Int).toNat (n : Int).toNat ∧ True) := fun ⟨_, _, h1, _⟩ => h h1
set_option maxHeartbeats 4000000 in
theorem tclash_any (i n : Nat) (hi : i < n) (hn : n ≤ 9223372036854775807) (a : List Int) (pa : Option Addr) (na ca : Nat) (hna : na < 140737488355328) (p : Option Addr) (m cap : Nat) (ds : List (List Int)) (b : List Int) (pb : Option Addr) (nb cb : Nat) (hnb : nb < 140737488355328) (q : Option Addr) (k cap' : Nat) (ds' : List (List Int))
    (w : World) (hT : Tabs KS HS w) (hA : In8 w pa na ca a) (hP : D32 w p m cap ds) (hB : In8 w pb nb cb b) (hQ : D32 w q k cap' ds') :
    Calls Tryd.prog 83 #[.int .i64 i, .int .i64 n, .slice pa na ca, .slice p m cap, .slice pb nb cb, .slice q k cap'] w fun e w' => Clashed w w' i n a ds b ds' e ∧ Below w.heap.size w w' := by
  have hl := hP.len
  have hl' := hQ.len
  have h63 : wayLen i n ≤ 63 := leftsP_len i n
  by_cases h1 : m = wayLen i n
  · by_cases h2 : k = wayLen i n
    · have HP : Hid (∀ (w2 w' : World) (e : Ending), w.heap.size ≤ w2.heap.size → Parted w2 w' (wayLen i n) (textAt a (leftsP i n) ds) (textAt b (leftsP i n) ds') e → Clashed w w' i n a ds b ds' e) := fun w2 w' e hw h =>
        .inr ⟨by omega, by omega, by show ds.length = wayLen i n; omega, by show ds'.length = wayLen i n; omega, h.mono hw⟩
      have H1 : Hid (m = (leftsP i n).length) := h1
      have H2 : Hid (k = (leftsP i n).length) := h2
      have H3 : Hid (wayLen i n = m) := h1.symm
      have H4 : Hid (wayLen i n = k) := h2.symm
      clear hl hl'
      have hk63 : k ≤ 63 := by omega
      have hmk : Hid (k = m) := by show k = m; omega
      clear h1 h2 h63
      go_enter Tryd.func83, Tryd.ntmps83
      go_wp2_with fail
      refine (way_any a pa na ca hna m i n p cap ds w hT hA hP hi hn H1.out).mono ?_
      rintro e w1 ⟨v, rfl, hX, b1⟩
      obtain ⟨g, c1, rfl, hg1, hg2, hf1, hm1, hc1⟩ := hX.get
      have hg2' := hg2
      have HC1 : Hid _ := hc1
      clear hc1 hX
      go_wp2_with fail
      refine (way_any b pb nb cb hnb k i n q cap' ds' w1 (hT.below b1) (hB.below b1) (hQ.below b1) hi hn H2.out).mono ?_
      rintro e w2 ⟨v, rfl, hY, b2⟩
      obtain ⟨g', c2, rfl, hg1', hg3, hf2, hm2, hc2⟩ := hY.get
      have HC2 : Hid _ := hc2
      clear hc2 hY
      have B2 : Below w.heap.size w w2 := b1.trans (b2.mono b1.size)
      have hpart := part_any w2 (hT.below B2) g c1 g' c2 m (textAt a (leftsP i n) ds) (textAt b (leftsP i n) ds') (fun j => (w2.cell? ⟨g, j, none⟩).getD undef) (fun j => (w2.cell? ⟨g', j, none⟩).getD undef) (by have := hmk.out; omega) (Nat.lt_of_lt_of_le hg2 b2.size) hg3
        (fun j hj => by obtain ⟨u, hu, _⟩ := HC1.out j hj; rw [b2.cell (p := ⟨g, j, none⟩) hg2, hu]; rfl)
        (fun j hj => by obtain ⟨u, hu, _⟩ := HC2.out j (by have := hmk.out; omega); rw [hu]; rfl)
        (fun j hj => by obtain ⟨u, hu, t⟩ := HC1.out j hj; rw [b2.cell (p := ⟨g, j, none⟩) hg2, hu]; exact t.below B2)
        (fun j hj => by obtain ⟨u, hu, t⟩ := HC2.out j (by have := hmk.out; omega); rw [hu]; exact t.below b2)
      rw [hmk.out]
      have HPa : Hid _ := hpart
      clear hpart HC1 HC2
      have hs2 := B2.size
      go_wp2_with fail
      refine Calls.mono HPa.out ?_
      rintro e w3 ⟨hpt, b3⟩
      have B3 : Hid (Below w.heap.size w w3) := B2.trans (b3.mono B2.size)
      obtain ⟨v1, v2, bb, rfl⟩ := hpt.shape
      rw [← H3.out] at hpt
      have HR : Hid (Clashed w w3 i n a ds b ds' (.returned (.tuple #[v1, v2, .bool bb]))) := HP.out w2 w3 _ hs2 hpt
      clear hpt HP HPa b3 B2
      go_wp2_with fail
      go_ret3
      exact ⟨HR.out, B3.out⟩
    · have HE : Hid (∀ w' : World, Clashed w w' i n a ds b ds' (.returned (.tuple #[.slice none 0 0, .slice none 0 0, .bool false]))) := fun w' => .inl ⟨fun ⟨_, _, _, h⟩ => h2 (by have h : ds'.length = wayLen i n := h; omega), rfl⟩
      have H1 : Hid (m = (leftsP i n).length) := h1
      have H2 : Hid (k ≠ (leftsP i n).length) := h2
      clear h1 h2 h63 hl hl'
      go_enter Tryd.func83, Tryd.ntmps83
      go_wp2_with fail
      refine (way_any a pa na ca hna m i n p cap ds w hT hA hP hi hn H1.out).mono ?_
      rintro e w1 ⟨v, rfl, hX, b1⟩
      clear hX
      go_wp2_with fail
      refine (way_no pb nb cb k i n q cap' w1 hi hn H2.out).mono ?_
      rintro e w2 ⟨rfl, b2⟩
      have B2 : Hid (Below w.heap.size w w2) := b1.trans (b2.mono b1.size)
      clear b1 b2
      go_wp2_with fail
      go_ret3
      exact ⟨HE.out _, B2.out⟩
  · have HE : Hid (∀ w' : World, Clashed w w' i n a ds b ds' (.returned (.tuple #[.slice none 0 0, .slice none 0 0, .bool false]))) := fun w' => .inl ⟨fun ⟨_, _, h, _⟩ => h1 (by have h : ds.length = wayLen i n := h; omega), rfl⟩
    have H1 : Hid (m ≠ (leftsP i n).length) := h1
    clear h1 h63 hl hl'
    go_enter Tryd.func83, Tryd.ntmps83
    go_wp2_with fail
    refine (way_no pa na ca m i n p cap w hi hn H1.out).mono ?_
    rintro e w2 ⟨rfl, b2⟩
    have B2 : Hid (Below w.heap.size w w2) := b2
    clear b2
    go_wp2_with fail
    go_ret3
    exact ⟨HE.out _, B2.out⟩
set_option maxHeartbeats 4000000 in
theorem clash_any (i n : Int) (hi : i ≤ 9223372036854775807) (hn : n ≤ 9223372036854775807) (a : List Int) (pa : Option Addr) (na ca : Nat) (hna : na < 140737488355328) (p : Option Addr) (m cap : Nat) (ds : List (List Int)) (b : List Int) (pb : Option Addr) (nb cb : Nat) (hnb : nb < 140737488355328) (q : Option Addr) (k cap' : Nat) (ds' : List (List Int))
    (w : World) (hT : Tabs KS HS w) (hA : In8 w pa na ca a) (hP : D32 w p m cap ds) (hB : In8 w pb nb cb b) (hQ : D32 w q k cap' ds') :
    Calls Tryd.prog 41 #[.int .i64 i, .int .i64 n, .slice pa na ca, .slice p m cap, .slice pb nb cb, .slice q k cap'] w fun e w' => Clashed w w' i n a ds b ds' e ∧ Below w.heap.size w w' := by
  by_cases h1 : 0 ≤ i ∧ i < n
  · have hin : (decide (0 ≤ i) && decide (i < n)) = true := by simp [h1.1, h1.2]
    obtain ⟨x, rfl⟩ : ∃ x : Nat, i = x := ⟨i.toNat, by omega⟩
    obtain ⟨y, rfl⟩ : ∃ y : Nat, n = y := ⟨n.toNat, by omega⟩
    go_enter Tryd.func41, Tryd.ntmps41
    go_wp2_with fail
    refine (isIn_any _ _ _).mono ?_
    rintro ex w0 ⟨rfl, rfl⟩
    rw [hin]
    go_wp2_with fail
    refine (tclash_any x y (by omega) (by omega) a pa na ca hna p m cap ds b pb nb cb hnb q k cap' ds' w0 hT hA hP hB hQ).mono ?_
    rintro e w3 ⟨hpt, b3⟩
    have HR : Hid _ := hpt
    obtain ⟨v1, v2, bb, rfl⟩ := hpt.shape
    clear hpt
    go_wp2_with fail
    go_ret3
    exact ⟨HR.out, b3⟩
  · have hin : (decide (0 ≤ i) && decide (i < n)) = false := by
      cases hd : (decide (0 ≤ i) && decide (i < n)) with
      | false => rfl
      | true => simp at hd; exact absurd hd h1
    have HE : Hid (∀ w' : World, Clashed w w' i n a ds b ds' (.returned (.tuple #[.slice none 0 0, .slice none 0 0, .bool false]))) := fun w' => .inl ⟨fun ⟨x, y, _, _⟩ => h1 ⟨x, y⟩, rfl⟩
    go_enter Tryd.func41, Tryd.ntmps41
    go_wp2_with fail
    refine (isIn_any _ _ _).mono ?_
    rintro ex w0 ⟨rfl, rfl⟩
    rw [hin]
    go_wp2_with fail
    go_ret3
    exact ⟨HE.out _, Below.refl _ _⟩
end Go.Proofs.YtcmjlhcpoajbkaaDoor
