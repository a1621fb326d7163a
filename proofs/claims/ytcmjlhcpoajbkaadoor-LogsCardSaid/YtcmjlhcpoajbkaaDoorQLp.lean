import Derived.Test.YtcmjlhcpoajbkaaDoorQAp
import Derived.Test.YtcmjlhcpoajbkaaDoorQHh
import Derived.Test.YtcmjlhcpoajbkaaDoorQCa
namespace Go.Proofs.YtcmjlhcpoajbkaaDoor
set_option maxRecDepth 10000
set_option linter.unusedSimpArgs false
open Go.RowKit
def pathOut (i n : Int) (es : List (List Int)) : List (List Int) × Int := if (es.length : Int) < n ∨ ¬ (0 ≤ i ∧ i < n) then ([], 1) else (pathP i.toNat (es.take n.toNat), 0)
set_option maxHeartbeats 2000000 in
theorem logPath_any (w : World) (g : Nat) (key : List Int) (es : List (List Int)) (i n : Int) (hT : Tabs KS HS w) (hL : LogR w g key es) :
    Calls Tryd.prog 47 #[.pointer (some ⟨g, 0, none⟩), .int .i64 i, .int .i64 n] w fun e w' => ∃ v, e = .returned (.tuple #[v, .int .i64 (pathOut i n es).2]) ∧ Own w' w.heap.size v (pathOut i n es).1 ∧ Below w.heap.size w w' := by
  obtain ⟨_, ⟨ep, ec, hc, hE, hnil⟩, hfew⟩ := hL
  have hf := hE.fits
  have HE : Hid (E22 w ep es.length ec es) := hE
  clear hE
  by_cases h1 : (es.length : Int) < n
  · have HX : Hid (pathOut i n es = ([], 1)) := by
      show pathOut i n es = _
      unfold pathOut; rw [if_pos (.inl h1)]
    go_enter Tryd.func47, Tryd.ntmps47
    go_wp2_with fail
    go_ret2
    exact ⟨_, by rw [HX.out]; rfl, by rw [HX.out]; exact ⟨rfl, .inl ⟨rfl, rfl⟩⟩, Below.refl _ _⟩
  · by_cases h2 : 0 ≤ i ∧ i < n
    · have hin : (decide (0 ≤ i) && decide (i < n)) = true := by simp [h2.1, h2.2]
      obtain ⟨a, rfl⟩ : ∃ a : Nat, i = a := ⟨i.toNat, by omega⟩
      obtain ⟨b, rfl⟩ : ∃ b : Nat, n = b := ⟨n.toNat, by omega⟩
      have HX : Hid (pathOut a b es = (pathP a (es.take b), 0)) := by
        show pathOut a b es = _
        unfold pathOut; rw [if_neg (by omega), Int.toNat_natCast, Int.toNat_natCast]
      have hsl := fun W => eslice_nil ep es.length ec b (by omega) hf hnil W
      go_enter Tryd.func47, Tryd.ntmps47
      go_wp2_with fail
      refine (isIn_any _ _ _).mono ?_
      rintro ex w0 ⟨rfl, rfl⟩
      rw [hin]
      go_wp2_with fail
      refine (path_any b a ep ec (es.take b) w0 hT (HE.out.front b (by omega)) (by omega) (by omega)).mono ?_
      rintro e w1 ⟨v, rfl, hO, b1⟩
      have HO : Hid (Own w1 w0.heap.size v (pathP a (es.take b))) := hO
      clear hO hsl hc
      go_wp2_with fail
      go_ret2
      exact ⟨_, by rw [HX.out]; rfl, by rw [HX.out]; exact HO.out, b1⟩
    · have hin : (decide (0 ≤ i) && decide (i < n)) = false := by
        cases hd : (decide (0 ≤ i) && decide (i < n)) with
        | false => rfl
        | true => simp at hd; exact absurd hd h2
      have HX : Hid (pathOut i n es = ([], 1)) := by
        show pathOut i n es = _
        unfold pathOut; rw [if_pos (.inr h2)]
      go_enter Tryd.func47, Tryd.ntmps47
      go_wp2_with fail
      refine (isIn_any _ _ _).mono ?_
      rintro ex w0 ⟨rfl, rfl⟩
      rw [hin]
      go_wp2_with fail
      go_ret2
      exact ⟨_, by rw [HX.out]; rfl, by rw [HX.out]; exact ⟨rfl, .inl ⟨rfl, rfl⟩⟩, Below.refl _ _⟩
end Go.Proofs.YtcmjlhcpoajbkaaDoor
