import Derived.Test.YtcmjlhcpoajbkaaDoorQFk
namespace Go.Proofs.YtcmjlhcpoajbkaaDoor
set_option maxRecDepth 10000
set_option linter.unusedSimpArgs false
open Go.RowKit
/-- The length that the first four bytes tell, the entry, and the 32 bytes behind it. -/
def lenN (f : List UInt8) : Nat := numN (f.take 4)
def entN (f : List UInt8) : List Int := toI ((f.drop 4).take (lenN f))
def tagN (f : List UInt8) : List Int := toI (((f.drop 4).drop (lenN f)).take 32)
/-- The error at the first entry of what is left. -/
def errN (f : List UInt8) (a : Nat) : Int := if f.length < 4 then 3 else if 300 < lenN f ∨ 64 ≤ a then 2 else if f.length < 4 + lenN f + 32 then 3 else 0
theorem first_any (f : List UInt8) (a : Nat) (w : World) :
    Calls Tryd.prog 78 #[.string ⟨f.toArray⟩, .int .i64 a] w fun e w' => ∃ p n c SL, e = .returned (.tuple #[.slice p n c, .agg (A8 SL), .int .i64 (errN f a)]) ∧ SL.length = 32 ∧ Bytes SL ∧ Below w.heap.size w w' ∧
      (errN f a = 0 → SL = tagN f ∧ n = lenN f ∧ n ≤ 300 ∧ ∃ g, p = some ⟨g, 0, none⟩ ∧ w.heap.size ≤ g ∧ g < w'.heap.size ∧ In8 w' p n c (entN f)) := by
  by_cases h1 : f.length < 4
  · have e : errN f a = 3 := by unfold errN; rw [if_pos h1]
    rw [e]
    exact (first_short f a w h1).mono fun ex w' ⟨h, b⟩ => ⟨_, _, _, Z32, h, rfl, Z32_bytes, b, fun h => absurd h (by decide)⟩
  · by_cases h2 : 300 < lenN f
    · have e : errN f a = 2 := by unfold errN; rw [if_neg h1, if_pos (.inl h2)]
      rw [e]
      exact (first_long f a w (by omega) h2).mono fun ex w' ⟨h, b⟩ => ⟨_, _, _, Z32, h, rfl, Z32_bytes, b, fun h => absurd h (by decide)⟩
    · by_cases h3 : 64 ≤ a
      · have e : errN f a = 2 := by unfold errN; rw [if_neg h1, if_pos (.inr h3)]
        rw [e]
        exact (first_many f a w (by omega) (by unfold lenN at h2; omega) h3).mono fun ex w' ⟨h, b⟩ => ⟨_, _, _, Z32, h, rfl, Z32_bytes, b, fun h => absurd h (by decide)⟩
      · by_cases h4 : f.length < 4 + lenN f + 32
        · have e : errN f a = 3 := by unfold errN; rw [if_neg h1, if_neg (by omega), if_pos h4]
          rw [e]
          exact (first_torn f a w (by omega) (by unfold lenN at h2; omega) (by omega) (by unfold lenN at h4; omega)).mono fun ex w' ⟨h, b⟩ => ⟨_, _, _, Z32, h, rfl, Z32_bytes, b, fun h => absurd h (by decide)⟩
        · have e : errN f a = 0 := by unfold errN; rw [if_neg h1, if_neg (by omega), if_neg h4]
          rw [e]
          refine (first_ok f (lenN f) (f.drop 4) rfl rfl a w (by omega) (by omega) (by omega) (by omega)).mono ?_
          rintro ex w' ⟨g, c, h, hi, hg, hgu, b⟩
          have hsl : (tagN f).length = 32 := by unfold tagN; rw [toI_len, List.length_take, List.length_drop, List.length_drop]; omega
          exact ⟨_, _, c, tagN f, h, hsl, toI_bytes _, b, fun _ => ⟨rfl, rfl, by omega, g, rfl, hg, hgu, hi⟩⟩
/-- What Load tells: the entries, the error, the place. -/
def loadF (key : List Int) (f : List UInt8) : Nat → Nat → List (List Int) → List Int → List (List Int) × Int × Nat
  | 0, p, es, _ => (es, 0, p)
  | k + 1, p, es, s =>
    if f.length ≤ p then (es, 0, p)
    else if errN (f.drop p) es.length ≠ 0 then (es, errN (f.drop p) es.length, p)
    else if tagN (f.drop p) ≠ sealP key s (entN (f.drop p)) then (es, 4, p)
    else loadF key f k (p + (4 + lenN (f.drop p) + 32)) (es ++ [entN (f.drop p)]) (sealP key s (entN (f.drop p)))
def loadP (key : List Int) (f : List UInt8) : List (List Int) × Int × Nat := loadF key f (f.length + 1) 0 [] Z32
theorem errN_zero (f : List UInt8) (a : Nat) (h : errN f a = 0) : 4 + lenN f + 32 ≤ f.length ∧ lenN f ≤ 300 ∧ a < 64 := by
  unfold errN at h
  split at h
  · cases h
  · split at h
    · cases h
    · split at h
      · cases h
      · omega
theorem loadF_fuel (key : List Int) (f : List UInt8) : ∀ (k j p : Nat) (es : List (List Int)) (s : List Int), f.length < p + k → f.length < p + j → loadF key f k p es s = loadF key f j p es s := by
  intro k
  induction k with
  | zero =>
    intro j p es s h1 h2
    cases j with
    | zero => rfl
    | succ j => simp only [loadF]; rw [if_pos (by omega)]
  | succ k ih =>
    intro j p es s h1 h2
    cases j with
    | zero => simp only [loadF]; rw [if_pos (by omega)]
    | succ j =>
      simp only [loadF]
      split
      · rfl
      · split
        · rfl
        · split
          · rfl
          · exact ih j _ _ _ (by omega) (by omega)
theorem log_dg {w : World} {B g k : Nat} {ev : Value} {key : List Int} {es : List (List Int)} {D : List Int} (h : LogAt w B g ev key es) (hd : Dg w k D) : k ≠ g ∧ ev.ownBlock ≠ some k := by
  constructor
  · rintro rfl
    obtain ⟨kp, kn, kc, h1, _⟩ := h.blk
    rw [hd.here] at h1
    simp only [Option.some.injEq, Obj.cells.injEq] at h1
    exact absurd h1.2.1 (by decide)
  · intro he
    obtain ⟨vs, ⟨_, ⟨rfl, _⟩ | ⟨r, cap, cur, rfl, _, hh, _⟩⟩, _⟩ := h.own
    · cases he
    · simp only [Value.ownBlock, Option.some.injEq] at he
      subst he
      rw [hd.here] at hh
      simp only [Option.some.injEq, Obj.cells.injEq] at hh
      exact absurd hh.2.1 (by decide)
end Go.Proofs.YtcmjlhcpoajbkaaDoor
