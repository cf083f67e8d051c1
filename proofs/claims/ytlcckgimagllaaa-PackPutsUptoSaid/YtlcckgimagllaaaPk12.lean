/- The law PackBack. -/
import Derived.Test.YtlcckgimagllaaaPk11
namespace Go.Proofs.Ytlcckgimagllaaa
open Go Go.RowKit
set_option linter.unusedVariables false
set_option linter.unusedSimpArgs false
def PP.bytes (p : PP) : List Int := if p.kd % 4 = 0 then leb p.x else if p.kd % 4 = 1 then leb p.xs.length ++ p.xs else if p.kd % 4 = 2 then p.xs else [if decide (p.x % 2 = 1) = true then 1 else 0]
def PP.put (s : List Int × Bool) (p : PP) : List Int × Bool := putX s.1 s.2 p.kd p.x p.xs
def stF (ps : List PP) : List Int × Bool := ps.foldl PP.put ([], false)
theorem pS_ok {xs : List Int} {lg : Bool} {ys : List Int} (h : (pS xs lg ys).2 = false) : lg = false ∧ (pS xs lg ys).1 = xs ++ ys ∧ xs.length + ys.length ≤ 16384 := by
  unfold pS at h ⊢
  split at h
  · cases h
  · rename_i h2
    simp only [not_or, Nat.not_lt, Bool.not_eq_true] at h2
    rw [if_neg (by simp [h2.1]; exact h2.2)]
    exact ⟨h2.1, rfl, h2.2⟩
theorem put_ok {s : List Int × Bool} {p : PP} (h : (p.put s).2 = false) : s.2 = false ∧ (p.put s).1 = s.1 ++ p.bytes ∧ (p.kd % 4 = 1 → p.xs.length ≤ 4096) ∧ s.1.length + p.bytes.length ≤ 16384 := by
  unfold PP.put putX at h ⊢
  unfold PP.bytes
  by_cases k0 : p.kd % 4 = 0
  · rw [if_pos k0] at h ⊢
    rw [if_pos k0]
    obtain ⟨h1, h2, h3⟩ := pS_ok h
    exact ⟨h1, h2, fun h => by omega, h3⟩
  · rw [if_neg k0] at h ⊢
    rw [if_neg k0]
    by_cases k1 : p.kd % 4 = 1
    · rw [if_pos k1] at h ⊢
      rw [if_pos k1]
      unfold txS at h ⊢
      by_cases hl : 4096 < p.xs.length
      · rw [if_pos hl] at h; cases h
      · rw [if_neg hl] at h ⊢
        obtain ⟨h1, h2, h3⟩ := pS_ok h
        obtain ⟨h4, h5, h6⟩ := pS_ok h1
        refine ⟨h4, by rw [h2, h5, List.append_assoc], fun _ => by omega, ?_⟩
        rw [h5, List.length_append] at h3
        rw [List.length_append]; omega
    · rw [if_neg k1] at h ⊢
      rw [if_neg k1]
      by_cases k2 : p.kd % 4 = 2
      · rw [if_pos k2] at h ⊢
        rw [if_pos k2]
        obtain ⟨h1, h2, h3⟩ := pS_ok h
        exact ⟨h1, h2, fun h => absurd h k1, h3⟩
      · rw [if_neg k2] at h ⊢
        rw [if_neg k2]
        obtain ⟨h1, h2, h3⟩ := pS_ok h
        exact ⟨h1, h2, fun h => absurd h k1, h3⟩
theorem fold_ok : ∀ (ps : List PP) (s : List Int × Bool), (ps.foldl PP.put s).2 = false → s.2 = false ∧ (ps.foldl PP.put s).1 = s.1 ++ ps.flatMap PP.bytes ∧ ∀ p ∈ ps, (p.kd % 4 = 1 → p.xs.length ≤ 4096) ∧ p.bytes.length ≤ 16384
  | [], s, h => ⟨h, by simp, by simp⟩
  | p :: ps, s, h => by
    rw [List.foldl_cons] at h ⊢
    obtain ⟨h1, h2, h3⟩ := fold_ok ps _ h
    obtain ⟨h4, h5, h6, h7⟩ := put_ok h1
    refine ⟨h4, by rw [h2, h5, List.flatMap_cons, List.append_assoc], fun q hq => ?_⟩
    rcases List.mem_cons.1 hq with rfl | hq
    · exact ⟨h6, by omega⟩
    · exact h3 q hq
theorem stF_snoc (ps : List PP) (p : PP) : stF (ps ++ [p]) = p.put (stF ps) := by unfold stF; rw [List.foldl_append]; rfl
theorem put_bd {s : List Int × Bool} {p : PP} (h1 : ∀ x ∈ s.1, 0 ≤ x ∧ x ≤ 255) (h2 : s.1.length ≤ 16384) (h3 : ∀ x ∈ p.xs, 0 ≤ x ∧ x ≤ 255) : (∀ x ∈ (p.put s).1, 0 ≤ x ∧ x ≤ 255) ∧ (p.put s).1.length ≤ 16384 := by
  unfold PP.put putX
  split
  · exact ⟨pS_bd h1 (leb_bd _), pS_len h2⟩
  · split
    · unfold txS
      split
      · exact ⟨h1, h2⟩
      · exact ⟨pS_bd (pS_bd h1 (leb_bd _)) h3, pS_len (pS_len h2)⟩
    · split
      · exact ⟨pS_bd h1 h3, pS_len h2⟩
      · exact ⟨pS_bd h1 (by intro x hx; simp only [List.mem_singleton] at hx; subst hx; split <;> omega), pS_len h2⟩
theorem stF_bd (ps : List PP) (h : ∀ p ∈ ps, ∀ x ∈ p.xs, 0 ≤ x ∧ x ≤ 255) : ∀ i, (∀ x ∈ (stF (ps.take i)).1, 0 ≤ x ∧ x ≤ 255) ∧ (stF (ps.take i)).1.length ≤ 16384
  | 0 => by simp [stF]
  | i + 1 => by
    obtain ⟨h1, h2⟩ := stF_bd ps h i
    rw [List.take_add_one]
    cases hp : ps[i]? with
    | none => simpa using ⟨h1, h2⟩
    | some p =>
      simp only [Option.toList_some]
      rw [stF_snoc]
      exact put_bd h1 h2 (h p (List.mem_of_getElem? hp))
theorem leb_len_pos (x : Nat) : (leb x).length ≠ 0 := by
  by_cases h : x < 128
  · rw [leb_small h]; simp
  · rw [leb_big h]; simp
theorem numF_leb (r : List Int) (x : Nat) : ∀ (n0 acc : Nat), x * 128 ^ n0 < 18446744073709551616 → n0 ≤ 9 → (0 < n0 → x ≠ 0) → numF (leb x ++ r) n0 acc = (acc + x * 128 ^ n0, n0 + (leb x).length) := by
  induction x using Nat.strongRecOn with
  | ind x ih =>
    intro n0 acc hx hn h0
    have h99 : (128 : Nat) ^ 9 = 9223372036854775808 := by decide
    by_cases h : x < 128
    · rw [leb_small h]
      simp only [List.singleton_append, numF, Int.toNat_natCast]
      rw [if_pos h, if_neg (fun hh => h0 hh.2 hh.1), if_neg (by rintro ⟨rfl, h2⟩; rw [h99] at hx; omega)]
      rfl
    · rw [leb_big h]
      simp only [List.cons_append, numF, Int.toNat_natCast]
      have hn9 : n0 ≠ 9 := by rintro rfl; rw [h99] at hx; omega
      have e1 : (x / 128) * 128 ^ (n0 + 1) ≤ x * 128 ^ n0 := pow_step (Nat.le_refl _)
      rw [if_neg (by omega), if_neg hn9, ih (x / 128) (by omega) (n0 + 1) _ (by omega) (by omega) (fun _ => by omega)]
      have e2 : (x % 128 + 128) % 128 = x % 128 := by omega
      rw [e2]
      have e3 : x * 128 ^ n0 = x % 128 * 128 ^ n0 + x / 128 * 128 ^ (n0 + 1) := by
        rw [Nat.pow_succ, Nat.mul_comm (128 ^ n0) 128, ← Nat.mul_assoc, ← Nat.add_mul]
        congr 1
        omega
      rw [e3, List.length_cons]
      congr 1
      · omega
      · omega
theorem numX_leb {x : Nat} (r : List Int) (hx : x < 18446744073709551616) : numX (leb x ++ r) = (x, (leb x).length) := by
  unfold numX
  rw [numF_leb r x 0 0 (by simpa using hx) (by omega) (by omega)]
  simp
theorem got0 {kd x : Nat} (r : List Int) (hk : kd % 4 = 0) (hx : x < 18446744073709551616) : gotX (leb x ++ r) kd x = some (x, [], (leb x).length) := by
  unfold gotX
  rw [if_pos hk, numX_leb r hx, if_neg]
  simp only [not_or, Nat.not_lt]
  exact ⟨leb_len_pos x, Nat.le_refl _⟩
theorem toI_small {x : Nat} (h : x < 9223372036854775808) : toI x = x := by unfold toI; rw [if_pos h]
theorem got1 {kd : Nat} (ys r : List Int) (hk : kd % 4 = 1) (hy : ys.length ≤ 4096) : gotX ((leb ys.length ++ ys) ++ r) kd ys.length = some (0, ys, (leb ys.length).length + ys.length) := by
  unfold gotX
  rw [if_neg (by omega), if_pos hk, List.append_assoc, numX_leb _ (by omega), if_neg]
  · simp only
    rw [List.drop_left, List.take_left]
  · simp only [not_or, Nat.not_lt, Int.not_lt, toI_small (show ys.length < 9223372036854775808 by omega)]
    exact ⟨leb_len_pos _, by omega, by omega, by omega, by simp⟩
theorem got2 {kd : Nat} (ys r : List Int) (hk : kd % 4 = 2) (hy : ys.length ≤ 16384) : gotX (ys ++ r) kd ys.length = some (0, ys, ys.length) := by
  unfold gotX
  rw [if_neg (by omega), if_neg (by omega), if_pos hk, toI_small (by omega), if_neg (by simp; omega), Int.toNat_natCast, List.take_left]
theorem got3 {kd x : Nat} (c : Int) (r : List Int) (hk : kd % 4 = 3) (hc : c ≤ 1) : gotX ([c] ++ r) kd x = some (c.toNat, [], 1) := by
  unfold gotX
  rw [if_neg (by omega), if_neg (by omega), if_neg (by omega), if_neg (by simp; omega)]
  rfl
/-- Behind what was taken. -/
theorem rest_step {W A r : List Int} {ll n : Nat} (hle : ll ≤ W.length) (h : W.drop (W.length - ll) = A ++ r) (hn : A.length = n) : n ≤ ll ∧ W.drop (W.length - (ll - n)) = r := by
  have hl := congrArg List.length h
  rw [List.length_drop, List.length_append, hn] at hl
  refine ⟨by omega, ?_⟩
  rw [show W.length - (ll - n) = (W.length - ll) + n by omega, ← List.drop_drop, h, ← hn, List.drop_left]
end Go.Proofs.Ytlcckgimagllaaa
