/- Poly: the law PolyShifts: states that two keys share. -/
import Derived.Test.YtbkdopmnaopppaaPo9
namespace Go.Proofs.Ytbkdopmnaopppaa
open Go Go.RowKit
set_option linter.unusedVariables false
set_option linter.unusedSimpArgs false
theorem KR.next (bh l m h rl rh W0 W1 : Nat) : ∃ s : Nat × Nat × Nat, KR bh l m h rl rh W0 W1 s.1 s.2.1 s.2.2 := by
  obtain ⟨a, b, c, h⟩ := KR.total bh l m h rl rh W0 W1
  exact ⟨(a, b, c), h⟩
noncomputable def stS (rl rh : Nat) (W0 W1 : Nat → Nat) : Nat → Nat × Nat × Nat
  | 0 => (0, 0, 0)
  | j + 1 => Classical.choose (KR.next 1 (stS rl rh W0 W1 j).1 (stS rl rh W0 W1 j).2.1 (stS rl rh W0 W1 j).2.2 rl rh (W0 j) (W1 j))
theorem stS_next (rl rh : Nat) (W0 W1 : Nat → Nat) (j : Nat) : KR 1 (stS rl rh W0 W1 j).1 (stS rl rh W0 W1 j).2.1 (stS rl rh W0 W1 j).2.2 rl rh (W0 j) (W1 j) (stS rl rh W0 W1 (j + 1)).1 (stS rl rh W0 W1 (j + 1)).2.1 (stS rl rh W0 W1 (j + 1)).2.2 := by
  exact Classical.choose_spec (KR.next 1 (stS rl rh W0 W1 j).1 (stS rl rh W0 W1 j).2.1 (stS rl rh W0 W1 j).2.2 rl rh (W0 j) (W1 j))
theorem stS_lt (rl rh : Nat) (W0 W1 : Nat → Nat) : ∀ j, (stS rl rh W0 W1 j).1 < 18446744073709551616 ∧ (stS rl rh W0 W1 j).2.1 < 18446744073709551616 ∧ (stS rl rh W0 W1 j).2.2 < 18446744073709551616
  | 0 => (by decide : (0 : Nat) < 18446744073709551616 ∧ (0 : Nat) < 18446744073709551616 ∧ (0 : Nat) < 18446744073709551616)
  | j + 1 => (stS_next rl rh W0 W1 j).lt
theorem rL_nat (kb : Nat → Int) (hk : ∀ i, 0 ≤ kb i ∧ kb i ≤ 255) : ∃ r : Nat, r < 18446744073709551616 ∧ rL kb = (r : Int) := by
  obtain ⟨h1, h2⟩ := nat_le64 (hk 0) (hk 1) (hk 2) (hk 3) (hk 4) (hk 5) (hk 6) (hk 7)
  unfold rL
  rw [h1, show (1152921487695413247 : Int) = ((1152921487695413247 : Nat) : Int) from rfl, u64_and_nat _ _ h2 (by omega)]
  exact ⟨_, Nat.lt_of_le_of_lt Nat.and_le_left h2, rfl⟩
theorem rH_nat (kb : Nat → Int) (hk : ∀ i, 0 ≤ kb i ∧ kb i ≤ 255) : ∃ r : Nat, r < 18446744073709551616 ∧ rH kb = (r : Int) := by
  obtain ⟨h1, h2⟩ := nat_le64 (hk 8) (hk 9) (hk 10) (hk 11) (hk 12) (hk 13) (hk 14) (hk 15)
  unfold rH
  rw [h1, show (1152921487695413244 : Int) = ((1152921487695413244 : Nat) : Int) from rfl, u64_and_nat _ _ h2 (by omega)]
  exact ⟨_, Nat.lt_of_le_of_lt Nat.and_le_left h2, rfl⟩
/-- Whatever the second half of the key: the words before it are these. -/
theorem code_any (kb : Nat → Int) (hk : ∀ i, 0 ≤ kb i ∧ kb i ≤ 255) (a : Option Addr) (len cap : Nat) (xs : List Int) (hx : ∀ x ∈ xs, 0 ≤ x ∧ x ≤ 255) (hxl : xs.length = len) (hl : len ≤ 1000) (hcap : len ≤ cap) :
    ∃ lo mi : Nat, lo < 18446744073709551616 ∧ mi < 18446744073709551616 ∧ ∀ kc : Nat → Int, (∀ i, 0 ≤ kc i ∧ kc i ≤ 255) → rL kc = rL kb → rH kc = rH kb → ∀ gp w, SlB w a len xs → Old w gp 0 [.slice a len cap] → CA Try.prog 14 [.agg (keyA kc), .slice (some ⟨gp, 0, none⟩) 1 1] w (RV (.agg (codeA (cLo lo kc) (cHi lo mi kc))) w) := by
  obtain ⟨rl, hrl, eL⟩ := rL_nat kb hk
  obtain ⟨rh, hrh, eH⟩ := rH_nat kb hk
  by_cases hz : len = 0
  · subst hz
    exact ⟨elo 0 0 0, emi 0 0 0, elo_lt 0 0 0 (by omega), emi_lt 0 0 0 (by omega), fun kc hkc _ _ gp w _ hO => code_0 kc hkc gp a cap w hO⟩
  · obtain ⟨St, hSt⟩ : ∃ S, S = stS rl rh (fun j => (le64 (fq xs j 0) (fq xs j 1) (fq xs j 2) (fq xs j 3) (fq xs j 4) (fq xs j 5) (fq xs j 6) (fq xs j 7)).toNat) (fun j => (le64 (fq xs j 8) (fq xs j 9) (fq xs j 10) (fq xs j 11) (fq xs j 12) (fq xs j 13) (fq xs j 14) (fq xs j 15)).toNat) := ⟨_, rfl⟩
    have hlt := stS_lt rl rh (fun j => (le64 (fq xs j 0) (fq xs j 1) (fq xs j 2) (fq xs j 3) (fq xs j 4) (fq xs j 5) (fq xs j 6) (fq xs j 7)).toNat) (fun j => (le64 (fq xs j 8) (fq xs j 9) (fq xs j 10) (fq xs j 11) (fq xs j 12) (fq xs j 13) (fq xs j 14) (fq xs j 15)).toNat)
    have hnx := stS_next rl rh (fun j => (le64 (fq xs j 0) (fq xs j 1) (fq xs j 2) (fq xs j 3) (fq xs j 4) (fq xs j 5) (fq xs j 6) (fq xs j 7)).toNat) (fun j => (le64 (fq xs j 8) (fq xs j 9) (fq xs j 10) (fq xs j 11) (fq xs j 12) (fq xs j 13) (fq xs j 14) (fq xs j 15)).toNat)
    have h00 : stS rl rh (fun j => (le64 (fq xs j 0) (fq xs j 1) (fq xs j 2) (fq xs j 3) (fq xs j 4) (fq xs j 5) (fq xs j 6) (fq xs j 7)).toNat) (fun j => (le64 (fq xs j 8) (fq xs j 9) (fq xs j 10) (fq xs j 11) (fq xs j 12) (fq xs j 13) (fq xs j 14) (fq xs j 15)).toNat) 0 = (0, 0, 0) := rfl
    rw [← hSt] at hlt hnx h00
    have hgt : ∀ (w : World), SlB w a len xs → ∃ g o, a = some ⟨g, o, none⟩ ∧ Old w g o (xs.map (Value.int .u8)) ∧ g < w.heap.size := fun w hs => by
      rcases hs.2 with h0 | ⟨g, o, e, hO⟩
      · exact absurd h0 hz
      · refine ⟨g, o, e, hO, ?_⟩
        cases xs with
        | nil => simp at hxl; omega
        | cons x xs => exact hO.lt
    by_cases hm : len % 16 = 0
    · refine ⟨elo (St (len / 16)).1 (St (len / 16)).2.1 (St (len / 16)).2.2, emi (St (len / 16)).1 (St (len / 16)).2.1 (St (len / 16)).2.2, elo_lt _ _ _ (hlt (len / 16)).1, emi_lt _ _ _ (hlt (len / 16)).2.1, fun kc hkc e1 e2 gp w hs hO => ?_⟩
      obtain ⟨g, o, rfl, hOx, hg⟩ := hgt w hs
      exact code_c kc hkc g o len cap gp rl rh xs hx hxl hl hcap St _ _ hrl hrh (e1.trans eL) (e2.trans eH) h00 hlt (fun j => ⟨(nat_le64 (getD_bd' hx j _) (getD_bd' hx j _) (getD_bd' hx j _) (getD_bd' hx j _) (getD_bd' hx j _) (getD_bd' hx j _) (getD_bd' hx j _) (getD_bd' hx j _)).2, (nat_le64 (getD_bd' hx j _) (getD_bd' hx j _) (getD_bd' hx j _) (getD_bd' hx j _) (getD_bd' hx j _) (getD_bd' hx j _) (getD_bd' hx j _) (getD_bd' hx j _)).2⟩) (fun j _ => (nat_le64 (getD_bd' hx j _) (getD_bd' hx j _) (getD_bd' hx j _) (getD_bd' hx j _) (getD_bd' hx j _) (getD_bd' hx j _) (getD_bd' hx j _) (getD_bd' hx j _)).1) (fun j _ => (nat_le64 (getD_bd' hx j _) (getD_bd' hx j _) (getD_bd' hx j _) (getD_bd' hx j _) (getD_bd' hx j _) (getD_bd' hx j _) (getD_bd' hx j _) (getD_bd' hx j _)).1) (fun j _ => hnx j) w (.inr hg) hOx hO hm
    · have hsb := shF_bd (fq xs (len / 16)) (getD_bd' hx _) (len % 16)
      obtain ⟨F, hF⟩ := KR.next 0 (St (len / 16)).1 (St (len / 16)).2.1 (St (len / 16)).2.2 rl rh ((le64 (shF (fq xs (len / 16)) (len % 16) 0) (shF (fq xs (len / 16)) (len % 16) 1) (shF (fq xs (len / 16)) (len % 16) 2) (shF (fq xs (len / 16)) (len % 16) 3) (shF (fq xs (len / 16)) (len % 16) 4) (shF (fq xs (len / 16)) (len % 16) 5) (shF (fq xs (len / 16)) (len % 16) 6) (shF (fq xs (len / 16)) (len % 16) 7)).toNat) ((le64 (shF (fq xs (len / 16)) (len % 16) 8) (shF (fq xs (len / 16)) (len % 16) 9) (shF (fq xs (len / 16)) (len % 16) 10) (shF (fq xs (len / 16)) (len % 16) 11) (shF (fq xs (len / 16)) (len % 16) 12) (shF (fq xs (len / 16)) (len % 16) 13) (shF (fq xs (len / 16)) (len % 16) 14) (shF (fq xs (len / 16)) (len % 16) 15)).toNat)
      have hFl := hF.lt
      refine ⟨elo F.1 F.2.1 F.2.2, emi F.1 F.2.1 F.2.2, elo_lt _ _ _ hFl.1, emi_lt _ _ _ hFl.2.1, fun kc hkc e1 e2 gp w hs hO => ?_⟩
      obtain ⟨g, o, rfl, hOx, hg⟩ := hgt w hs
      exact code_c2 kc hkc g o len cap gp rl rh xs hx hxl hl hcap St _ _ hrl hrh (e1.trans eL) (e2.trans eH) h00 hlt (fun j => ⟨(nat_le64 (getD_bd' hx j _) (getD_bd' hx j _) (getD_bd' hx j _) (getD_bd' hx j _) (getD_bd' hx j _) (getD_bd' hx j _) (getD_bd' hx j _) (getD_bd' hx j _)).2, (nat_le64 (getD_bd' hx j _) (getD_bd' hx j _) (getD_bd' hx j _) (getD_bd' hx j _) (getD_bd' hx j _) (getD_bd' hx j _) (getD_bd' hx j _) (getD_bd' hx j _)).2⟩) (fun j _ => (nat_le64 (getD_bd' hx j _) (getD_bd' hx j _) (getD_bd' hx j _) (getD_bd' hx j _) (getD_bd' hx j _) (getD_bd' hx j _) (getD_bd' hx j _) (getD_bd' hx j _)).1) (fun j _ => (nat_le64 (getD_bd' hx j _) (getD_bd' hx j _) (getD_bd' hx j _) (getD_bd' hx j _) (getD_bd' hx j _) (getD_bd' hx j _) (getD_bd' hx j _) (getD_bd' hx j _)).1) (fun j _ => hnx j) w (.inr hg) hOx hO
        (len % 16) rfl (by omega) _ _ _ _ _ (nat_le64 (hsb _) (hsb _) (hsb _) (hsb _) (hsb _) (hsb _) (hsb _) (hsb _)).1 (nat_le64 (hsb _) (hsb _) (hsb _) (hsb _) (hsb _) (hsb _) (hsb _) (hsb _)).1 (nat_le64 (hsb _) (hsb _) (hsb _) (hsb _) (hsb _) (hsb _) (hsb _) (hsb _)).2 (nat_le64 (hsb _) (hsb _) (hsb _) (hsb _) (hsb _) (hsb _) (hsb _) (hsb _)).2 hF
end Go.Proofs.Ytbkdopmnaopppaa
