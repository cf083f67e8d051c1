/- Poly: the law PolyShifts. -/
import Derived.Test.YtbkdopmnaopppaaPo10
namespace Go.Proofs.Ytbkdopmnaopppaa
open Go Go.RowKit
set_option linter.unusedVariables false
set_option linter.unusedSimpArgs false
def kf (kb : Nat → Int) (i : Nat) : Int := if i < 16 then kb i else 0
theorem kf_bd (kb : Nat → Int) (hk : ∀ i, 0 ≤ kb i ∧ kb i ≤ 255) (i : Nat) : 0 ≤ kf kb i ∧ kf kb i ≤ 255 := by
  unfold kf
  split
  · exact hk i
  · omega
/-- Carries. -/
def cry (l q : Nat → Int) (c0 : Int) : Nat → Int
  | 0 => c0
  | i + 1 => (cry l q c0 i + (l i + q i)) / 256
theorem cry_bd (l q : Nat → Int) (hl : ∀ i, 0 ≤ l i ∧ l i ≤ 255) (hq : ∀ i, 0 ≤ q i ∧ q i ≤ 255) (c0 : Int) (h0 : 0 ≤ c0 ∧ c0 ≤ 1) : ∀ i, 0 ≤ cry l q c0 i ∧ cry l q c0 i ≤ 1
  | 0 => h0
  | i + 1 => by
    have := cry_bd l q hl hq c0 h0 i
    have := hl i
    have := hq i
    show 0 ≤ (cry l q c0 i + (l i + q i)) / 256 ∧ (cry l q c0 i + (l i + q i)) / 256 ≤ 1
    omega
def dig (l q : Nat → Int) (c0 : Int) (i : Nat) : Int := (cry l q c0 i + (l i + q i)) % 256
theorem step_dig (l q : Nat → Int) (c0 : Int) (i : Nat) : cry l q c0 i + (l i + q i) = dig l q c0 i + 256 * cry l q c0 (i + 1) := by
  show _ = (cry l q c0 i + (l i + q i)) % 256 + 256 * ((cry l q c0 i + (l i + q i)) / 256)
  omega
theorem chain (l q : Nat → Int) (c0 : Int) : le64 (l 0) (l 1) (l 2) (l 3) (l 4) (l 5) (l 6) (l 7) + le64 (q 0) (q 1) (q 2) (q 3) (q 4) (q 5) (q 6) (q 7) + c0 = le64 (dig l q c0 0) (dig l q c0 1) (dig l q c0 2) (dig l q c0 3) (dig l q c0 4) (dig l q c0 5) (dig l q c0 6) (dig l q c0 7) + cry l q c0 8 * 18446744073709551616 := by
  have s0 : cry l q c0 0 + (l 0 + q 0) = dig l q c0 0 + 256 * cry l q c0 1 := step_dig l q c0 0
  have s1 : cry l q c0 1 + (l 1 + q 1) = dig l q c0 1 + 256 * cry l q c0 2 := step_dig l q c0 1
  have s2 : cry l q c0 2 + (l 2 + q 2) = dig l q c0 2 + 256 * cry l q c0 3 := step_dig l q c0 2
  have s3 : cry l q c0 3 + (l 3 + q 3) = dig l q c0 3 + 256 * cry l q c0 4 := step_dig l q c0 3
  have s4 : cry l q c0 4 + (l 4 + q 4) = dig l q c0 4 + 256 * cry l q c0 5 := step_dig l q c0 4
  have s5 : cry l q c0 5 + (l 5 + q 5) = dig l q c0 5 + 256 * cry l q c0 6 := step_dig l q c0 5
  have s6 : cry l q c0 6 + (l 6 + q 6) = dig l q c0 6 + 256 * cry l q c0 7 := step_dig l q c0 6
  have s7 : cry l q c0 7 + (l 7 + q 7) = dig l q c0 7 + 256 * cry l q c0 8 := step_dig l q c0 7
  have z : cry l q c0 0 = c0 := rfl
  unfold le64
  omega
theorem dig_bd (l q : Nat → Int) (c0 : Int) (i : Nat) : 0 ≤ dig l q c0 i ∧ dig l q c0 i ≤ 255 := by unfold dig; omega
theorem byt64_all (x : Nat) (h : x < 18446744073709551616) : (x : Int) = le64 (byt64 (x : Int) 0) (byt64 (x : Int) 1) (byt64 (x : Int) 2) (byt64 (x : Int) 3) (byt64 (x : Int) 4) (byt64 (x : Int) 5) (byt64 (x : Int) 6) (byt64 (x : Int) 7) := by
  unfold le64
  rw [show byt64 (x : Int) 0 = (x : Int) / 1 % 256 from rfl]
  rw [show byt64 (x : Int) 1 = (x : Int) / 256 % 256 from rfl]
  rw [show byt64 (x : Int) 2 = (x : Int) / 65536 % 256 from rfl]
  rw [show byt64 (x : Int) 3 = (x : Int) / 16777216 % 256 from rfl]
  rw [show byt64 (x : Int) 4 = (x : Int) / 4294967296 % 256 from rfl]
  rw [show byt64 (x : Int) 5 = (x : Int) / 1099511627776 % 256 from rfl]
  rw [show byt64 (x : Int) 6 = (x : Int) / 281474976710656 % 256 from rfl]
  rw [show byt64 (x : Int) 7 = (x : Int) / 72057594037927936 % 256 from rfl]
  omega
theorem byt64_bd (x : Int) (i : Nat) : 0 ≤ byt64 x i ∧ byt64 x i ≤ 255 := by unfold byt64; omega
def cby (x y : Int) (i : Nat) : Int := if i < 8 then byt64 x i else byt64 y (i - 8)
theorem cby_bd (x y : Int) (i : Nat) : 0 ≤ cby x y i ∧ cby x y i ≤ 255 := by unfold cby; split <;> exact byt64_bd _ _
theorem code_nth (x y : Int) : ∀ i, i < 16 → nth (codeA x y).toList i = some (.int .u8 (cby x y i))
  | 0, _ => rfl
  | 1, _ => rfl
  | 2, _ => rfl
  | 3, _ => rfl
  | 4, _ => rfl
  | 5, _ => rfl
  | 6, _ => rfl
  | 7, _ => rfl
  | 8, _ => rfl
  | 9, _ => rfl
  | 10, _ => rfl
  | 11, _ => rfl
  | 12, _ => rfl
  | 13, _ => rfl
  | 14, _ => rfl
  | 15, _ => rfl
  | _ + 16, h => absurd h (by omega)
theorem key_nth (kb : Nat → Int) : ∀ i, i < 16 → nth (keyA kb).toList (16 + i) = some (.int .u8 (kb (16 + i)))
  | 0, _ => rfl
  | 1, _ => rfl
  | 2, _ => rfl
  | 3, _ => rfl
  | 4, _ => rfl
  | 5, _ => rfl
  | 6, _ => rfl
  | 7, _ => rfl
  | 8, _ => rfl
  | 9, _ => rfl
  | 10, _ => rfl
  | 11, _ => rfl
  | 12, _ => rfl
  | 13, _ => rfl
  | 14, _ => rfl
  | 15, _ => rfl
  | _ + 16, h => absurd h (by omega)
end Go.Proofs.Ytbkdopmnaopppaa
