/- ChaCha20. -/
import Derived.Test.YtgfodhbejcbogaaMem
import Derived.Test.YtgfodhbejcbogaaU
import Derived.Test.YtgfodhbejcbogaaEq
import Derived.RegionTactic
import Derived.BigRegion
import Derived.Deep.QuietTactic
import Derived.BigQuiet
import Derived.WalkSmall
import Derived.WalkLawsBesides
import Derived.StillTailTactics
import Derived.Laws.Shifts
import Derived.WalkArith
namespace Go.Proofs.Ytgfodhbejcbogaa
open Go Go.ChangeShapes Go.WideShapes Go.ChangeAt Go.RowKit
set_option linter.unusedVariables false

/-- A word turned left by s, as the program has it. -/
def rl (s : Nat) (x : Int) : Int := bits .or .u32 (x * 2 ^ s % 4294967296) (x / 2 ^ (32 - s))
/-- A word turned left by one, as the reference has it. -/
def l1 (x : Int) : Int := x * 2 % 4294967296 + x / 2147483648
def lf : Nat → Int → Int | 0, x => x | n + 1, x => l1 (lf n x)
theorem ret_in {p : IntKind} {a a' : Int} (h : a' = a) : Ending.returned (.int p a) = Ending.returned (.int p a') := by rw [h]
theorem l1_bd {x : Int} (h : 0 ≤ x ∧ x ≤ 4294967295) : 0 ≤ l1 x ∧ l1 x ≤ 4294967295 := by unfold l1; omega

theorem rot16 (x : Int) (h0 : 0 ≤ x) (h1 : x ≤ 4294967295) (w : World) : Calls Try.prog 23 #[.int .u32 x, .int .i64 16] w fun e w' => e = .returned (.int .u32 (rl 16 x)) ∧ w' = w := by
  have hb : bits BinOp.and IntKind.u64 16 31 = 16 := by decide
  go_enter Try.func23, Try.ntmps23
  go_wp2
  go_ret
  exact ⟨ret_in (by simp [rl]), rfl⟩

theorem rot12 (x : Int) (h0 : 0 ≤ x) (h1 : x ≤ 4294967295) (w : World) : Calls Try.prog 23 #[.int .u32 x, .int .i64 12] w fun e w' => e = .returned (.int .u32 (rl 12 x)) ∧ w' = w := by
  have hb : bits BinOp.and IntKind.u64 12 31 = 12 := by decide
  go_enter Try.func23, Try.ntmps23
  go_wp2
  go_ret
  exact ⟨ret_in (by simp [rl]), rfl⟩

theorem rot8 (x : Int) (h0 : 0 ≤ x) (h1 : x ≤ 4294967295) (w : World) : Calls Try.prog 23 #[.int .u32 x, .int .i64 8] w fun e w' => e = .returned (.int .u32 (rl 8 x)) ∧ w' = w := by
  have hb : bits BinOp.and IntKind.u64 8 31 = 8 := by decide
  go_enter Try.func23, Try.ntmps23
  go_wp2
  go_ret
  exact ⟨ret_in (by simp [rl]), rfl⟩

theorem rot7 (x : Int) (h0 : 0 ≤ x) (h1 : x ≤ 4294967295) (w : World) : Calls Try.prog 23 #[.int .u32 x, .int .i64 7] w fun e w' => e = .returned (.int .u32 (rl 7 x)) ∧ w' = w := by
  have hb : bits BinOp.and IntKind.u64 7 31 = 7 := by decide
  go_enter Try.func23, Try.ntmps23
  go_wp2
  go_ret
  exact ⟨ret_in (by simp [rl]), rfl⟩

theorem lf_bd {x : Int} (h0 : 0 ≤ x) (h1 : x ≤ 4294967295) : ∀ k, 0 ≤ lf k x ∧ lf k x ≤ 4294967295
  | 0 => ⟨h0, h1⟩
  | k + 1 => l1_bd (lf_bd h0 h1 k)

theorem left_any (x : Int) (n : Nat) (hn : n ≤ 32) (h0 : 0 ≤ x) (h1 : x ≤ 4294967295) (w : World) : Calls Try.prog 24 #[.int .u32 x, .int .i64 n] w fun e w' => e = .returned (.int .u32 (lf n x)) ∧ w' = w := by
  go_enter Try.func24, Try.ntmps24
  go_wp2
  go_loopw [0, 5] (fun v i wz => ∃ k : Nat, k ≤ n ∧ i = .int .i64 k ∧ v = .int .u32 (lf k x) ∧ wz = w) (fun _ i _ => n - (intOf i).toNat)
  case atStart => exact ⟨0, by omega, rfl, rfl, rfl⟩
  case round =>
    obtain ⟨k, hk, rfl, rfl, rfl⟩ := hrel
    by_cases hlt : k < n
    · have k1 : (k : Int) < (n : Int) := by omega
      have hb := lf_bd h0 h1 k
      have e : (lf k x).tdiv 2147483648 = lf k x / 2147483648 := Int.tdiv_eq_ediv_of_nonneg hb.1
      go_wp2
      refine ⟨⟨k + 1, by omega, by go_num, ?_, trivial⟩, by simp [intOf]; omega⟩
      simp only [lf, l1]
    · go_wp2
      go_ret
      obtain rfl : k = n := by omega
      exact ⟨rfl, rfl⟩
end Go.Proofs.Ytgfodhbejcbogaa
