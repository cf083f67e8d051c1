/- ChaCha20. -/
import Derived.Test.YtgfodhbejcbogaaMem
import Derived.Test.YtgfodhbejcbogaaCha
import Derived.Test.YtgfodhbejcbogaaU
import Derived.Test.YtgfodhbejcbogaaEq
import Derived.RegionTactic
import Derived.BigRegion
import Derived.Deep.QuietTactic
import Derived.BigQuiet
import Derived.WalkSmall
import Derived.WalkLawsBesides
import Derived.StillTailTactics
import Derived.Laws.Shifts
import Derived.Laws.BitsAllLaws
import Derived.WalkArith
namespace Go.Proofs.Ytgfodhbejcbogaa
open Go Go.ChangeShapes Go.WideShapes Go.ChangeAt Go.RowKit
set_option linter.unusedVariables false

theorem l1_lo {y : Int} (h : 0 ≤ y ∧ y < 2147483648) : l1 y = 2 * y := by
  have q1 : y / 2147483648 = 0 := by omega
  have q2 : y * 2 % 4294967296 = y * 2 := by omega
  unfold l1
  rw [q1, q2]
  omega
theorem l1_hi {y : Int} (h : 0 ≤ y ∧ y < 2147483648) : l1 (2147483648 + y) = 2 * y + 1 := by
  have q1 : (2147483648 + y) / 2147483648 = 1 := by omega
  have q2 : (2147483648 + y) * 2 % 4294967296 = y * 2 := by omega
  unfold l1
  rw [q1, q2]
  omega
theorem lf_0 (x : Int) : lf 0 x = x := rfl
theorem lf_1 {x : Int} (h : 0 ≤ x ∧ x ≤ 4294967295) : lf 1 x = x * 2 % 4294967296 + x / 2147483648 := by
  show l1 (lf 0 x) = _
  rw [lf_0]
  obtain ⟨a, c, d, hx, hc0, hc1, hd0, hd1⟩ : ∃ a c d : Int, x = (2 * a + c) * 2147483648 + d ∧ 0 ≤ c ∧ c ≤ 1 ∧ 0 ≤ d ∧ d < 2147483648 := ⟨x / 2147483648 / 2, x / 2147483648 % 2, x % 2147483648, by omega, by omega, by omega, by omega, by omega⟩
  have ha : 0 ≤ a ∧ a < 1 := by omega
  have e3 : x * 2 % 4294967296 = d * 2 := by omega
  have e4 : x / 2147483648 = 2 * a + c := by omega
  rw [e3, e4, hx]
  have hy : 0 ≤ d * 1 + a ∧ d * 1 + a < 2147483648 := by omega
  have hc : c = 0 ∨ c = 1 := by omega
  clear hx h e3 e4
  rcases hc with rfl | rfl
  · rw [show ((2 * a + 0) * 2147483648 + d) = d * 1 + a by omega, l1_lo hy]; omega
  · rw [show ((2 * a + 1) * 2147483648 + d) = 2147483648 + (d * 1 + a) by omega, l1_hi hy]; omega
theorem lf_2 {x : Int} (h : 0 ≤ x ∧ x ≤ 4294967295) : lf 2 x = x * 4 % 4294967296 + x / 1073741824 := by
  show l1 (lf 1 x) = _
  rw [lf_1 h]
  obtain ⟨a, c, d, hx, hc0, hc1, hd0, hd1⟩ : ∃ a c d : Int, x = (2 * a + c) * 1073741824 + d ∧ 0 ≤ c ∧ c ≤ 1 ∧ 0 ≤ d ∧ d < 1073741824 := ⟨x / 1073741824 / 2, x / 1073741824 % 2, x % 1073741824, by omega, by omega, by omega, by omega, by omega⟩
  have ha : 0 ≤ a ∧ a < 2 := by omega
  have e3 : x * 4 % 4294967296 = d * 4 := by omega
  have e4 : x / 1073741824 = 2 * a + c := by omega
  have e1 : x * 2 % 4294967296 = c * 2147483648 + d * 2 := by omega
  have e2 : x / 2147483648 = a := by omega
  rw [e1, e2, e3, e4]
  have hy : 0 ≤ d * 2 + a ∧ d * 2 + a < 2147483648 := by omega
  have hc : c = 0 ∨ c = 1 := by omega
  clear hx h e3 e4
  rcases hc with rfl | rfl
  · rw [show (0 * 2147483648 + d * 2 + a) = d * 2 + a by omega, l1_lo hy]; omega
  · rw [show (1 * 2147483648 + d * 2 + a) = 2147483648 + (d * 2 + a) by omega, l1_hi hy]; omega
theorem lf_3 {x : Int} (h : 0 ≤ x ∧ x ≤ 4294967295) : lf 3 x = x * 8 % 4294967296 + x / 536870912 := by
  show l1 (lf 2 x) = _
  rw [lf_2 h]
  obtain ⟨a, c, d, hx, hc0, hc1, hd0, hd1⟩ : ∃ a c d : Int, x = (2 * a + c) * 536870912 + d ∧ 0 ≤ c ∧ c ≤ 1 ∧ 0 ≤ d ∧ d < 536870912 := ⟨x / 536870912 / 2, x / 536870912 % 2, x % 536870912, by omega, by omega, by omega, by omega, by omega⟩
  have ha : 0 ≤ a ∧ a < 4 := by omega
  have e3 : x * 8 % 4294967296 = d * 8 := by omega
  have e4 : x / 536870912 = 2 * a + c := by omega
  have e1 : x * 4 % 4294967296 = c * 2147483648 + d * 4 := by omega
  have e2 : x / 1073741824 = a := by omega
  rw [e1, e2, e3, e4]
  have hy : 0 ≤ d * 4 + a ∧ d * 4 + a < 2147483648 := by omega
  have hc : c = 0 ∨ c = 1 := by omega
  clear hx h e3 e4
  rcases hc with rfl | rfl
  · rw [show (0 * 2147483648 + d * 4 + a) = d * 4 + a by omega, l1_lo hy]; omega
  · rw [show (1 * 2147483648 + d * 4 + a) = 2147483648 + (d * 4 + a) by omega, l1_hi hy]; omega
theorem lf_4 {x : Int} (h : 0 ≤ x ∧ x ≤ 4294967295) : lf 4 x = x * 16 % 4294967296 + x / 268435456 := by
  show l1 (lf 3 x) = _
  rw [lf_3 h]
  obtain ⟨a, c, d, hx, hc0, hc1, hd0, hd1⟩ : ∃ a c d : Int, x = (2 * a + c) * 268435456 + d ∧ 0 ≤ c ∧ c ≤ 1 ∧ 0 ≤ d ∧ d < 268435456 := ⟨x / 268435456 / 2, x / 268435456 % 2, x % 268435456, by omega, by omega, by omega, by omega, by omega⟩
  have ha : 0 ≤ a ∧ a < 8 := by omega
  have e3 : x * 16 % 4294967296 = d * 16 := by omega
  have e4 : x / 268435456 = 2 * a + c := by omega
  have e1 : x * 8 % 4294967296 = c * 2147483648 + d * 8 := by omega
  have e2 : x / 536870912 = a := by omega
  rw [e1, e2, e3, e4]
  have hy : 0 ≤ d * 8 + a ∧ d * 8 + a < 2147483648 := by omega
  have hc : c = 0 ∨ c = 1 := by omega
  clear hx h e3 e4
  rcases hc with rfl | rfl
  · rw [show (0 * 2147483648 + d * 8 + a) = d * 8 + a by omega, l1_lo hy]; omega
  · rw [show (1 * 2147483648 + d * 8 + a) = 2147483648 + (d * 8 + a) by omega, l1_hi hy]; omega
theorem lf_5 {x : Int} (h : 0 ≤ x ∧ x ≤ 4294967295) : lf 5 x = x * 32 % 4294967296 + x / 134217728 := by
  show l1 (lf 4 x) = _
  rw [lf_4 h]
  obtain ⟨a, c, d, hx, hc0, hc1, hd0, hd1⟩ : ∃ a c d : Int, x = (2 * a + c) * 134217728 + d ∧ 0 ≤ c ∧ c ≤ 1 ∧ 0 ≤ d ∧ d < 134217728 := ⟨x / 134217728 / 2, x / 134217728 % 2, x % 134217728, by omega, by omega, by omega, by omega, by omega⟩
  have ha : 0 ≤ a ∧ a < 16 := by omega
  have e3 : x * 32 % 4294967296 = d * 32 := by omega
  have e4 : x / 134217728 = 2 * a + c := by omega
  have e1 : x * 16 % 4294967296 = c * 2147483648 + d * 16 := by omega
  have e2 : x / 268435456 = a := by omega
  rw [e1, e2, e3, e4]
  have hy : 0 ≤ d * 16 + a ∧ d * 16 + a < 2147483648 := by omega
  have hc : c = 0 ∨ c = 1 := by omega
  clear hx h e3 e4
  rcases hc with rfl | rfl
  · rw [show (0 * 2147483648 + d * 16 + a) = d * 16 + a by omega, l1_lo hy]; omega
  · rw [show (1 * 2147483648 + d * 16 + a) = 2147483648 + (d * 16 + a) by omega, l1_hi hy]; omega
theorem lf_6 {x : Int} (h : 0 ≤ x ∧ x ≤ 4294967295) : lf 6 x = x * 64 % 4294967296 + x / 67108864 := by
  show l1 (lf 5 x) = _
  rw [lf_5 h]
  obtain ⟨a, c, d, hx, hc0, hc1, hd0, hd1⟩ : ∃ a c d : Int, x = (2 * a + c) * 67108864 + d ∧ 0 ≤ c ∧ c ≤ 1 ∧ 0 ≤ d ∧ d < 67108864 := ⟨x / 67108864 / 2, x / 67108864 % 2, x % 67108864, by omega, by omega, by omega, by omega, by omega⟩
  have ha : 0 ≤ a ∧ a < 32 := by omega
  have e3 : x * 64 % 4294967296 = d * 64 := by omega
  have e4 : x / 67108864 = 2 * a + c := by omega
  have e1 : x * 32 % 4294967296 = c * 2147483648 + d * 32 := by omega
  have e2 : x / 134217728 = a := by omega
  rw [e1, e2, e3, e4]
  have hy : 0 ≤ d * 32 + a ∧ d * 32 + a < 2147483648 := by omega
  have hc : c = 0 ∨ c = 1 := by omega
  clear hx h e3 e4
  rcases hc with rfl | rfl
  · rw [show (0 * 2147483648 + d * 32 + a) = d * 32 + a by omega, l1_lo hy]; omega
  · rw [show (1 * 2147483648 + d * 32 + a) = 2147483648 + (d * 32 + a) by omega, l1_hi hy]; omega
theorem lf_7 {x : Int} (h : 0 ≤ x ∧ x ≤ 4294967295) : lf 7 x = x * 128 % 4294967296 + x / 33554432 := by
  show l1 (lf 6 x) = _
  rw [lf_6 h]
  obtain ⟨a, c, d, hx, hc0, hc1, hd0, hd1⟩ : ∃ a c d : Int, x = (2 * a + c) * 33554432 + d ∧ 0 ≤ c ∧ c ≤ 1 ∧ 0 ≤ d ∧ d < 33554432 := ⟨x / 33554432 / 2, x / 33554432 % 2, x % 33554432, by omega, by omega, by omega, by omega, by omega⟩
  have ha : 0 ≤ a ∧ a < 64 := by omega
  have e3 : x * 128 % 4294967296 = d * 128 := by omega
  have e4 : x / 33554432 = 2 * a + c := by omega
  have e1 : x * 64 % 4294967296 = c * 2147483648 + d * 64 := by omega
  have e2 : x / 67108864 = a := by omega
  rw [e1, e2, e3, e4]
  have hy : 0 ≤ d * 64 + a ∧ d * 64 + a < 2147483648 := by omega
  have hc : c = 0 ∨ c = 1 := by omega
  clear hx h e3 e4
  rcases hc with rfl | rfl
  · rw [show (0 * 2147483648 + d * 64 + a) = d * 64 + a by omega, l1_lo hy]; omega
  · rw [show (1 * 2147483648 + d * 64 + a) = 2147483648 + (d * 64 + a) by omega, l1_hi hy]; omega
theorem lf_8 {x : Int} (h : 0 ≤ x ∧ x ≤ 4294967295) : lf 8 x = x * 256 % 4294967296 + x / 16777216 := by
  show l1 (lf 7 x) = _
  rw [lf_7 h]
  obtain ⟨a, c, d, hx, hc0, hc1, hd0, hd1⟩ : ∃ a c d : Int, x = (2 * a + c) * 16777216 + d ∧ 0 ≤ c ∧ c ≤ 1 ∧ 0 ≤ d ∧ d < 16777216 := ⟨x / 16777216 / 2, x / 16777216 % 2, x % 16777216, by omega, by omega, by omega, by omega, by omega⟩
  have ha : 0 ≤ a ∧ a < 128 := by omega
  have e3 : x * 256 % 4294967296 = d * 256 := by omega
  have e4 : x / 16777216 = 2 * a + c := by omega
  have e1 : x * 128 % 4294967296 = c * 2147483648 + d * 128 := by omega
  have e2 : x / 33554432 = a := by omega
  rw [e1, e2, e3, e4]
  have hy : 0 ≤ d * 128 + a ∧ d * 128 + a < 2147483648 := by omega
  have hc : c = 0 ∨ c = 1 := by omega
  clear hx h e3 e4
  rcases hc with rfl | rfl
  · rw [show (0 * 2147483648 + d * 128 + a) = d * 128 + a by omega, l1_lo hy]; omega
  · rw [show (1 * 2147483648 + d * 128 + a) = 2147483648 + (d * 128 + a) by omega, l1_hi hy]; omega
theorem lf_9 {x : Int} (h : 0 ≤ x ∧ x ≤ 4294967295) : lf 9 x = x * 512 % 4294967296 + x / 8388608 := by
  show l1 (lf 8 x) = _
  rw [lf_8 h]
  obtain ⟨a, c, d, hx, hc0, hc1, hd0, hd1⟩ : ∃ a c d : Int, x = (2 * a + c) * 8388608 + d ∧ 0 ≤ c ∧ c ≤ 1 ∧ 0 ≤ d ∧ d < 8388608 := ⟨x / 8388608 / 2, x / 8388608 % 2, x % 8388608, by omega, by omega, by omega, by omega, by omega⟩
  have ha : 0 ≤ a ∧ a < 256 := by omega
  have e3 : x * 512 % 4294967296 = d * 512 := by omega
  have e4 : x / 8388608 = 2 * a + c := by omega
  have e1 : x * 256 % 4294967296 = c * 2147483648 + d * 256 := by omega
  have e2 : x / 16777216 = a := by omega
  rw [e1, e2, e3, e4]
  have hy : 0 ≤ d * 256 + a ∧ d * 256 + a < 2147483648 := by omega
  have hc : c = 0 ∨ c = 1 := by omega
  clear hx h e3 e4
  rcases hc with rfl | rfl
  · rw [show (0 * 2147483648 + d * 256 + a) = d * 256 + a by omega, l1_lo hy]; omega
  · rw [show (1 * 2147483648 + d * 256 + a) = 2147483648 + (d * 256 + a) by omega, l1_hi hy]; omega
theorem lf_10 {x : Int} (h : 0 ≤ x ∧ x ≤ 4294967295) : lf 10 x = x * 1024 % 4294967296 + x / 4194304 := by
  show l1 (lf 9 x) = _
  rw [lf_9 h]
  obtain ⟨a, c, d, hx, hc0, hc1, hd0, hd1⟩ : ∃ a c d : Int, x = (2 * a + c) * 4194304 + d ∧ 0 ≤ c ∧ c ≤ 1 ∧ 0 ≤ d ∧ d < 4194304 := ⟨x / 4194304 / 2, x / 4194304 % 2, x % 4194304, by omega, by omega, by omega, by omega, by omega⟩
  have ha : 0 ≤ a ∧ a < 512 := by omega
  have e3 : x * 1024 % 4294967296 = d * 1024 := by omega
  have e4 : x / 4194304 = 2 * a + c := by omega
  have e1 : x * 512 % 4294967296 = c * 2147483648 + d * 512 := by omega
  have e2 : x / 8388608 = a := by omega
  rw [e1, e2, e3, e4]
  have hy : 0 ≤ d * 512 + a ∧ d * 512 + a < 2147483648 := by omega
  have hc : c = 0 ∨ c = 1 := by omega
  clear hx h e3 e4
  rcases hc with rfl | rfl
  · rw [show (0 * 2147483648 + d * 512 + a) = d * 512 + a by omega, l1_lo hy]; omega
  · rw [show (1 * 2147483648 + d * 512 + a) = 2147483648 + (d * 512 + a) by omega, l1_hi hy]; omega
theorem lf_11 {x : Int} (h : 0 ≤ x ∧ x ≤ 4294967295) : lf 11 x = x * 2048 % 4294967296 + x / 2097152 := by
  show l1 (lf 10 x) = _
  rw [lf_10 h]
  obtain ⟨a, c, d, hx, hc0, hc1, hd0, hd1⟩ : ∃ a c d : Int, x = (2 * a + c) * 2097152 + d ∧ 0 ≤ c ∧ c ≤ 1 ∧ 0 ≤ d ∧ d < 2097152 := ⟨x / 2097152 / 2, x / 2097152 % 2, x % 2097152, by omega, by omega, by omega, by omega, by omega⟩
  have ha : 0 ≤ a ∧ a < 1024 := by omega
  have e3 : x * 2048 % 4294967296 = d * 2048 := by omega
  have e4 : x / 2097152 = 2 * a + c := by omega
  have e1 : x * 1024 % 4294967296 = c * 2147483648 + d * 1024 := by omega
  have e2 : x / 4194304 = a := by omega
  rw [e1, e2, e3, e4]
  have hy : 0 ≤ d * 1024 + a ∧ d * 1024 + a < 2147483648 := by omega
  have hc : c = 0 ∨ c = 1 := by omega
  clear hx h e3 e4
  rcases hc with rfl | rfl
  · rw [show (0 * 2147483648 + d * 1024 + a) = d * 1024 + a by omega, l1_lo hy]; omega
  · rw [show (1 * 2147483648 + d * 1024 + a) = 2147483648 + (d * 1024 + a) by omega, l1_hi hy]; omega
theorem lf_12 {x : Int} (h : 0 ≤ x ∧ x ≤ 4294967295) : lf 12 x = x * 4096 % 4294967296 + x / 1048576 := by
  show l1 (lf 11 x) = _
  rw [lf_11 h]
  obtain ⟨a, c, d, hx, hc0, hc1, hd0, hd1⟩ : ∃ a c d : Int, x = (2 * a + c) * 1048576 + d ∧ 0 ≤ c ∧ c ≤ 1 ∧ 0 ≤ d ∧ d < 1048576 := ⟨x / 1048576 / 2, x / 1048576 % 2, x % 1048576, by omega, by omega, by omega, by omega, by omega⟩
  have ha : 0 ≤ a ∧ a < 2048 := by omega
  have e3 : x * 4096 % 4294967296 = d * 4096 := by omega
  have e4 : x / 1048576 = 2 * a + c := by omega
  have e1 : x * 2048 % 4294967296 = c * 2147483648 + d * 2048 := by omega
  have e2 : x / 2097152 = a := by omega
  rw [e1, e2, e3, e4]
  have hy : 0 ≤ d * 2048 + a ∧ d * 2048 + a < 2147483648 := by omega
  have hc : c = 0 ∨ c = 1 := by omega
  clear hx h e3 e4
  rcases hc with rfl | rfl
  · rw [show (0 * 2147483648 + d * 2048 + a) = d * 2048 + a by omega, l1_lo hy]; omega
  · rw [show (1 * 2147483648 + d * 2048 + a) = 2147483648 + (d * 2048 + a) by omega, l1_hi hy]; omega
theorem lf_13 {x : Int} (h : 0 ≤ x ∧ x ≤ 4294967295) : lf 13 x = x * 8192 % 4294967296 + x / 524288 := by
  show l1 (lf 12 x) = _
  rw [lf_12 h]
  obtain ⟨a, c, d, hx, hc0, hc1, hd0, hd1⟩ : ∃ a c d : Int, x = (2 * a + c) * 524288 + d ∧ 0 ≤ c ∧ c ≤ 1 ∧ 0 ≤ d ∧ d < 524288 := ⟨x / 524288 / 2, x / 524288 % 2, x % 524288, by omega, by omega, by omega, by omega, by omega⟩
  have ha : 0 ≤ a ∧ a < 4096 := by omega
  have e3 : x * 8192 % 4294967296 = d * 8192 := by omega
  have e4 : x / 524288 = 2 * a + c := by omega
  have e1 : x * 4096 % 4294967296 = c * 2147483648 + d * 4096 := by omega
  have e2 : x / 1048576 = a := by omega
  rw [e1, e2, e3, e4]
  have hy : 0 ≤ d * 4096 + a ∧ d * 4096 + a < 2147483648 := by omega
  have hc : c = 0 ∨ c = 1 := by omega
  clear hx h e3 e4
  rcases hc with rfl | rfl
  · rw [show (0 * 2147483648 + d * 4096 + a) = d * 4096 + a by omega, l1_lo hy]; omega
  · rw [show (1 * 2147483648 + d * 4096 + a) = 2147483648 + (d * 4096 + a) by omega, l1_hi hy]; omega
theorem lf_14 {x : Int} (h : 0 ≤ x ∧ x ≤ 4294967295) : lf 14 x = x * 16384 % 4294967296 + x / 262144 := by
  show l1 (lf 13 x) = _
  rw [lf_13 h]
  obtain ⟨a, c, d, hx, hc0, hc1, hd0, hd1⟩ : ∃ a c d : Int, x = (2 * a + c) * 262144 + d ∧ 0 ≤ c ∧ c ≤ 1 ∧ 0 ≤ d ∧ d < 262144 := ⟨x / 262144 / 2, x / 262144 % 2, x % 262144, by omega, by omega, by omega, by omega, by omega⟩
  have ha : 0 ≤ a ∧ a < 8192 := by omega
  have e3 : x * 16384 % 4294967296 = d * 16384 := by omega
  have e4 : x / 262144 = 2 * a + c := by omega
  have e1 : x * 8192 % 4294967296 = c * 2147483648 + d * 8192 := by omega
  have e2 : x / 524288 = a := by omega
  rw [e1, e2, e3, e4]
  have hy : 0 ≤ d * 8192 + a ∧ d * 8192 + a < 2147483648 := by omega
  have hc : c = 0 ∨ c = 1 := by omega
  clear hx h e3 e4
  rcases hc with rfl | rfl
  · rw [show (0 * 2147483648 + d * 8192 + a) = d * 8192 + a by omega, l1_lo hy]; omega
  · rw [show (1 * 2147483648 + d * 8192 + a) = 2147483648 + (d * 8192 + a) by omega, l1_hi hy]; omega
theorem lf_15 {x : Int} (h : 0 ≤ x ∧ x ≤ 4294967295) : lf 15 x = x * 32768 % 4294967296 + x / 131072 := by
  show l1 (lf 14 x) = _
  rw [lf_14 h]
  obtain ⟨a, c, d, hx, hc0, hc1, hd0, hd1⟩ : ∃ a c d : Int, x = (2 * a + c) * 131072 + d ∧ 0 ≤ c ∧ c ≤ 1 ∧ 0 ≤ d ∧ d < 131072 := ⟨x / 131072 / 2, x / 131072 % 2, x % 131072, by omega, by omega, by omega, by omega, by omega⟩
  have ha : 0 ≤ a ∧ a < 16384 := by omega
  have e3 : x * 32768 % 4294967296 = d * 32768 := by omega
  have e4 : x / 131072 = 2 * a + c := by omega
  have e1 : x * 16384 % 4294967296 = c * 2147483648 + d * 16384 := by omega
  have e2 : x / 262144 = a := by omega
  rw [e1, e2, e3, e4]
  have hy : 0 ≤ d * 16384 + a ∧ d * 16384 + a < 2147483648 := by omega
  have hc : c = 0 ∨ c = 1 := by omega
  clear hx h e3 e4
  rcases hc with rfl | rfl
  · rw [show (0 * 2147483648 + d * 16384 + a) = d * 16384 + a by omega, l1_lo hy]; omega
  · rw [show (1 * 2147483648 + d * 16384 + a) = 2147483648 + (d * 16384 + a) by omega, l1_hi hy]; omega
theorem lf_16 {x : Int} (h : 0 ≤ x ∧ x ≤ 4294967295) : lf 16 x = x * 65536 % 4294967296 + x / 65536 := by
  show l1 (lf 15 x) = _
  rw [lf_15 h]
  obtain ⟨a, c, d, hx, hc0, hc1, hd0, hd1⟩ : ∃ a c d : Int, x = (2 * a + c) * 65536 + d ∧ 0 ≤ c ∧ c ≤ 1 ∧ 0 ≤ d ∧ d < 65536 := ⟨x / 65536 / 2, x / 65536 % 2, x % 65536, by omega, by omega, by omega, by omega, by omega⟩
  have ha : 0 ≤ a ∧ a < 32768 := by omega
  have e3 : x * 65536 % 4294967296 = d * 65536 := by omega
  have e4 : x / 65536 = 2 * a + c := by omega
  have e1 : x * 32768 % 4294967296 = c * 2147483648 + d * 32768 := by omega
  have e2 : x / 131072 = a := by omega
  rw [e1, e2, e3, e4]
  have hy : 0 ≤ d * 32768 + a ∧ d * 32768 + a < 2147483648 := by omega
  have hc : c = 0 ∨ c = 1 := by omega
  clear hx h e3 e4
  rcases hc with rfl | rfl
  · rw [show (0 * 2147483648 + d * 32768 + a) = d * 32768 + a by omega, l1_lo hy]; omega
  · rw [show (1 * 2147483648 + d * 32768 + a) = 2147483648 + (d * 32768 + a) by omega, l1_hi hy]; omega

theorem or_mul (a b i m : Nat) (hm : m = 2 ^ i) (h : a < m) : a ||| (b * m) = b * m + a := by
  subst hm
  rw [Nat.or_comm, ← Nat.shiftLeft_eq, Nat.shiftLeft_add_eq_or_of_lt h]

theorem rl_16 {x : Int} (h : 0 ≤ x ∧ x ≤ 4294967295) : rl 16 x = lf 16 x := by
  obtain ⟨n, rfl⟩ := Int.eq_ofNat_of_zero_le h.1
  have e1 : ((n : Int) * 2 ^ 16 % 4294967296) = ((n % 65536 * 65536 : Nat) : Int) := by omega
  have e2 : ((n : Int) / 2 ^ (32 - 16)) = ((n / 65536 : Nat) : Int) := by omega
  rw [lf_16 h]
  unfold rl
  rw [e1, e2, u32_or_nat _ _ (by omega) (by omega), Nat.or_comm, or_mul _ _ 16 65536 (by decide) (by omega)]
  omega
theorem rotl16 (x : Int) (h : 0 ≤ x ∧ x ≤ 4294967295) (w : World) : Calls Try.prog 23 #[.int .u32 x, .int .i64 16] w fun e w' => e = .returned (.int .u32 (lf 16 x)) ∧ w' = w := by
  rw [← rl_16 h]
  exact rot16 x h.1 h.2 w

theorem rl_12 {x : Int} (h : 0 ≤ x ∧ x ≤ 4294967295) : rl 12 x = lf 12 x := by
  obtain ⟨n, rfl⟩ := Int.eq_ofNat_of_zero_le h.1
  have e1 : ((n : Int) * 2 ^ 12 % 4294967296) = ((n % 1048576 * 4096 : Nat) : Int) := by omega
  have e2 : ((n : Int) / 2 ^ (32 - 12)) = ((n / 1048576 : Nat) : Int) := by omega
  rw [lf_12 h]
  unfold rl
  rw [e1, e2, u32_or_nat _ _ (by omega) (by omega), Nat.or_comm, or_mul _ _ 12 4096 (by decide) (by omega)]
  omega
theorem rotl12 (x : Int) (h : 0 ≤ x ∧ x ≤ 4294967295) (w : World) : Calls Try.prog 23 #[.int .u32 x, .int .i64 12] w fun e w' => e = .returned (.int .u32 (lf 12 x)) ∧ w' = w := by
  rw [← rl_12 h]
  exact rot12 x h.1 h.2 w

theorem rl_8 {x : Int} (h : 0 ≤ x ∧ x ≤ 4294967295) : rl 8 x = lf 8 x := by
  obtain ⟨n, rfl⟩ := Int.eq_ofNat_of_zero_le h.1
  have e1 : ((n : Int) * 2 ^ 8 % 4294967296) = ((n % 16777216 * 256 : Nat) : Int) := by omega
  have e2 : ((n : Int) / 2 ^ (32 - 8)) = ((n / 16777216 : Nat) : Int) := by omega
  rw [lf_8 h]
  unfold rl
  rw [e1, e2, u32_or_nat _ _ (by omega) (by omega), Nat.or_comm, or_mul _ _ 8 256 (by decide) (by omega)]
  omega
theorem rotl8 (x : Int) (h : 0 ≤ x ∧ x ≤ 4294967295) (w : World) : Calls Try.prog 23 #[.int .u32 x, .int .i64 8] w fun e w' => e = .returned (.int .u32 (lf 8 x)) ∧ w' = w := by
  rw [← rl_8 h]
  exact rot8 x h.1 h.2 w

theorem rl_7 {x : Int} (h : 0 ≤ x ∧ x ≤ 4294967295) : rl 7 x = lf 7 x := by
  obtain ⟨n, rfl⟩ := Int.eq_ofNat_of_zero_le h.1
  have e1 : ((n : Int) * 2 ^ 7 % 4294967296) = ((n % 33554432 * 128 : Nat) : Int) := by omega
  have e2 : ((n : Int) / 2 ^ (32 - 7)) = ((n / 33554432 : Nat) : Int) := by omega
  rw [lf_7 h]
  unfold rl
  rw [e1, e2, u32_or_nat _ _ (by omega) (by omega), Nat.or_comm, or_mul _ _ 7 128 (by decide) (by omega)]
  omega
theorem rotl7 (x : Int) (h : 0 ≤ x ∧ x ≤ 4294967295) (w : World) : Calls Try.prog 23 #[.int .u32 x, .int .i64 7] w fun e w' => e = .returned (.int .u32 (lf 7 x)) ∧ w' = w := by
  rw [← rl_7 h]
  exact rot7 x h.1 h.2 w

/-- Two words, each bit of one alone. -/
def xr (a b : Int) : Int := bits .xor .u32 a b
theorem xr_bd {a b : Int} (h : 0 ≤ a ∧ a ≤ 4294967295) (h' : 0 ≤ b ∧ b ≤ 4294967295) : 0 ≤ xr a b ∧ xr a b ≤ 4294967295 := by
  obtain ⟨n, rfl⟩ := Int.eq_ofNat_of_zero_le h.1
  obtain ⟨m, rfl⟩ := Int.eq_ofNat_of_zero_le h'.1
  unfold xr
  rw [u32_xor_nat n m (by omega) (by omega)]
  have := Nat.xor_lt_two_pow (x := n) (y := m) (n := 32) (by omega) (by omega)
  omega
end Go.Proofs.Ytgfodhbejcbogaa
