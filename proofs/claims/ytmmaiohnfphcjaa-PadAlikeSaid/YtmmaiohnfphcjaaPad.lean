/- Contracts of package pad. -/
import Derived.Test.YtmmaiohnfphcjaaRows
import Derived.WalkKit
import Derived.ProofKit
import Derived.OpenShut
import Derived.Below
import Derived.Lib.Hide
namespace Go.Proofs.Ytmmaiohnfphcjaa
open Go.ChangeShapes Go.WideShapes Go.ChangeAt Go.RowKit

def bk (n : Int) : Int := if n < 0 then 0 else if n < 64 then 64 else if n < 128 then 128 else if n < 256 then 256 else if n < 512 then 512 else if n < 1024 then 1024 else if n < 2048 then 2048 else 0
def be (n : Int) : Int := if n < 0 then 1 else if n < 2048 then 0 else 3

set_option maxHeartbeats 400000 in
theorem bucket_neg (n : Int) (w : World) (h : n < 0) : Calls Try.prog 13 #[.int .i64 n] w fun e w' => e = .returned (.tuple #[.int .i64 0, .int .i64 1]) ∧ w = w' := by
  go_enter Try.func13, Try.ntmps13
  go_wp2
  go_ret2
  exact ⟨rfl, rfl⟩

theorem ret_ii {p q : IntKind} {a a' b b' : Int} (h : a' = a) (k : b' = b) : Ending.returned (.tuple #[.int p a, .int q b]) = Ending.returned (.tuple #[.int p a', .int q b']) := by rw [h, k]

theorem ret_i {p : IntKind} {a a' : Int} (h : a' = a) : Ending.returned (.int p a) = Ending.returned (.int p a') := by rw [h]

def lo : Nat → Int | 0 => 0 | 1 => 64 | 2 => 128 | 3 => 256 | 4 => 512 | 5 => 1024 | _ => 2048

set_option maxHeartbeats 400000 in
theorem bucket_pos (n : Int) (w : World) (h : 0 ≤ n) : Calls Try.prog 13 #[.int .i64 n] w fun e w' => e = .returned (.tuple #[.int .i64 (bk n), .int .i64 (be n)]) ∧ w = w' := by
  have hd : decide (n < 0) = false := by simp; omega
  go_enter Try.func13, Try.ntmps13
  go_wp2
  go_loop [4, 7] (fun _ i => ∃ k : Nat, k ≤ 6 ∧ i = .int .i64 k ∧ lo k ≤ n) (fun _ i => 6 - (intOf i).toNat)
  case atStart => exact ⟨0, by omega, rfl, h⟩
  case round =>
    obtain ⟨k, hk, rfl, hl⟩ := hrel
    rcases (by omega : k = 0 ∨ k = 1 ∨ k = 2 ∨ k = 3 ∨ k = 4 ∨ k = 5 ∨ k = 6) with rfl | rfl | rfl | rfl | rfl | rfl | rfl
    all_goals simp only [lo] at hl
    all_goals go_wp2
    all_goals first
      | (go_ret2
         refine ⟨ret_ii ?_ ?_, rfl⟩
         · unfold bk
           repeat (first | rw [if_neg (by omega)] | rw [if_pos (by omega)])
         · unfold be
           repeat (first | rw [if_neg (by omega)] | rw [if_pos (by omega)]))
      | exact ⟨⟨1, by omega, rfl, by simp only [lo]; omega⟩, by simp [intOf]⟩
      | exact ⟨⟨2, by omega, rfl, by simp only [lo]; omega⟩, by simp [intOf]⟩
      | exact ⟨⟨3, by omega, rfl, by simp only [lo]; omega⟩, by simp [intOf]⟩
      | exact ⟨⟨4, by omega, rfl, by simp only [lo]; omega⟩, by simp [intOf]⟩
      | exact ⟨⟨5, by omega, rfl, by simp only [lo]; omega⟩, by simp [intOf]⟩
      | exact ⟨⟨6, by omega, rfl, by simp only [lo]; omega⟩, by simp [intOf]⟩

theorem bucket_any (n : Int) (w : World) : Calls Try.prog 13 #[.int .i64 n] w fun e w' => e = .returned (.tuple #[.int .i64 (bk n), .int .i64 (be n)]) ∧ w = w' := by
  by_cases h : n < 0
  · have e1 : bk n = 0 := by unfold bk; rw [if_pos h]
    have e2 : be n = 1 := by unfold be; rw [if_pos h]
    rw [e1, e2]; exact bucket_neg n w h
  · exact bucket_pos n w (by omega)

/-- awake -/
theorem awake06 (w : World) : Calls Try.prog 14 #[] w fun e w' => e = .returned (.bool true) ∧ w = w' := by
  have e1 : bk 64 = 128 := by decide
  have e2 : be 64 = 0 := by decide
  go_enter Try.func14, Try.ntmps14
  go_wp2_with (go_at_call 13; refine (bucket_any _ _).mono ?_; rintro e w' ⟨rfl, rfl⟩)
  go_ret
  exact ⟨rfl, rfl⟩

def isB (n : Int) : Bool := n == 64 || n == 128 || n == 256 || n == 512 || n == 1024 || n == 2048

theorem bk_is (n : Int) (h1 : 0 ≤ n - 1) (h2 : n - 1 < 2048) : (bk (n - 1) == n) = isB n := by
  unfold bk isB
  rw [Bool.eq_iff_iff]
  simp only [beq_iff_eq, Bool.or_eq_true]
  repeat (first | rw [if_neg (by omega)] | split)
  all_goals omega

/-- Is -/
theorem is_any (n : Int) (w : World) (h0 : -9223372036854775808 ≤ n) (h1 : n ≤ 9223372036854775807) : Calls Try.prog 15 #[.int .i64 n] w fun e w' => e = .returned (.bool (isB n)) ∧ w = w' := by
  by_cases h2 : 1 ≤ n ∧ n ≤ 2048
  · have e1 : (be (n - 1) == 0) = true := by
      unfold be; rw [if_neg (by omega), if_pos (by omega)]; rfl
    have e2 := bk_is n (by omega) (by omega)
    go_enter Try.func15, Try.ntmps15
    go_wp2_with (go_at_call 13; refine (bucket_any _ _).mono ?_; rintro e w' ⟨rfl, rfl⟩)
    go_ret
    exact ⟨rfl, rfl⟩
  · have h3 : isB n = false := by
      unfold isB; rw [Bool.eq_false_iff]; simp only [ne_eq, Bool.or_eq_true, beq_iff_eq]; omega
    by_cases h4 : n = -9223372036854775808
    · subst h4
      have e3 : (be (wrap64 (-9223372036854775809)) == 0) = false := by decide +kernel
      rw [h3]
      go_enter Try.func15, Try.ntmps15
      go_wp2_with (go_at_call 13; refine (bucket_any _ _).mono ?_; rintro e w' ⟨rfl, rfl⟩)
      go_ret
      exact ⟨rfl, rfl⟩
    · have e1 : (be (n - 1) == 0) = false := by
        unfold be; rw [beq_eq_false_iff_ne]; split
        · decide
        · rw [if_neg (by omega)]; decide
      rw [h3]
      go_enter Try.func15, Try.ntmps15
      go_wp2_with (go_at_call 13; refine (bucket_any _ _).mono ?_; rintro e w' ⟨rfl, rfl⟩)
      go_ret
      exact ⟨rfl, rfl⟩

def bt (n : Int) : Int := if n ≤ 1 then 1 else if n ≤ 2 then 2 else if n ≤ 4 then 4 else if n ≤ 8 then 8 else if n ≤ 16 then 16 else if n ≤ 32 then 32 else if n ≤ 64 then 64 else if n ≤ 128 then 128 else if n ≤ 256 then 256 else if n ≤ 512 then 512 else if n ≤ 1024 then 1024 else if n ≤ 2048 then 2048 else if n ≤ 4096 then 4096 else if n ≤ 8192 then 8192 else if n ≤ 16384 then 16384 else if n ≤ 32768 then 32768 else 65536

def below (k : Nat) (n : Int) : Prop := k = 0 ∨ (2 : Int) ^ (k - 1) < n

set_option maxHeartbeats 800000 in
theorem batch_any (n : Int) (w : World) : Calls Try.prog 16 #[.int .i64 n] w fun e w' => e = .returned (.int .i64 (bt n)) ∧ w = w' := by
  go_enter Try.func16, Try.ntmps16
  go_wp2
  go_loop [3, 4] (fun _ i => ∃ k : Nat, k ≤ 16 ∧ i = .int .i64 k ∧ below k n) (fun _ i => 16 - (intOf i).toNat)
  case atStart => exact ⟨0, by omega, rfl, .inl rfl⟩
  case round =>
    obtain ⟨k, hk, rfl, hl⟩ := hrel
    rcases (by omega : k = 0 ∨ k = 1 ∨ k = 2 ∨ k = 3 ∨ k = 4 ∨ k = 5 ∨ k = 6 ∨ k = 7 ∨ k = 8 ∨ k = 9 ∨ k = 10 ∨ k = 11 ∨ k = 12 ∨ k = 13 ∨ k = 14 ∨ k = 15 ∨ k = 16) with rfl | rfl | rfl | rfl | rfl | rfl | rfl | rfl | rfl | rfl | rfl | rfl | rfl | rfl | rfl | rfl | rfl
    all_goals simp only [below] at hl
    all_goals have HL := Lib.hid hl
    all_goals clear hl
    all_goals go_wp2
    all_goals first
      | (go_ret
         refine ⟨ret_i ?_, rfl⟩
         have hl := HL.out
         simp at hl
         unfold bt
         repeat (first | rw [if_neg (by omega)] | rw [if_pos (by omega)]))
      | exact ⟨⟨1, by omega, rfl, .inr (by simp; omega)⟩, by simp [intOf]⟩
      | exact ⟨⟨2, by omega, rfl, .inr (by simp; omega)⟩, by simp [intOf]⟩
      | exact ⟨⟨3, by omega, rfl, .inr (by simp; omega)⟩, by simp [intOf]⟩
      | exact ⟨⟨4, by omega, rfl, .inr (by simp; omega)⟩, by simp [intOf]⟩
      | exact ⟨⟨5, by omega, rfl, .inr (by simp; omega)⟩, by simp [intOf]⟩
      | exact ⟨⟨6, by omega, rfl, .inr (by simp; omega)⟩, by simp [intOf]⟩
      | exact ⟨⟨7, by omega, rfl, .inr (by simp; omega)⟩, by simp [intOf]⟩
      | exact ⟨⟨8, by omega, rfl, .inr (by simp; omega)⟩, by simp [intOf]⟩
      | exact ⟨⟨9, by omega, rfl, .inr (by simp; omega)⟩, by simp [intOf]⟩
      | exact ⟨⟨10, by omega, rfl, .inr (by simp; omega)⟩, by simp [intOf]⟩
      | exact ⟨⟨11, by omega, rfl, .inr (by simp; omega)⟩, by simp [intOf]⟩
      | exact ⟨⟨12, by omega, rfl, .inr (by simp; omega)⟩, by simp [intOf]⟩
      | exact ⟨⟨13, by omega, rfl, .inr (by simp; omega)⟩, by simp [intOf]⟩
      | exact ⟨⟨14, by omega, rfl, .inr (by simp; omega)⟩, by simp [intOf]⟩
      | exact ⟨⟨15, by omega, rfl, .inr (by simp; omega)⟩, by simp [intOf]⟩
      | exact ⟨⟨16, by omega, rfl, .inr (by simp; omega)⟩, by simp [intOf]⟩

theorem bk_cases (L : Int) (h0 : 0 ≤ L) (h1 : L < 2048) : (bk L = 64 ∧ L < 64) ∨ (bk L = 128 ∧ 64 ≤ L ∧ L < 128) ∨ (bk L = 256 ∧ 128 ≤ L ∧ L < 256) ∨ (bk L = 512 ∧ 256 ≤ L ∧ L < 512) ∨ (bk L = 1024 ∧ 512 ≤ L ∧ L < 1024) ∨ (bk L = 2048 ∧ 1024 ≤ L ∧ L < 2048) := by
  unfold bk
  rw [if_neg (by omega)]
  repeat (first | rw [if_pos (by omega)]; omega | split)
  all_goals omega

theorem grows_facts (L H : Int) (h0 : 0 ≤ L) (h1 : L ≤ H) (h2 : H < 2048) :
    (be L == 0) = true ∧ (be H == 0) = true ∧ decide (bk L ≤ bk H) = true ∧ decide (L < bk L) = true ∧ ((bk L == 64) = false → decide (bk L / 2 ≤ L) = true) ∧ isB (bk L) = true ∧ (bt (bk L) == bk L) = true ∧ 0 ≤ bk L ∧ bk L ≤ 2048 := by
  have eL := bk_cases L h0 (by omega)
  have eH := bk_cases H (by omega) h2
  have b1 : be L = 0 := by unfold be; rw [if_neg (by omega), if_pos (by omega)]
  have b2 : be H = 0 := by unfold be; rw [if_neg (by omega), if_pos (by omega)]
  rw [b1, b2]
  refine ⟨rfl, rfl, ?_, ?_, ?_, ?_, ?_, ?_, ?_⟩
  · rw [decide_eq_true_iff]; omega
  · rw [decide_eq_true_iff]; omega
  · intro h; rw [beq_eq_false_iff_ne] at h; rw [decide_eq_true_iff]; omega
  · rcases eL with ⟨e, _⟩ | ⟨e, _⟩ | ⟨e, _⟩ | ⟨e, _⟩ | ⟨e, _⟩ | ⟨e, _⟩ <;> rw [e] <;> decide
  · rcases eL with ⟨e, _⟩ | ⟨e, _⟩ | ⟨e, _⟩ | ⟨e, _⟩ | ⟨e, _⟩ | ⟨e, _⟩ <;> rw [e] <;> decide
  · omega
  · omega

set_option maxRecDepth 100000 in
set_option maxHeartbeats 1600000 in
theorem growsL (a b : Int) (a0 : 0 ≤ a) (a1 : a ≤ 65535) (b0 : 0 ≤ b) (b1 : b ≤ 65535) (h1 : a < b) (w : World) :
    Calls Try.prog 3 #[.int .u16 a, .int .u16 b] w fun e w' => e = .returned (.bool true) ∧ w = w' := by
  rcases (by omega : a % 2048 < b % 2048 ∨ b % 2048 < a % 2048 ∨ b % 2048 = a % 2048) with h2 | h2 | h2
  · obtain ⟨f1, f2, f3, f4, f5, f6, f7, f8, f9⟩ := grows_facts (a % 2048) (b % 2048) (by omega) (by omega) (by omega)
    by_cases h3 : (bk (a % 2048) == 64) = true
    · clear f5
      go_enter Try.func3, Try.ntmps3
      go_wp2_with (first | (go_at_call 13; refine (bucket_any _ _).mono ?_; rintro e w' ⟨rfl, rfl⟩) | (go_at_call 14; refine (awake06 _).mono ?_; rintro e w' ⟨rfl, rfl⟩) | (go_at_call 15; refine (is_any _ _ (by omega) (by omega)).mono ?_; rintro e w' ⟨rfl, rfl⟩) | (go_at_call 16; refine (batch_any _ _).mono ?_; rintro e w' ⟨rfl, rfl⟩))
      go_ret
      exact ⟨rfl, rfl⟩
    · rw [Bool.not_eq_true] at h3
      have f5' := f5 h3
      clear f5
      go_enter Try.func3, Try.ntmps3
      go_wp2_with (first | (go_at_call 13; refine (bucket_any _ _).mono ?_; rintro e w' ⟨rfl, rfl⟩) | (go_at_call 14; refine (awake06 _).mono ?_; rintro e w' ⟨rfl, rfl⟩) | (go_at_call 15; refine (is_any _ _ (by omega) (by omega)).mono ?_; rintro e w' ⟨rfl, rfl⟩) | (go_at_call 16; refine (batch_any _ _).mono ?_; rintro e w' ⟨rfl, rfl⟩))
      go_ret
      exact ⟨rfl, rfl⟩
  · obtain ⟨f1, f2, f3, f4, f5, f6, f7, f8, f9⟩ := grows_facts (b % 2048) (a % 2048) (by omega) (by omega) (by omega)
    by_cases h3 : (bk (b % 2048) == 64) = true
    · clear f5
      go_enter Try.func3, Try.ntmps3
      go_wp2_with (first | (go_at_call 13; refine (bucket_any _ _).mono ?_; rintro e w' ⟨rfl, rfl⟩) | (go_at_call 14; refine (awake06 _).mono ?_; rintro e w' ⟨rfl, rfl⟩) | (go_at_call 15; refine (is_any _ _ (by omega) (by omega)).mono ?_; rintro e w' ⟨rfl, rfl⟩) | (go_at_call 16; refine (batch_any _ _).mono ?_; rintro e w' ⟨rfl, rfl⟩))
      go_ret
      exact ⟨rfl, rfl⟩
    · rw [Bool.not_eq_true] at h3
      have f5' := f5 h3
      clear f5
      go_enter Try.func3, Try.ntmps3
      go_wp2_with (first | (go_at_call 13; refine (bucket_any _ _).mono ?_; rintro e w' ⟨rfl, rfl⟩) | (go_at_call 14; refine (awake06 _).mono ?_; rintro e w' ⟨rfl, rfl⟩) | (go_at_call 15; refine (is_any _ _ (by omega) (by omega)).mono ?_; rintro e w' ⟨rfl, rfl⟩) | (go_at_call 16; refine (batch_any _ _).mono ?_; rintro e w' ⟨rfl, rfl⟩))
      go_ret
      exact ⟨rfl, rfl⟩
  · obtain ⟨f1, f2, f3, f4, f5, f6, f7, f8, f9⟩ := grows_facts (a % 2048) (a % 2048) (by omega) (by omega) (by omega)
    by_cases h3 : (bk (a % 2048) == 64) = true
    · clear f5
      go_enter Try.func3, Try.ntmps3
      go_wp2_with (first | (go_at_call 13; refine (bucket_any _ _).mono ?_; rintro e w' ⟨rfl, rfl⟩) | (go_at_call 14; refine (awake06 _).mono ?_; rintro e w' ⟨rfl, rfl⟩) | (go_at_call 15; refine (is_any _ _ (by omega) (by omega)).mono ?_; rintro e w' ⟨rfl, rfl⟩) | (go_at_call 16; refine (batch_any _ _).mono ?_; rintro e w' ⟨rfl, rfl⟩))
      go_ret
      exact ⟨rfl, rfl⟩
    · rw [Bool.not_eq_true] at h3
      have f5' := f5 h3
      clear f5
      go_enter Try.func3, Try.ntmps3
      go_wp2_with (first | (go_at_call 13; refine (bucket_any _ _).mono ?_; rintro e w' ⟨rfl, rfl⟩) | (go_at_call 14; refine (awake06 _).mono ?_; rintro e w' ⟨rfl, rfl⟩) | (go_at_call 15; refine (is_any _ _ (by omega) (by omega)).mono ?_; rintro e w' ⟨rfl, rfl⟩) | (go_at_call 16; refine (batch_any _ _).mono ?_; rintro e w' ⟨rfl, rfl⟩))
      go_ret
      exact ⟨rfl, rfl⟩
set_option maxRecDepth 100000 in
set_option maxHeartbeats 1600000 in
theorem growsG (a b : Int) (a0 : 0 ≤ a) (a1 : a ≤ 65535) (b0 : 0 ≤ b) (b1 : b ≤ 65535) (h1 : b < a) (w : World) :
    Calls Try.prog 3 #[.int .u16 a, .int .u16 b] w fun e w' => e = .returned (.bool true) ∧ w = w' := by
  rcases (by omega : a % 2048 < b % 2048 ∨ b % 2048 < a % 2048 ∨ b % 2048 = a % 2048) with h2 | h2 | h2
  · obtain ⟨f1, f2, f3, f4, f5, f6, f7, f8, f9⟩ := grows_facts (a % 2048) (b % 2048) (by omega) (by omega) (by omega)
    by_cases h3 : (bk (a % 2048) == 64) = true
    · clear f5
      go_enter Try.func3, Try.ntmps3
      go_wp2_with (first | (go_at_call 13; refine (bucket_any _ _).mono ?_; rintro e w' ⟨rfl, rfl⟩) | (go_at_call 14; refine (awake06 _).mono ?_; rintro e w' ⟨rfl, rfl⟩) | (go_at_call 15; refine (is_any _ _ (by omega) (by omega)).mono ?_; rintro e w' ⟨rfl, rfl⟩) | (go_at_call 16; refine (batch_any _ _).mono ?_; rintro e w' ⟨rfl, rfl⟩))
      go_ret
      exact ⟨rfl, rfl⟩
    · rw [Bool.not_eq_true] at h3
      have f5' := f5 h3
      clear f5
      go_enter Try.func3, Try.ntmps3
      go_wp2_with (first | (go_at_call 13; refine (bucket_any _ _).mono ?_; rintro e w' ⟨rfl, rfl⟩) | (go_at_call 14; refine (awake06 _).mono ?_; rintro e w' ⟨rfl, rfl⟩) | (go_at_call 15; refine (is_any _ _ (by omega) (by omega)).mono ?_; rintro e w' ⟨rfl, rfl⟩) | (go_at_call 16; refine (batch_any _ _).mono ?_; rintro e w' ⟨rfl, rfl⟩))
      go_ret
      exact ⟨rfl, rfl⟩
  · obtain ⟨f1, f2, f3, f4, f5, f6, f7, f8, f9⟩ := grows_facts (b % 2048) (a % 2048) (by omega) (by omega) (by omega)
    by_cases h3 : (bk (b % 2048) == 64) = true
    · clear f5
      go_enter Try.func3, Try.ntmps3
      go_wp2_with (first | (go_at_call 13; refine (bucket_any _ _).mono ?_; rintro e w' ⟨rfl, rfl⟩) | (go_at_call 14; refine (awake06 _).mono ?_; rintro e w' ⟨rfl, rfl⟩) | (go_at_call 15; refine (is_any _ _ (by omega) (by omega)).mono ?_; rintro e w' ⟨rfl, rfl⟩) | (go_at_call 16; refine (batch_any _ _).mono ?_; rintro e w' ⟨rfl, rfl⟩))
      go_ret
      exact ⟨rfl, rfl⟩
    · rw [Bool.not_eq_true] at h3
      have f5' := f5 h3
      clear f5
      go_enter Try.func3, Try.ntmps3
      go_wp2_with (first | (go_at_call 13; refine (bucket_any _ _).mono ?_; rintro e w' ⟨rfl, rfl⟩) | (go_at_call 14; refine (awake06 _).mono ?_; rintro e w' ⟨rfl, rfl⟩) | (go_at_call 15; refine (is_any _ _ (by omega) (by omega)).mono ?_; rintro e w' ⟨rfl, rfl⟩) | (go_at_call 16; refine (batch_any _ _).mono ?_; rintro e w' ⟨rfl, rfl⟩))
      go_ret
      exact ⟨rfl, rfl⟩
  · obtain ⟨f1, f2, f3, f4, f5, f6, f7, f8, f9⟩ := grows_facts (a % 2048) (a % 2048) (by omega) (by omega) (by omega)
    by_cases h3 : (bk (a % 2048) == 64) = true
    · clear f5
      go_enter Try.func3, Try.ntmps3
      go_wp2_with (first | (go_at_call 13; refine (bucket_any _ _).mono ?_; rintro e w' ⟨rfl, rfl⟩) | (go_at_call 14; refine (awake06 _).mono ?_; rintro e w' ⟨rfl, rfl⟩) | (go_at_call 15; refine (is_any _ _ (by omega) (by omega)).mono ?_; rintro e w' ⟨rfl, rfl⟩) | (go_at_call 16; refine (batch_any _ _).mono ?_; rintro e w' ⟨rfl, rfl⟩))
      go_ret
      exact ⟨rfl, rfl⟩
    · rw [Bool.not_eq_true] at h3
      have f5' := f5 h3
      clear f5
      go_enter Try.func3, Try.ntmps3
      go_wp2_with (first | (go_at_call 13; refine (bucket_any _ _).mono ?_; rintro e w' ⟨rfl, rfl⟩) | (go_at_call 14; refine (awake06 _).mono ?_; rintro e w' ⟨rfl, rfl⟩) | (go_at_call 15; refine (is_any _ _ (by omega) (by omega)).mono ?_; rintro e w' ⟨rfl, rfl⟩) | (go_at_call 16; refine (batch_any _ _).mono ?_; rintro e w' ⟨rfl, rfl⟩))
      go_ret
      exact ⟨rfl, rfl⟩
set_option maxRecDepth 100000 in
set_option maxHeartbeats 1600000 in
theorem growsE (a b : Int) (a0 : 0 ≤ a) (a1 : a ≤ 65535) (b0 : 0 ≤ b) (b1 : b ≤ 65535) (h1 : a = b) (w : World) :
    Calls Try.prog 3 #[.int .u16 a, .int .u16 b] w fun e w' => e = .returned (.bool true) ∧ w = w' := by
  subst h1
  · obtain ⟨f1, f2, f3, f4, f5, f6, f7, f8, f9⟩ := grows_facts (a % 2048) (a % 2048) (by omega) (by omega) (by omega)
    by_cases h3 : (bk (a % 2048) == 64) = true
    · clear f5
      go_enter Try.func3, Try.ntmps3
      go_wp2_with (first | (go_at_call 13; refine (bucket_any _ _).mono ?_; rintro e w' ⟨rfl, rfl⟩) | (go_at_call 14; refine (awake06 _).mono ?_; rintro e w' ⟨rfl, rfl⟩) | (go_at_call 15; refine (is_any _ _ (by omega) (by omega)).mono ?_; rintro e w' ⟨rfl, rfl⟩) | (go_at_call 16; refine (batch_any _ _).mono ?_; rintro e w' ⟨rfl, rfl⟩))
      go_ret
      exact ⟨rfl, rfl⟩
    · rw [Bool.not_eq_true] at h3
      have f5' := f5 h3
      clear f5
      go_enter Try.func3, Try.ntmps3
      go_wp2_with (first | (go_at_call 13; refine (bucket_any _ _).mono ?_; rintro e w' ⟨rfl, rfl⟩) | (go_at_call 14; refine (awake06 _).mono ?_; rintro e w' ⟨rfl, rfl⟩) | (go_at_call 15; refine (is_any _ _ (by omega) (by omega)).mono ?_; rintro e w' ⟨rfl, rfl⟩) | (go_at_call 16; refine (batch_any _ _).mono ?_; rintro e w' ⟨rfl, rfl⟩))
      go_ret
      exact ⟨rfl, rfl⟩
theorem growsWalk (a b : Int) (w0 : (Lit.int .u16 a).wf = true) (w1 : (Lit.int .u16 b).wf = true) (w : World) :
    Calls Try.prog 3 #[.int .u16 a, .int .u16 b] w fun e w' => e = .returned (.bool true) ∧ w = w' := by
  obtain ⟨a0, a1⟩ := bounds_u16 w0
  obtain ⟨b0, b1⟩ := bounds_u16 w1
  rcases (by omega : a < b ∨ b < a ∨ a = b) with h1 | h1 | h1
  · exact growsL a b a0 a1 b0 b1 h1 w
  · exact growsG a b a0 a1 b0 b1 h1 w
  · exact growsE a b a0 a1 b0 b1 h1 w
theorem growsWalkB (a : Int) (w0 : (Lit.int .u16 a).wf = true) (b : Int) (w1 : (Lit.int .u16 b).wf = true) (w : World) :
    Calls Try.prog 3 #[.int .u16 a, .int .u16 b] w fun e w' => e = .returned (.bool true) ∧ Below w.heap.size w w' :=
  (growsWalk a b w0 w1 w).mono fun _ _ ⟨he, hw⟩ => ⟨he, hw ▸ Below.refl _ _⟩
end Go.Proofs.Ytmmaiohnfphcjaa
