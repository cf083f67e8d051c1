/- PadBuckets. -/
import Derived.Test.YtmmaiohnfphcjaaPad
namespace Go.Proofs.Ytmmaiohnfphcjaa
open Go.ChangeShapes Go.WideShapes Go.ChangeAt Go.RowKit

def rb (n : Int) : Int := if n < 64 then 64 else if n < 128 then 128 else if n < 256 then 256 else if n < 512 then 512 else if n < 1024 then 1024 else if n < 2048 then 2048 else 0

set_option maxRecDepth 100000 in
set_option maxHeartbeats 800000 in
theorem refBucket_any (n : Int) (w : World) : Calls Try.prog 17 #[.int .i64 n] w fun e w' => e = .returned (.int .i64 (rb n)) ∧ Below w.heap.size w w' := by
  go_enter Try.func17, Try.ntmps17
  go_wp2
  go_loop [2, 4] (fun _ i => ∃ k : Nat, k ≤ 6 ∧ i = .int .i64 k ∧ (k = 0 ∨ lo k ≤ n)) (fun _ i => 6 - (intOf i).toNat)
  case atStart => exact ⟨0, by omega, rfl, .inl rfl⟩
  case round =>
    obtain ⟨k, hk, rfl, hl⟩ := hrel
    rcases (by omega : k = 0 ∨ k = 1 ∨ k = 2 ∨ k = 3 ∨ k = 4 ∨ k = 5 ∨ k = 6) with rfl | rfl | rfl | rfl | rfl | rfl | rfl
    all_goals simp only [lo] at hl
    all_goals have HL := Lib.hid hl
    all_goals clear hl
    all_goals go_wp2
    all_goals first
      | (go_ret
         have hl := HL.out
         refine ⟨ret_i ?_, (Below.refl _ _).alloc (Nat.le_refl _) _⟩
         unfold rb
         repeat (first | rw [if_neg (by omega)] | rw [if_pos (by omega)]))
      | exact ⟨⟨1, by omega, rfl, by simp only [lo]; omega⟩, by simp [intOf]⟩
      | exact ⟨⟨2, by omega, rfl, by simp only [lo]; omega⟩, by simp [intOf]⟩
      | exact ⟨⟨3, by omega, rfl, by simp only [lo]; omega⟩, by simp [intOf]⟩
      | exact ⟨⟨4, by omega, rfl, by simp only [lo]; omega⟩, by simp [intOf]⟩
      | exact ⟨⟨5, by omega, rfl, by simp only [lo]; omega⟩, by simp [intOf]⟩
      | exact ⟨⟨6, by omega, rfl, by simp only [lo]; omega⟩, by simp [intOf]⟩

def pw (x : Int) : Prop := x = 1 ∨ x = 2 ∨ x = 4 ∨ x = 8 ∨ x = 16 ∨ x = 32 ∨ x = 64 ∨ x = 128 ∨ x = 256 ∨ x = 512 ∨ x = 1024 ∨ x = 2048 ∨ x = 4096 ∨ x = 8192 ∨ x = 16384 ∨ x = 32768 ∨ x = 65536
def under (n x : Int) : Prop := x = 1 ∨ x / 2 < n
theorem pw_bd {x : Int} (h : pw x) : 1 ≤ x ∧ x ≤ 65536 := by unfold pw at h; omega
theorem pw_next {n x : Int} (h : pw x) (h1 : x < 65536) (h2 : x < n) : pw (x + x) ∧ under n (x + x) := by unfold pw at *; unfold under; omega
theorem pw_end {n x : Int} (h : pw x) (u : under n x) (he : n ≤ x ∨ 65536 ≤ x) : x = bt n := by
  unfold pw at h; unfold under at u
  rcases h with rfl | rfl | rfl | rfl | rfl | rfl | rfl | rfl | rfl | rfl | rfl | rfl | rfl | rfl | rfl | rfl | rfl
  all_goals unfold bt
  all_goals repeat (first | rw [if_neg (by omega)] | rw [if_pos (by omega)])

theorem isB_false {n : Int} (h : isB n = false) : ¬ n = 64 ∧ ¬ n = 128 ∧ ¬ n = 256 ∧ ¬ n = 512 ∧ ¬ n = 1024 ∧ ¬ n = 2048 := by
  unfold isB at h; simpa [and_assoc] using h

theorem isB_true {n : Int} (h : isB n = true) : n = 64 ∨ n = 128 ∨ n = 256 ∨ n = 512 ∨ n = 1024 ∨ n = 2048 := by
  unfold isB at h; simpa [or_assoc] using h

theorem ret_b {b : Bool} (h : b = true) : Ending.returned (.bool b) = Ending.returned (.bool true) := by rw [h]

theorem small_facts (n : Int) (h : 0 ≤ n) (h2 : n < 2048) : (rb n == 0) = false ∧ 0 < rb n ∧ (be n == 0) = true ∧ (bk n == rb n) = true := by
  have e1 : rb n = bk n := by unfold rb bk; rw [if_neg (show ¬ n < 0 by omega)]
  have e2 : be n = 0 := by unfold be; rw [if_neg (by omega), if_pos h2]
  have e3 := bk_cases n h h2
  rw [e1, e2]
  refine ⟨?_, by omega, rfl, by simp⟩
  rw [beq_eq_false_iff_ne]; omega

theorem great_facts (n : Int) (h : 2048 ≤ n) : (rb n == 0) = true ∧ (be n == 3) = true ∧ (bk n == 0) = true := by
  unfold rb be bk
  repeat (first | rw [if_neg (by omega)] | rw [if_pos (by omega)])
  decide

theorem isB_falses {n : Int} (h : isB n = false) : (n == 64) = false ∧ (n == 128) = false ∧ (n == 256) = false ∧ (n == 512) = false ∧ (n == 1024) = false ∧ (n == 2048) = false := by
  obtain ⟨a, b, c, d, e, f⟩ := isB_false h
  simp [a, b, c, d, e, f]

set_option maxRecDepth 100000 in
set_option maxHeartbeats 1600000 in
theorem bucketsNeg (n : Int) (h0 : -9223372036854775808 ≤ n) (h1 : n < 0) (w : World) : Calls Try.prog 4 #[.int .i64 n] w fun e w' => e = .returned (.bool true) ∧ Below w.heap.size w w' := by
    have hi : isB n = false := by unfold isB; simp; omega
    obtain ⟨n1, n2, n3, n4, n5, n6⟩ := isB_falses hi
    have b1 : (be n == 1) = true := by unfold be; rw [if_pos h1]; rfl
    have b2 : (bk n == 0) = true := by unfold bk; rw [if_pos h1]; rfl
    go_enter Try.func4, Try.ntmps4
    go_wp2_with (first | (go_at_call 13; refine (bucket_any _ _).mono ?_; rintro e w' ⟨rfl, rfl⟩) | (go_at_call 14; refine (awake06 _).mono ?_; rintro e w' ⟨rfl, rfl⟩) | (go_at_call 15; refine (is_any _ _ (by omega) (by omega)).mono ?_; rintro e w' ⟨rfl, rfl⟩) | (go_at_call 16; refine (batch_any _ _).mono ?_; rintro e w' ⟨rfl, rfl⟩) | (go_at_call 17; refine (refBucket_any _ _).mono ?_; rintro e w' ⟨rfl, hb⟩))
    go_loop [6] (fun x => ∃ z : Int, x = .int .i64 z ∧ pw z ∧ under n z) (fun x => 65536 - (intOf x).toNat)
    case atStart => exact ⟨1, rfl, .inl rfl, .inl rfl⟩
    case round =>
      obtain ⟨x, rfl, hp, hu⟩ := hrel
      obtain ⟨x0, x1⟩ := pw_bd hp
      have he := pw_end hp hu (.inl (by omega))
      subst he
      go_wp2_with (first | (go_at_call 13; refine (bucket_any _ _).mono ?_; rintro e w' ⟨rfl, rfl⟩) | (go_at_call 14; refine (awake06 _).mono ?_; rintro e w' ⟨rfl, rfl⟩) | (go_at_call 15; refine (is_any _ _ (by omega) (by omega)).mono ?_; rintro e w' ⟨rfl, rfl⟩) | (go_at_call 16; refine (batch_any _ _).mono ?_; rintro e w' ⟨rfl, rfl⟩) | (go_at_call 17; refine (refBucket_any _ _).mono ?_; rintro e w' ⟨rfl, hb⟩))
      go_ret
      exact ⟨rfl, Below.refl _ _⟩

set_option maxRecDepth 100000 in
set_option maxHeartbeats 1600000 in
theorem bucketsGreat (n : Int) (h1 : n ≤ 9223372036854775807) (h2 : 2048 ≤ n) (hi : isB n = false) (w : World) : Calls Try.prog 4 #[.int .i64 n] w fun e w' => e = .returned (.bool true) ∧ Below w.heap.size w w' := by
    obtain ⟨n1, n2, n3, n4, n5, n6⟩ := isB_falses hi
    obtain ⟨f1, f2, f3⟩ := great_facts n h2
    go_enter Try.func4, Try.ntmps4
    go_wp2_with (first | (go_at_call 13; refine (bucket_any _ _).mono ?_; rintro e w' ⟨rfl, rfl⟩) | (go_at_call 14; refine (awake06 _).mono ?_; rintro e w' ⟨rfl, rfl⟩) | (go_at_call 15; refine (is_any _ _ (by omega) (by omega)).mono ?_; rintro e w' ⟨rfl, rfl⟩) | (go_at_call 16; refine (batch_any _ _).mono ?_; rintro e w' ⟨rfl, rfl⟩) | (go_at_call 17; refine (refBucket_any _ _).mono ?_; rintro e w' ⟨rfl, hb⟩))
    go_loop [6] (fun x => ∃ z : Int, x = .int .i64 z ∧ pw z ∧ under (n) z) (fun x => 65536 - (intOf x).toNat)
    case atStart => exact ⟨1, rfl, .inl rfl, .inl rfl⟩
    case round =>
      obtain ⟨x, rfl, hp, hu⟩ := hrel
      obtain ⟨x0, x1⟩ := pw_bd hp
      by_cases hlt : x < n ∧ x < 65536
      · obtain ⟨hl1, hl2⟩ := hlt
        obtain ⟨q1, q2⟩ := pw_next hp hl2 hl1
        have Q1 := Lib.hid q1
        have Q2 := Lib.hid q2
        clear q1 q2 hp hu
        go_wp2
        exact ⟨⟨x + x, rfl, Q1.out, Q2.out⟩, by simp [intOf]; omega⟩
      · have he := pw_end hp hu (by omega)
        subst he
        rcases (by omega : n ≤ bt (n) ∨ (bt (n) < n ∧ 65536 ≤ bt (n))) with hq | ⟨hq, hq2⟩
        all_goals clear hlt
        all_goals go_wp2_with (first | (go_at_call 13; refine (bucket_any _ _).mono ?_; rintro e w' ⟨rfl, rfl⟩) | (go_at_call 14; refine (awake06 _).mono ?_; rintro e w' ⟨rfl, rfl⟩) | (go_at_call 15; refine (is_any _ _ (by omega) (by omega)).mono ?_; rintro e w' ⟨rfl, rfl⟩) | (go_at_call 16; refine (batch_any _ _).mono ?_; rintro e w' ⟨rfl, rfl⟩) | (go_at_call 17; refine (refBucket_any _ _).mono ?_; rintro e w' ⟨rfl, hb⟩))
        all_goals go_ret
        all_goals exact ⟨rfl, by assumption⟩

set_option maxRecDepth 100000 in
set_option maxHeartbeats 1600000 in
theorem bucketsSmall (n : Int) (h1 : 0 ≤ n) (h2 : n < 2048) (hi : isB n = false) (w : World) : Calls Try.prog 4 #[.int .i64 n] w fun e w' => e = .returned (.bool true) ∧ Below w.heap.size w w' := by
    obtain ⟨n1, n2, n3, n4, n5, n6⟩ := isB_falses hi
    obtain ⟨f1, f2, f3, f4⟩ := small_facts n h1 h2
    go_enter Try.func4, Try.ntmps4
    go_wp2_with (first | (go_at_call 13; refine (bucket_any _ _).mono ?_; rintro e w' ⟨rfl, rfl⟩) | (go_at_call 14; refine (awake06 _).mono ?_; rintro e w' ⟨rfl, rfl⟩) | (go_at_call 15; refine (is_any _ _ (by omega) (by omega)).mono ?_; rintro e w' ⟨rfl, rfl⟩) | (go_at_call 16; refine (batch_any _ _).mono ?_; rintro e w' ⟨rfl, rfl⟩) | (go_at_call 17; refine (refBucket_any _ _).mono ?_; rintro e w' ⟨rfl, hb⟩))
    go_loop [6] (fun x => ∃ z : Int, x = .int .i64 z ∧ pw z ∧ under (n) z) (fun x => 65536 - (intOf x).toNat)
    case atStart => exact ⟨1, rfl, .inl rfl, .inl rfl⟩
    case round =>
      obtain ⟨x, rfl, hp, hu⟩ := hrel
      obtain ⟨x0, x1⟩ := pw_bd hp
      by_cases hlt : x < n ∧ x < 65536
      · obtain ⟨hl1, hl2⟩ := hlt
        obtain ⟨q1, q2⟩ := pw_next hp hl2 hl1
        have Q1 := Lib.hid q1
        have Q2 := Lib.hid q2
        clear q1 q2 hp hu
        go_wp2
        exact ⟨⟨x + x, rfl, Q1.out, Q2.out⟩, by simp [intOf]; omega⟩
      · have he := pw_end hp hu (by omega)
        subst he
        rcases (by omega : n ≤ bt (n) ∨ (bt (n) < n ∧ 65536 ≤ bt (n))) with hq | ⟨hq, hq2⟩
        all_goals clear hlt
        all_goals go_wp2_with (first | (go_at_call 13; refine (bucket_any _ _).mono ?_; rintro e w' ⟨rfl, rfl⟩) | (go_at_call 14; refine (awake06 _).mono ?_; rintro e w' ⟨rfl, rfl⟩) | (go_at_call 15; refine (is_any _ _ (by omega) (by omega)).mono ?_; rintro e w' ⟨rfl, rfl⟩) | (go_at_call 16; refine (batch_any _ _).mono ?_; rintro e w' ⟨rfl, rfl⟩) | (go_at_call 17; refine (refBucket_any _ _).mono ?_; rintro e w' ⟨rfl, hb⟩))
        all_goals go_ret
        all_goals exact ⟨rfl, by assumption⟩


set_option maxRecDepth 100000 in
set_option maxHeartbeats 1600000 in
theorem buckets64 (w : World) : Calls Try.prog 4 #[.int .i64 64] w fun e w' => e = .returned (.bool true) ∧ Below w.heap.size w w' := by
    have hi : isB 64 = true := by decide
    obtain ⟨f1, f2, f3, f4⟩ := small_facts 64 (by omega) (by omega)
    go_enter Try.func4, Try.ntmps4
    go_wp2_with (first | (go_at_call 13; refine (bucket_any _ _).mono ?_; rintro e w' ⟨rfl, rfl⟩) | (go_at_call 14; refine (awake06 _).mono ?_; rintro e w' ⟨rfl, rfl⟩) | (go_at_call 15; refine (is_any _ _ (by omega) (by omega)).mono ?_; rintro e w' ⟨rfl, rfl⟩) | (go_at_call 16; refine (batch_any _ _).mono ?_; rintro e w' ⟨rfl, rfl⟩) | (go_at_call 17; refine (refBucket_any _ _).mono ?_; rintro e w' ⟨rfl, hb⟩))
    go_loop [6] (fun x => ∃ z : Int, x = .int .i64 z ∧ pw z ∧ under (64) z) (fun x => 65536 - (intOf x).toNat)
    case atStart => exact ⟨1, rfl, .inl rfl, .inl rfl⟩
    case round =>
      obtain ⟨x, rfl, hp, hu⟩ := hrel
      obtain ⟨x0, x1⟩ := pw_bd hp
      by_cases hlt : x < 64 ∧ x < 65536
      · obtain ⟨hl1, hl2⟩ := hlt
        obtain ⟨q1, q2⟩ := pw_next hp hl2 hl1
        have Q1 := Lib.hid q1
        have Q2 := Lib.hid q2
        clear q1 q2 hp hu
        go_wp2
        exact ⟨⟨x + x, rfl, Q1.out, Q2.out⟩, by simp [intOf]; omega⟩
      · have he := pw_end hp hu (by omega)
        subst he
        rcases (by omega : 64 ≤ bt (64) ∨ (bt (64) < 64 ∧ 65536 ≤ bt (64))) with hq | ⟨hq, hq2⟩
        all_goals clear hlt
        all_goals go_wp2_with (first | (go_at_call 13; refine (bucket_any _ _).mono ?_; rintro e w' ⟨rfl, rfl⟩) | (go_at_call 14; refine (awake06 _).mono ?_; rintro e w' ⟨rfl, rfl⟩) | (go_at_call 15; refine (is_any _ _ (by omega) (by omega)).mono ?_; rintro e w' ⟨rfl, rfl⟩) | (go_at_call 16; refine (batch_any _ _).mono ?_; rintro e w' ⟨rfl, rfl⟩) | (go_at_call 17; refine (refBucket_any _ _).mono ?_; rintro e w' ⟨rfl, hb⟩))
        all_goals go_ret
        all_goals exact ⟨rfl, by assumption⟩

set_option maxRecDepth 100000 in
set_option maxHeartbeats 1600000 in
theorem buckets128 (w : World) : Calls Try.prog 4 #[.int .i64 128] w fun e w' => e = .returned (.bool true) ∧ Below w.heap.size w w' := by
    have hi : isB 128 = true := by decide
    obtain ⟨f1, f2, f3, f4⟩ := small_facts 128 (by omega) (by omega)
    go_enter Try.func4, Try.ntmps4
    go_wp2_with (first | (go_at_call 13; refine (bucket_any _ _).mono ?_; rintro e w' ⟨rfl, rfl⟩) | (go_at_call 14; refine (awake06 _).mono ?_; rintro e w' ⟨rfl, rfl⟩) | (go_at_call 15; refine (is_any _ _ (by omega) (by omega)).mono ?_; rintro e w' ⟨rfl, rfl⟩) | (go_at_call 16; refine (batch_any _ _).mono ?_; rintro e w' ⟨rfl, rfl⟩) | (go_at_call 17; refine (refBucket_any _ _).mono ?_; rintro e w' ⟨rfl, hb⟩))
    go_loop [6] (fun x => ∃ z : Int, x = .int .i64 z ∧ pw z ∧ under (128) z) (fun x => 65536 - (intOf x).toNat)
    case atStart => exact ⟨1, rfl, .inl rfl, .inl rfl⟩
    case round =>
      obtain ⟨x, rfl, hp, hu⟩ := hrel
      obtain ⟨x0, x1⟩ := pw_bd hp
      by_cases hlt : x < 128 ∧ x < 65536
      · obtain ⟨hl1, hl2⟩ := hlt
        obtain ⟨q1, q2⟩ := pw_next hp hl2 hl1
        have Q1 := Lib.hid q1
        have Q2 := Lib.hid q2
        clear q1 q2 hp hu
        go_wp2
        exact ⟨⟨x + x, rfl, Q1.out, Q2.out⟩, by simp [intOf]; omega⟩
      · have he := pw_end hp hu (by omega)
        subst he
        rcases (by omega : 128 ≤ bt (128) ∨ (bt (128) < 128 ∧ 65536 ≤ bt (128))) with hq | ⟨hq, hq2⟩
        all_goals clear hlt
        all_goals go_wp2_with (first | (go_at_call 13; refine (bucket_any _ _).mono ?_; rintro e w' ⟨rfl, rfl⟩) | (go_at_call 14; refine (awake06 _).mono ?_; rintro e w' ⟨rfl, rfl⟩) | (go_at_call 15; refine (is_any _ _ (by omega) (by omega)).mono ?_; rintro e w' ⟨rfl, rfl⟩) | (go_at_call 16; refine (batch_any _ _).mono ?_; rintro e w' ⟨rfl, rfl⟩) | (go_at_call 17; refine (refBucket_any _ _).mono ?_; rintro e w' ⟨rfl, hb⟩))
        all_goals go_ret
        all_goals exact ⟨rfl, by assumption⟩

set_option maxRecDepth 100000 in
set_option maxHeartbeats 1600000 in
theorem buckets256 (w : World) : Calls Try.prog 4 #[.int .i64 256] w fun e w' => e = .returned (.bool true) ∧ Below w.heap.size w w' := by
    have hi : isB 256 = true := by decide
    obtain ⟨f1, f2, f3, f4⟩ := small_facts 256 (by omega) (by omega)
    go_enter Try.func4, Try.ntmps4
    go_wp2_with (first | (go_at_call 13; refine (bucket_any _ _).mono ?_; rintro e w' ⟨rfl, rfl⟩) | (go_at_call 14; refine (awake06 _).mono ?_; rintro e w' ⟨rfl, rfl⟩) | (go_at_call 15; refine (is_any _ _ (by omega) (by omega)).mono ?_; rintro e w' ⟨rfl, rfl⟩) | (go_at_call 16; refine (batch_any _ _).mono ?_; rintro e w' ⟨rfl, rfl⟩) | (go_at_call 17; refine (refBucket_any _ _).mono ?_; rintro e w' ⟨rfl, hb⟩))
    go_loop [6] (fun x => ∃ z : Int, x = .int .i64 z ∧ pw z ∧ under (256) z) (fun x => 65536 - (intOf x).toNat)
    case atStart => exact ⟨1, rfl, .inl rfl, .inl rfl⟩
    case round =>
      obtain ⟨x, rfl, hp, hu⟩ := hrel
      obtain ⟨x0, x1⟩ := pw_bd hp
      by_cases hlt : x < 256 ∧ x < 65536
      · obtain ⟨hl1, hl2⟩ := hlt
        obtain ⟨q1, q2⟩ := pw_next hp hl2 hl1
        have Q1 := Lib.hid q1
        have Q2 := Lib.hid q2
        clear q1 q2 hp hu
        go_wp2
        exact ⟨⟨x + x, rfl, Q1.out, Q2.out⟩, by simp [intOf]; omega⟩
      · have he := pw_end hp hu (by omega)
        subst he
        rcases (by omega : 256 ≤ bt (256) ∨ (bt (256) < 256 ∧ 65536 ≤ bt (256))) with hq | ⟨hq, hq2⟩
        all_goals clear hlt
        all_goals go_wp2_with (first | (go_at_call 13; refine (bucket_any _ _).mono ?_; rintro e w' ⟨rfl, rfl⟩) | (go_at_call 14; refine (awake06 _).mono ?_; rintro e w' ⟨rfl, rfl⟩) | (go_at_call 15; refine (is_any _ _ (by omega) (by omega)).mono ?_; rintro e w' ⟨rfl, rfl⟩) | (go_at_call 16; refine (batch_any _ _).mono ?_; rintro e w' ⟨rfl, rfl⟩) | (go_at_call 17; refine (refBucket_any _ _).mono ?_; rintro e w' ⟨rfl, hb⟩))
        all_goals go_ret
        all_goals exact ⟨rfl, by assumption⟩

set_option maxRecDepth 100000 in
set_option maxHeartbeats 1600000 in
theorem buckets512 (w : World) : Calls Try.prog 4 #[.int .i64 512] w fun e w' => e = .returned (.bool true) ∧ Below w.heap.size w w' := by
    have hi : isB 512 = true := by decide
    obtain ⟨f1, f2, f3, f4⟩ := small_facts 512 (by omega) (by omega)
    go_enter Try.func4, Try.ntmps4
    go_wp2_with (first | (go_at_call 13; refine (bucket_any _ _).mono ?_; rintro e w' ⟨rfl, rfl⟩) | (go_at_call 14; refine (awake06 _).mono ?_; rintro e w' ⟨rfl, rfl⟩) | (go_at_call 15; refine (is_any _ _ (by omega) (by omega)).mono ?_; rintro e w' ⟨rfl, rfl⟩) | (go_at_call 16; refine (batch_any _ _).mono ?_; rintro e w' ⟨rfl, rfl⟩) | (go_at_call 17; refine (refBucket_any _ _).mono ?_; rintro e w' ⟨rfl, hb⟩))
    go_loop [6] (fun x => ∃ z : Int, x = .int .i64 z ∧ pw z ∧ under (512) z) (fun x => 65536 - (intOf x).toNat)
    case atStart => exact ⟨1, rfl, .inl rfl, .inl rfl⟩
    case round =>
      obtain ⟨x, rfl, hp, hu⟩ := hrel
      obtain ⟨x0, x1⟩ := pw_bd hp
      by_cases hlt : x < 512 ∧ x < 65536
      · obtain ⟨hl1, hl2⟩ := hlt
        obtain ⟨q1, q2⟩ := pw_next hp hl2 hl1
        have Q1 := Lib.hid q1
        have Q2 := Lib.hid q2
        clear q1 q2 hp hu
        go_wp2
        exact ⟨⟨x + x, rfl, Q1.out, Q2.out⟩, by simp [intOf]; omega⟩
      · have he := pw_end hp hu (by omega)
        subst he
        rcases (by omega : 512 ≤ bt (512) ∨ (bt (512) < 512 ∧ 65536 ≤ bt (512))) with hq | ⟨hq, hq2⟩
        all_goals clear hlt
        all_goals go_wp2_with (first | (go_at_call 13; refine (bucket_any _ _).mono ?_; rintro e w' ⟨rfl, rfl⟩) | (go_at_call 14; refine (awake06 _).mono ?_; rintro e w' ⟨rfl, rfl⟩) | (go_at_call 15; refine (is_any _ _ (by omega) (by omega)).mono ?_; rintro e w' ⟨rfl, rfl⟩) | (go_at_call 16; refine (batch_any _ _).mono ?_; rintro e w' ⟨rfl, rfl⟩) | (go_at_call 17; refine (refBucket_any _ _).mono ?_; rintro e w' ⟨rfl, hb⟩))
        all_goals go_ret
        all_goals exact ⟨rfl, by assumption⟩

set_option maxRecDepth 100000 in
set_option maxHeartbeats 1600000 in
theorem buckets1024 (w : World) : Calls Try.prog 4 #[.int .i64 1024] w fun e w' => e = .returned (.bool true) ∧ Below w.heap.size w w' := by
    have hi : isB 1024 = true := by decide
    obtain ⟨f1, f2, f3, f4⟩ := small_facts 1024 (by omega) (by omega)
    go_enter Try.func4, Try.ntmps4
    go_wp2_with (first | (go_at_call 13; refine (bucket_any _ _).mono ?_; rintro e w' ⟨rfl, rfl⟩) | (go_at_call 14; refine (awake06 _).mono ?_; rintro e w' ⟨rfl, rfl⟩) | (go_at_call 15; refine (is_any _ _ (by omega) (by omega)).mono ?_; rintro e w' ⟨rfl, rfl⟩) | (go_at_call 16; refine (batch_any _ _).mono ?_; rintro e w' ⟨rfl, rfl⟩) | (go_at_call 17; refine (refBucket_any _ _).mono ?_; rintro e w' ⟨rfl, hb⟩))
    go_loop [6] (fun x => ∃ z : Int, x = .int .i64 z ∧ pw z ∧ under (1024) z) (fun x => 65536 - (intOf x).toNat)
    case atStart => exact ⟨1, rfl, .inl rfl, .inl rfl⟩
    case round =>
      obtain ⟨x, rfl, hp, hu⟩ := hrel
      obtain ⟨x0, x1⟩ := pw_bd hp
      by_cases hlt : x < 1024 ∧ x < 65536
      · obtain ⟨hl1, hl2⟩ := hlt
        obtain ⟨q1, q2⟩ := pw_next hp hl2 hl1
        have Q1 := Lib.hid q1
        have Q2 := Lib.hid q2
        clear q1 q2 hp hu
        go_wp2
        exact ⟨⟨x + x, rfl, Q1.out, Q2.out⟩, by simp [intOf]; omega⟩
      · have he := pw_end hp hu (by omega)
        subst he
        rcases (by omega : 1024 ≤ bt (1024) ∨ (bt (1024) < 1024 ∧ 65536 ≤ bt (1024))) with hq | ⟨hq, hq2⟩
        all_goals clear hlt
        all_goals go_wp2_with (first | (go_at_call 13; refine (bucket_any _ _).mono ?_; rintro e w' ⟨rfl, rfl⟩) | (go_at_call 14; refine (awake06 _).mono ?_; rintro e w' ⟨rfl, rfl⟩) | (go_at_call 15; refine (is_any _ _ (by omega) (by omega)).mono ?_; rintro e w' ⟨rfl, rfl⟩) | (go_at_call 16; refine (batch_any _ _).mono ?_; rintro e w' ⟨rfl, rfl⟩) | (go_at_call 17; refine (refBucket_any _ _).mono ?_; rintro e w' ⟨rfl, hb⟩))
        all_goals go_ret
        all_goals exact ⟨rfl, by assumption⟩

set_option maxRecDepth 100000 in
set_option maxHeartbeats 1600000 in
theorem buckets2048 (w : World) : Calls Try.prog 4 #[.int .i64 2048] w fun e w' => e = .returned (.bool true) ∧ Below w.heap.size w w' := by
    have hi : isB 2048 = true := by decide
    obtain ⟨f1, f2, f3⟩ := great_facts 2048 (by omega)
    go_enter Try.func4, Try.ntmps4
    go_wp2_with (first | (go_at_call 13; refine (bucket_any _ _).mono ?_; rintro e w' ⟨rfl, rfl⟩) | (go_at_call 14; refine (awake06 _).mono ?_; rintro e w' ⟨rfl, rfl⟩) | (go_at_call 15; refine (is_any _ _ (by omega) (by omega)).mono ?_; rintro e w' ⟨rfl, rfl⟩) | (go_at_call 16; refine (batch_any _ _).mono ?_; rintro e w' ⟨rfl, rfl⟩) | (go_at_call 17; refine (refBucket_any _ _).mono ?_; rintro e w' ⟨rfl, hb⟩))
    go_loop [6] (fun x => ∃ z : Int, x = .int .i64 z ∧ pw z ∧ under (2048) z) (fun x => 65536 - (intOf x).toNat)
    case atStart => exact ⟨1, rfl, .inl rfl, .inl rfl⟩
    case round =>
      obtain ⟨x, rfl, hp, hu⟩ := hrel
      obtain ⟨x0, x1⟩ := pw_bd hp
      by_cases hlt : x < 2048 ∧ x < 65536
      · obtain ⟨hl1, hl2⟩ := hlt
        obtain ⟨q1, q2⟩ := pw_next hp hl2 hl1
        have Q1 := Lib.hid q1
        have Q2 := Lib.hid q2
        clear q1 q2 hp hu
        go_wp2
        exact ⟨⟨x + x, rfl, Q1.out, Q2.out⟩, by simp [intOf]; omega⟩
      · have he := pw_end hp hu (by omega)
        subst he
        rcases (by omega : 2048 ≤ bt (2048) ∨ (bt (2048) < 2048 ∧ 65536 ≤ bt (2048))) with hq | ⟨hq, hq2⟩
        all_goals clear hlt
        all_goals go_wp2_with (first | (go_at_call 13; refine (bucket_any _ _).mono ?_; rintro e w' ⟨rfl, rfl⟩) | (go_at_call 14; refine (awake06 _).mono ?_; rintro e w' ⟨rfl, rfl⟩) | (go_at_call 15; refine (is_any _ _ (by omega) (by omega)).mono ?_; rintro e w' ⟨rfl, rfl⟩) | (go_at_call 16; refine (batch_any _ _).mono ?_; rintro e w' ⟨rfl, rfl⟩) | (go_at_call 17; refine (refBucket_any _ _).mono ?_; rintro e w' ⟨rfl, hb⟩))
        all_goals go_ret
        all_goals exact ⟨rfl, by assumption⟩

theorem bucketsWalk (n : Int) (w0 : (Lit.int .i64 n).wf = true) (w : World) : Calls Try.prog 4 #[.int .i64 n] w fun e w' => e = .returned (.bool true) ∧ Below w.heap.size w w' := by
  obtain ⟨h0, h1⟩ := bounds_i64 w0
  by_cases hn : n < 0
  · exact bucketsNeg n h0 hn w
  · cases hi : isB n
    · by_cases h2 : n < 2048
      · exact bucketsSmall n (by omega) h2 hi w
      · exact bucketsGreat n h1 (by omega) hi w
    · rcases isB_true hi with rfl | rfl | rfl | rfl | rfl | rfl
      · exact buckets64 w
      · exact buckets128 w
      · exact buckets256 w
      · exact buckets512 w
      · exact buckets1024 w
      · exact buckets2048 w
end Go.Proofs.Ytmmaiohnfphcjaa
