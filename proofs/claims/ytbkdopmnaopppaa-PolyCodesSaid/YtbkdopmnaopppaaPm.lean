/- Poly: what times, take and end make, as numbers by 2^130 - 5. No program in sight. -/
import Derived.Test.YtbkdopmnaopppaaPo6
import Derived.Test.YtbkdopmnaopppaaPo2
namespace Go.Proofs.Ytbkdopmnaopppaa
open Go Go.RowKit
set_option linter.unusedVariables false
set_option linter.unusedSimpArgs false
/-- The modulus: 2^130 - 5. -/
def P130 : Nat := 1361129467683753853853498429727072845819
def N3 (l m h : Nat) : Nat := l + m * 18446744073709551616 + h * 340282366920938463463374607431768211456
theorem AE.eq {x y c s q : Nat} (h : AE x y c s q) : x + y + c = s + 18446744073709551616 * q ∧ s < 18446744073709551616 := by
  obtain ⟨h1, h2⟩ := h; subst h1; subst h2; omega
theorem ME.eq {x y A B : Nat} (h : ME x y A B) : x * y = B + 18446744073709551616 * A ∧ B < 18446744073709551616 := by
  obtain ⟨h1, h2⟩ := h; subst h1; subst h2; generalize x * y = z; omega
theorem and3 (t : Nat) : t &&& 3 = t % 4 := Nat.and_two_pow_sub_one_eq_mod t 2
theorem and_hi (t : Nat) (h : t < 18446744073709551616) : t &&& (18446744073709551615 - 3) = 4 * (t / 4) := by
  have e : (18446744073709551615 - 3 : Nat) = 2 ^ 2 * (2 ^ 62 - 1) := by decide
  have e2 : (4 : Nat) * (t / 4) = 2 ^ 2 * (t / 2 ^ 2) := by simp
  rw [e, e2]
  apply Nat.eq_of_testBit_eq
  intro i
  rw [Nat.testBit_and, Nat.testBit_two_pow_mul, Nat.testBit_two_pow_mul, Nat.testBit_two_pow_sub_one, Nat.testBit_div_two_pow]
  by_cases h2 : 2 ≤ i
  · simp only [h2, decide_true, Bool.true_and, Nat.sub_add_cancel h2]
    by_cases h3 : i - 2 < 62
    · simp [h3]
    · have : t.testBit i = false := Nat.testBit_lt_two_pow (Nat.lt_of_lt_of_le h (by
        have : (2:Nat) ^ 64 ≤ 2 ^ i := Nat.pow_le_pow_right (by omega) (by omega)
        exact this))
      simp [this]
  · simp [h2]
theorem or_u (a d : Nat) (h : a < 4611686018427387904) : (a ||| d * 4611686018427387904 % 18446744073709551616) = a + d % 4 * 4611686018427387904 := by
  have e : d * 4611686018427387904 % 18446744073709551616 = 2 ^ 62 * (d % 4) := by omega
  rw [e, Nat.or_comm, ← Nat.two_pow_add_eq_or_of_lt (by exact h)]
  omega
theorem prod6 (l m h rl rh B : Nat) : (l + m * B + h * (B * B)) * (rl + rh * B) = l * rl + (m * rl + l * rh) * B + (h * rl + m * rh) * (B * B) + h * rh * (B * B * B) := by
  simp only [Nat.add_mul, Nat.mul_add]
  simp only [Nat.mul_assoc, Nat.mul_left_comm, Nat.mul_comm, Nat.add_assoc, Nat.add_left_comm, Nat.add_comm]
theorem car1 {x y c s q : Nat} (h : x + y + c = s + 18446744073709551616 * q ∧ s < 18446744073709551616) (hx : x < 18446744073709551616) (hy : y < 18446744073709551616) (hc : c ≤ 1) : q ≤ 1 := by omega
theorem car0 {x y c s q : Nat} (h : x + y + c = s + 18446744073709551616 * q ∧ s < 18446744073709551616) (hb : x + y + c < 18446744073709551616) : q = 0 := by omega
theorem mec0 {x s q : Nat} (h : x = s + 18446744073709551616 * q ∧ s < 18446744073709551616) (hb : x < 18446744073709551616) : q = 0 := by omega
theorem mecB {x s q : Nat} (h : x = s + 18446744073709551616 * q ∧ s < 18446744073709551616) (hb : x ≤ 18446744073709551615 * 1152921504606846975) : q < 1152921504606846976 := by omega
theorem tv1 {g1 g2 g3 g4 g5 g6 Z A O B O2 C W D o1 k1 b1 t1 k2 o2 k3 t2 k4 d1 d2 d3 p q : Nat}
    (e1 : g1 = Z + 18446744073709551616 * A) (e2 : g2 = O + 18446744073709551616 * B) (e3 : g3 = O2 + 18446744073709551616 * C) (e4 : g4 = W + 18446744073709551616 * D) (hp : g5 = p + 18446744073709551616 * 0) (hq : g6 = q + 18446744073709551616 * 0)
    (e5 : O + O2 + 0 = o1 + 18446744073709551616 * k1) (e6 : B + C + k1 = b1 + 18446744073709551616 * 0) (e7 : W + p + 0 = t1 + 18446744073709551616 * k2) (hd1 : D + q + 0 = d1 + 18446744073709551616 * 0) (hd2 : d1 + k2 + 0 = d2 + 18446744073709551616 * 0)
    (e8 : o1 + A + 0 = o2 + 18446744073709551616 * k3) (e9 : t1 + b1 + k3 = t2 + 18446744073709551616 * k4) (hd3 : d2 + k4 + 0 = d3 + 18446744073709551616 * 0) :
    g1 + (g2 + g3) * 18446744073709551616 + (g5 + g4) * 340282366920938463463374607431768211456 + g6 * 6277101735386680763835789423207666416102355444464034512896 = Z + 18446744073709551616 * o2 + 340282366920938463463374607431768211456 * t2 + 6277101735386680763835789423207666416102355444464034512896 * d3 := by omega
theorem tv2 {Z o2 ta tb da db l1 c1 m1 c2 u l2 c3 m2 c4 h2 : Nat} (f1 : Z + 4 * ta + 0 = l1 + 18446744073709551616 * c1) (f2 : o2 + (4 * da + db) + c1 = m1 + 18446744073709551616 * c2) (hu : u = ta + db * 4611686018427387904) (f3 : l1 + u + 0 = l2 + 18446744073709551616 * c3) (f4 : m1 + da + c3 = m2 + 18446744073709551616 * c4) (hh : h2 = tb + c2 + c4) :
    Z + 18446744073709551616 * o2 + 340282366920938463463374607431768211456 * (4 * ta + tb) + 6277101735386680763835789423207666416102355444464034512896 * (4 * da + db) = l2 + m2 * 18446744073709551616 + h2 * 340282366920938463463374607431768211456 + 1361129467683753853853498429727072845819 * (ta + (4 * da + db) * 4611686018427387904) := by omega
/-- What times makes: the product's lower 130 bits, and five times what is above. -/
theorem TR.val {l m h rl rh l2 m2 h2 : Nat} (t : TR l m h rl rh l2 m2 h2) (hl : l < 18446744073709551616) (hm : m < 18446744073709551616) (hh : h ≤ 7) (hrl : rl < 1152921504606846976) (hrh : rh < 1152921504606846976) :
    ∃ q, N3 l m h * (rl + rh * 18446744073709551616) = N3 l2 m2 h2 + P130 * q ∧ h2 ≤ 5 := by
  obtain ⟨p0, q0, x1, x2, x3, A, Z, B, O, C, O2, D, W, p, q, o1, k1, b1, kb, t1, k2, d1, d2, o2, k3, t2, k4, d3, l1, c1, m1, c2, u, c3, c4, e1, e2, e3, e4, hp, hq, e5, e6, e7, hd1, hd2, e8, e9, hd3, f1, f2, hu, f3, f4, hh2⟩ := t.ex
  have ht2 := e9.eq.2
  rw [and_hi _ ht2] at f1
  rw [and3] at hh2
  replace hu := hu.h
  rw [or_u _ _ (Nat.div_lt_of_lt_mul ht2)] at hu
  have b1' : l * rl ≤ 18446744073709551615 * 1152921504606846975 := Nat.mul_le_mul (Nat.le_of_lt_succ hl) (Nat.le_of_lt_succ hrl)
  have b2' : m * rl ≤ 18446744073709551615 * 1152921504606846975 := Nat.mul_le_mul (Nat.le_of_lt_succ hm) (Nat.le_of_lt_succ hrl)
  have b3' : l * rh ≤ 18446744073709551615 * 1152921504606846975 := Nat.mul_le_mul (Nat.le_of_lt_succ hl) (Nat.le_of_lt_succ hrh)
  have b4' : m * rh ≤ 18446744073709551615 * 1152921504606846975 := Nat.mul_le_mul (Nat.le_of_lt_succ hm) (Nat.le_of_lt_succ hrh)
  have b5' : h * rl ≤ 7 * 1152921504606846975 := Nat.mul_le_mul hh (Nat.le_of_lt_succ hrl)
  have b6' : h * rh ≤ 7 * 1152921504606846975 := Nat.mul_le_mul hh (Nat.le_of_lt_succ hrh)
  have E : N3 l m h * (rl + rh * 18446744073709551616) = l * rl + (m * rl + l * rh) * 18446744073709551616 + (h * rl + m * rh) * 340282366920938463463374607431768211456 + h * rh * 6277101735386680763835789423207666416102355444464034512896 := prod6 l m h rl rh 18446744073709551616
  rw [E]
  replace e1 := e1.eq
  replace e2 := e2.eq
  replace e3 := e3.eq
  replace e4 := e4.eq
  replace hp := hp.eq
  replace hq := hq.eq
  replace e5 := e5.eq
  replace e6 := e6.eq
  replace e7 := e7.eq
  replace e8 := e8.eq
  replace e9 := e9.eq
  replace hd1 := hd1.eq
  replace hd2 := hd2.eq
  replace hd3 := hd3.eq
  replace f1 := f1.eq
  replace f2 := f2.eq
  replace f3 := f3.eq
  replace f4 := f4.eq
  have hZ := e1.2
  have hA := mecB e1 b1'
  have hB := mecB e2 b2'
  have hC := mecB e3 b3'
  have hD := mecB e4 b4'
  obtain rfl : p0 = 0 := mec0 hp (Nat.lt_of_le_of_lt b5' (by decide))
  obtain rfl : q0 = 0 := mec0 hq (Nat.lt_of_le_of_lt b6' (by decide))
  have z3 : k1 ≤ 1 := car1 e5 e2.2 e3.2 (by decide)
  obtain rfl : kb = 0 := car0 e6 (by clear e1 e2 e3 e4 hp hq e5 e6 e7 e8 e9 hd1 hd2 hd3 f1 f2 f3 f4 hh2 E b1' b2' b3' b4' b5' b6'; omega)
  have z5 : k2 ≤ 1 := car1 e7 e4.2 hp.2 (by decide)
  have hq8 : q < 8070450532247928832 := by
    have h1 := hq.1
    rw [h1] at b6'
    clear e1 e2 e3 e4 hp hq e5 e6 e7 e8 e9 hd1 hd2 hd3 f1 f2 f3 f4 hh2 E b1' b2' b3' b4' b5' h1; omega
  obtain rfl : x1 = 0 := car0 hd1 (by clear e1 e2 e3 e4 hp hq e5 e6 e7 e8 e9 hd1 hd2 hd3 f1 f2 f3 f4 hh2 E b1' b2' b3' b4' b5' b6'; omega)
  have hd1v : d1 = D + q := by have h1 := hd1.1; clear e1 e2 e3 e4 hp hq e5 e6 e7 e8 e9 hd1 hd2 hd3 f1 f2 f3 f4 hh2 E b1' b2' b3' b4' b5' b6'; omega
  obtain rfl : x2 = 0 := car0 hd2 (by clear e1 e2 e3 e4 hp hq e5 e6 e7 e8 e9 hd1 hd2 hd3 f1 f2 f3 f4 hh2 E b1' b2' b3' b4' b5' b6'; omega)
  have hd2v : d2 = d1 + k2 := by have h1 := hd2.1; clear e1 e2 e3 e4 hp hq e5 e6 e7 e8 e9 hd1 hd2 hd3 f1 f2 f3 f4 hh2 E b1' b2' b3' b4' b5' b6'; omega
  have z8 : k3 ≤ 1 := car1 e8 e5.2 (Nat.lt_trans hA (by decide)) (by decide)
  have z9 : k4 ≤ 1 := car1 e9 e7.2 e6.2 z8
  obtain rfl : x3 = 0 := car0 hd3 (by clear e1 e2 e3 e4 hp hq e5 e6 e7 e8 e9 hd1 hd2 hd3 f1 f2 f3 f4 hh2 E b1' b2' b3' b4' b5' b6'; omega)
  have hd3v : d3 = d2 + k4 := by have h1 := hd3.1; clear e1 e2 e3 e4 hp hq e5 e6 e7 e8 e9 hd1 hd2 hd3 f1 f2 f3 f4 hh2 E b1' b2' b3' b4' b5' b6'; omega
  have hd3b : d3 < 10376293541461622784 := by clear e1 e2 e3 e4 hp hq e5 e6 e7 e8 e9 hd1 hd2 hd3 f1 f2 f3 f4 hh2 E b1' b2' b3' b4' b5' b6'; omega
  rw [tv1 e1.1 e2.1 e3.1 e4.1 hp.1 hq.1 e5.1 e6.1 e7.1 hd1.1 hd2.1 e8.1 e9.1 hd3.1]
  clear e1 e2 e3 e4 hp hq e5 e6 e7 E b1' b2' b3' b4' b5' b6' hd1 hd2 hd3 hA hB hC hD hd1v hd2v hd3v hq8
  have z11 : c1 ≤ 1 := car1 f1 (by clear f1 f2 f3 f4 hh2 hu; omega) (by clear f1 f2 f3 f4 hh2 hu e8 e9; omega) (by decide)
  have z12 : c2 ≤ 1 := car1 f2 e8.2 (Nat.lt_trans hd3b (by decide)) z11
  have hub : u < 18446744073709551616 := by clear f1 f2 f3 f4 hh2 e8 e9; omega
  have z14 : c3 ≤ 1 := car1 f3 f1.2 hub (by decide)
  have z15 : c4 ≤ 1 := car1 f4 f2.2 (by clear f1 f2 f3 f4 hh2 hu e8 e9; omega) z14
  have hh3 : h2 = t2 % 4 + c2 + c4 := by clear f1 f2 f3 f4 e8 e9 hu; omega
  have t4 : t2 = 4 * (t2 / 4) + t2 % 4 := (Nat.div_add_mod t2 4).symm
  have d4 : d3 = 4 * (d3 / 4) + d3 % 4 := (Nat.div_add_mod d3 4).symm
  refine ⟨t2 / 4 + (4 * (d3 / 4) + d3 % 4) * 4611686018427387904, ?_, by clear f1 f2 f3 f4 e8 e9 hu t4 d4 hh2; omega⟩
  have f2' := f2.1
  rw [d4] at f2'
  have hh4 : (4 * (d3 / 4) + d3 % 4) / 4 = d3 / 4 := by rw [← d4]
  have := tv2 (ta := t2 / 4) (tb := t2 % 4) (da := d3 / 4) (db := d3 % 4) f1.1 f2' hu f3.1 f4.1 hh3
  rw [← t4, ← d4] at this
  rw [← d4]
  exact this
/-- What take makes. -/
theorem KR.val {bh l m h rl rh W0 W1 l2 m2 h2 : Nat} (t : KR bh l m h rl rh W0 W1 l2 m2 h2) (hbh : bh ≤ 1) (hl : l < 18446744073709551616) (hm : m < 18446744073709551616) (hh : h ≤ 5) (hW0 : W0 < 18446744073709551616) (hW1 : W1 < 18446744073709551616) (hrl : rl < 1152921504606846976) (hrh : rh < 1152921504606846976) :
    ∃ q, (N3 l m h + N3 W0 W1 bh) * (rl + rh * 18446744073709551616) = N3 l2 m2 h2 + P130 * q ∧ h2 ≤ 5 := by
  obtain ⟨l1, k1, m1, k2, s1, x1, h1, x2, e1, e2, e3, e4, t⟩ := t.ex
  have e1 := e1.eq
  have e2 := e2.eq
  have e3 := e3.eq
  have e4 := e4.eq
  obtain ⟨q, h1', h2'⟩ := t.val e1.2 e2.2 (by omega) hrl hrh
  refine ⟨q, ?_, h2'⟩
  rw [← h1']
  congr 1
  simp only [N3]
  have : k1 ≤ 1 := by omega
  have : k2 ≤ 1 := by omega
  have : x1 = 0 := by omega
  have : x2 = 0 := by omega
  omega
theorem end_val (l m h : Nat) (hl : l < 18446744073709551616) (hm : m < 18446744073709551616) (hh : h ≤ 5) (hN : N3 l m h < 2 * P130) : elo l m h + emi l m h * 18446744073709551616 = (N3 l m h % P130) % 340282366920938463463374607431768211456 := by
  have key : N3 l m h % P130 = if N3 l m h < P130 then N3 l m h else N3 l m h - P130 := by
    split
    · rename_i hc; exact Nat.mod_eq_of_lt hc
    · rename_i hc
      rw [Nat.mod_eq_sub_mod (Nat.le_of_not_lt hc), Nat.mod_eq_of_lt (by omega)]
  rw [key]
  have e0 : eb0 l = if l < 18446744073709551611 then 1 else 0 := rfl
  have e1 : eb1 l m = if m < 18446744073709551615 + eb0 l then 1 else 0 := rfl
  have e2 : eb2 l m h = if N3 l m h < P130 then 1 else 0 := by
    have this : eb2 l m h = if h < 3 + eb1 l m then 1 else 0 := rfl
    clear key hN
    by_cases h0 : l < 18446744073709551611
    · rw [if_pos h0] at e0
      rw [e0] at e1
      by_cases h1 : m < 18446744073709551615 + 1
      · rw [if_pos h1] at e1
        rw [this, e1]
        by_cases h2 : h < 3 + 1
        · rw [if_pos h2, if_pos (by simp only [N3, P130]; omega)]
        · rw [if_neg h2, if_neg (by simp only [N3, P130]; omega)]
      · omega
    · rw [if_neg h0] at e0
      rw [e0] at e1
      by_cases h1 : m < 18446744073709551615 + 0
      · rw [if_pos h1] at e1
        rw [this, e1]
        by_cases h2 : h < 3 + 1
        · rw [if_pos h2, if_pos (by simp only [N3, P130]; omega)]
        · rw [if_neg h2, if_neg (by simp only [N3, P130]; omega)]
      · rw [if_neg h1] at e1
        rw [this, e1]
        by_cases h2 : h < 3 + 0
        · rw [if_pos h2, if_pos (by simp only [N3, P130]; omega)]
        · rw [if_neg h2, if_neg (by simp only [N3, P130]; omega)]
  unfold elo emi
  rw [e2]
  by_cases hc : N3 l m h < P130
  · simp only [if_pos hc, if_true]
    simp only [N3]
    omega
  · simp only [if_neg hc]
    rw [if_neg (by decide), if_neg (by decide), e0]
    clear key e0 e1 e2
    simp only [N3, P130] at hc hN ⊢
    by_cases h0 : l < 18446744073709551611
    · rw [if_pos h0]; omega
    · rw [if_neg h0]; omega
/-- 'and' byte by byte. -/
theorem and_split (k a c x m : Nat) (ha : a < 2 ^ k) (hc : c < 2 ^ k) : (a + 2 ^ k * x) &&& (c + 2 ^ k * m) = (a &&& c) + 2 ^ k * (x &&& m) := by
  have hac : a &&& c < 2 ^ k := Nat.lt_of_le_of_lt Nat.and_le_left ha
  apply Nat.eq_of_testBit_eq
  intro i
  rw [Nat.testBit_and, Nat.add_comm a, Nat.add_comm c, Nat.add_comm (a &&& c), Nat.testBit_two_pow_mul_add _ ha, Nat.testBit_two_pow_mul_add _ hc, Nat.testBit_two_pow_mul_add _ hac]
  split <;> simp [Nat.testBit_and]
theorem and255 (a : Nat) (h : a < 256) : a &&& 255 = a := by
  have := Nat.and_two_pow_sub_one_eq_mod a 8
  rw [show (2 ^ 8 - 1 : Nat) = 255 by decide] at this
  rw [this]; exact Nat.mod_eq_of_lt (by omega)
theorem and15 (a : Nat) : a &&& 15 = a % 16 := Nat.and_two_pow_sub_one_eq_mod a 4
theorem and252 (a : Nat) (h : a < 256) : a &&& 252 = a / 4 * 4 := by
  have h1 : a = a % 4 + 2 ^ 2 * (a / 4) := by omega
  have h2 : (252 : Nat) = 0 + 2 ^ 2 * 63 := by decide
  have h3 : a / 4 &&& 63 = a / 4 := by
    have := Nat.and_two_pow_sub_one_eq_mod (a / 4) 6
    rw [show (2 ^ 6 - 1 : Nat) = 63 by decide] at this
    rw [this]; exact Nat.mod_eq_of_lt (by omega)
  rw [h2]
  conv => lhs; rw [h1]
  rw [and_split 2 _ _ _ _ (by omega) (by omega), h3]
  simp; omega
def L8 (b : Nat → Nat) : Nat := b 0 + 256 * (b 1 + 256 * (b 2 + 256 * (b 3 + 256 * (b 4 + 256 * (b 5 + 256 * (b 6 + 256 * b 7))))))
theorem clampL (b : Nat → Nat) (h : ∀ i, b i < 256) : L8 b &&& 1152921487695413247 = b 0 + 256 * (b 1 + 256 * (b 2 + 256 * (b 3 % 16 + 256 * (b 4 / 4 * 4 + 256 * (b 5 + 256 * (b 6 + 256 * (b 7 % 16))))))) := by
  have e : (1152921487695413247 : Nat) = 255 + 2 ^ 8 * (255 + 2 ^ 8 * (255 + 2 ^ 8 * (15 + 2 ^ 8 * (252 + 2 ^ 8 * (255 + 2 ^ 8 * (255 + 2 ^ 8 * 15)))))) := by decide
  have g := fun i => h i
  have e8 : (256 : Nat) = 2 ^ 8 := by decide
  unfold L8
  simp only [e8] at g ⊢
  rw [e]
  rw [and_split 8 _ _ _ _ (g 0) (by decide), and_split 8 _ _ _ _ (g 1) (by decide), and_split 8 _ _ _ _ (g 2) (by decide), and_split 8 _ _ _ _ (g 3) (by decide), and_split 8 _ _ _ _ (g 4) (by decide), and_split 8 _ _ _ _ (g 5) (by decide), and_split 8 _ _ _ _ (g 6) (by decide)]
  rw [and255 _ (h 0), and255 _ (h 1), and255 _ (h 2), and15, and252 _ (h 4), and255 _ (h 5), and255 _ (h 6), and15]
theorem clampH (b : Nat → Nat) (h : ∀ i, b i < 256) : L8 b &&& 1152921487695413244 = b 0 / 4 * 4 + 256 * (b 1 + 256 * (b 2 + 256 * (b 3 % 16 + 256 * (b 4 / 4 * 4 + 256 * (b 5 + 256 * (b 6 + 256 * (b 7 % 16))))))) := by
  have e : (1152921487695413244 : Nat) = 252 + 2 ^ 8 * (255 + 2 ^ 8 * (255 + 2 ^ 8 * (15 + 2 ^ 8 * (252 + 2 ^ 8 * (255 + 2 ^ 8 * (255 + 2 ^ 8 * 15)))))) := by decide
  have g := fun i => h i
  have e8 : (256 : Nat) = 2 ^ 8 := by decide
  unfold L8
  simp only [e8] at g ⊢
  rw [e]
  rw [and_split 8 _ _ _ _ (g 0) (by decide), and_split 8 _ _ _ _ (g 1) (by decide), and_split 8 _ _ _ _ (g 2) (by decide), and_split 8 _ _ _ _ (g 3) (by decide), and_split 8 _ _ _ _ (g 4) (by decide), and_split 8 _ _ _ _ (g 5) (by decide), and_split 8 _ _ _ _ (g 6) (by decide)]
  rw [and252 _ (h 0), and255 _ (h 1), and255 _ (h 2), and15, and252 _ (h 4), and255 _ (h 5), and255 _ (h 6), and15]
/-- A list of bytes as a number, the least first. -/
def vl : List Nat → Nat
  | [] => 0
  | a :: l => a + 256 * vl l
theorem vl_append (l m : List Nat) : vl (l ++ m) = vl l + 256 ^ l.length * vl m := by
  induction l with
  | nil => simp [vl]
  | cons a l ih =>
    simp only [List.cons_append, vl, ih, List.length_cons, Nat.pow_succ, Nat.mul_add]
    rw [Nat.add_assoc, ← Nat.mul_assoc 256, Nat.mul_comm 256 (256 ^ l.length)]
theorem vl_lt : ∀ (l : List Nat), (∀ x ∈ l, x < 256) → vl l < 256 ^ l.length
  | [], _ => by simp [vl]
  | a :: l, h => by
    have := vl_lt l (fun x hx => h x (by simp [hx]))
    have := h a (by simp)
    simp only [vl, List.length_cons, Nat.pow_succ]; omega
theorem vl_zeros (n : Nat) : vl (List.replicate n 0) = 0 := by
  induction n with
  | zero => rfl
  | succ n ih => simp [List.replicate_succ, vl, ih]
/-- The digit at a place. -/
theorem vl_digit : ∀ (l : List Nat), (∀ x ∈ l, x < 256) → ∀ i, l.getD i 0 = vl l / 256 ^ i % 256
  | [], _, i => by simp [vl]
  | a :: l, h, 0 => by have := h a (by simp); simp [vl]; omega
  | a :: l, h, i + 1 => by
    have := h a (by simp)
    have e : vl (a :: l) / 256 ^ (i + 1) = vl l / 256 ^ i := by
      rw [Nat.pow_succ, Nat.mul_comm (256 ^ i), ← Nat.div_div_eq_div_mul]
      congr 1
      simp only [vl]; omega
    rw [e, List.getD_cons_succ]
    exact vl_digit l (fun x hx => h x (by simp [hx])) i
/-- One digit otherwise. -/
theorem vl_set : ∀ (l : List Nat) (i : Nat) (x : Nat), i < l.length → vl (l.set i x) + 256 ^ i * l.getD i 0 = vl l + 256 ^ i * x
  | [], i, x, h => by simp at h
  | a :: l, 0, x, _ => by simp [vl]; omega
  | a :: l, i + 1, x, h => by
    have ih := vl_set l i x (by simpa using h)
    simp only [List.set_cons_succ, vl, List.getD_cons_succ, Nat.pow_succ]
    have e1 : 256 ^ i * 256 * l.getD i 0 = 256 * (256 ^ i * l.getD i 0) := by rw [Nat.mul_comm (256 ^ i) 256, Nat.mul_assoc]
    have e2 : 256 ^ i * 256 * x = 256 * (256 ^ i * x) := by rw [Nat.mul_comm (256 ^ i) 256, Nat.mul_assoc]
    rw [e1, e2]; omega
theorem vl_snoc (l : List Nat) (x : Nat) : vl (l ++ [x]) = vl l + 256 ^ l.length * x := by rw [vl_append]; simp [vl]
theorem vl_take_succ (l : List Nat) (i : Nat) (h : i < l.length) : vl (l.take (i + 1)) = vl (l.take i) + 256 ^ i * l.getD i 0 := by
  have e : l.take (i + 1) = l.take i ++ [l.getD i 0] := by
    rw [List.take_add_one, List.getD_eq_getElem?_getD, List.getElem?_eq_getElem h]; rfl
  rw [e, vl_snoc, List.length_take, Nat.min_eq_left (by omega)]
/-- The blocks of a text, as numbers: each with a 1 behind it. -/
def blkV (xs : List Nat) (j : Nat) : Nat := vl ((xs.drop (16 * j)).take 16) + 256 ^ ((xs.drop (16 * j)).take 16).length
def accV (R : Nat) (xs : List Nat) : Nat → Nat
  | 0 => 0
  | j + 1 => (accV R xs j + blkV xs j) * R % P130
theorem accV_lt (R : Nat) (xs : List Nat) (j : Nat) : accV R xs j < P130 := by
  cases j with
  | zero => simp [accV, P130]
  | succ j => exact Nat.mod_lt _ (by decide)
/-- A state that stands for a number: its value by the modulus. -/
structure StV (s : Nat × Nat × Nat) (v : Nat) : Prop where
  l : s.1 < 18446744073709551616
  m : s.2.1 < 18446744073709551616
  h : s.2.2 ≤ 5
  v : N3 s.1 s.2.1 s.2.2 % P130 = v
theorem StV.zero : StV (0, 0, 0) 0 := ⟨by decide, by decide, by decide, by decide⟩
theorem StV.next {s s' : Nat × Nat × Nat} {v bh rl rh W0 W1 b R : Nat} (hs : StV s v) (hbh : bh ≤ 1) (t : KR bh s.1 s.2.1 s.2.2 rl rh W0 W1 s'.1 s'.2.1 s'.2.2) (hlt : s'.1 < 18446744073709551616 ∧ s'.2.1 < 18446744073709551616 ∧ s'.2.2 < 18446744073709551616) (hW0 : W0 < 18446744073709551616) (hW1 : W1 < 18446744073709551616) (hb : N3 W0 W1 bh = b) (hrl : rl < 1152921504606846976) (hrh : rh < 1152921504606846976) (hR : rl + rh * 18446744073709551616 = R) : StV s' ((v + b) * R % P130) := by
  obtain ⟨q, h1, h2⟩ := t.val hbh hs.l hs.m hs.h hW0 hW1 hrl hrh
  refine ⟨hlt.1, hlt.2.1, h2, ?_⟩
  subst hb; subst hR
  have h3 : N3 s'.1 s'.2.1 s'.2.2 % P130 = (N3 s.1 s.2.1 s.2.2 + N3 W0 W1 bh) * (rl + rh * 18446744073709551616) % P130 := by rw [h1]; exact (Nat.add_mul_mod_self_left _ _ _).symm
  rw [h3, ← hs.v]
  generalize N3 s.1 s.2.1 s.2.2 = N
  generalize N3 W0 W1 bh = b
  generalize rl + rh * 18446744073709551616 = R
  have e1 : (N + b) % P130 = (N % P130 + b) % P130 := by rw [Nat.mod_add_mod]
  rw [Nat.mul_mod, e1, ← Nat.mul_mod]
theorem StV.done {s : Nat × Nat × Nat} {v : Nat} (hs : StV s v) : elo s.1 s.2.1 s.2.2 + emi s.1 s.2.1 s.2.2 * 18446744073709551616 = v % 340282366920938463463374607431768211456 := by
  rw [← hs.v]
  have := hs.l; have := hs.m; have := hs.h
  exact end_val _ _ _ hs.l hs.m hs.h (by simp only [N3, P130]; omega)
theorem vl_take (l : List Nat) (i : Nat) : vl (l.take (i + 1)) = vl (l.take i) + 256 ^ i * l.getD i 0 := by
  by_cases h : i < l.length
  · exact vl_take_succ l i h
  · rw [List.take_of_length_le (by omega), List.take_of_length_le (by omega), List.getD_eq_getElem?_getD, List.getElem?_eq_none (by omega)]; simp
end Go.Proofs.Ytbkdopmnaopppaa
