/- SHA-256 as numbers: words, plan, rounds, streams. No program in sight. -/
import Derived.Test.YtaeiknpiofnmeaaDoorSs11
namespace Go.Proofs.YtaeiknpiofnmeaaDoor
open Go Go.RowKit
set_option linter.unusedVariables false
set_option linter.unusedSimpArgs false
/-! ### words of 32 bits -/
def rr (n x : Nat) : Nat := x / 2 ^ n + x % 2 ^ n * 2 ^ (32 - n)
theorem rr_0 (x : Nat) : rr 0 x = x := by simp [rr, Nat.mod_one]
theorem rr_lt {n x : Nat} (hn : n ≤ 32) (hx : x < 4294967296) : rr n x < 4294967296 := by
  unfold rr
  have h1 : x / 2 ^ n < 2 ^ (32 - n) := by
    rw [Nat.div_lt_iff_lt_mul (Nat.two_pow_pos n), ← Nat.pow_add, Nat.sub_add_cancel hn]; exact hx
  have h2 : x % 2 ^ n + 1 ≤ 2 ^ n := Nat.mod_lt _ (Nat.two_pow_pos n)
  have h3 : (x % 2 ^ n + 1) * 2 ^ (32 - n) ≤ 2 ^ n * 2 ^ (32 - n) := Nat.mul_le_mul_right _ h2
  rw [← Nat.pow_add, Nat.add_sub_cancel' hn, Nat.succ_mul] at h3
  have : (2 : Nat) ^ 32 = 4294967296 := by decide
  omega
theorem rr_succ {n x : Nat} (hn : n < 32) : rr n x / 2 + rr n x % 2 * 2147483648 = rr (n + 1) x := by
  unfold rr
  have e1 : x % 2 ^ (n + 1) = x % 2 ^ n + 2 ^ n * (x / 2 ^ n % 2) := Nat.mod_pow_succ
  have e2 : x / 2 ^ (n + 1) = x / 2 ^ n / 2 := by rw [Nat.pow_succ, Nat.div_div_eq_div_mul]
  have e3 : 32 - n = (32 - (n + 1)) + 1 := by omega
  have e4 : 2 ^ n * 2 ^ (32 - (n + 1)) = 2147483648 := by
    rw [← Nat.pow_add, show n + (32 - (n + 1)) = 31 by omega]
  rw [e1, e2, e3, Nat.pow_succ, Nat.add_mul]
  rw [show 2 ^ n * (x / 2 ^ n % 2) * 2 ^ (32 - (n + 1)) = x / 2 ^ n % 2 * (2 ^ n * 2 ^ (32 - (n + 1))) by rw [Nat.mul_comm (2 ^ n), Nat.mul_assoc], e4, ← Nat.mul_assoc]
  generalize x / 2 ^ n = A
  generalize x % 2 ^ n * 2 ^ (32 - (n + 1)) = B
  omega
/-- A rotation as two shifts. -/
theorem rr_or {n x : Nat} (hn : n ≤ 32) (hx : x < 4294967296) : (x * 2 ^ (32 - n) % 4294967296 ||| x / 2 ^ n) = rr n x := by
  have h1 : x / 2 ^ n < 2 ^ (32 - n) := by
    rw [Nat.div_lt_iff_lt_mul (Nat.two_pow_pos n), ← Nat.pow_add, Nat.sub_add_cancel hn]; exact hx
  have e : x * 2 ^ (32 - n) % 4294967296 = 2 ^ (32 - n) * (x % 2 ^ n) := by
    have e2 : (4294967296 : Nat) = 2 ^ (32 - n) * 2 ^ n := by rw [← Nat.pow_add, Nat.sub_add_cancel hn]
    rw [e2, Nat.mul_comm x, Nat.mul_mod_mul_left]
  rw [e, ← Nat.two_pow_add_eq_or_of_lt h1]
  unfold rr
  rw [Nat.mul_comm, Nat.add_comm]
theorem xor_lt {a b : Nat} (ha : a < 4294967296) (hb : b < 4294967296) : a ^^^ b < 4294967296 := Nat.xor_lt_two_pow (n := 32) ha hb
theorem and_lt {a b : Nat} (ha : a < 4294967296) : a &&& b < 4294967296 := Nat.lt_of_le_of_lt Nat.and_le_left ha
theorem or_lt {a b : Nat} (ha : a < 4294967296) (hb : b < 4294967296) : a ||| b < 4294967296 := Nat.or_lt_two_pow (n := 32) ha hb
def sg0 (x : Nat) : Nat := rr 7 x ^^^ rr 18 x ^^^ x / 8
def sg1 (x : Nat) : Nat := rr 17 x ^^^ rr 19 x ^^^ x / 1024
def Sg1 (e : Nat) : Nat := rr 6 e ^^^ rr 11 e ^^^ rr 25 e
def Sg0 (a : Nat) : Nat := rr 2 a ^^^ rr 13 a ^^^ rr 22 a
def chF (e f g : Nat) : Nat := g ^^^ (e &&& (f ^^^ g))
def maF (a b c : Nat) : Nat := (a &&& b) ||| (c &&& (a ||| b))
theorem ch_alt {e f g : Nat} (he : e < 4294967296) (hg : g < 4294967296) : (e &&& f) ^^^ ((4294967295 - e) &&& g) = chF e f g := by
  unfold chF
  apply Nat.eq_of_testBit_eq
  intro i
  have h1 : (4294967295 - e).testBit i = (decide (i < 32) && !e.testBit i) := by
    have := Nat.testBit_two_pow_sub_succ (x := e) (n := 32) he i
    rwa [show 2 ^ 32 - (e + 1) = 4294967295 - e by omega] at this
  simp only [Nat.testBit_xor, Nat.testBit_and, h1]
  by_cases hi : i < 32
  · cases e.testBit i <;> cases f.testBit i <;> cases g.testBit i <;> simp [hi]
  · have hge : g.testBit i = false := Nat.testBit_lt_two_pow (Nat.lt_of_lt_of_le hg (by
      have : (2:Nat) ^ 32 ≤ 2 ^ i := Nat.pow_le_pow_right (by omega) (by omega)
      exact this))
    have hee : e.testBit i = false := Nat.testBit_lt_two_pow (Nat.lt_of_lt_of_le he (by
      have : (2:Nat) ^ 32 ≤ 2 ^ i := Nat.pow_le_pow_right (by omega) (by omega)
      exact this))
    simp [hge, hee]
theorem ma_alt (a b c : Nat) : (a &&& b) ^^^ (a &&& c) ^^^ (b &&& c) = maF a b c := by
  unfold maF
  apply Nat.eq_of_testBit_eq
  intro i
  simp only [Nat.testBit_xor, Nat.testBit_and, Nat.testBit_or]
  cases a.testBit i <;> cases b.testBit i <;> cases c.testBit i <;> rfl
theorem sg0_lt {x : Nat} (h : x < 4294967296) : sg0 x < 4294967296 := xor_lt (xor_lt (rr_lt (by omega) h) (rr_lt (by omega) h)) (by omega)
theorem sg1_lt {x : Nat} (h : x < 4294967296) : sg1 x < 4294967296 := xor_lt (xor_lt (rr_lt (by omega) h) (rr_lt (by omega) h)) (by omega)
theorem Sg0_lt {x : Nat} (h : x < 4294967296) : Sg0 x < 4294967296 := xor_lt (xor_lt (rr_lt (by omega) h) (rr_lt (by omega) h)) (rr_lt (by omega) h)
theorem Sg1_lt {x : Nat} (h : x < 4294967296) : Sg1 x < 4294967296 := xor_lt (xor_lt (rr_lt (by omega) h) (rr_lt (by omega) h)) (rr_lt (by omega) h)
theorem ch_lt {e f g : Nat} (he : e < 4294967296) (hf : f < 4294967296) (hg : g < 4294967296) : chF e f g < 4294967296 := xor_lt hg (and_lt he)
theorem ma_lt {a b c : Nat} (ha : a < 4294967296) (hb : b < 4294967296) (hc : c < 4294967296) : maF a b c < 4294967296 := or_lt (and_lt ha) (and_lt hc)
/-! ### the plan -/
def wS (B : Nat → Nat) (i : Nat) : Nat :=
  if h : i < 16 then B i else (wS B (i - 16) + sg0 (wS B (i - 15)) + wS B (i - 7) + sg1 (wS B (i - 2))) % 4294967296
termination_by i
decreasing_by all_goals omega
theorem wS_lo (B : Nat → Nat) {i : Nat} (h : i < 16) : wS B i = B i := by rw [wS, dif_pos h]
theorem wS_hi (B : Nat → Nat) {i : Nat} (h : 16 ≤ i) : wS B i = (wS B (i - 16) + sg0 (wS B (i - 15)) + wS B (i - 7) + sg1 (wS B (i - 2))) % 4294967296 := by rw [wS, dif_neg (by omega)]
theorem wS_lt {B : Nat → Nat} (hB : ∀ i, i < 16 → B i < 4294967296) (i : Nat) : wS B i < 4294967296 := by
  by_cases h : i < 16
  · rw [wS_lo B h]; exact hB i h
  · rw [wS_hi B (by omega)]; omega
/-! ### the rounds -/
structure H8 where
  a : Nat
  b : Nat
  c : Nat
  d : Nat
  e : Nat
  f : Nat
  g : Nat
  h : Nat
structure H8.Ok (s : H8) : Prop where
  a : s.a < 4294967296
  b : s.b < 4294967296
  c : s.c < 4294967296
  d : s.d < 4294967296
  e : s.e < 4294967296
  f : s.f < 4294967296
  g : s.g < 4294967296
  h : s.h < 4294967296
def tF (s : H8) (k w : Nat) : Nat := (s.h + Sg1 s.e + chF s.e s.f s.g + k + w) % 4294967296
def uF (s : H8) : Nat := (Sg0 s.a + maF s.a s.b s.c) % 4294967296
def stp (s : H8) (k w : Nat) : H8 := ⟨(tF s k w + uF s) % 4294967296, s.a, s.b, s.c, (s.d + tF s k w) % 4294967296, s.e, s.f, s.g⟩
theorem stp_ok {s : H8} (h : s.Ok) (k w : Nat) : (stp s k w).Ok := ⟨Nat.mod_lt _ (by decide), h.a, h.b, h.c, Nat.mod_lt _ (by decide), h.e, h.f, h.g⟩
def rndS (K W : Nat → Nat) (s : H8) : Nat → H8
  | 0 => s
  | i + 1 => stp (rndS K W s i) (K i) (W i)
theorem rndS_ok {K W : Nat → Nat} {s : H8} (h : s.Ok) : ∀ i, (rndS K W s i).Ok
  | 0 => h
  | i + 1 => stp_ok (rndS_ok h i) _ _
def add8 (s t : H8) : H8 := ⟨(s.a + t.a) % 4294967296, (s.b + t.b) % 4294967296, (s.c + t.c) % 4294967296, (s.d + t.d) % 4294967296, (s.e + t.e) % 4294967296, (s.f + t.f) % 4294967296, (s.g + t.g) % 4294967296, (s.h + t.h) % 4294967296⟩
theorem add8_ok (s t : H8) : (add8 s t).Ok := ⟨Nat.mod_lt _ (by decide), Nat.mod_lt _ (by decide), Nat.mod_lt _ (by decide), Nat.mod_lt _ (by decide), Nat.mod_lt _ (by decide), Nat.mod_lt _ (by decide), Nat.mod_lt _ (by decide), Nat.mod_lt _ (by decide)⟩
/-- One block worked in. -/
def cmp (K : Nat → Nat) (s : H8) (B : Nat → Nat) : H8 := add8 s (rndS K (wS B) s 64)
/-! ### a stream of bytes -/
def byN (X : List Int) (i : Nat) : Nat := (X.getD i 0).toNat
/-- The i-th word of four bytes from the byte o on. -/
def w4 (X : List Int) (o i : Nat) : Nat := byN X (o + 4 * i) * 16777216 + byN X (o + 4 * i + 1) * 65536 + byN X (o + 4 * i + 2) * 256 + byN X (o + 4 * i + 3)
def H0 : H8 := ⟨1779033703, 3144134277, 1013904242, 2773480762, 1359893119, 2600822924, 528734635, 1541459225⟩
theorem H0_ok : H0.Ok := ⟨by decide, by decide, by decide, by decide, by decide, by decide, by decide, by decide⟩
def HS (K : Nat → Nat) (X : List Int) : Nat → H8
  | 0 => H0
  | j + 1 => cmp K (HS K X j) (w4 X (64 * j))
theorem HS_ok (K : Nat → Nat) (X : List Int) : ∀ j, (HS K X j).Ok
  | 0 => H0_ok
  | j + 1 => add8_ok _ _
theorem byN_lt {X : List Int} (h : ∀ x ∈ X, 0 ≤ x ∧ x ≤ 255) (i : Nat) : byN X i < 256 := by
  unfold byN
  rw [List.getD_eq_getElem?_getD]
  cases hi : X[i]? with
  | none => simp
  | some x => have := h x (List.mem_of_getElem? hi); simp; omega
theorem w4_lt {X : List Int} (h : ∀ x ∈ X, 0 ≤ x ∧ x ≤ 255) (o i : Nat) : w4 X o i < 4294967296 := by
  unfold w4
  have := byN_lt h (o + 4 * i); have := byN_lt h (o + 4 * i + 1); have := byN_lt h (o + 4 * i + 2); have := byN_lt h (o + 4 * i + 3)
  omega
end Go.Proofs.YtaeiknpiofnmeaaDoor
