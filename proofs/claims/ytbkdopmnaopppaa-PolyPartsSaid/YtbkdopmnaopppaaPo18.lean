/- Poly: states and codes as numbers. -/
import Derived.Test.YtbkdopmnaopppaaPo17
import Derived.Test.YtbkdopmnaopppaaPo8
namespace Go.Proofs.Ytbkdopmnaopppaa
open Go Go.RowKit
set_option linter.unusedVariables false
set_option linter.unusedSimpArgs false
theorem nat_le {g : Nat → Int} (hg : ∀ i, 0 ≤ g i ∧ g i ≤ 255) (o : Nat) : le64 (g (o + 0)) (g (o + 1)) (g (o + 2)) (g (o + 3)) (g (o + 4)) (g (o + 5)) (g (o + 6)) (g (o + 7)) = ((L8 fun i => (g (o + i)).toNat : Nat) : Int) ∧ (L8 fun i => (g (o + i)).toNat) < 18446744073709551616 := by
  have h := fun i => hg (o + i)
  generalize hk : (fun i => g (o + i)) = k at *
  have hk2 : ∀ i, g (o + i) = k i := fun i => congrFun hk i
  simp only [hk2] at *
  have h0 := h 0
  have h0 := h 0
  have h1 := h 1
  have h2 := h 2
  have h3 := h 3
  have h4 := h 4
  have h5 := h 5
  have h6 := h 6
  have h7 := h 7
  unfold le64
  simp only [L8]
  omega
/-- A block's two words, as one number. -/
def wd0 (g : Nat → Int) : Nat := L8 fun i => (g i).toNat
def wd1 (g : Nat → Int) : Nat := L8 fun i => (g (8 + i)).toNat
theorem wd0_eq {g : Nat → Int} (hg : ∀ i, 0 ≤ g i ∧ g i ≤ 255) : le64 (g 0) (g 1) (g 2) (g 3) (g 4) (g 5) (g 6) (g 7) = (wd0 g : Int) ∧ wd0 g < 18446744073709551616 := by
  have h := nat_le hg 0
  simp only [Nat.zero_add] at h
  exact h
theorem wd1_eq {g : Nat → Int} (hg : ∀ i, 0 ≤ g i ∧ g i ≤ 255) : le64 (g 8) (g 9) (g 10) (g 11) (g 12) (g 13) (g 14) (g 15) = (wd1 g : Int) ∧ wd1 g < 18446744073709551616 := nat_le hg 8
theorem wd_vl (g : Nat → Int) (bh : Nat) : N3 (wd0 g) (wd1 g) bh = vl ((List.range 16).map fun i => (g i).toNat) + bh * 340282366920938463463374607431768211456 := by
  have e : ((List.range 16).map fun i => (g i).toNat) = [(g 0).toNat, (g 1).toNat, (g 2).toNat, (g 3).toNat, (g 4).toNat, (g 5).toNat, (g 6).toNat, (g 7).toNat, (g 8).toNat, (g 9).toNat, (g 10).toNat, (g 11).toNat, (g 12).toNat, (g 13).toNat, (g 14).toNat, (g 15).toNat] := rfl
  rw [e]
  simp only [vl, N3, wd0, wd1, L8, Nat.reduceAdd]
  omega
theorem take_fq (xs : List Int) (j r : Nat) (h : 16 * j + r ≤ xs.length) : ((xs.map Int.toNat).drop (16 * j)).take r = (List.range r).map fun i => (fq xs j i).toNat := by
  apply List.ext_getElem
  · simp; omega
  · intro i h1 h2
    have hi : i < r := by simpa using h2
    simp only [List.getElem_take, List.getElem_drop, List.getElem_map, List.getElem_range]
    unfold fq
    rw [List.getD_eq_getElem?_getD, List.getElem?_eq_getElem (by omega), Option.getD_some]
theorem blk_full (xs : List Int) (j : Nat) (h : 16 * j + 16 ≤ xs.length) : N3 (wd0 (fq xs j)) (wd1 (fq xs j)) 1 = blkV (xs.map Int.toNat) j := by
  rw [wd_vl]
  unfold blkV
  rw [take_fq xs j 16 h]
  simp only [List.length_map, List.length_range, Nat.one_mul]
theorem blk_tail (xs : List Int) (j r : Nat) (h : 16 * j + r = xs.length) (hr : r < 16) : N3 (wd0 (shF (fq xs j) r)) (wd1 (shF (fq xs j) r)) 0 = blkV (xs.map Int.toNat) j := by
  rw [wd_vl]
  unfold blkV
  have e0 : ((xs.map Int.toNat).drop (16 * j)).take 16 = ((xs.map Int.toNat).drop (16 * j)).take r := by
    rw [List.take_of_length_le (by simp; omega), List.take_of_length_le (by simp; omega)]
  rw [e0, take_fq xs j r (by omega)]
  have e : ((List.range 16).map fun i => (shF (fq xs j) r i).toNat) = (List.range r).map (fun i => (fq xs j i).toNat) ++ [1] ++ List.replicate (15 - r) 0 := by
    apply List.ext_getElem
    · simp; omega
    · intro i h1 h2
      have hi : i < 16 := by simpa using h1
      simp only [List.getElem_map, List.getElem_range]
      unfold shF
      by_cases h3 : i < r
      · rw [if_pos h3, List.getElem_append_left (by simp; omega), List.getElem_append_left (by simpa using h3)]; simp
      · rw [if_neg h3]
        by_cases h4 : i = r
        · subst h4; rw [if_pos rfl, List.getElem_append_left (by simp), List.getElem_append_right (by simp)]; simp
        · rw [if_neg h4, List.getElem_append_right (by simp; omega)]; simp
  rw [e, vl_append, vl_append, vl_zeros]
  simp [vl]
/-- r, as two words. -/
theorem r_key (kb : Nat → Int) (hk : ∀ i, 0 ≤ kb i ∧ kb i ≤ 255) : ∃ rl rh : Nat, rL kb = (rl : Int) ∧ rH kb = (rh : Int) ∧ rl < 1152921504606846976 ∧ rh < 1152921504606846976 ∧ rl + rh * 18446744073709551616 = vl (rcl kb) := by
  have a0 := wd0_eq hk
  have a1 := wd1_eq hk
  have h := fun i => (show (kb i).toNat < 256 by have := hk i; omega)
  refine ⟨wd0 kb &&& 1152921487695413247, wd1 kb &&& 1152921487695413244, ?_, ?_, ?_⟩
  · unfold rL
    rw [a0.1, show (1152921487695413247 : Int) = ((1152921487695413247 : Nat) : Int) from rfl, u64_and_nat _ _ a0.2 (by omega)]
  · unfold rH
    rw [a1.1, show (1152921487695413244 : Int) = ((1152921487695413244 : Nat) : Int) from rfl, u64_and_nat _ _ a1.2 (by omega)]
  · have c0 := clampL (fun i => (kb i).toNat) (fun i => h i)
    have c1 := clampH (fun i => (kb (8 + i)).toNat) (fun i => h _)
    rw [show wd0 kb = L8 fun i => (kb i).toNat from rfl, show wd1 kb = L8 fun i => (kb (8 + i)).toNat from rfl, c0, c1]
    simp only [Nat.reduceAdd, rcl, vl]
    have h0 := h 0
    have h1 := h 1
    have h2 := h 2
    have h3 := h 3
    have h4 := h 4
    have h5 := h 5
    have h6 := h 6
    have h7 := h 7
    have h8 := h 8
    have h9 := h 9
    have h10 := h 10
    have h11 := h 11
    have h12 := h 12
    have h13 := h 13
    have h14 := h 14
    have h15 := h 15
    generalize (kb 0).toNat = k0 at *
    generalize (kb 1).toNat = k1 at *
    generalize (kb 2).toNat = k2 at *
    generalize (kb 3).toNat = k3 at *
    generalize (kb 4).toNat = k4 at *
    generalize (kb 5).toNat = k5 at *
    generalize (kb 6).toNat = k6 at *
    generalize (kb 7).toNat = k7 at *
    generalize (kb 8).toNat = k8 at *
    generalize (kb 9).toNat = k9 at *
    generalize (kb 10).toNat = k10 at *
    generalize (kb 11).toNat = k11 at *
    generalize (kb 12).toNat = k12 at *
    generalize (kb 13).toNat = k13 at *
    generalize (kb 14).toNat = k14 at *
    generalize (kb 15).toNat = k15 at *
    clear c0 c1 h a0 a1 hk
    omega
theorem byL (V i : Nat) (h : i < 8) : byt64 ((V % 18446744073709551616 : Nat) : Int) i = ((V / 256 ^ i % 256 : Nat) : Int) := by
  unfold byt64
  have e : (2 : Int) ^ (8 * i) = ((256 ^ i : Nat) : Int) := by rw [Int.natCast_pow, Int.pow_mul]; rfl
  rw [e, ← Int.natCast_ediv, show (256 : Int) = ((256 : Nat) : Int) from rfl, ← Int.natCast_emod]
  congr 1
  have e2 : 18446744073709551616 = 256 ^ i * 256 ^ (8 - i) := by
    rw [← Nat.pow_add, show i + (8 - i) = 8 by omega]
  rw [e2, Nat.mod_mul_right_div_self, Nat.mod_mod_of_dvd]
  exact ⟨256 ^ (7 - i), by rw [Nat.mul_comm, ← Nat.pow_succ]; congr 1; omega⟩
theorem byH (V i : Nat) : V / 18446744073709551616 / 256 ^ i = V / 256 ^ (8 + i) := by
  rw [Nat.div_div_eq_div_mul, Nat.pow_add]
theorem key_hi (kb : Nat → Int) : vl (((List.range 16).map fun i => kb (16 + i)).map Int.toNat) = L8 (fun i => (kb (16 + i)).toNat) + L8 (fun i => (kb (24 + i)).toNat) * 18446744073709551616 := by
  rw [List.map_map, show (Int.toNat ∘ fun i => kb (16 + i)) = fun i => ((fun i => kb (16 + i)) i).toNat from rfl]
  have h := wd_vl (fun i => kb (16 + i)) 0
  rw [Nat.zero_mul, Nat.add_zero] at h
  rw [← h]
  have h0 : wd0 (fun i => kb (16 + i)) = L8 (fun i => (kb (16 + i)).toNat) := rfl
  have h1 : wd1 (fun i => kb (16 + i)) = L8 (fun i => (kb (24 + i)).toNat) := by
    unfold wd1
    congr 1
    funext i
    show (kb (16 + (8 + i))).toNat = _
    rw [show 16 + (8 + i) = 24 + i by omega]
  rw [h0, h1]
  unfold N3
  rw [Nat.zero_mul, Nat.add_zero]
theorem cLo_eq {S0 lo mi v S1 : Nat} {c : Int} (hc : c = (S0 : Int)) (hd : lo + mi * 18446744073709551616 = v % 340282366920938463463374607431768211456) (hl : lo < 18446744073709551616) : ((lo : Int) + c + 0) % 18446744073709551616 = (((v + (S0 + S1 * 18446744073709551616)) % 18446744073709551616 : Nat) : Int) := by
  subst hc
  omega
theorem cHi_eq {S0 lo mi v S1 : Nat} {c e : Int} (hc : c = (S0 : Int)) (he : e = (S1 : Int)) (hd : lo + mi * 18446744073709551616 = v % 340282366920938463463374607431768211456) (hl : lo < 18446744073709551616) (hm : mi < 18446744073709551616) : ((mi : Int) + e + ((lo : Int) + c + 0) / 18446744073709551616) % 18446744073709551616 = (((v + (S0 + S1 * 18446744073709551616)) / 18446744073709551616 % 18446744073709551616 : Nat) : Int) := by
  subst hc
  subst he
  omega
theorem codeA_V (V : Nat) : codeA ((V % 18446744073709551616 : Nat) : Int) ((V / 18446744073709551616 % 18446744073709551616 : Nat) : Int) = #[.int .u8 ((V / 256 ^ 0 % 256 : Nat) : Int), .int .u8 ((V / 256 ^ 1 % 256 : Nat) : Int), .int .u8 ((V / 256 ^ 2 % 256 : Nat) : Int), .int .u8 ((V / 256 ^ 3 % 256 : Nat) : Int), .int .u8 ((V / 256 ^ 4 % 256 : Nat) : Int), .int .u8 ((V / 256 ^ 5 % 256 : Nat) : Int), .int .u8 ((V / 256 ^ 6 % 256 : Nat) : Int), .int .u8 ((V / 256 ^ 7 % 256 : Nat) : Int), .int .u8 ((V / 256 ^ 8 % 256 : Nat) : Int), .int .u8 ((V / 256 ^ 9 % 256 : Nat) : Int), .int .u8 ((V / 256 ^ 10 % 256 : Nat) : Int), .int .u8 ((V / 256 ^ 11 % 256 : Nat) : Int), .int .u8 ((V / 256 ^ 12 % 256 : Nat) : Int), .int .u8 ((V / 256 ^ 13 % 256 : Nat) : Int), .int .u8 ((V / 256 ^ 14 % 256 : Nat) : Int), .int .u8 ((V / 256 ^ 15 % 256 : Nat) : Int)] := by
  have q0 := byL V 0 (by omega)
  have q1 := byL V 1 (by omega)
  have q2 := byL V 2 (by omega)
  have q3 := byL V 3 (by omega)
  have q4 := byL V 4 (by omega)
  have q5 := byL V 5 (by omega)
  have q6 := byL V 6 (by omega)
  have q7 := byL V 7 (by omega)
  have p0 := byL (V / 18446744073709551616) 0 (by omega)
  have p1 := byL (V / 18446744073709551616) 1 (by omega)
  have p2 := byL (V / 18446744073709551616) 2 (by omega)
  have p3 := byL (V / 18446744073709551616) 3 (by omega)
  have p4 := byL (V / 18446744073709551616) 4 (by omega)
  have p5 := byL (V / 18446744073709551616) 5 (by omega)
  have p6 := byL (V / 18446744073709551616) 6 (by omega)
  have p7 := byL (V / 18446744073709551616) 7 (by omega)
  simp only [byH, Nat.reduceAdd] at p0 p1 p2 p3 p4 p5 p6 p7
  unfold codeA
  rw [q0, q1, q2, q3, q4, q5, q6, q7, p0, p1, p2, p3, p4, p5, p6, p7]
theorem codeB_V (V : Nat) : (codeB V 16).toArray = #[.int .u8 ((V / 256 ^ 0 % 256 : Nat) : Int), .int .u8 ((V / 256 ^ 1 % 256 : Nat) : Int), .int .u8 ((V / 256 ^ 2 % 256 : Nat) : Int), .int .u8 ((V / 256 ^ 3 % 256 : Nat) : Int), .int .u8 ((V / 256 ^ 4 % 256 : Nat) : Int), .int .u8 ((V / 256 ^ 5 % 256 : Nat) : Int), .int .u8 ((V / 256 ^ 6 % 256 : Nat) : Int), .int .u8 ((V / 256 ^ 7 % 256 : Nat) : Int), .int .u8 ((V / 256 ^ 8 % 256 : Nat) : Int), .int .u8 ((V / 256 ^ 9 % 256 : Nat) : Int), .int .u8 ((V / 256 ^ 10 % 256 : Nat) : Int), .int .u8 ((V / 256 ^ 11 % 256 : Nat) : Int), .int .u8 ((V / 256 ^ 12 % 256 : Nat) : Int), .int .u8 ((V / 256 ^ 13 % 256 : Nat) : Int), .int .u8 ((V / 256 ^ 14 % 256 : Nat) : Int), .int .u8 ((V / 256 ^ 15 % 256 : Nat) : Int)] := by
  unfold codeB
  simp only [List.range, List.range.loop, List.map_cons, List.map_nil, Nat.reduceLT, if_true]
/-- What end answers. -/
theorem code_end (kb : Nat → Int) (hk : ∀ i, 0 ≤ kb i ∧ kb i ≤ 255) {s : Nat × Nat × Nat} {v : Nat} (hs : StV s v) : codeA (cLo (elo s.1 s.2.1 s.2.2) kb) (cHi (elo s.1 s.2.1 s.2.2) (emi s.1 s.2.1 s.2.2) kb) = (codeB (v + vl (((List.range 16).map fun i => kb (16 + i)).map Int.toNat)) 16).toArray := by
  have hd := hs.done
  have hl := elo_lt s.1 s.2.1 s.2.2 hs.l
  have hm := emi_lt s.1 s.2.1 s.2.2 hs.m
  generalize elo s.1 s.2.1 s.2.2 = lo at *
  generalize emi s.1 s.2.1 s.2.2 = mi at *
  have a2 := nat_le hk 16
  have a3 := nat_le hk 24
  simp only [Nat.reduceAdd] at a2 a3
  rw [key_hi, codeB_V]
  unfold cLo cHi
  rw [cLo_eq (S1 := L8 (fun i => (kb (24 + i)).toNat)) a2.1 hd hl, cHi_eq a2.1 a3.1 hd hl hm, codeA_V]
end Go.Proofs.Ytbkdopmnaopppaa
