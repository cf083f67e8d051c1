/- PadAlike. -/
import Derived.Test.YtmmaiohnfphcjaaPad3
namespace Go.Proofs.Ytmmaiohnfphcjaa
open Go Go.ChangeShapes Go.WideShapes Go.ChangeAt Go.RowKit

set_option maxRecDepth 100000 in
set_option maxHeartbeats 3200000 in
theorem alike_long (a1 a2 : Option Addr) (l1 c1 l2 c2 : Nat) (w : World) (hm1 : l1 ≤ maxLen) (hm2 : l2 ≤ maxLen) (h : 2047 < l1 ∨ 2047 < l2) :
    Calls Try.prog 5 #[.slice a1 l1 c1, .slice a2 l2 c2] w fun e w' => e = .returned (.bool true) ∧ Below w.heap.size w w' := by
  unfold maxLen at hm1 hm2
  by_cases h1 : 2047 < l1
  · have e1 : decide (2047 < l1) = true := by simpa using h1
    go_enter Try.func5, Try.ntmps5
    go_wp2_with (go_at_call 14; refine (awake06 _).mono ?_; rintro e w' ⟨rfl, rfl⟩)
    go_ret
    exact ⟨rfl, Below.refl _ _⟩
  · have h2 : 2047 < l2 := by omega
    have e1 : decide (2047 < l1) = false := by simpa using h1
    have e2 : decide (2047 < l2) = true := by simpa using h2
    go_enter Try.func5, Try.ntmps5
    go_wp2_with (go_at_call 14; refine (awake06 _).mono ?_; rintro e w' ⟨rfl, rfl⟩)
    go_ret
    exact ⟨rfl, Below.refl _ _⟩

set_option maxRecDepth 100000 in
set_option maxHeartbeats 3200000 in
theorem alike_short (xs ys : List Int) (a1 a2 : Option Addr) (c1 c2 : Nat) (w : World) (h1 : BS w a1 xs.length c1 xs) (h2 : BS w a2 ys.length c2 ys) (l1 : xs.length < 2048) (l2 : ys.length < 2048) :
    Calls Try.prog 5 #[.slice a1 xs.length c1, .slice a2 ys.length c2] w fun e w' => e = .returned (.bool true) ∧ Below w.heap.size w w' := by
  have e1 : decide (2047 < xs.length) = false := by simp; omega
  have e2 : decide (2047 < ys.length) = false := by simp; omega
  obtain ⟨b1, b1', b1''⟩ := bkN_eq l1
  obtain ⟨b2, b2', b2''⟩ := bkN_eq l2
  have z1 := be_ok l1
  have z2 := be_ok l2
  have i1 := isB_bk l1
  have s1 : ((strOfNums (padl xs)).toList == (strOfNums (padl ys)).toList) = (xs == ys) := by rw [strOfNums_beq (padl_rng h1.rng) (padl_rng h2.rng), padl_beq]
  have s2 : ((strOfNums xs).toList == (strOfNums ys).toList) = (xs == ys) := strOfNums_beq h1.rng h2.rng
  have H1 := Lib.hid h1
  have H2 := Lib.hid h2
  clear h1 h2
  go_enter Try.func5, Try.ntmps5
  go_wp2_with (go_at_call 14; refine (awake06 _).mono ?_; rintro e w' ⟨rfl, rfl⟩)
  refine (pad_ok xs _ _ _ _ H1.out l1).mono ?_
  rintro e w1 ⟨g1, rfl, hb1, hg1, hh1⟩
  have HB1 := Lib.hid hb1
  have HH1 := Lib.hid hh1
  clear hb1 hh1
  go_wp2_with fail
  refine (pad_ok ys _ _ _ _ (H2.out.below HB1.out (Nat.le_refl _)) l2).mono ?_
  rintro e w2 ⟨g2, rfl, hb2, hg2, hh2⟩
  have hb12 : Below w.heap.size w w2 := HB1.out.trans (hb2.mono HB1.out.size)
  have k1 := (BS.of_pad H1.out.rng l1 HH1.out).below hb2 (Nat.le_refl _)
  have k2 := BS.of_pad H2.out.rng l2 hh2
  have v1 := k1.conv Try.underlying30 Try.underlying5 Try.underlying9
  have v2 := k2.conv Try.underlying30 Try.underlying5 Try.underlying9
  have v3 := (H1.out.below hb12 (Nat.le_refl _)).conv Try.underlying30 Try.underlying5 Try.underlying9
  have v4 := (H2.out.below hb12 (Nat.le_refl _)).conv Try.underlying30 Try.underlying5 Try.underlying9
  have HB := Lib.hid hb12
  clear hb12 k1 k2 hb2 hh2 hg1 hg2
  go_wp2_with (first | (go_at_call 13; refine (bucket_any _ _).mono ?_; rintro e w' ⟨rfl, rfl⟩) | (go_at_call 15; refine (is_any _ _ (by omega) (by omega)).mono ?_; rintro e w' ⟨rfl, rfl⟩))
  go_ret
  exact ⟨rfl, HB.out⟩

theorem alikeWalk {w0 : World} (a1 : Option Addr) (l1 c1 : Nat) (xs : List Int) (h1 : BS w0 a1 l1 c1 xs) (a2 : Option Addr) (l2 c2 : Nat) (ys : List Int) (h2 : BS w0 a2 l2 c2 ys) :
    Calls Try.prog 5 #[.slice a1 l1 c1, .slice a2 l2 c2] w0 fun e w' => e = .returned (.bool true) ∧ Below w0.heap.size w0 w' := by
  by_cases h : 2047 < l1 ∨ 2047 < l2
  · exact alike_long a1 a2 l1 c1 l2 c2 w0 (Nat.le_trans h1.le h1.cap_le) (Nat.le_trans h2.le h2.cap_le) h
  · have e1 := h1.length
    have e2 := h2.length
    subst e1 e2
    exact alike_short xs ys a1 a2 c1 c2 w0 h1 h2 (by omega) (by omega)
end Go.Proofs.Ytmmaiohnfphcjaa
