/- ItemLater, the law. -/
import Derived.Test.YtmmaiohnfphcjaaItem
import Derived.Test.YtmmaiohnfphcjaaU
import Derived.Test.YtmmaiohnfphcjaaEq
import Derived.RegionTactic
import Derived.BigRegion
import Derived.Deep.QuietTactic
import Derived.BigQuiet
import Derived.WalkSmall
import Derived.WalkLawsBesides
namespace Go.Proofs.Ytmmaiohnfphcjaa
open Go Go.ChangeShapes Go.WideShapes Go.ChangeAt Go.RowKit
set_option linter.unusedVariables false

theorem follows18 : Try.prog.follows .mixedOrders = true := by kernel_rfl

set_option maxRecDepth 100000 in
set_option maxHeartbeats 3200000 in
theorem itemLater_any (ca cb cc : Array Value) (ta xa sa tb xb sb tc xc sc : Int) (HA : Hd ca ta xa sa) (HB : Hd cb tb xb sb) (HC : Hd cc tc xc sc) (w : World) : Calls Try.prog 8 #[.agg ca, .agg cb, .agg cc] w fun e w' => e = .returned (.bool true) ∧ Below w.heap.size w w' := by
  have za := HA.size
  have zb := HB.size
  have zc := HC.size
  obtain ⟨X, hX⟩ : ∃ X, X = laterF ta xa sa tb xb sb := ⟨_, rfl⟩
  obtain ⟨Y, hY⟩ : ∃ Y, Y = laterF tb xb sb tc xc sc := ⟨_, rfl⟩
  obtain ⟨Z, hZ⟩ : ∃ Z, Z = laterF ta xa sa tc xc sc := ⟨_, rfl⟩
  obtain ⟨R, hR⟩ : ∃ R, R = laterF tb xb sb ta xa sa := ⟨_, rfl⟩
  have hXYZ : X = true → Y = true → Z = true := by
    rw [hX, hY, hZ]
    unfold laterF
    repeat' split
    all_goals (simp; try omega)
  have hXR : X = true → R = false := by
    rw [hX, hR]
    unfold laterF
    repeat' split
    all_goals (simp; try omega)
  go_enter Try.func8, Try.ntmps8
  go_wp2
  obtain ⟨W, hW⟩ : ∃ W : World, W = ((w.alloc (.cells ca 48)).alloc (.cells cb 48)).alloc (.cells cc 48) := ⟨_, rfl⟩
  rw [← hW]
  have Z1 : W.heap.size = w.heap.size + 3 := by rw [hW]; simp
  have A1 : W.heap[w.heap.size]? = some (.cells ca 48 (0, 0)) := by rw [hW, Below.heap_alloc _ _ _ (by simp; omega)]; exact heap_alloc2_old w _ _
  have A2 : W.heap[w.heap.size + 1]? = some (.cells cb 48 (0, 0)) := by rw [hW, Below.heap_alloc _ _ _ (by simp)]; exact heap_alloc2_new w _ _
  have A3 : W.heap[w.heap.size + 2]? = some (.cells cc 48 (0, 0)) := by rw [hW]; have := heap_alloc_new ((w.alloc (.cells ca 48)).alloc (.cells cb 48)) (.cells cc 48); simpa using this
  have HBW : Below w.heap.size w W := by rw [hW]; exact (((Below.refl _ _).alloc (Nat.le_refl _) _).alloc (by simp) _).alloc (by simp; omega) _
  clear hW
  refine region_U 54 (fun v => Below W.heap.size W v) follows18 (by kernel_rfl) rfl ((Below.refl _ _).drew) ?_
  iterate 12
    apply ListU.cons
    · intro v hv K hK
      first
        | (rw [if_pos (by rfl)]; exact wp_load_row 48 (.tmp 3) (by rfl) w.heap.size (by rfl) 48 _ (0, 0) _ ((hv.block w.heap.size (by omega)).trans A1) Try.underlying48 (by rfl) (by rw [za]; kernel_rfl) (hK _ hv))
        | (rw [if_pos (by rfl)]; exact wp_load_row 48 (.tmp 4) (by rfl) (w.heap.size + 1) (by rfl) 48 _ (0, 0) _ ((hv.block (w.heap.size + 1) (by omega)).trans A2) Try.underlying48 (by rfl) (by rw [zb]; kernel_rfl) (hK _ hv))
        | (rw [if_pos (by rfl)]; exact wp_load_row 48 (.tmp 5) (by rfl) (w.heap.size + 2) (by rfl) 48 _ (0, 0) _ ((hv.block (w.heap.size + 2) (by omega)).trans A3) Try.underlying48 (by rfl) (by rw [zc]; kernel_rfl) (hK _ hv))
        | (go_simp
           first
             | exact hK _ hv
             | (refine (later_any _ _ _ _ _ _ _ _ HA HB _).mono ?_; rintro e v1 ⟨he, hv1⟩; rw [← hX] at he; subst he; exact hK _ (hv.trans (hv1.mono hv.size)))
             | (refine (later_any _ _ _ _ _ _ _ _ HB HC _).mono ?_; rintro e v1 ⟨he, hv1⟩; rw [← hY] at he; subst he; exact hK _ (hv.trans (hv1.mono hv.size)))
             | (refine (later_any _ _ _ _ _ _ _ _ HA HC _).mono ?_; rintro e v1 ⟨he, hv1⟩; rw [← hZ] at he; subst he; exact hK _ (hv.trans (hv1.mono hv.size))))
    · rfl
  intro v hv
  refine NoPanic.normal ?_
  have hR' : X = true → laterF tb xb sb ta xa sa = false := fun h => hR ▸ hXR h
  have hZ' : X = true → Y = true → laterF ta xa sa tc xc sc = true := fun h h' => hZ ▸ hXYZ h h'
  clear hXYZ hXR hR hZ
  have A1 := (hv.block w.heap.size (by omega)).trans A1
  have A2 := (hv.block (w.heap.size + 1) (by omega)).trans A2
  have A3 := (hv.block (w.heap.size + 2) (by omega)).trans A3
  have HV := HBW.trans (hv.mono HBW.size)
  have hS : w.heap.size + 3 ≤ v.heap.size := by have := hv.size; omega
  clear hv HBW
  cases X
  · rw [← hX]
    have HX := Lib.hid hX.symm
    clear hX
    cases Y
    · rw [← hY]
      have HY := Lib.hid hY.symm
      clear hY hR' hZ'
      go_wp2_with (first | (refine wpList_load_blk 48 (.tmp 3) (by rfl) (by rfl) (w.heap.size) (by rfl) 48 _ (0, 0) _ A1 Try.underlying48 (by rfl) (by rw [za]; kernel_rfl) ?_) | (refine wpList_load_blk 48 (.tmp 4) (by rfl) (by rfl) (w.heap.size + 1) (by rfl) 48 _ (0, 0) _ A2 Try.underlying48 (by rfl) (by rw [zb]; kernel_rfl) ?_) | (refine wpList_load_blk 48 (.tmp 5) (by rfl) (by rfl) (w.heap.size + 2) (by rfl) 48 _ (0, 0) _ A3 Try.underlying48 (by rfl) (by rw [zc]; kernel_rfl) ?_) | (go_at_call 27; with_reducible (refine (awake18 _).mono ?_); rintro e v' ⟨he, hv'⟩; subst he; have A1 := (hv'.block w.heap.size (by omega)).trans A1; have A2 := (hv'.block (w.heap.size + 1) (by omega)).trans A2; have A3 := (hv'.block (w.heap.size + 2) (by omega)).trans A3; have HV := HV.trans (hv'.mono (by omega)); have hS := Nat.le_trans hS hv'.size; clear hv') | (go_at_call 28; with_reducible (refine (rlater_any _ _ _ _ _ _ _ _ HA HB _).mono ?_); rintro e v' ⟨he, hv'⟩; rw [HX.out] at he; subst he; have A1 := (hv'.block w.heap.size (by omega)).trans A1; have A2 := (hv'.block (w.heap.size + 1) (by omega)).trans A2; have A3 := (hv'.block (w.heap.size + 2) (by omega)).trans A3; have HV := HV.trans (hv'.mono (by omega)); have hS := Nat.le_trans hS hv'.size; clear hv') | (go_at_call 28; with_reducible (refine (rlater_any _ _ _ _ _ _ _ _ HB HC _).mono ?_); rintro e v' ⟨he, hv'⟩; rw [HY.out] at he; subst he; have A1 := (hv'.block w.heap.size (by omega)).trans A1; have A2 := (hv'.block (w.heap.size + 1) (by omega)).trans A2; have A3 := (hv'.block (w.heap.size + 2) (by omega)).trans A3; have HV := HV.trans (hv'.mono (by omega)); have hS := Nat.le_trans hS hv'.size; clear hv') | (go_at_call 26; with_reducible (refine (later_any _ _ _ _ _ _ _ _ HB HA _).mono ?_); rintro e v' ⟨he, hv'⟩; rw [HR.out] at he; subst he; have A1 := (hv'.block w.heap.size (by omega)).trans A1; have A2 := (hv'.block (w.heap.size + 1) (by omega)).trans A2; have A3 := (hv'.block (w.heap.size + 2) (by omega)).trans A3; have HV := HV.trans (hv'.mono (by omega)); have hS := Nat.le_trans hS hv'.size; clear hv'))
      go_ret
      exact ⟨rfl, HV⟩
    · rw [← hY]
      have HY := Lib.hid hY.symm
      clear hY hR' hZ'
      go_wp2_with (first | (refine wpList_load_blk 48 (.tmp 3) (by rfl) (by rfl) (w.heap.size) (by rfl) 48 _ (0, 0) _ A1 Try.underlying48 (by rfl) (by rw [za]; kernel_rfl) ?_) | (refine wpList_load_blk 48 (.tmp 4) (by rfl) (by rfl) (w.heap.size + 1) (by rfl) 48 _ (0, 0) _ A2 Try.underlying48 (by rfl) (by rw [zb]; kernel_rfl) ?_) | (refine wpList_load_blk 48 (.tmp 5) (by rfl) (by rfl) (w.heap.size + 2) (by rfl) 48 _ (0, 0) _ A3 Try.underlying48 (by rfl) (by rw [zc]; kernel_rfl) ?_) | (go_at_call 27; with_reducible (refine (awake18 _).mono ?_); rintro e v' ⟨he, hv'⟩; subst he; have A1 := (hv'.block w.heap.size (by omega)).trans A1; have A2 := (hv'.block (w.heap.size + 1) (by omega)).trans A2; have A3 := (hv'.block (w.heap.size + 2) (by omega)).trans A3; have HV := HV.trans (hv'.mono (by omega)); have hS := Nat.le_trans hS hv'.size; clear hv') | (go_at_call 28; with_reducible (refine (rlater_any _ _ _ _ _ _ _ _ HA HB _).mono ?_); rintro e v' ⟨he, hv'⟩; rw [HX.out] at he; subst he; have A1 := (hv'.block w.heap.size (by omega)).trans A1; have A2 := (hv'.block (w.heap.size + 1) (by omega)).trans A2; have A3 := (hv'.block (w.heap.size + 2) (by omega)).trans A3; have HV := HV.trans (hv'.mono (by omega)); have hS := Nat.le_trans hS hv'.size; clear hv') | (go_at_call 28; with_reducible (refine (rlater_any _ _ _ _ _ _ _ _ HB HC _).mono ?_); rintro e v' ⟨he, hv'⟩; rw [HY.out] at he; subst he; have A1 := (hv'.block w.heap.size (by omega)).trans A1; have A2 := (hv'.block (w.heap.size + 1) (by omega)).trans A2; have A3 := (hv'.block (w.heap.size + 2) (by omega)).trans A3; have HV := HV.trans (hv'.mono (by omega)); have hS := Nat.le_trans hS hv'.size; clear hv') | (go_at_call 26; with_reducible (refine (later_any _ _ _ _ _ _ _ _ HB HA _).mono ?_); rintro e v' ⟨he, hv'⟩; rw [HR.out] at he; subst he; have A1 := (hv'.block w.heap.size (by omega)).trans A1; have A2 := (hv'.block (w.heap.size + 1) (by omega)).trans A2; have A3 := (hv'.block (w.heap.size + 2) (by omega)).trans A3; have HV := HV.trans (hv'.mono (by omega)); have hS := Nat.le_trans hS hv'.size; clear hv'))
      go_ret
      exact ⟨rfl, HV⟩
  · rw [← hX]
    have HX := Lib.hid hX.symm
    have HR := Lib.hid (hR' rfl)
    clear hX hR'
    cases Y
    · rw [← hY]
      have HY := Lib.hid hY.symm
      clear hY hZ'
      go_wp2_with (first | (refine wpList_load_blk 48 (.tmp 3) (by rfl) (by rfl) (w.heap.size) (by rfl) 48 _ (0, 0) _ A1 Try.underlying48 (by rfl) (by rw [za]; kernel_rfl) ?_) | (refine wpList_load_blk 48 (.tmp 4) (by rfl) (by rfl) (w.heap.size + 1) (by rfl) 48 _ (0, 0) _ A2 Try.underlying48 (by rfl) (by rw [zb]; kernel_rfl) ?_) | (refine wpList_load_blk 48 (.tmp 5) (by rfl) (by rfl) (w.heap.size + 2) (by rfl) 48 _ (0, 0) _ A3 Try.underlying48 (by rfl) (by rw [zc]; kernel_rfl) ?_) | (go_at_call 27; with_reducible (refine (awake18 _).mono ?_); rintro e v' ⟨he, hv'⟩; subst he; have A1 := (hv'.block w.heap.size (by omega)).trans A1; have A2 := (hv'.block (w.heap.size + 1) (by omega)).trans A2; have A3 := (hv'.block (w.heap.size + 2) (by omega)).trans A3; have HV := HV.trans (hv'.mono (by omega)); have hS := Nat.le_trans hS hv'.size; clear hv') | (go_at_call 28; with_reducible (refine (rlater_any _ _ _ _ _ _ _ _ HA HB _).mono ?_); rintro e v' ⟨he, hv'⟩; rw [HX.out] at he; subst he; have A1 := (hv'.block w.heap.size (by omega)).trans A1; have A2 := (hv'.block (w.heap.size + 1) (by omega)).trans A2; have A3 := (hv'.block (w.heap.size + 2) (by omega)).trans A3; have HV := HV.trans (hv'.mono (by omega)); have hS := Nat.le_trans hS hv'.size; clear hv') | (go_at_call 28; with_reducible (refine (rlater_any _ _ _ _ _ _ _ _ HB HC _).mono ?_); rintro e v' ⟨he, hv'⟩; rw [HY.out] at he; subst he; have A1 := (hv'.block w.heap.size (by omega)).trans A1; have A2 := (hv'.block (w.heap.size + 1) (by omega)).trans A2; have A3 := (hv'.block (w.heap.size + 2) (by omega)).trans A3; have HV := HV.trans (hv'.mono (by omega)); have hS := Nat.le_trans hS hv'.size; clear hv') | (go_at_call 26; with_reducible (refine (later_any _ _ _ _ _ _ _ _ HB HA _).mono ?_); rintro e v' ⟨he, hv'⟩; rw [HR.out] at he; subst he; have A1 := (hv'.block w.heap.size (by omega)).trans A1; have A2 := (hv'.block (w.heap.size + 1) (by omega)).trans A2; have A3 := (hv'.block (w.heap.size + 2) (by omega)).trans A3; have HV := HV.trans (hv'.mono (by omega)); have hS := Nat.le_trans hS hv'.size; clear hv'))
      go_ret
      exact ⟨rfl, HV⟩
    · rw [← hY, hZ' rfl rfl]
      have HY := Lib.hid hY.symm
      clear hY hZ'
      go_wp2_with (first | (refine wpList_load_blk 48 (.tmp 3) (by rfl) (by rfl) (w.heap.size) (by rfl) 48 _ (0, 0) _ A1 Try.underlying48 (by rfl) (by rw [za]; kernel_rfl) ?_) | (refine wpList_load_blk 48 (.tmp 4) (by rfl) (by rfl) (w.heap.size + 1) (by rfl) 48 _ (0, 0) _ A2 Try.underlying48 (by rfl) (by rw [zb]; kernel_rfl) ?_) | (refine wpList_load_blk 48 (.tmp 5) (by rfl) (by rfl) (w.heap.size + 2) (by rfl) 48 _ (0, 0) _ A3 Try.underlying48 (by rfl) (by rw [zc]; kernel_rfl) ?_) | (go_at_call 27; with_reducible (refine (awake18 _).mono ?_); rintro e v' ⟨he, hv'⟩; subst he; have A1 := (hv'.block w.heap.size (by omega)).trans A1; have A2 := (hv'.block (w.heap.size + 1) (by omega)).trans A2; have A3 := (hv'.block (w.heap.size + 2) (by omega)).trans A3; have HV := HV.trans (hv'.mono (by omega)); have hS := Nat.le_trans hS hv'.size; clear hv') | (go_at_call 28; with_reducible (refine (rlater_any _ _ _ _ _ _ _ _ HA HB _).mono ?_); rintro e v' ⟨he, hv'⟩; rw [HX.out] at he; subst he; have A1 := (hv'.block w.heap.size (by omega)).trans A1; have A2 := (hv'.block (w.heap.size + 1) (by omega)).trans A2; have A3 := (hv'.block (w.heap.size + 2) (by omega)).trans A3; have HV := HV.trans (hv'.mono (by omega)); have hS := Nat.le_trans hS hv'.size; clear hv') | (go_at_call 28; with_reducible (refine (rlater_any _ _ _ _ _ _ _ _ HB HC _).mono ?_); rintro e v' ⟨he, hv'⟩; rw [HY.out] at he; subst he; have A1 := (hv'.block w.heap.size (by omega)).trans A1; have A2 := (hv'.block (w.heap.size + 1) (by omega)).trans A2; have A3 := (hv'.block (w.heap.size + 2) (by omega)).trans A3; have HV := HV.trans (hv'.mono (by omega)); have hS := Nat.le_trans hS hv'.size; clear hv') | (go_at_call 26; with_reducible (refine (later_any _ _ _ _ _ _ _ _ HB HA _).mono ?_); rintro e v' ⟨he, hv'⟩; rw [HR.out] at he; subst he; have A1 := (hv'.block w.heap.size (by omega)).trans A1; have A2 := (hv'.block (w.heap.size + 1) (by omega)).trans A2; have A3 := (hv'.block (w.heap.size + 2) (by omega)).trans A3; have HV := HV.trans (hv'.mono (by omega)); have hS := Nat.le_trans hS hv'.size; clear hv'))
      go_ret
      exact ⟨rfl, HV⟩
end Go.Proofs.Ytmmaiohnfphcjaa
