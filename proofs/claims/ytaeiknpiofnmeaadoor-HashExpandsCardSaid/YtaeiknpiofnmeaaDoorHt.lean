/- The tables of the rounds, as the condition gives them. -/
import Derived.Test.YtaeiknpiofnmeaaDoorHa9
import Derived.Test.YtaeiknpiofnmeaaDoorLd
import Derived.Test.YtaeiknpiofnmeaaDoorRows
import Derived.LaidMore
import Derived.MakeChecks
namespace Go.Proofs.YtaeiknpiofnmeaaDoor
open Go Go.RowKit
set_option linter.unusedVariables false
theorem gRounds : Tryd.prog.globalNamed "jalousie/hash.rounds" = some 1 := by kernel_rfl
theorem gWords : Tryd.prog.globalNamed "jalousie/jalousieref01.words" = some 0 := by kernel_rfl
theorem tRounds : (Tryd.prog.globals[1]?).map (·.type) = some 50 := by kernel_rfl
theorem tWords : (Tryd.prog.globals[0]?).map (·.type) = some 50 := by kernel_rfl
theorem kt_mk {w : World} {gr : Nat} (h : Old w gr 0 ((KTab.map Int.ofNat).map (Value.int .u32))) : KT w gr KTab :=
  ⟨by rw [List.map_map] at h; exact h, rfl, by decide⟩
theorem laidR : (Rows.laid_jalousie_hash_rounds : DataW Unit) = .agg ((KTab.map Int.ofNat).map fun x => .lit (.int .u32 x)) := rfl
theorem laidW : (Rows.laid_jalousie_jalousieref01_words : DataW Unit) = .agg ((KTab.map Int.ofNat).map fun x => .lit (.int .u32 x)) := rfl
theorem KT.lt_size {w : World} {gr : Nat} (h : KT w gr KTab) : gr < w.heap.size := World.block_lt_of_cell? w _ (h.old.cell 0 _ rfl)
theorem kt_rounds {W : World} (h : laidMetH Tryd.prog [("jalousie/hash.rounds", Rows.laid_jalousie_hash_rounds)] W) : KT W 1 KTab := by
  rw [MakeChecks.laidMetH_plain _ _ _ (by kernel_rfl)] at h
  obtain ⟨ps, ⟨g0, t0, cs0, f0, p0, q0, hg0, ht0, hv0, hd0, _, _⟩, _, _⟩ := h
  obtain rfl := Option.some.inj (gRounds.symm.trans hg0)
  obtain rfl := Option.some.inj (tRounds.symm.trans ht0)
  rw [laidR] at hd0
  exact kt_mk (old_of_laid gRounds Tryd.underlying50 Tryd.underlying48 (by kernel_rfl) _ rfl hv0 hd0)
theorem kt_both {W : World} (h : laidMetH Tryd.prog [("jalousie/jalousieref01.words", Rows.laid_jalousie_jalousieref01_words), ("jalousie/hash.rounds", Rows.laid_jalousie_hash_rounds)] W) : KT W 0 KTab ∧ KT W 1 KTab := by
  rw [MakeChecks.laidMetH_plain _ _ _ (by kernel_rfl)] at h
  obtain ⟨ps, ⟨g0, t0, cs0, f0, p0, q0, hg0, ht0, hv0, hd0, ⟨g1, t1, cs1, f1, p1, q1, hg1, ht1, hv1, hd1, _, _⟩, _⟩, _, _⟩ := h
  obtain rfl := Option.some.inj (gWords.symm.trans hg0)
  obtain rfl := Option.some.inj (tWords.symm.trans ht0)
  obtain rfl := Option.some.inj (gRounds.symm.trans hg1)
  obtain rfl := Option.some.inj (tRounds.symm.trans ht1)
  rw [laidW] at hd0
  rw [laidR] at hd1
  exact ⟨kt_mk (old_of_laid gWords Tryd.underlying50 Tryd.underlying48 (by kernel_rfl) _ rfl hv0 hd0), kt_mk (old_of_laid gRounds Tryd.underlying50 Tryd.underlying48 (by kernel_rfl) _ rfl hv1 hd1)⟩
end Go.Proofs.YtaeiknpiofnmeaaDoor
