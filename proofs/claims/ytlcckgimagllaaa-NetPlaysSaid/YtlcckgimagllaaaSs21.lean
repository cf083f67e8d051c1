/- A slice of a slice with all three numbers, the low one too. -/
import Derived.Test.YtlcckgimagllaaaSs13
namespace Go.Proofs.Ytlcckgimagllaaa
open Go Go.RowKit
set_option linter.unusedVariables false
section
variable {P : Program} {T : List (Nat × Value)} {X : List Nat} {w0 : World} {L : List Chunk} {x : Operand} {dst : Option Tmp} {ty t e : TypeId} {pos : String} {af : Array Edge} {gu : Option (Nat × Bool)}
theorem q_slice3l {lo hi mx : Operand} {b : Option Addr} {len cap sz l h mv : Nat} (hx : ev T x = some (.slice b len cap)) (hlo : ev T lo = some (.int .i64 l)) (hhi : ev T hi = some (.int .i64 h)) (hmx : ev T mx = some (.int .i64 mv)) [hu : UT P t (.slice e)] [hs : SzT P e sz]
    (h0 : l ≤ h) (h1 : h ≤ mv) (h2 : mv ≤ cap) {b' : Option Addr} (hb' : (if mv = l then b else b.map (·.add (l * sz))) = b') : Qt P X w0 ⟨dst, .slice t x (some lo) (some hi) (some mx), ty, pos, af, gu⟩ T L (.slice b' (h - l) (mv - l)) := by
  subst hb'
  refine ⟨?_⟩
  intro n ac w hA hC hL
  have hs := hs.h
  rw [Option.map_eq_some_iff] at hs
  obtain ⟨inf, h3, rfl⟩ := hs
  have hm : (Instr.sliceBound (.int .i64 (mv : Int)) cap .slice3Acap : Sem Nat).run P w = .ok mv w := run_sliceBound (P := P) (w := w) .i64 mv cap .slice3Acap (by omega) (by omega)
  have hh : (Instr.sliceBound (.int .i64 (h : Int)) mv .slice3B : Sem Nat).run P w = .ok h w := run_sliceBound (P := P) (w := w) .i64 h mv .slice3B (by omega) (by omega)
  have hl : (Instr.sliceBound (.int .i64 (l : Int)) h .slice3C : Sem Nat).run P w = .ok l w := run_sliceBound (P := P) (w := w) .i64 l h .slice3C (by omega) (by omega)
  have hb : (Instr.sliceBounds true len cap (some (.int .i64 (l : Int))) (some (.int .i64 (h : Int))) (some (.int .i64 (mv : Int)))).run P w = .ok (l, h, mv) w := by
    unfold Instr.sliceBounds
    simp_all
  simp only [execOp, hA.eval hx, hA.eval hlo, hA.eval hhi, hA.eval hmx, Instr.sliceAt, Sem.run_bind, run_underlying hu.h, Result.andThen_ok, Instr.slice, Option.map_some, hb, sizeOf, typeInfo, program, Sem.run, h3, Sem.run_pure]
end
end Go.Proofs.Ytlcckgimagllaaa
