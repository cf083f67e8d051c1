/- A package-level array of numbers that reads as its initialiser laid it. -/
import Derived.Test.YtaeiknpiofnmeaaDoorSs11
import Derived.OpenShut
import Derived.FnData
import Derived.ChangeArms
namespace Go.Proofs.YtaeiknpiofnmeaaDoor
open Go Go.RowKit
set_option linter.unusedVariables false
theorem old_of_laid {P : Program} {w : World} {n : String} {g t len : Nat} {e : TypeId} {k : IntKind} {fuel : Nat} {cs : Array Value} {p : List MemPlace} (hg : P.globalNamed n = some g) (hU : P.underlying t = some (.array len e)) (hE : P.underlying e = some (.int k)) (hc : P.cellsOf e = 1)
    (xs : List Int) (hxs : xs.length = len) (hv : w.var? P n = some cs) (hd : DataW.trod (fun _ => ()) P w 0 (fun _ => true) false fuel t cs.toList = some (.agg (xs.map fun x => DataW.lit (.int k x)), p)) : Old w g 0 (xs.map (Value.int k)) := by
  obtain ⟨ys, m, _, hx, hlen, hyl, hel⟩ := DataW.trod_array hU hd
  simp only [Prod.mk.injEq, DataW.agg.injEq] at hx
  refine ⟨fun j v hj => ?_⟩
  rw [nth_eq, List.getElem?_map, Option.map_eq_some_iff] at hj
  obtain ⟨x, hxj, rfl⟩ := hj
  have hjl : j < len := by rw [← hxs]; exact (List.getElem?_eq_some_iff.1 hxj).1
  have h1 := hel j hjl
  rw [hc, Nat.mul_one] at h1
  obtain ⟨y, hy⟩ : ∃ y, ys[j]? = some y := ⟨_, List.getElem?_eq_getElem (by omega)⟩
  rw [hy] at h1
  obtain ⟨q, h2, h3, _⟩ := DataW.trod_int hE h1
  have h4 : (ys.map (·.1))[j]? = some (DataW.lit (.int k q)) := by rw [List.getElem?_map, hy, h3]; rfl
  rw [← hx.1, List.getElem?_map, hxj] at h4
  simp only [Option.map_some, Option.some.injEq, DataW.lit.injEq, Lit.int.injEq, true_and] at h4
  subst h4
  rw [World.var?_cell hg hv, Nat.zero_add]
  have h5 : ((cs.toList.drop j).take 1)[0]? = some (Value.int k x) := by rw [h2]; rfl
  rw [List.getElem?_take] at h5
  simp at h5
  exact h5
end Go.Proofs.YtaeiknpiofnmeaaDoor
