/- What a bound of bulk says of the parts. -/
import Derived.Test.YtlcckgimagllaaaPk19
import Derived.Test.YtlcckgimagllaaaRows
namespace Go.Proofs.Ytlcckgimagllaaa
open Go Go.RowKit
set_option linter.unusedVariables false
set_option linter.unusedSimpArgs false
theorem bulk_pos {H : Type} (d : DataW H) : 1 ≤ Rows.uptoBulk d := by
  cases d with
  | lit l => cases l <;> simp [Rows.uptoBulk]
  | _ => simp [Rows.uptoBulk]
theorem bulk_mem {H : Type} {d : DataW H} : ∀ {l : List (DataW H)}, d ∈ l → Rows.uptoBulk d ≤ Rows.uptoBulkAll l
  | x :: l, h => by
    simp only [Rows.uptoBulkAll]
    rcases List.mem_cons.1 h with rfl | h
    · omega
    · have := bulk_mem h; omega
theorem bulk_len {H : Type} : ∀ (l : List (DataW H)), l.length ≤ Rows.uptoBulkAll l
  | [] => by simp
  | x :: l => by
    have h1 := bulk_pos x
    have h2 := bulk_len l
    simp only [Rows.uptoBulkAll, List.length_cons]; omega
theorem cells_eq {w : World} {g o : Nat} {vs c : List Value} (h : w.cells? 0 ⟨g, o, none⟩ vs.length = some c) (hO : Old w g o vs) : c = vs := by
  unfold World.cells? at h
  rw [if_pos (Nat.zero_le _)] at h
  obtain ⟨k1, k2⟩ := mapM_gets h
  rw [List.length_range] at k1
  apply List.ext_getElem?
  intro j
  by_cases hj : j < vs.length
  · obtain ⟨v, hv⟩ : ∃ v, c[j]? = some v := ⟨_, List.getElem?_eq_getElem (by omega)⟩
    obtain ⟨u, hu⟩ : ∃ u, vs[j]? = some u := ⟨_, List.getElem?_eq_getElem hj⟩
    obtain ⟨q, hq1, hq2⟩ := k2 j v hv
    rw [List.getElem?_range hj] at hq1
    simp only [Option.some.injEq] at hq1
    subst hq1
    have h3 := hO.cell j u (by rw [nth_eq]; exact hu)
    have h4 : (⟨g, o, none⟩ : Addr).add j = ⟨g, o + j, none⟩ := Addr.add_mid _ _ _
    rw [h4, h3] at hq2
    rw [hv, hu]; exact hq2.symm
  · rw [List.getElem?_eq_none (by omega), List.getElem?_eq_none (by omega)]
theorem part_bulk {H : Type} {enc : TypeId × Value → H} {w : World} {fuel : Nat} {p : PP} {y : DataW H × List MemPlace} (h : DataW.trod enc Try.prog w 0 (fun _ => true) true fuel 56 p.enc = some y) : p.len ≤ Rows.uptoBulk y.1 := by
  obtain ⟨xs, n, _, rfl, _, hxl, hx⟩ := DataW.trod_struct Try.underlying56 h
  have h2 : DataW.trod enc Try.prog w 0 (fun _ => true) true n 31 ((p.enc.drop 2).take (Try.prog.cellsOf 31)) = xs[2]? := hx 2 _ rfl
  have hu : Try.prog.cellsOf 31 = 1 := by kernel_rfl
  obtain ⟨z, hz⟩ : ∃ z, xs[2]? = some z := ⟨_, List.getElem?_eq_getElem (by rw [hxl]; decide)⟩
  rw [hz, hu] at h2
  have h2 : DataW.trod enc Try.prog w 0 (fun _ => true) true n 31 [.slice p.a p.len p.cap] = some z := h2
  have h3 : Rows.uptoBulk z.1 ≤ Rows.uptoBulkAll (xs.map (·.1)) := bulk_mem (List.mem_map_of_mem (List.mem_of_getElem? hz))
  have h4 : Rows.uptoBulk (DataW.agg (xs.map (·.1))) = Rows.uptoBulkAll (xs.map (·.1)) + 1 := by simp only [Rows.uptoBulk]
  show p.len ≤ Rows.uptoBulk (DataW.agg (xs.map (·.1)))
  rcases DataW.trod_slice Try.underlying31 h2 with ⟨e, _⟩ | ⟨a, len, cap, elems, rest, m, _, e, hz2, _, _, _, hel, _⟩
  · simp at e
    have e2 := e.2.1
    omega
  · simp at e
    have e2 := e.2.1
    have h5 := bulk_len (elems.map (·.1))
    rw [List.length_map] at h5
    have h6 : Rows.uptoBulk z.1 = Rows.uptoBulkAll (elems.map (·.1)) + Rows.uptoBulkAll (rest.map (·.1)) + 1 := by rw [hz2]; simp only [Rows.uptoBulk]
    omega
theorem parts_bulk {H : Type} {enc : TypeId × Value → H} {w : World} {ap : Option Addr} {cp0 : Nat} {ps : List PP} {d : DataW H} {q : List MemPlace} (h : DataW.Trod enc Try.prog w 0 (fun _ => true) true 46 (.slice ap ps.length cp0) d q) (hO : SlF PP.enc w ap ps) : ∀ p ∈ ps, p.len ≤ Rows.uptoBulk d := by
  intro p hp
  obtain ⟨i, hi, hpi⟩ := List.getElem_of_mem hp
  have hpi2 : ps[i]? = some p := by rw [List.getElem?_eq_getElem hi, hpi]
  obtain ⟨g, o, rfl, hOk⟩ := hO.get hi
  obtain ⟨fuel, hf⟩ := h
  have hf' : DataW.trod enc Try.prog w 0 (fun _ => true) true fuel 46 [.slice (some ⟨g, o, none⟩) ps.length cp0] = some (d, q) := hf
  have hu : Try.prog.cellsOf 56 = 3 := by kernel_rfl
  rcases DataW.trod_slice Try.underlying46 hf' with ⟨e, _⟩ | ⟨a, len, cap, elems, rest, m, _, e, hz2, _, _, _, hel, hget, _⟩
  · simp at e
  · simp at e
    obtain ⟨rfl, rfl, rfl⟩ := e
    have h1 := hget i hi
    obtain ⟨y, hy⟩ : ∃ y, elems[i]? = some y := ⟨_, List.getElem?_eq_getElem (by omega)⟩
    rw [hy, hu, Option.bind_eq_some_iff] at h1
    obtain ⟨c, hc1, hc2⟩ := h1
    rw [Addr.add_mid] at hc1
    have hce := cells_eq (vs := p.enc) hc1 (hOk.at _ _ (flat_at PP.enc_len hpi2))
    subst hce
    have h2 := part_bulk hc2
    have h3 : Rows.uptoBulk y.1 ≤ Rows.uptoBulkAll (elems.map (·.1)) := bulk_mem (List.mem_map_of_mem (List.mem_of_getElem? hy))
    have h6 : Rows.uptoBulk d = Rows.uptoBulkAll (elems.map (·.1)) + Rows.uptoBulkAll (rest.map (·.1)) + 1 := by
      have : d = .slice (elems.map (·.1)) (rest.map (·.1)) := (Prod.mk.inj hz2).1
      rw [this]; simp only [Rows.uptoBulk]
    omega
theorem putsWalk_ {w : World} (ap : Option Addr) (cp0 : Nat) (ps : List PP) (hpc : ps.length ≤ 9223372036854775807) (hps : ∀ p ∈ ps, p.Ok w) (hO : SlF PP.enc w ap ps) (hbk : ∀ p ∈ ps, p.len ≤ 1048576) :
    Calls Try.prog 7 #[.slice ap ps.length cp0] w fun e w' => e = .returned (.bool true) ∧ Below w.heap.size w w' :=
  below_ret (puts_law w ps ap cp0 hpc hps hO hbk)
end Go.Proofs.Ytlcckgimagllaaa
