/- The walk by known slots and chunks: calls that turn a block of ours, '==' on rows. No program in sight. -/
import Derived.Test.YtlcckgimagllaaaSs5
import Derived.Test.YtlcckgimagllaaaEq
namespace Go.Proofs.Ytlcckgimagllaaa
open Go Go.RowKit
set_option linter.unusedVariables false

section
variable {P : Program} {n m d : Nat} {T : List (Nat × Value)} {X : List Nat} {w0 : World} {L L' : List Chunk} {K : Act → World → Prop} {Q : Exit → Act → World → Prop}
  {ty t e tt : TypeId} {pos : String} {af : Array Edge} {gu : Option (Nat × Bool)} {u v v1 v2 : Value} {x y c : Operand} {g off : Nat} {dst : Option Tmp}

/-- A contract of which a value comes, and one block turned. -/
abbrev RU (v : Value) (g : Nat) (o : Obj) (w : World) : Ending → World → Prop := Ret (fun _ : Unit => v) [g] (fun _ => [.blk g o]) (fun _ => True) w

theorem e_call_upd {fop : Operand} {xs : List Operand} {ats : Array TypeId} {f : FuncId} {vs : List Value} {o o' : Obj}
    (hf : ev T fop = some (.func (.func f) #[] #[])) (hargs : evs T xs = some vs) (hb : bodied P f = true) (hd : Nat.blt d n = true)
    (hcon : ∀ w, Ch X w0 w → w.heap.size = m → Has L w → CA P f vs w (RU v g o' w))
    (hp : Pl (.blk g o) (.blk g o') L L') (hg : g ∈ X ∨ w0.heap.size ≤ g)
    (h : ∀ m', m ≤ m' → ∀ a w, SS n ((d, v) :: T) X w0 m' L' a w → K a w) :
    ∀ a w, SS n T X w0 m L a w → OW P ⟨some d, .call { callee := .value fop, args := xs.toArray, argTypes := ats }, ty, pos, af, gu⟩ K Q a w := by
  intro a w hs
  refine wp_call_of rfl (hs.agr.eval hf) (hs.agr.evals hargs) hb (by simpa using (hcon w hs.ch hs.size hs.has).h) ?_
  rintro e w' ⟨_, rfl, hch, hN, hnew, _⟩
  refine ⟨_, rfl, h w'.heap.size (by have := hch.size; have := hs.size; omega) _ _ ⟨hs.agr.put _ hd, hs.ch.call hch (by simpa using hg), rfl, ?_⟩⟩
  exact Has.repl hp hs.has (fun k hk => .inl hk) (hN.ok _ (List.mem_singleton_self _)) fun k hk hne => hch.block k hk (by simpa [Chunk.foot] using hne)

/-- '==' on arrays of numbers. -/
theorem q_eql_ints {len : Nat} {k : IntKind} {xs ys : List Int} {ty2 : TypeId} {c1 c2 : Array Value} (hx : ev T x = some (.agg c1)) (hy : ev T y = some (.agg c2)) (h1 : c1 = (xs.map (Value.int k)).toArray) (h2 : c2 = (ys.map (Value.int k)).toArray) [hu : UT P t (.array len e)] [he : UT P e (.int k)] [hs : SzT P e 1] (hgd : P.eqGuardType P.depth t = false) (hl1 : xs.length = len) (hl2 : ys.length = len) :
    Qt P X w0 ⟨dst, .binOp .eql t x y ty2, ty, pos, af, gu⟩ T L (.bool (xs == ys)) := by
  subst h1; subst h2
  exact q_bin_val hx hy (fun w => run_eqGuard_agg w _ t x y _ _ hgd) fun w => run_eql_ints w t e len k hu.h he.h (fun w => size_one) xs ys hl1 hl2
theorem q_neq_ints {len : Nat} {k : IntKind} {xs ys : List Int} {ty2 : TypeId} {c1 c2 : Array Value} (hx : ev T x = some (.agg c1)) (hy : ev T y = some (.agg c2)) (h1 : c1 = (xs.map (Value.int k)).toArray) (h2 : c2 = (ys.map (Value.int k)).toArray) [hu : UT P t (.array len e)] [he : UT P e (.int k)] [hs : SzT P e 1] (hgd : P.eqGuardType P.depth t = false) (hl1 : xs.length = len) (hl2 : ys.length = len) :
    Qt P X w0 ⟨dst, .binOp .neq t x y ty2, ty, pos, af, gu⟩ T L (.bool (xs != ys)) := by
  subst h1; subst h2
  exact q_bin_val hx hy (fun w => run_eqGuard_agg w _ t x y _ _ hgd) fun w => run_neq_ints w t e len k hu.h he.h (fun w => size_one) xs ys hl1 hl2
/-! ### literals -/
def evp (T : List (Nat × Value)) : List (Nat × Operand) → Option (List (Nat × Value))
  | [] => some []
  | (i, x) :: xs => match ev T x, evp T xs with
    | some v, some vs => some ((i, v) :: vs)
    | _, _ => none
theorem Agr.evalp {n : Nat} {T : List (Nat × Value)} {a : Act} (h : Agr n T a) : ∀ {xs : List (Nat × Operand)} {vs : List (Nat × Value)}, evp T xs = some vs → (xs.toArray.map fun (i, x) => (i, a.eval x)).toList = vs
  | [], vs, hx => by simp [evp] at hx; simp [hx]
  | (i, x) :: xs, vs, hx => by
    simp only [evp] at hx
    split at hx
    · rename_i v us h1 h2
      simp only [Option.some.injEq] at hx
      subst hx
      have := h.evalp h2
      simp only [List.map_toArray] at this ⊢
      rw [List.map_cons, h.eval h1, this]
    · simp at hx
def setLs : List Value → Nat → List Value → List Value
  | l, _, [] => l
  | l, o, v :: vs => setLs (setL l o v) (o + 1) vs
theorem setLs_arr : ∀ (vs l : List Value) (o : Nat), (setLs l o vs).toArray = setA l.toArray o vs
  | [], _, _ => rfl
  | v :: vs, l, o => by rw [setLs, setLs_arr vs, setA, setL_eq]; simp
def plOff : Option (Nat × Nat) → Nat
  | some (o, _) => o
  | none => 0
def fillC (place : Nat → Option (Nat × Nat)) : List Value → List (Nat × Value) → List Value
  | l, [] => l
  | l, (i, v) :: r => fillC place (setLs l (plOff (place i)) v.cells.toList) r
def fillOk (place : Nat → Option (Nat × Nat)) (k : Nat) : List (Nat × Value) → Bool
  | [] => true
  | (i, v) :: r => (match place i with | some (o, s) => Nat.beq v.cells.size s && Nat.ble (o + s) k | none => false) && fillOk place k r
theorem fold_setA : ∀ (vs : List Value) (cs : Array Value) (o : Nat), vs.toArray.zipIdx.foldl (fun cs (c, j) => cs.setIfInBounds (o + j) c) cs = setA cs o vs := by
  intro vs cs o
  have key : ∀ (vs : List Value) (k : Nat) (cs : Array Value), (vs.zipIdx k).foldl (fun cs (c, j) => cs.setIfInBounds (o + j) c) cs = setA cs (o + k) vs := by
    intro vs
    induction vs with
    | nil => intro k cs; rfl
    | cons v vs ih => intro k cs; rw [List.zipIdx_cons, List.foldl_cons, ih, setA]; rfl
  simpa using key vs 0 cs
theorem fill_of {place : Nat → Option (Nat × Nat)} : ∀ (pv : List (Nat × Value)) (l : List Value), fillOk place l.length pv = true → Instr.fill place l.toArray pv = some (fillC place l pv).toArray
  | [], l, _ => rfl
  | (i, v) :: r, l, h => by
    simp only [fillOk, Bool.and_eq_true] at h
    obtain ⟨h1, h2⟩ := h
    unfold Instr.fill fillC
    cases hp : place i with
    | none => simp [hp] at h1
    | some p =>
      obtain ⟨o, s⟩ := p
      simp only [hp, Bool.and_eq_true] at h1
      have e1 := Nat.eq_of_beq_eq_true h1.1
      have e2 := Nat.le_of_ble_eq_true h1.2
      simp only [plOff]
      rw [if_neg (by simp [e1]; omega)]
      have e3 := fold_setA v.cells.toList l.toArray o
      simp only [Array.toArray_toList] at e3
      rw [e3, ← setLs_arr]
      refine fill_of r _ ?_
      have : (setLs l o v.cells.toList).length = l.length := by
        have := congrArg Array.size (setLs_arr v.cells.toList l o)
        rw [setA_size] at this
        simpa using this
      rw [this]; exact h2
def placeA (sz i : Nat) : Option (Nat × Nat) := some (i * sz, sz)
def nthP : List (Nat × Nat) → Nat → Option (Nat × Nat)
  | [], _ => none
  | p :: _, 0 => some p
  | _ :: l, i + 1 => nthP l i
theorem nthP_eq : ∀ (l : List (Nat × Nat)) (i : Nat), nthP l i = l[i]?
  | [], _ => rfl
  | _ :: _, 0 => rfl
  | _ :: l, i + 1 => by rw [nthP, nthP_eq l i]; rfl
/-- Where a struct's fields lie. -/
def placesOf (P : Program) (t : TypeId) : Option (List (Nat × Nat)) :=
  match P.underlying t with
  | some (.struct fs) => fs.toList.mapM fun f => (P.info? f.type).map fun i => (f.offset, i.size)
  | _ => none
class PlT (P : Program) (t : TypeId) (ps : outParam (List (Nat × Nat))) : Prop where
  h : placesOf P t = some ps
theorem zeroOf_spec {cs : Array Value} (h : zeroOf P t = some cs) : ∃ it z, P.info? t = some it ∧ it.zero = some z ∧ z.cells = cs := by
  unfold zeroOf at h
  rw [Option.map_eq_some_iff] at h
  obtain ⟨z, h1, h2⟩ := h
  rw [Option.bind_eq_some_iff] at h1
  obtain ⟨i, hi, hz⟩ := h1
  exact ⟨i, z, hi, hz, h2⟩
theorem q_build_of {ps : List (Nat × Operand)} {pv : List (Nat × Value)} {cells : Array Value} (hp : evp T ps = some pv) (hb : P.built t pv = some cells) : Qt P X w0 ⟨dst, .build t ps.toArray, ty, pos, af, gu⟩ T L (.agg cells) := by
  refine ⟨?_⟩
  intro n ac w hA hC hL
  have h := run_build (P := P) w t (ps.toArray.map fun (i, x) => (i, ac.eval x)) cells (by rw [hA.evalp hp]; exact hb)
  simp only [execOp, Sem.run_bind, h, Result.andThen_ok, Sem.run_pure]
theorem q_build_arr {ps : List (Nat × Operand)} {pv : List (Nat × Value)} {len sz : Nat} {zs : Array Value} {l l' : List Value} (hp : evp T ps = some pv) [hu : UT P t (.array len e)] [hs : SzT P e sz] [hz : ZrT P t zs] (hl : zs.toList = l) (hf : fillC (placeA sz) l pv = l') (hok : fillOk (placeA sz) l.length pv = true) :
    Qt P X w0 ⟨dst, .build t ps.toArray, ty, pos, af, gu⟩ T L (.agg l'.toArray) := by
  refine q_build_of hp ?_
  obtain ⟨it, z, h1, h2, h3⟩ := zeroOf_spec hz.h
  have hs := hs.h
  rw [Option.map_eq_some_iff] at hs
  obtain ⟨ie, h4, h5⟩ := hs
  have h6 := fill_of pv l hok
  rw [hf, ← hl] at h6
  simp only [Program.built, h1, hu.h, h2, h4, h5, h3]
  exact h6
theorem q_build_struct {ps : List (Nat × Operand)} {pv : List (Nat × Value)} {fs : Array Field} {pl : List (Nat × Nat)} {zs : Array Value} {l l' : List Value} (hp : evp T ps = some pv) [hu : UT P t (.struct fs)] [hs : PlT P t pl] [hz : ZrT P t zs] (hl : zs.toList = l) (hf : fillC (nthP pl) l pv = l') (hok : fillOk (nthP pl) l.length pv = true) :
    Qt P X w0 ⟨dst, .build t ps.toArray, ty, pos, af, gu⟩ T L (.agg l'.toArray) := by
  refine q_build_of hp ?_
  obtain ⟨it, z, h1, h2, h3⟩ := zeroOf_spec hz.h
  have hs := hs.h
  simp only [placesOf, hu.h] at hs
  have h6 := fill_of pv l hok
  rw [hf, ← hl] at h6
  have e : (fun x => (pl.toArray)[x]?) = nthP pl := by funext i; simp [nthP_eq]
  simp only [Program.built, h1, hu.h, h2, hs, h3, e]
  simpa using h6
theorem e_buildSlice_of {ps : List (Nat × Operand)} {pv : List (Nat × Value)} {len sz : Nat} {z : Value} {l' : List Value} (hp : evp T ps = some pv) (hd : Nat.blt d n = true) [hu : UT P t (.slice e)] [hs : SzT P e sz] [hz : ZrT P e #[z]] (h1 : sz = 1) (hlen : (Nat.blt 0 len && Nat.ble len 1000000) = true) (hf : fillC (placeA 1) (List.replicate len z) pv = l') (hok : fillOk (placeA 1) len pv = true)
    (h : ∀ a w, SS n ((d, .slice (some ⟨m, 0, none⟩) len len) :: T) X w0 (m + 1) (.blk m (.cells l'.toArray e) :: L) a w → K a w) :
    ∀ a w, SS n T X w0 m L a w → OW P ⟨some d, .buildSlice t len ps.toArray, ty, pos, af, gu⟩ K Q a w := by
  subst h1
  intro a w hs'
  obtain ⟨hA, hC, rfl, hL⟩ := hs'
  obtain ⟨it, z', h1, h2, h3⟩ := zeroOf_spec hz.h
  have hs := hs.h
  rw [h1, Option.map_some, Option.some.injEq] at hs
  simp only [Bool.and_eq_true] at hlen
  have hl1 := lt_of_blt hlen.1
  have hl2 := Nat.le_of_ble_eq_true hlen.2
  have h6 := fill_of pv (List.replicate len z) (by simpa using hok)
  rw [hf] at h6
  have e0 : (Array.range len).map (fun i => z'.cells[i % z'.cells.size]!) = (List.replicate len z).toArray := by
    apply Array.ext
    · simp
    · intro i hi1 hi2; simp [h3, Nat.mod_one]
  have hr : (Instr.buildSlice t len (ps.toArray.map fun (i, x) => (i, a.eval x))).run P w = .ok (.slice (some ⟨w.heap.size, 0, none⟩) len len) (w.alloc (.cells l'.toArray e)) := by
    have h7 : Instr.fill (fun i => some (i, 1)) ((Array.range len).map (fun i => z'.cells[i % z'.cells.size]!)) (ps.toArray.map fun (i, x) => (i, a.eval x)).toList = some l'.toArray := by
      rw [e0, hA.evalp hp, ← h6]
      congr 1
      funext i; simp [placeA]
    have g1 : ¬ (len > 2 ^ 24) := by omega
    have g2 : ¬ (len = 0) := by omega
    simp only [Instr.buildSlice, Sem.run_bind, run_underlying hu.h, sizeOf, typeInfo, program, Sem.run, h1, Result.andThen_ok, hs, Nat.mul_one, if_neg g1, if_neg g2, zeroValue, h2, Sem.run_pure]
    simp only [h7]
    rfl
  refine wp_value (w' := w.alloc (.cells l'.toArray e)) (v := .slice (some ⟨w.heap.size, 0, none⟩) len len) ?_ (h _ _ ⟨hA.put _ hd, hC.alloc _, by simp, hL.alloc _⟩)
  simp only [execOp, Sem.run_bind, hr, Result.andThen_ok, Sem.run_pure]
end
end Go.Proofs.Ytlcckgimagllaaa
