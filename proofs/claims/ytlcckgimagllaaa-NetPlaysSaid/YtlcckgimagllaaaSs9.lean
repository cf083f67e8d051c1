/- The walk by known slots and chunks: copy; literals without elements; append of nothing. No program in sight. -/
import Derived.Test.YtlcckgimagllaaaSs8
import Derived.Shelf.Spec.BitsCarry
namespace Go.Proofs.Ytlcckgimagllaaa
open Go Go.RowKit
set_option linter.unusedVariables false

section
variable {P : Program} {n m d : Nat} {T : List (Nat × Value)} {X : List Nat} {w0 : World} {L L' : List Chunk} {K : Act → World → Prop} {Q : Exit → Act → World → Prop}
  {ty t t2 e tt : TypeId} {pos : String} {af : Array Edge} {gu : Option (Nat × Bool)} {x y : Operand}

/-- copy into a block known whole. -/
theorem e_copy {g o dl dc sl sc : Nat} {p : Addr} {cs : Array Value} {news : List Value} (hx : ev T x = some (.slice (some ⟨g, o, none⟩) dl dc)) (hy : ev T y = some (.slice (some p) sl sc)) (hd : Nat.blt d n = true) [hu : UT P t (.slice e)] [hs : SzT P e 1]
    (hv : RdN X w0 L p news) (hn : news.length = min sl dl) (hone : allOne news = true) (hp : Pl (.blk g (.cells cs tt (0, 0))) (.blk g (.cells (setA cs o news) tt (0, 0))) L L') (ho : o + news.length ≤ cs.size) (hg : g ∈ X ∨ w0.heap.size ≤ g) {k : Nat} (hk : news.length = k)
    (h : ∀ a w, SS n ((d, .int .i64 k) :: T) X w0 m L' a w → K a w) :
    ∀ a w, SS n T X w0 m L a w → OW P ⟨some d, .call { callee := .builtin .copy, args := #[x, y], argTypes := #[t, t2] }, ty, pos, af, gu⟩ K Q a w := by
  subst hk
  intro a w hs'
  obtain ⟨hA, hC, rfl, hL⟩ := hs'
  have hb := hL.ok _ hp.mem
  simp only [Chunk.ok] at hb
  have hth := there_of hb ho
  have hr := run_copy_cells (P := P) w t t2 ty e g o dl dc p sl sc news hu.h hs.h hn (hv.cells hC hL) (fun j hj => (hth j hj).1) (fun j hj => (hth j hj).2) (allOne_mem hone)
  refine wp_value (w' := w.setCells g o news) (v := .int .i64 news.length) ?_ (h _ _ ⟨hA.put _ hd, hC.setCells hg _ _, size_setCells _ _ _, Has.repl hp hL (fun k hk => .inl hk) (cellsOf_setCells _ _ _ _ hb) (fun k _ hk => heap_setCells _ _ _ k (by simpa [Chunk.foot] using hk))⟩)
  simp only [execOp, resolve, Sem.run_bind, Sem.run_pure, Result.andThen_ok, invoke, List.map_toArray, List.map_cons, List.map_nil, hA.eval hx, hA.eval hy, builtin, hr, goInt]
/-- Nothing goes over. -/
theorem e_copy_none {b1 b2 : Option Addr} {dl dc sl sc : Nat} (hx : ev T x = some (.slice b1 dl dc)) (hy : ev T y = some (.slice b2 sl sc)) (hd : Nat.blt d n = true) [hu : UT P t (.slice e)] [hs : SzT P e 1] (hn : min sl dl = 0)
    (h : ∀ a w, SS n ((d, .int .i64 0) :: T) X w0 m L a w → K a w) :
    ∀ a w, SS n T X w0 m L a w → OW P ⟨some d, .call { callee := .builtin .copy, args := #[x, y], argTypes := #[t, t2] }, ty, pos, af, gu⟩ K Q a w := by
  intro a w hs'
  obtain ⟨hA, hC, rfl, hL⟩ := hs'
  have hr := run_copy_none (P := P) w t t2 ty e b1 b2 dl dc sl sc hu.h hs.h hn
  refine wp_value (w' := w) (v := .int .i64 0) ?_ (h _ _ ⟨hA.put _ hd, hC, rfl, hL⟩)
  simp only [execOp, resolve, Sem.run_bind, Sem.run_pure, Result.andThen_ok, invoke, List.map_toArray, List.map_cons, List.map_nil, hA.eval hx, hA.eval hy, builtin, hr, goInt]
/-- A literal slice without elements. -/
theorem e_buildSlice0 {sz : Nat} (hd : Nat.blt d n = true) [hu : UT P t (.slice e)] [hs : SzT P e sz]
    (h : ∀ a w, SS n ((d, .slice (some ⟨m, 0, none⟩) 0 0) :: T) X w0 (m + 1) (.sl (some ⟨m, 0, none⟩) 0 e sz [] :: L) a w → K a w) :
    ∀ a w, SS n T X w0 m L a w → OW P ⟨some d, .buildSlice t 0 #[], ty, pos, af, gu⟩ K Q a w := by
  intro a w hs'
  obtain ⟨hA, hC, rfl, hL⟩ := hs'
  have hs1 := hs.h
  rw [Option.map_eq_some_iff] at hs1
  obtain ⟨i, hi, rfl⟩ := hs1
  have h4 := hL.alloc (.cells #[] e)
  refine wp_value (w' := w.alloc (.cells #[] e)) (v := .slice (some ⟨w.heap.size, 0, none⟩) 0 0) ?_ (h _ _ ⟨hA.put _ hd, hC.alloc _, by simp, ?_⟩)
  · simp [execOp, Instr.buildSlice, run_underlying hu.h, sizeOf, typeInfo, hi, Instr.fill, newRow]
    congr 2
    apply Array.ext <;> simp
  · refine Has.repl (w := w.alloc _) (c := .blk w.heap.size _) .here h4 (fun k hk => .inl (by simpa [Chunk.foot] using hk)) (.inr ⟨w.heap.size, #[], rfl, h4.ok _ (List.mem_cons_self ..), by simp, by simp⟩) (fun _ _ _ => rfl)
/-- append of nil: the same slice. -/
theorem e_append_none {g o len cap c2 sz : Nat} (hx : ev T x = some (.slice (some ⟨g, o, none⟩) len cap)) (hy : ev T y = some (.slice none 0 c2)) (hd : Nat.blt d n = true) [hu : UT P t (.slice e)] [hs : SzT P e sz] (hc : len ≤ cap)
    (h : ∀ a w, SS n ((d, .slice (some ⟨g, o, none⟩) len cap) :: T) X w0 m L a w → K a w) :
    ∀ a w, SS n T X w0 m L a w → OW P ⟨some d, .call { callee := .builtin .append, args := #[x, y], argTypes := #[t, t] }, ty, pos, af, gu⟩ K Q a w := by
  intro a w hs'
  obtain ⟨hA, hC, rfl, hL⟩ := hs'
  have hs1 := hs.h
  rw [Option.map_eq_some_iff] at hs1
  obtain ⟨i, hi, rfl⟩ := hs1
  have hr := run_append_room_src (P := P) w t t ty e i hu.h hi g o len cap (.slice none 0 c2) 0 [] (Src.ofNil w hu.h c2) (by omega) (by simp) (by simp)
  refine wp_value (w' := w) (v := .slice (some ⟨g, o, none⟩) len cap) ?_ (h _ _ ⟨hA.put _ hd, hC, rfl, hL⟩)
  simp only [execOp, resolve, Sem.run_bind, Sem.run_pure, Result.andThen_ok, invoke, List.map_toArray, List.map_cons, List.map_nil, hA.eval hx, hA.eval hy, builtin, hr]
  rfl
theorem mapM_get {α β : Type} {F : α → Option β} : ∀ {l : List α} {pl : List β} {i : Nat} {b : β}, l.mapM F = some pl → pl[i]? = some b → ∃ f, l[i]? = some f ∧ F f = some b
  | [], pl, i, b, h, hi => by simp at h; subst h; simp at hi
  | f :: l, pl, i, b, h, hi => by
    simp only [List.mapM_cons, Option.bind_eq_bind, Option.pure_def] at h
    cases hf : F f with
    | none => simp [hf] at h
    | some c =>
      cases hr : l.mapM F with
      | none => simp [hf, hr] at h
      | some rest =>
        simp [hf, hr] at h
        subst h
        cases i with
        | zero => simp at hi; subst hi; exact ⟨f, rfl, hf⟩
        | succ j => simp at hi; obtain ⟨f', h1, h2⟩ := mapM_get hr hi; exact ⟨f', by simpa using h1, h2⟩
/-- The address of a struct's field. -/
theorem q_fieldAddrP {dst : Option Tmp} {i g o off sz : Nat} {pl : List (Nat × Nat)} (hx : ev T x = some (.pointer (some ⟨g, o, none⟩))) [hs : PlT P t pl] (hp : nthP pl i = some (off, sz)) (hz : Nat.beq sz 0 = false) {o' : Nat} (ho : o + off = o') :
    Qt P X w0 ⟨dst, .fieldAddr t x i, ty, pos, af, gu⟩ T L (.pointer (some ⟨g, o', none⟩)) := by
  subst ho
  have h1 := hs.h
  unfold placesOf at h1
  cases hu : P.underlying t with
  | none => simp [hu] at h1
  | some de =>
    cases de <;> try (simp [hu] at h1; done)
    rename_i fs
    simp only [hu] at h1
    rw [nthP_eq] at hp
    obtain ⟨f, hf, hF⟩ := mapM_get h1 hp
    rw [Option.map_eq_some_iff] at hF
    obtain ⟨inf, hi, he⟩ := hF
    simp only [Prod.mk.injEq] at he
    obtain ⟨rfl, rfl⟩ := he
    haveI : UT P t (.struct fs) := ⟨hu⟩
    haveI : SzT P f.type inf.size := ⟨by simp [hi]⟩
    exact q_fieldAddr hx (by simpa using hf) hz
/-- A function that the model itself answers. -/
theorem q_extern {dst : Option Tmp} {f : FuncId} {fn : Func} {en : Array Value → Sem Value} {xs : List Operand} {ats : Array TypeId} {vs : List Value} {v : Value} (hf : P.funcs[f]? = some fn) (hname : (fn.name == "runtime.NumGoroutine") = false) (hb : fn.body.isNone = true) (hn : Extern.findNext fn = none) (he : Extern.find fn = some en)
    (hargs : evs T xs = some vs) (h : ∀ w, (en vs.toArray).run P w = .ok v w) : Qt P X w0 ⟨dst, .call { callee := .value (.func f), args := xs.toArray, argTypes := ats }, ty, pos, af, gu⟩ T L v := by
  refine ⟨?_⟩
  intro n ac w hA hC hL
  have h0 : ac.eval (.func f) = .func (.func f) #[] #[] := hA.eval (x := .func f) rfl
  simp only [execOp, resolve, h0, Deferred.ofValue, invoke, Sem.run_bind, Sem.run_pure, Result.andThen_ok, List.map_toArray, hA.evals hargs]
  have h1 := run_callFunc_extern (P := P) hf hname hb hn he vs.toArray w
  simp only [Array.empty_append, Array.append_empty]
  rw [h1, h w]
  rfl
end
end Go.Proofs.Ytlcckgimagllaaa
