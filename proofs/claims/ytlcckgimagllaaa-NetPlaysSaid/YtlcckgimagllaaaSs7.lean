/- The walk by known slots and chunks: ranges over a function. No program in sight. -/
import Derived.Test.YtlcckgimagllaaaSs6
import Derived.RangeFuncIn
import Derived.RangeFuncRecord
import Derived.RangeFuncSeq
namespace Go.Proofs.Ytlcckgimagllaaa
open Go Go.RowKit
set_option linter.unusedVariables false

/-! ### the iterator's side -/
/-- What a round leads to: on, or no more. -/
def RY (Pt Pf : World → Prop) (e : Ending) (W' : World) : Prop := (e = .returned (.bool true) ∧ Pt W') ∨ (e = .returned (.bool false) ∧ Pf W')
structure YA (P : Program) (l : Nat) (vs : List Value) (W : World) (Pt Pf : World → Prop) : Prop where
  h : YieldAt Fence.wide 0 P l vs.toArray W (RY Pt Pf)
/-- An iterator that never ends by itself: one of its blocks Y turns; its i-th round hands over enc i. -/
structure IT (P : Program) (gf : Nat) (lb : List Value) (Y : List Nat) (Lit : Nat → List Chunk) (enc : Nat → Value) (N : Nat) : Prop where
  h : ∀ (l : Nat) (J : Nat → World → Prop) (Jx : World → Prop), (∀ i W W', J i W → Ch Y W W' → J i W') → (∀ W W', Jx W → Ch Y W W' → Jx W') → (∀ i W, J i W → i < N) →
    (∀ i W, J i W → Has (Lit i) W → YA P l [enc i] W (fun W' => J (i + 1) W' ∧ Has (Lit i) W') Jx) →
    ∀ W, J 0 W → Has (Lit 0) W → CA P gf (.func (.yield l) #[] #[] :: lb) W fun e W' => (∃ v, e = .returned v) ∧ Jx W'

section
variable {P : Program} {n m d : Nat} {T : List (Nat × Value)} {X : List Nat} {w0 : World} {L : List Chunk} {ops : Array Oper} {rest : List Oper} {Q : Ct} {K : Act → World → Prop}
  {ty : TypeId} {pos : String} {af : Array Edge} {x : Code}

theorem st_yield {fop : Operand} {l : Nat} {xs : List Operand} {ats : Array TypeId} {vs : List Value} {Pt Pf : World → World → Prop}
    (hf : ev T fop = some (.func (.yield l) #[] #[])) (hargs : evs T xs = some vs) (hd : Nat.blt d n = true) (hro : Q.ro = none)
    (hY : ∀ w, Ch X w0 w → Has L w → YA P l vs w (Pt w) (Pf w))
    (ht : ∀ w w' a, Ch X w0 w → Has L w → Agr n ((d, .bool true) :: T) a → Pt w w' → WL P ops Q rest a w')
    (hff : ∀ w w' a, Ch X w0 w → Has L w → Agr n ((d, .bool false) :: T) a → Pf w w' → WL P ops Q rest a w') :
    ∀ a w, SS n T X w0 m L a w → WL P ops Q (⟨some d, .call { callee := .value fop, args := xs.toArray, argTypes := ats }, ty, pos, af, none⟩ :: rest) a w := by
  intro a w hs
  refine ⟨wpListIn_plain rfl fun K hK => ⟨fun _ _ => trivial, ?_⟩⟩
  rw [Oper.semAt_eq _ _ _ (by intro c h; cases h)]
  obtain ⟨fn, tmps, assign, body, hy, hR⟩ := (hY w hs.ch hs.has).h
  have e1 : (execOp a.eval ⟨some d, .call { callee := .value fop, args := xs.toArray, argTypes := ats }, ty, pos, af, none⟩).run P w = .ok (.round l fn tmps assign body) w := by
    simp only [execOp, resolve, hs.agr.eval hf, Deferred.ofValue, invoke, Sem.run_bind, Sem.run_pure, Result.andThen_ok, List.map_toArray, hs.agr.evals hargs]
    simpa using hy
  rw [e1, Oper.uponIn_round, hro]
  refine ⟨fun h' => (by simp [fen, Fence.wide] at h'), RoundIn.mono hR ?_⟩
  rintro e w' (⟨rfl, h1⟩ | ⟨rfl, h1⟩)
  · exact hK _ _ (ht w w' _ hs.ch hs.has (hs.agr.put _ hd) h1).h
  · exact hK _ _ (hff w w' _ hs.ch hs.has (hs.agr.put _ hd) h1).h

/-- From here on. -/
theorem rebase {a : Act} {w : World} {F : Act → World → Prop} (hA : Agr n T a) (hH : Has L w) (h : ∀ a' w', SS n T X w w.heap.size L a' w' → F a' w') : F a w := h a w ⟨hA, Ch.refl _ _, rfl, hH⟩
structure LI (I : Nat → Act → World → Prop) (k : Nat) (a : Act) (w : World) : Prop where
  h : ∃ k', k' < k ∧ I k' a w
theorem c_loopI (I : Nat → Act → World → Prop) (n0 : Nat) (h0 : ∀ a w, SS n T X w0 m L a w → I n0 a w) (round : ∀ k a w, I k a w → CW P x (.thn (LI I k) Q) a w) :
    ∀ a w, SS n T X w0 m L a w → CW P (Code.loop x) Q a w := by
  intro a w hs
  refine ⟨wpIn_loop_ghost I n0 (h0 a w hs) fun k a w hI => wpIn_mono (round k a w hI).h ?_⟩
  intro e a' w' hq
  cases e <;> first | exact LI.h hq | exact hq

/-! ### the caller's side -/
theorem Ch.putObj {X : List Nat} {a b : World} (h : Ch X a b) {l : Nat} (hl : l ∈ X ∨ a.heap.size ≤ l) (o : Obj) : Ch X a (b.putObj l o) :=
  h.call (Y := [l]) ⟨rfl, rfl, rfl, by simp, fun k _ hk => World.putObj_heap_other (by simpa using hk)⟩ (by simpa using hl)

/-- The loop's body, once its round has begun. -/
structure BG (P : Program) (l : Nat) (body : Code) (R : Ending → World → Prop) (a : Act) (w : World) : Prop where
  h : ∃ w₂, (Instr.beginRound l).run P w = .ok () w₂ ∧ body.wpIn (fen (some l)) 0 P (roundPost P l R) a w₂
theorem c_begin {l : Nat} {body : Code} {R : Ending → World → Prop} {rc : Loop} {L' : List Chunk} (hrc : rc.state = .ready) (hp : Pl (.blk l (.loop rc)) (.blk l (.loop { rc with state := .busy })) L L') (hl : l ∈ X ∨ w0.heap.size ≤ l)
    (h : ∀ a w, SS n T X w0 m L' a w → CW P body (.rnd l (roundPost P l R)) a w) : ∀ a w, SS n T X w0 m L a w → BG P l body R a w := by
  intro a w hs
  have h1 := hs.has.ok _ hp.mem
  simp only [Chunk.ok] at h1
  refine ⟨_, run_beginRound h1 hrc, (h a _ ⟨hs.agr, hs.ch.putObj hl _, by simpa using hs.size, ?_⟩).h⟩
  exact Has.repl hp hs.has (fun k hk => .inl hk) (World.putObj_heap_same (Array.getElem?_eq_some_iff.1 h1).1) fun k _ hk => World.putObj_heap_other (by simpa [Chunk.foot] using hk)

/-- Between two rounds, the caller's. -/
structure JR {γ : Type} (Φ : γ → Prop) (rd : γ → Nat) (Lz : γ → List Chunk) (X : List Nat) (w0 : World) (m : Nat) (Y : List Nat) (rc : Loop) (i : Nat) (W : World) : Prop where
  h : ∃ z, Φ z ∧ rd z = i ∧ Ch X w0 W ∧ Has (Lz z ++ [.blk m (.deferred (some [])), .blk (m + 1) (.loop rc)]) W ∧ (∀ g ∈ feet (Lz z ++ [.blk m (.deferred (some [])), .blk (m + 1) (.loop rc)]), g ∉ Y)
/-- A round has left by the exit id. -/
structure JX {δ : Type} (Ψ : δ → Prop) (Lx : δ → List Chunk) (X : List Nat) (w0 : World) (m : Nat) (Y : List Nat) (rc : Loop) (id : Nat) (W : World) : Prop where
  h : ∃ z, Ψ z ∧ Ch X w0 W ∧ Has (Lx z ++ [.blk m (.deferred (some [])), .blk (m + 1) (.loop { rc with state := .done, pending := some (.exit id) })]) W ∧ (∀ g ∈ feet (Lx z ++ [.blk m (.deferred (some [])), .blk (m + 1) (.loop rc)]), g ∉ Y)

theorem feet_obj {A : List Chunk} {k l : Nat} {o o' p p' : Obj} : feet (A ++ [.blk k o, .blk l o']) = feet (A ++ [.blk k p, .blk l p']) := by simp [feet, Chunk.foot]

/-- Off the body's end: the next round's. -/
theorem rd_next {γ δ : Type} {Φ : γ → Prop} {rd : γ → Nat} {Lz : γ → List Chunk} {Ψ : δ → Prop} {Lx : δ → List Chunk} {M : Nat} {Y : List Nat} {rc : Loop} {i id : Nat} {Li : List Chunk} (hrc : rc.state = .ready ∧ rc.pending = none) (z : γ) (hz : Φ z) (hi : rd z = i + 1) (hM : M + 1 ∈ X ∨ w0.heap.size ≤ M + 1)
    (hY : feet Li = Y) (hL : (Lz z ++ (([.blk M (.deferred (some [])), .blk (M + 1) (.loop { rc with state := .busy })] : List Chunk) ++ Li)).Sublist L) :
    ∀ a w, SS n T X w0 m L a w → EX (.rnd (M + 1) (roundPost P (M + 1) (RY (fun W' => JR Φ rd Lz X w0 M Y rc (i + 1) W' ∧ Has Li W') (JX Ψ Lx X w0 M Y rc id)))) .normal a w := by
  intro a w hs
  have hH := hs.has.sub hL
  have hb := hH.ok (.blk (M + 1) (.loop { rc with state := .busy })) (by simp)
  simp only [Chunk.ok] at hb
  have hlt := (Array.getElem?_eq_some_iff.1 hb).1
  have hr := run_endRound (P := P) none hb
  simp only [Option.isNone_none, if_true] at hr
  have e : ({ rc with state := .ready, pending := none } : Loop) = rc := by
    obtain ⟨h1, h2⟩ := hrc
    cases rc; simp_all
  rw [e] at hr
  have hap := hH.apart
  have hH2 : Has (Lz z ++ (([.blk M (.deferred (some [])), .blk (M + 1) (.loop rc)] : List Chunk) ++ Li)) (w.putObj (M + 1) (.loop rc)) := by
    refine Has.repl (c := .blk (M + 1) (.loop { rc with state := .busy })) (c' := .blk (M + 1) (.loop rc)) (w := w) ?_ hH (fun k hk => .inl hk) (World.putObj_heap_same hlt) fun k _ hk => World.putObj_heap_other (by simpa [Chunk.foot] using hk)
    have key : ∀ A : List Chunk, Pl (.blk (M + 1) (.loop { rc with state := .busy })) (.blk (M + 1) (.loop rc)) (A ++ (([.blk M (.deferred (some [])), .blk (M + 1) (.loop { rc with state := .busy })] : List Chunk) ++ Li)) (A ++ (([.blk M (.deferred (some [])), .blk (M + 1) (.loop rc)] : List Chunk) ++ Li)) := by
      intro A
      induction A with
      | nil => exact .there .here
      | cons c A ih => exact .there ih
    exact key _
  refine ⟨_, _, hr, .inl ⟨rfl, ⟨z, hz, hi, hs.ch.putObj hM _, ?_, ?_⟩, ?_⟩⟩
  · exact hH2.sub (by rw [← List.append_assoc]; exact List.sublist_append_left _ _)
  · have h3 := hH2.apart
    rw [← List.append_assoc, feet_append] at h3
    intro g hg hgY
    exact (List.nodup_append.1 h3).2.2 g hg g (by rw [hY]; exact hgY) rfl
  · exact hH2.sub (by rw [← List.append_assoc]; exact List.sublist_append_right _ _)
theorem rd_stop {γ δ : Type} {Φ : γ → Prop} {rd : γ → Nat} {Lz : γ → List Chunk} {Ψ : δ → Prop} {Lx : δ → List Chunk} {M : Nat} {Y : List Nat} {rc : Loop} {i id : Nat} {Li : List Chunk} (z : δ) (hz : Ψ z) (hM : M + 1 ∈ X ∨ w0.heap.size ≤ M + 1)
    (hY : feet Li = Y) (hL : (Lx z ++ (([.blk M (.deferred (some [])), .blk (M + 1) (.loop { rc with state := .busy })] : List Chunk) ++ Li)).Sublist L) :
    ∀ a w, SS n T X w0 m L a w → EX (.rnd (M + 1) (roundPost P (M + 1) (RY (fun W' => JR Φ rd Lz X w0 M Y rc (i + 1) W' ∧ Has Li W') (JX Ψ Lx X w0 M Y rc id)))) (.exit id) a w := by
  intro a w hs
  have hH := hs.has.sub hL
  have hb := hH.ok (.blk (M + 1) (.loop { rc with state := .busy })) (by simp)
  simp only [Chunk.ok] at hb
  have hlt := (Array.getElem?_eq_some_iff.1 hb).1
  have hr := run_endRound (P := P) (some (.exit id)) hb
  simp only [Option.isNone_some, Bool.false_eq_true, if_false] at hr
  have hH2 : Has (Lx z ++ (([.blk M (.deferred (some [])), .blk (M + 1) (.loop { rc with state := .done, pending := some (.exit id) })] : List Chunk) ++ Li)) (w.putObj (M + 1) (.loop { rc with state := .done, pending := some (.exit id) })) := by
    refine Has.repl (c := .blk (M + 1) (.loop { rc with state := .busy })) (c' := .blk (M + 1) (.loop { rc with state := .done, pending := some (.exit id) })) (w := w) ?_ hH (fun k hk => .inl hk) (World.putObj_heap_same hlt) fun k _ hk => World.putObj_heap_other (by simpa [Chunk.foot] using hk)
    have key : ∀ A : List Chunk, Pl (.blk (M + 1) (.loop { rc with state := .busy })) (.blk (M + 1) (.loop { rc with state := .done, pending := some (.exit id) })) (A ++ (([.blk M (.deferred (some [])), .blk (M + 1) (.loop { rc with state := .busy })] : List Chunk) ++ Li)) (A ++ (([.blk M (.deferred (some [])), .blk (M + 1) (.loop { rc with state := .done, pending := some (.exit id) })] : List Chunk) ++ Li)) := by
      intro A
      induction A with
      | nil => exact .there .here
      | cons c A ih => exact .there ih
    exact key _
  refine ⟨_, _, hr, .inr ⟨rfl, ⟨z, hz, hs.ch.putObj hM _, ?_, ?_⟩⟩⟩
  · exact hH2.sub (by rw [← List.append_assoc]; exact List.sublist_append_left _ _)
  · have h3 := hH2.apart
    rw [← List.append_assoc, feet_append] at h3
    intro g hg hgY
    rw [feet_obj (p := .deferred (some [])) (p' := .loop { rc with state := .done, pending := some (.exit id) })] at hg
    exact (List.nodup_append.1 h3).2.2 g hg g (by rw [hY]; exact hgY) rfl
theorem Has.join {A B : List Chunk} {w : World} (hA : Has A w) (hB : Has B w) (h : ∀ g ∈ feet A, g ∉ feet B) : Has (A ++ B) w :=
  ⟨fun c hc => (List.mem_append.1 hc).elim (hA.ok c) (hB.ok c), by rw [feet_append]; exact List.nodup_append.2 ⟨hA.apart, hB.apart, fun a ha b hb e => h a ha (e ▸ hb)⟩⟩

theorem c_range {γ δ : Type} {g : Operand} {p : Tmp} {assign body : Code} {gf : Nat} {lb : List Value} {Y : List Nat} {Lit : Nat → List Chunk} {enc : Nat → Value} {N id : Nat}
    (hg : ev T g = some (.func (.func gf) #[] lb.toArray)) (hb : bodied P gf = true) (hro : Q.ro = none) (hp : Nat.blt p n = true) (hTd : dfs T = [])
    (hit : IT P gf lb Y Lit enc N) (Φ : γ → Prop) (rd : γ → Nat) (Lz : γ → List Chunk) (Ψ : δ → Prop) (Lx : δ → List Chunk) (z0 : γ) (hz0 : Φ z0) (hr0 : rd z0 = 0) (hrd : ∀ z, Φ z → rd z < N)
    (hL : (Lz z0 ++ Lit 0).Sublist L) (hY : ∀ g ∈ Y, g ∈ X ∨ w0.heap.size ≤ g) (hf : ∀ i, feet (Lit i) = Y) (hm : w0.heap.size ≤ m)
    (hround : ∀ z (rc : Loop) m', Φ z → rc.state = .ready ∧ rc.pending = none → m + 2 ≤ m' → ∀ a w, SS n ((p, enc (rd z)) :: T) X w0 m' (Lz z ++ (([.blk m (.deferred (some [])), .blk (m + 1) (.loop rc)] : List Chunk) ++ Lit (rd z))) a w →
      CW P assign (.thn (BG P (m + 1) body (RY (fun W' => JR Φ rd Lz X w0 m Y rc (rd z + 1) W' ∧ Has (Lit (rd z)) W') (JX Ψ Lx X w0 m Y rc id))) (.rnd (m + 1) (fun _ _ _ => False))) a w)
    (hstop : ∀ z m', Ψ z → m + 2 ≤ m' → ∀ a w, SS n ((dslot, .int .i64 m) :: T) X w0 m' (Lx z ++ [.blk m (.deferred (some []))]) a w → EX Q (.exit id) a w) :
    ∀ a w, SS n T X w0 m L a w → CW P (Code.rangeFunc g #[p] assign body) Q a w := by
  intro a w hs
  obtain ⟨hA, hC, rfl, hH⟩ := hs
  refine ⟨?_⟩
  rw [hro]
  refine wpIn_rangeFunc fun fn _ => ?_
  obtain ⟨rc, hrc⟩ : ∃ rc : Loop, rc = { state := .ready, pending := none, fn, tmps := a.tmps, params := #[p], assign, body, defers := w.heap.size } := ⟨_, rfl⟩
  have hnY : ∀ g, w.heap.size ≤ g → g ∉ Y := fun g hg hgY => by
    have := (hH.sub hL).lt g (by rw [feet_append, hf]; exact List.mem_append_right _ hgY)
    omega
  have hH0 := hH.sub hL
  have hHz : Has (Lz z0) w := hH0.sub (List.sublist_append_left _ _)
  have hHl : Has (Lit 0) w := hH0.sub (List.sublist_append_right _ _)
  obtain ⟨W1, hW1⟩ : ∃ W1, W1 = (w.alloc (.deferred (some []))).alloc (.loop rc) := ⟨_, rfl⟩
  have hK1 : Has (.blk (w.heap.size + 1) (.loop rc) :: .blk w.heap.size (.deferred (some [])) :: (Lz z0 ++ Lit 0)) W1 := by
    rw [hW1]
    have := (hH0.alloc (.deferred (some []))).alloc (.loop rc)
    rwa [World.size_alloc] at this
  have hC1 : Ch X w0 W1 := by rw [hW1]; exact (hC.alloc _).alloc _
  have hap := hK1.apart
  have hsplit : ∀ g ∈ feet (Lz z0), g ∉ Y := fun g hg hgY => by
    have h3 := hH0.apart
    rw [feet_append] at h3
    exact (List.nodup_append.1 h3).2.2 g hg g (by rw [hf]; exact hgY) rfl
  have hJ0 : Has (Lz z0 ++ [.blk w.heap.size (.deferred (some [])), .blk (w.heap.size + 1) (.loop rc)]) W1 := by
    have hz1 : Has (Lz z0) W1 := hK1.sub ((List.sublist_append_left _ _).cons _ |>.cons _)
    have hd1 : Has [.blk w.heap.size (.deferred (some [])), .blk (w.heap.size + 1) (.loop rc)] W1 := by
      refine ⟨fun c hc => ?_, by simp [feet, Chunk.foot]⟩
      simp only [List.mem_cons, List.not_mem_nil, or_false] at hc
      rcases hc with rfl | rfl
      · exact hK1.ok _ (by simp)
      · exact hK1.ok _ (by simp)
    refine hz1.join hd1 fun g hg hg2 => ?_
    have := hHz.lt g hg
    simp only [feet, Chunk.foot, List.flatMap_cons, List.flatMap_nil, List.append_nil, List.singleton_append, List.mem_cons, List.not_mem_nil, or_false] at hg2
    omega
  have hdis : ∀ {A : List Chunk} {o : Obj}, (∀ g ∈ feet A, g ∉ Y) → ∀ g ∈ feet (A ++ [.blk w.heap.size (.deferred (some [])), .blk (w.heap.size + 1) o]), g ∉ Y := by
    intro A o h g hg
    rw [feet_append] at hg
    rcases List.mem_append.1 hg with hg | hg
    · exact h g hg
    · simp only [feet, Chunk.foot, List.flatMap_cons, List.flatMap_nil, List.append_nil, List.singleton_append, List.mem_cons, List.not_mem_nil, or_false] at hg
      exact hnY g (by omega)
  refine ⟨w.heap.size + 1, [{ target := .collected w.heap.size, args := #[] }], W1, { target := .fn (.func gf) lb.toArray, args := #[.func (.yield (w.heap.size + 1)) #[] #[]] }, W1, gf, #[.func (.yield (w.heap.size + 1)) #[] #[]] ++ lb.toArray, W1, ?_, ?_, fun _ _ => trivial, ?_, fun h => (by simp [fen, Fence.wide] at h), ?_⟩
  · rw [hW1, hrc]; exact run_enterLoop_outer _ _ _ _ _
  · simp only [resolve, hA.eval hg]
    simp [go_sem]
  · simp [invoke, go_sem, run_callFunc_bodied hb]
  · refine callsIn_wide.2 (Calls.mono (by
      have h1 := (hit.h (w.heap.size + 1) (JR Φ rd Lz X w0 w.heap.size Y rc) (JX Ψ Lx X w0 w.heap.size Y rc id) ?_ ?_ ?_ ?_ W1 ⟨z0, hz0, hr0, hC1, hJ0, hdis hsplit⟩ (hK1.sub ((List.sublist_append_right _ _).cons _ |>.cons _))).h
      · simpa using h1
      · rintro i W W' ⟨z, hz, hi, hc, hh, hd⟩ hch
        exact ⟨z, hz, hi, hc.call hch hY, hh.congr fun g hg => hch.block g (hh.lt g hg) (hd g hg), hd⟩
      · rintro W W' ⟨z, hz, hc, hh, hd⟩ hch
        exact ⟨z, hz, hc.call hch hY, hh.congr fun g hg => hch.block g (hh.lt g hg) (hd g (by rw [feet_obj (p := .deferred (some [])) (p' := .loop { rc with state := .done, pending := some (.exit id) })]; exact hg)), hd⟩
      · rintro i W ⟨z, hz, rfl, _⟩
        exact hrd z hz
      · rintro i W ⟨z, hz, rfl, hc, hh, hd⟩ hli
        have hb2 := hh.ok (.blk (w.heap.size + 1) (.loop rc)) (by simp)
        simp only [Chunk.ok] at hb2
        have hlt := (Array.getElem?_eq_some_iff.1 hb2).1
        have hy := run_yield (P := P) (args := #[enc (rd z)]) hb2 (by rw [hrc]; rfl)
        refine ⟨⟨rc.fn, _, rc.assign, rc.body, hy, roundIn_of_wpIn (F := Fence.wide) trivial ?_⟩⟩
        have hj : Has (Lz z ++ (([.blk w.heap.size (.deferred (some [])), .blk (w.heap.size + 1) (.loop rc)] : List Chunk) ++ Lit (rd z))) W := by
          rw [← List.append_assoc]
          exact hh.join hli fun g hg hg2 => hd g hg (by rw [← hf (rd z)]; exact hg2)
        have hag := hA.put (enc (rd z)) hp
        have hact : ({ tmps := (rc.params.zip #[enc (rd z)]).foldl (fun tmps (t, a) => tmps.setIfInBounds t a) rc.tmps, defers := [] } : Act) = a.put (some p) (enc (rd z)) := by
          have hd0 : a.defers = [] := hA.defers.trans hTd
          rw [hrc]
          simp [Act.put, hd0]
        have h5 := (hround z rc W.heap.size hz (by rw [hrc]; exact ⟨rfl, rfl⟩) (by omega) _ W ⟨hag, hc, rfl, hj⟩).h
        have e1 : rc.assign = assign := by rw [hrc]
        have e2 : rc.body = body := by rw [hrc]
        rw [hact, e1, e2]
        refine wpIn_mono h5 fun e a' w' hq => ?_
        cases e <;> first | exact BG.h hq | exact hq) ?_)
    rintro e W' ⟨⟨v, rfl⟩, z, hz, hc, hh, hd⟩
    have hb2 := hh.ok (.blk (w.heap.size + 1) (.loop { rc with state := .done, pending := some (.exit id) })) (by simp)
    simp only [Chunk.ok] at hb2
    have hlt := (Array.getElem?_eq_some_iff.1 hb2).1
    refine ⟨_, _, run_endLoop hb2 (by simp), ?_⟩
    dsimp only
    refine wpIn_exit ?_
    have hle : w0.heap.size ≤ w.heap.size + 1 := by omega
    refine (hstop z _ hz ?_ { a with defers := [{ target := .collected w.heap.size, args := #[] }] ++ a.defers } (W'.putObj (w.heap.size + 1) (.loop { rc with state := .exhausted, pending := some (.exit id) })) ⟨⟨hA.size, hA.small, ?_, ?_⟩, hc.putObj (.inr hle) _, rfl, ?_⟩).h
    · simp; omega
    · have hd0 : a.defers = [] := hA.defers.trans hTd
      simp [dfs, lk, hd0, Nat.beq_refl]
    · intro t v ht
      obtain ⟨h6, h7⟩ := lks_lk ht
      refine hA.slot t v (lks_of h6 ?_)
      simp only [lk] at h7
      have h8 : Nat.beq dslot t = false := by
        rw [← Bool.not_eq_true]
        intro h9
        rw [Nat.eq_of_beq_eq_true h9] at h6
        simp at h6
      simpa [h8] using h7
    · have h9 : Has (Lx z ++ [.blk w.heap.size (.deferred (some []))]) W' := hh.sub (List.Sublist.append_left (by simp) _)
      refine h9.congr fun g hg => World.putObj_heap_other fun e => ?_
      subst e
      have hap2 := hh.apart
      rw [feet_append] at hap2 hg
      simp only [feet, Chunk.foot, List.flatMap_cons, List.flatMap_nil, List.append_nil, List.singleton_append] at hap2 hg
      rcases List.mem_append.1 hg with hg | hg
      · exact (List.nodup_append.1 hap2).2.2 _ hg _ (by simp) rfl
      · simp at hg

/-- A return where a mark is left. -/
theorem r_retM {α : Type} {V : α → Value} {N : α → List Chunk} {Ψ : α → Prop} {fn : Func} {rs : List ResultVar} {vs : List Value} {D : Nat} (z : α) (hd0 : lk T dslot = some (.int .i64 D)) (hfn : fn.results = rs.toArray) (hR : Res P X w0 T (N z) rs vs) (hv : vval vs = V z)
    (hN : (N z ++ ([.blk D (.deferred (some []))] : List Chunk)).Sublist L) (hnew : ∀ g ∈ feet (N z), g ∈ X ∨ w0.heap.size ≤ g) (hD : w0.heap.size ≤ D) (hz : Ψ z) :
    ∀ a w, SS n T X w0 m L a w → EX (.postM P fn (Ret V X N Ψ w0)) .ret a w := by
  intro a w hs
  have hH := hs.has.sub hN
  have hk := hH.ok (.blk D (.deferred (some []))) (by simp)
  simp only [Chunk.ok] at hk
  have hap := hH.apart
  rw [feet_append] at hap
  have hN' : Has (N z) (w.putObj D (.deferred none)) := (hH.sub (List.sublist_append_left _ _)).congr fun g hg => World.putObj_heap_other fun e => by
    subst e
    exact (List.nodup_append.1 hap).2.2 _ hg _ (by simp [feet, Chunk.foot]) rfl
  have hc' : Ch X w0 (w.putObj D (.deferred none)) := hs.ch.putObj (.inr hD) _
  have hdf : a.defers = [{ target := .collected D, args := #[] }] := by rw [hs.agr.defers]; simp [dfs, hd0]
  refine ⟨?_⟩
  show LeavesInM Fence.wide 0 P fn a.tmps _ a.defers .returning w
  rw [hdf]
  exact ⟨by simp, .inl ⟨_, _, rfl, run_takeDeferred hk, _, results_of hfn hR hs.agr hc' hN', z, by rw [hv], hc', hN', hnew, hz⟩⟩
end
end Go.Proofs.Ytlcckgimagllaaa
