/- The walk by known slots and chunks: regions that draw their order. No program in sight. -/
import Derived.Test.YtlcckgimagllaaaSs4
import Derived.OrdersHeld
namespace Go.Proofs.Ytlcckgimagllaaa
open Go Go.RowKit
set_option linter.unusedVariables false

/-- Nothing falls out. -/
def NoPO (Q : Exit → Act → World → Prop) : Exit → Act → World → Prop
  | .panic _, _, _ => False
  | .outgrown, _, _ => False
  | e, a, w => Q e a w
theorem NoPO.imp {Q : Exit → Act → World → Prop} : ∀ (e : Exit) (a : Act) (w : World), NoPO Q e a w → Q e a w := fun e a w h => by
  cases e <;> first | exact h | exact (h : False).elim
section
variable {P : Program} {ops : Array Oper} {Q : Exit → Act → World → Prop} {S : World → Prop}

/-- An operation that reads, wanted or not: what it puts. -/
def YQ (P : Program) (ops : Array Oper) (S : World → Prop) (o : Oper) (v : Value) (a : Act) : Prop :=
  (Region.wanted o (yielded ops a.tmps) = true ∧ ∀ w, S w → (execOp a.eval o).run P w = .ok (.value v) w) ∨ (Region.wanted o (yielded ops a.tmps) = false ∧ v = undef)

theorem YQ.wpOp {i : Nat} {o : Oper} {v : Value} {a : Act} (hi : ops[i]? = some o) (hy : YQ P ops S o v a) {K : Act → World → Prop} {w : World} (hS : S w) (h : K (a.put o.dst v) w) : wpOp P ops Q i K a w := by
  unfold Go.wpOp
  simp only [hi]
  rcases hy with ⟨hw, hv⟩ | ⟨hw, rfl⟩
  · rw [if_pos hw]
    refine .inl ?_
    unfold Oper.wp
    rw [hv w hS, Oper.upon_value]
    exact h
  · rw [if_neg (by simp [hw])]; exact h

theorem YQ.of_same {o : Oper} {v : Value} {a a' : Act} (hy : YQ P ops S o v a) (he : execOp a'.eval o = execOp a.eval o) (hw : Region.wanted o (yielded ops a'.tmps) = Region.wanted o (yielded ops a.tmps)) : YQ P ops S o v a' := by
  unfold YQ at *
  rw [he, hw]
  exact hy

theorem wpOp_putQ {j : Nat} {oi oj : Oper} {v : Value} (hj : ops[j]? = some oj) (hap : oi.apart ops oj = true) (hsi : ∀ cs b, oi.op ≠ .select cs b) (hsj : ∀ cs b, oj.op ≠ .select cs b)
    (hQ : ∀ c a w, Q (.panic c) (a.put oi.dst v) w → Q (.panic c) a w) {K : Act → World → Prop} {a : Act} {w : World} (hy : YQ P ops S oi v a) (h : wpOp P ops Q j K (a.put oi.dst v) w) :
    wpOp P ops Q j (fun a' w' => YQ P ops S oi v a' ∧ K (a'.put oi.dst v) w') a w := by
  obtain ⟨h1, h2, h3⟩ := Oper.apart_spec hap
  have keep : ∀ (a : Act), YQ P ops S oi v a → ∀ u, YQ P ops S oi v (a.put oj.dst u) := fun a hy u => hy.of_same (execOp_put oi hsi a oj.dst u h3) (wanted_put oi a oj.dst u h3)
  have keepD : ∀ d, YQ P ops S oi v { a with defers := d :: a.defers } := fun d => hy.of_same rfl rfl
  unfold Go.wpOp at *
  simp only [hj] at *
  rw [wanted_put oj a oi.dst v h1] at h
  split
  · rename_i hw
    simp only [hw, if_true] at h
    rcases h with h | ⟨hasks, hlets⟩
    case inr => exact .inr ⟨by unfold Oper.asks at *; rw [execOp_put oj hsj a oi.dst v h1] at hasks; exact hasks, hlets⟩
    refine .inl ?_
    unfold Oper.wp at *
    rw [execOp_put oj hsj a oi.dst v h1] at h
    generalize (execOp a.eval oj).run P w = r at *
    cases r with
    | ok n w' =>
      cases n <;> simp only [Oper.upon] at h ⊢
      case value u => exact ⟨keep a hy u, by rw [← Act.put_comm a v u h2]; exact h⟩
      case skip => exact ⟨keep a hy _, by rw [← Act.put_comm a v undef h2]; exact h⟩
      case defer d =>
        refine ⟨keep _ (keepD d) _, ?_⟩
        rw [← Act.put_comm _ v undef h2, ← Act.put_defers]
        exact h
      case enter f args =>
        refine Calls.mono h fun e w'' he => ?_
        cases e with
        | returned u => exact ⟨keep a hy u, by rw [← Act.put_comm a v u h2]; exact he⟩
        | panicked c => exact hQ _ _ _ he
        | outgrown => exact he
      case row row args => exact Rows.mono h fun u w'' he => ⟨keep a hy u, by rw [← Act.put_comm a v u h2]; exact he⟩
    | halt x w' =>
      cases x <;> simp only [Oper.upon] at h ⊢
      case panic u => exact hQ _ _ _ h
  · rename_i hw
    simp only [hw] at h
    exact ⟨keep a hy _, by rw [← Act.put_comm a v undef h2]; exact h⟩

def wpAnyS (P : Program) (ops : Array Oper) (Q : Exit → Act → World → Prop) (S : Array Bool → World → Prop) : Nat → Array Bool → Act → World → Prop
  | 0, listed, a, w => Region.ready .any ops listed = [] ∧ Q .normal a w
  | fuel + 1, listed, a, w => (Region.ready .any ops listed = [] → Q .normal a w) ∧ ∀ i ∈ Region.ready .any ops listed, wpOp P ops Q i (fun a' w' => S (listed.setIfInBounds i true) w' ∧ wpAnyS P ops Q S fuel (listed.setIfInBounds i true) a' w') a w

theorem wpAny_of_S {S : Array Bool → World → Prop} : ∀ (fuel : Nat) (listed : Array Bool) (a : Act) (w : World), wpAnyS P ops Q S fuel listed a w → wpAny P .any ops Q fuel listed a w
  | 0, _, _, _, h => h
  | fuel + 1, _, _, _, h => ⟨h.1, fun i hi => wpOp_mono (fun a' w' h' => wpAny_of_S fuel _ a' w' h'.2) (h.2 i hi)⟩

theorem anyS_first {S : Array Bool → World → Prop} {i : Nat} {oi : Oper} {v : Value} (hi : ops[i]? = some oi) (hsel : ∀ (j : Nat) (o : Oper) cs b, ops[j]? = some o → o.op ≠ .select cs b)
    (hQ : ∀ c a w, Q (.panic c) (a.put oi.dst v) w → Q (.panic c) a w) (hSi : ∀ l w, S (l.setIfInBounds i true) w ↔ S l w) :
    ∀ (fuel : Nat) (listed : Array Bool) (a : Act) (w : World),
      (∀ j oj, ops[j]? = some oj → j ≠ i → listed.getD j true = false → (∀ e ∈ oj.after, Region.binds .any e = true → e.on ≠ i) → oi.apart ops oj = true) →
      (∀ l, l.getD i true = false → (∀ k, listed.getD k true = true → l.getD k true = true) → ∀ j ∈ Region.ready .any ops l, j ≠ i → ∀ w, S (l.setIfInBounds j true) w ↔ S l w) →
      i ∈ Region.ready .any ops listed → S listed w → YQ P ops (S listed) oi v a →
      wpAnyS P ops Q S fuel (listed.setIfInBounds i true) (a.put oi.dst v) w → wpAnyS P ops Q S (fuel + 1) listed a w := by
  intro fuel
  induction fuel with
  | zero =>
    intro listed a w _ _ hr hS hy H
    refine ⟨fun h => (by rw [h] at hr; cases hr), fun j hj => ?_⟩
    by_cases hji : j = i
    · subst hji; exact hy.wpOp hi hS ⟨(hSi _ _).2 hS, H⟩
    · have := ready_mono hj hji
      rw [H.1] at this
      cases this
  | succ fuel ih =>
    intro listed a w hfree hst hr hS hy H
    refine ⟨fun h => (by rw [h] at hr; cases hr), fun j hj => ?_⟩
    by_cases hji : j = i
    · subst hji; exact hy.wpOp hi hS ⟨(hSi _ _).2 hS, H⟩
    · have h1 := H.2 j (ready_mono hj hji)
      obtain ⟨hjun, oj, hoj, hall⟩ := mem_ready.1 hj
      have hun : listed.getD i true = false := (mem_ready.1 hr).1
      have hnot : ∀ e ∈ oj.after, Region.binds .any e = true → e.on ≠ i := fun e he hb heq => by
        have h1 := hall e he hb
        have h0 := hun
        rw [heq] at h1
        rcases Nat.lt_or_ge i listed.size with h' | h'
        · simp [h'] at h0 h1; rw [h0] at h1; cases h1
        · simp [Array.getElem?_eq_none h'] at h1
      have h2 := wpOp_putQ hoj (hfree j oj hoj hji hjun hnot) (fun cs b => hsel i oi cs b hi) (fun cs b => hsel j oj cs b hoj) hQ hy h1
      have hSj : ∀ w, S (listed.setIfInBounds j true) w ↔ S listed w := hst listed hun (fun _ h => h) j hj hji
      have e1 : S listed = S (listed.setIfInBounds j true) := funext fun w => propext (hSj w).symm
      refine wpOp_mono (fun a' w' h3 => ?_) h2
      have hS' : S (listed.setIfInBounds j true) w' := by
        have h4 := h3.2.1
        rw [Array.setIfInBounds_comm _ _ (Ne.symm hji), hSi] at h4
        exact h4
      refine ⟨hS', ih (listed.setIfInBounds j true) a' w' (fun k ok hk hki hun hno => ?_) (fun l hl hle => ?_) (ready_mono hr (Ne.symm hji)) hS' (e1 ▸ h3.1) ?_⟩
      · refine hfree k ok hk hki ?_ hno
        by_cases hjk : j = k
        · subst hjk; exact hjun
        · rw [getD_set_ne true hjk] at hun; exact hun
      · refine hst l hl fun k hk => hle k ?_
        by_cases hjk : j = k
        · subst hjk
          rcases Nat.lt_or_ge j listed.size with h' | h'
          · simp [h']
          · simp
        · rw [getD_set_ne true hjk]; exact hk
      · rw [Array.setIfInBounds_comm _ _ hji]
        exact h3.2.2

theorem anyS_firstN {S : Array Bool → World → Prop} {SY : World → Prop} (hSY : ∀ l w, S l w → SY w) {i : Nat} {oi : Oper} {v : Value} (hi : ops[i]? = some oi) (hsel : ∀ (j : Nat) (o : Oper) cs b, ops[j]? = some o → o.op ≠ .select cs b)
    (hQ : ∀ c a w, Q (.panic c) (a.put oi.dst v) w → Q (.panic c) a w) (hSi : ∀ l w, S (l.setIfInBounds i true) w ↔ S l w) :
    ∀ (fuel : Nat) (listed : Array Bool) (a : Act) (w : World),
      (∀ j oj, ops[j]? = some oj → j ≠ i → listed.getD j true = false → (∀ e ∈ oj.after, Region.binds .any e = true → e.on ≠ i) → oi.apart ops oj = true) →
      i ∈ Region.ready .any ops listed → S listed w → YQ P ops SY oi v a →
      wpAnyS P ops Q S fuel (listed.setIfInBounds i true) (a.put oi.dst v) w → wpAnyS P ops Q S (fuel + 1) listed a w := by
  intro fuel
  induction fuel with
  | zero =>
    intro listed a w _ hr hS hy H
    refine ⟨fun h => (by rw [h] at hr; cases hr), fun j hj => ?_⟩
    by_cases hji : j = i
    · subst hji; exact hy.wpOp hi (hSY _ _ hS) ⟨(hSi _ _).2 hS, H⟩
    · have := ready_mono hj hji
      rw [H.1] at this
      cases this
  | succ fuel ih =>
    intro listed a w hfree hr hS hy H
    refine ⟨fun h => (by rw [h] at hr; cases hr), fun j hj => ?_⟩
    by_cases hji : j = i
    · subst hji; exact hy.wpOp hi (hSY _ _ hS) ⟨(hSi _ _).2 hS, H⟩
    · have h1 := H.2 j (ready_mono hj hji)
      obtain ⟨hjun, oj, hoj, hall⟩ := mem_ready.1 hj
      have hun : listed.getD i true = false := (mem_ready.1 hr).1
      have hnot : ∀ e ∈ oj.after, Region.binds .any e = true → e.on ≠ i := fun e he hb heq => by
        have h1 := hall e he hb
        have h0 := hun
        rw [heq] at h1
        rcases Nat.lt_or_ge i listed.size with h' | h'
        · simp [h'] at h0 h1; rw [h0] at h1; cases h1
        · simp [Array.getElem?_eq_none h'] at h1
      have h2 := wpOp_putQ hoj (hfree j oj hoj hji hjun hnot) (fun cs b => hsel i oi cs b hi) (fun cs b => hsel j oj cs b hoj) hQ hy h1
      refine wpOp_mono (fun a' w' h3 => ?_) h2
      have hS' : S (listed.setIfInBounds j true) w' := by
        have h4 := h3.2.1
        rw [Array.setIfInBounds_comm _ _ (Ne.symm hji), hSi] at h4
        exact h4
      refine ⟨hS', ih (listed.setIfInBounds j true) a' w' (fun k ok hk hki hun hno => ?_) (ready_mono hr (Ne.symm hji)) hS' h3.1 ?_⟩
      · refine hfree k ok hk hki ?_ hno
        by_cases hjk : j = k
        · subst hjk; exact hjun
        · rw [getD_set_ne true hjk] at hun; exact hun
      · rw [Array.setIfInBounds_comm _ _ hji]
        exact h3.2.2

/-- f waits for i, by an edge of its own. -/
def dep (ops : Array Oper) (f i : Nat) : Bool :=
  match ops[f]? with
  | some o => o.after.any fun e => Region.binds .any e && Nat.beq e.on i
  | none => false

/-- An operation that reads, one that doesn't, the one that turns what the others read. -/
inductive Kd where | q | n | e | b

/-- An order in which the operations may be gone through: those that read (q) as they come, the others where nothing else can come; of these one (b), that waits for all that were read ahead of it, may turn the memory that they read. -/
def okX (ops : Array Oper) (f : Option Nat) : Bool → List (Nat × Kd) → Array Bool → Bool
  | b, [], listed => (Region.ready .any ops listed).isEmpty
  | b, (i, .q) :: σ, listed => Region.free .any ops listed i && (Region.ready .any ops listed).contains i && (match f with | none => true | some f => !(Nat.beq f i) && (b || dep ops f i)) && okX ops f b σ (listed.setIfInBounds i true)
  | b, (i, .n) :: σ, listed => Region.free .any ops listed i && (Region.ready .any ops listed).contains i && (match f with | none => true | some f => !(Nat.beq f i)) && okX ops f b σ (listed.setIfInBounds i true)
  | b, (i, .e) :: σ, listed => Region.ready .any ops listed == [i] && (match f with | none => true | some f => !(Nat.beq f i)) && okX ops f b σ (listed.setIfInBounds i true)
  | b, (i, .b) :: σ, listed => Region.ready .any ops listed == [i] && !b && f == some i && okX ops f true σ (listed.setIfInBounds i true)

def LX (P : Program) (ops : Array Oper) (Q : Exit → Act → World → Prop) (S0 S1 : World → Prop) : Bool → List (Nat × Kd) → Act → World → Prop
  | _, [], a, w => Q .normal a w
  | b, (i, .q) :: σ, a, w => ∃ o v, ops[i]? = some o ∧ YQ P ops (if b then S1 else S0) o v a ∧ LX P ops Q S0 S1 b σ (a.put o.dst v) w
  | b, (i, .n) :: σ, a, w => ∃ o v, ops[i]? = some o ∧ YQ P ops S1 o v a ∧ LX P ops Q S0 S1 b σ (a.put o.dst v) w
  | b, (i, .e) :: σ, a, w => wpOp P ops Q i (fun a' w' => (if b then S1 else S0) w' ∧ LX P ops Q S0 S1 b σ a' w') a w
  | b, (i, .b) :: σ, a, w => wpOp P ops Q i (fun a' w' => S1 w' ∧ LX P ops Q S0 S1 true σ a' w') a w

/-- What holds of the world: once f has come S1, ahead of it S0. -/
def SL (f : Option Nat) (S0 S1 : World → Prop) (listed : Array Bool) (w : World) : Prop :=
  match f with
  | none => S0 w
  | some f => if listed.getD f true then S1 w else S0 w

theorem SL_set {f : Option Nat} {S0 S1 : World → Prop} {i : Nat} (h : ∀ g, f = some g → g ≠ i) (l : Array Bool) (w : World) : SL f S0 S1 (l.setIfInBounds i true) w ↔ SL f S0 S1 l w := by
  cases f with
  | none => exact Iff.rfl
  | some g => simp only [SL]; rw [getD_set_ne true (Ne.symm (h g rfl))]

theorem anyS_of_LX {S0 S1 : World → Prop} (hS01 : ∀ w, S0 w → S1 w) (hsel : ∀ (j : Nat) (o : Oper) cs b, ops[j]? = some o → o.op ≠ .select cs b) (hQ : ∀ c a w, ¬ Q (.panic c) a w) (f : Option Nat) (hf : ∀ g, f = some g → g < ops.size) :
    ∀ (σ : List (Nat × Kd)) (b : Bool) (listed : Array Bool) (a : Act) (w : World), listed.size = ops.size → (∀ g, f = some g → listed.getD g true = b) → (f = none → b = false) → okX ops f b σ listed = true → SL f S0 S1 listed w → LX P ops Q S0 S1 b σ a w →
      wpAnyS P ops Q (SL f S0 S1) σ.length listed a w
  | [], b, listed, a, w, hsz, hb, hn, hok, hS, h => ⟨by simpa [okX] using hok, h⟩
  | (i, .q) :: σ, b, listed, a, w, hsz, hb, hn, hok, hS, h => by
    simp only [okX, Bool.and_eq_true] at hok
    obtain ⟨⟨⟨hfr, hr⟩, hd⟩, hok⟩ := hok
    obtain ⟨o, v, ho, hy, h⟩ := h
    have hne : ∀ g, f = some g → g ≠ i := fun g hg => by
      subst hg
      simp only [Bool.and_eq_true, Bool.not_eq_true'] at hd
      exact Nat.ne_of_beq_eq_false hd.1
    have hSe : SL f S0 S1 listed = (if b then S1 else S0) := by
      funext w
      cases f with
      | none => simp [SL, hn rfl]
      | some g => simp only [SL, hb g rfl]; cases b <;> rfl
    refine anyS_first ho hsel (fun c a w hp => absurd hp (hQ _ _ _)) (SL_set hne) σ.length listed a w (Region.free_spec ho hfr) ?_ (by simpa using hr) hS (by rw [hSe]; exact hy) ?_
    · intro l hl hle j hj hji w
      cases f with
      | none => exact Iff.rfl
      | some g =>
        simp only [Bool.and_eq_true, Bool.not_eq_true', Bool.or_eq_true] at hd
        by_cases hjg : j = g
        · subst hjg
          obtain ⟨hjun, oj, hoj, hall⟩ := mem_ready.1 hj
          rcases hd.2 with hbt | hdep
          · have := hle j (by rw [hb j rfl, hbt])
            rw [this] at hjun; cases hjun
          · exfalso
            unfold dep at hdep
            rw [hoj] at hdep
            simp only [Array.any_eq_true', Bool.and_eq_true] at hdep
            obtain ⟨e, he, hbe, hon⟩ := hdep
            have h1 := hall e he hbe
            rw [Nat.eq_of_beq_eq_true hon] at h1
            rcases Nat.lt_or_ge i l.size with h' | h'
            · simp [h'] at hl h1; rw [hl] at h1; cases h1
            · simp [Array.getElem?_eq_none h'] at h1
        · exact SL_set (fun g' hg' => by cases hg'; exact Ne.symm hjg) l w
    · refine anyS_of_LX hS01 hsel hQ f hf σ b _ _ w (by simpa using hsz) (fun g hg => ?_) hn hok ((SL_set hne _ _).2 hS) h
      rw [getD_set_ne true (Ne.symm (hne g hg))]; exact hb g hg
  | (i, .n) :: σ, b, listed, a, w, hsz, hb, hn, hok, hS, h => by
    simp only [okX, Bool.and_eq_true] at hok
    obtain ⟨⟨⟨hfr, hr⟩, hd⟩, hok⟩ := hok
    obtain ⟨o, v, ho, hy, h⟩ := h
    have hne : ∀ g, f = some g → g ≠ i := fun g hg => by
      subst hg
      exact Nat.ne_of_beq_eq_false (by simpa using hd)
    have hSY : ∀ l w, SL f S0 S1 l w → S1 w := fun l w hs => by
      cases f with
      | none => exact hS01 w hs
      | some g => simp only [SL] at hs; split at hs <;> first | exact hs | exact hS01 w hs
    refine anyS_firstN hSY ho hsel (fun c a w hp => absurd hp (hQ _ _ _)) (SL_set hne) σ.length listed a w (Region.free_spec ho hfr) (by simpa using hr) hS hy ?_
    refine anyS_of_LX hS01 hsel hQ f hf σ b _ _ w (by simpa using hsz) (fun g hg => ?_) hn hok ((SL_set hne _ _).2 hS) h
    rw [getD_set_ne true (Ne.symm (hne g hg))]; exact hb g hg
  | (i, .e) :: σ, b, listed, a, w, hsz, hb, hn, hok, hS, h => by
    simp only [okX, Bool.and_eq_true, beq_iff_eq] at hok
    obtain ⟨⟨hr, hd⟩, hok⟩ := hok
    have hne : ∀ g, f = some g → g ≠ i := fun g hg => by
      subst hg
      exact Nat.ne_of_beq_eq_false (by simpa using hd)
    have hSe : SL f S0 S1 (listed.setIfInBounds i true) = (if b then S1 else S0) := by
      funext w
      cases f with
      | none => simp [SL, hn rfl]
      | some g => simp only [SL]; rw [getD_set_ne true (Ne.symm (hne g rfl)), hb g rfl]; cases b <;> rfl
    refine ⟨fun h' => (by rw [h'] at hr; cases hr), fun j hj => ?_⟩
    rw [hr] at hj
    obtain rfl : j = i := by simpa using hj
    refine wpOp_mono (fun a' w' h' => ?_) h
    have hS' : SL f S0 S1 (listed.setIfInBounds j true) w' := by rw [hSe]; exact h'.1
    refine ⟨hS', anyS_of_LX hS01 hsel hQ f hf σ b _ a' w' (by simpa using hsz) (fun g hg => ?_) hn hok hS' h'.2⟩
    rw [getD_set_ne true (Ne.symm (hne g hg))]; exact hb g hg
  | (i, .b) :: σ, b, listed, a, w, hsz, hb, hn, hok, hS, h => by
    simp only [okX, Bool.and_eq_true, beq_iff_eq] at hok
    obtain ⟨⟨⟨hr, _⟩, hfi⟩, hok⟩ := hok
    have hlt : i < ops.size := hf i hfi
    have hset : (listed.setIfInBounds i true).getD i true = true := by simp [hsz, hlt]
    refine ⟨fun h' => (by rw [h'] at hr; cases hr), fun j hj => ?_⟩
    rw [hr] at hj
    obtain rfl : j = i := by simpa using hj
    refine wpOp_mono (fun a' w' h' => ?_) h
    have hS' : SL f S0 S1 (listed.setIfInBounds j true) w' := by subst hfi; simp only [SL, hset, if_true]; exact h'.1
    refine ⟨hS', anyS_of_LX hS01 hsel hQ f hf σ true _ a' w' (by simpa using hsz) (fun g hg => ?_) (fun hf0 => by rw [hf0] at hfi; cases hfi) hok hS' h'.2⟩
    rw [hfi] at hg
    cases hg
    exact hset

theorem wpAnyIn_of {ro : Option Nat} (hnd : (ro.isNone || ops.toList.all (notDefer ·.op)) = true) (hp : ¬ LetsOut Q) : ∀ (fuel : Nat) (listed : Array Bool) (a : Act) (w : World), wpAny P .any ops Q fuel listed a w → wpAnyIn (fen ro) 0 P .any ops Q fuel listed a w
  | 0, _, _, _, h => h
  | fuel + 1, listed, a, w, h => by
    refine ⟨h.1, fun i hi => ?_⟩
    have h2 := h.2 i hi
    unfold wpOp at h2
    unfold wpOpIn
    cases ho : ops[i]? with
    | none => simp only [ho] at h2 ⊢; exact wpAnyIn_of hnd hp fuel _ _ _ h2
    | some o =>
      simp only [ho] at h2 ⊢
      have hno : (ro.isNone || notDefer o.op) = true := by
        cases ro with
        | none => rfl
        | some l =>
          simp only [Option.isNone_some, Bool.false_or, List.all_eq_true] at hnd ⊢
          exact hnd o (Array.mem_toList_iff.2 (Array.mem_of_getElem? ho))
      split at h2
      · rename_i hw
        rw [if_pos hw]
        rcases h2 with h2 | h2
        · exact wpIn_of_op hno (Oper.wp_mono (fun a w h => wpAnyIn_of hnd hp fuel _ a w h) h2)
        · exact absurd h2.2 hp
      · rename_i hw
        rw [if_neg hw]
        exact ⟨fun _ _ => trivial, wpAnyIn_of hnd hp fuel _ _ _ h2⟩

theorem region_X {ro : Option Nat} {id : Nat} {a : Act} {w : World} (f : Option Nat) (σ : List (Nat × Kd)) (S0 S1 : World → Prop) (hS01 : ∀ w, S0 w → S1 w) (hm : P.follows .mixedOrders = true)
    (hok : (Region.noSelect ops && Nat.beq σ.length ops.size && (match f with | none => true | some g => Nat.blt g ops.size) && okX ops f false σ (Array.replicate ops.size false)) = true) (hnd : (ro.isNone || ops.toList.all (notDefer ·.op)) = true) (hS : S0 w.drew)
    (h : LX P ops (NoPO Q) S0 S1 false σ a w.drew) : (Code.region id ops true).wpIn (fen ro) 0 P Q a w := by
  simp only [Bool.and_eq_true] at hok
  obtain ⟨⟨⟨hsel, hlen⟩, hf⟩, hok⟩ := hok
  have hf' : ∀ g, f = some g → g < ops.size := fun g hg => by subst hg; exact Nat.blt_eq ▸ hf
  refine wpIn_mono (wpIn_region_any hm ?_) NoPO.imp
  refine wpAnyIn_of hnd (fun h => ?_) _ _ _ _ ?_
  · exact (let ⟨_, _, h'⟩ := h; h')
  refine wpAny_of_S (S := SL f S0 S1) _ _ _ _ ?_
  have hrep : ∀ g, f = some g → (Array.replicate ops.size false).getD g true = false := fun g hg => by simp [hf' g hg]
  have hS' : SL f S0 S1 (Array.replicate ops.size false) w.drew := by
    cases f with
    | none => exact hS
    | some g => simp only [SL, hrep g rfl]; exact hS
  have h1 := anyS_of_LX hS01 (Region.noSelect_spec hsel) (fun _ _ _ h => h) f hf' σ false _ a w.drew (by simp) hrep (fun _ => rfl) hok hS' h
  rw [Nat.eq_of_beq_eq_true hlen] at h1
  exact h1
end

section
variable {P : Program} {n m d i : Nat} {T : List (Nat × Value)} {X : List Nat} {w0 : World} {L Lw : List Chunk} {ops : Array Oper} {Q : Ct}
  {op : Op} {ty : TypeId} {pos : String} {af : Array Edge} {gu : Option (Nat × Bool)} {v : Value} {σ : List (Nat × Kd)} {dst : Option Tmp} {b0 : Bool}

structure Sof (X : List Nat) (w0 : World) (Lw : List Chunk) (w : World) : Prop where
  ch : Ch X w0 w
  has : Has Lw w
/-- What the others read: behind the one that turns it, nothing. -/
def Lb (b : Bool) (Lw : List Chunk) : List Chunk := bif b then [] else Lw
theorem Sof_b {b : Bool} {w : World} : (if b then Sof X w0 [] else Sof X w0 Lw) w = Sof X w0 (Lb b Lw) w := by cases b <;> rfl
structure XL (P : Program) (ops : Array Oper) (Q : Ct) (X : List Nat) (w0 : World) (Lw : List Chunk) (b : Bool) (σ : List (Nat × Kd)) (a : Act) (w : World) : Prop where
  h : LX P ops (NoPO Q.den) (Sof X w0 Lw) (Sof X w0 []) b σ a w
/-- What comes behind an operation that writes: the memory that the others read is there still. -/
structure XK (X : List Nat) (w0 : World) (Lw : List Chunk) (K : Act → World → Prop) (a : Act) (w : World) : Prop where
  s : Sof X w0 Lw w
  h : K a w

theorem x_region {id : Nat} {l : List Oper} (f : Option Nat) (σ : List (Nat × Kd)) (Lw : List Chunk) (hm : P.follows .mixedOrders = true)
    (hok : (Region.noSelect l.toArray && Nat.beq σ.length l.toArray.size && (match f with | none => true | some g => Nat.blt g l.toArray.size) && okX l.toArray f false σ (Array.replicate l.toArray.size false)) = true) (hL : Lw.Sublist L)
    (h : ∀ a w, SS n T X w0 m L a w → XL P l.toArray Q X w0 Lw false σ a w) (hnd : (Q.ro.isNone || l.all (notDefer ·.op)) = true := by rfl) : ∀ a w, SS n T X w0 m L a w → CW P (Code.region id l.toArray true) Q a w :=
  fun a w hs => ⟨region_X f σ (Sof X w0 Lw) (Sof X w0 []) (fun w h => ⟨h.ch, h.has.sub (List.nil_sublist _)⟩) hm hok (by simpa using hnd) ⟨hs.ch.drew _, (hs.has.sub hL).drew _⟩ (h a w.drew ⟨hs.agr, hs.ch.drew _, hs.size, hs.has.drew _⟩).h⟩

theorem x_nil (h : ∀ a w, SS n T X w0 m L a w → EX Q .normal a w) : ∀ a w, SS n T X w0 m L a w → XL P ops Q X w0 Lw b0 [] a w := fun a w hs => ⟨by cases b0 <;> exact (h a w hs).h⟩

theorem x_q (ho : ops[i]? = some ⟨some d, op, ty, pos, af, none⟩) (hq : Qt P X w0 ⟨some d, op, ty, pos, af, none⟩ T (Lb b0 Lw) v) (hd : Nat.blt d n = true) (h : ∀ a w, SS n ((d, v) :: T) X w0 m L a w → XL P ops Q X w0 Lw b0 σ a w) :
    ∀ a w, SS n T X w0 m L a w → XL P ops Q X w0 Lw b0 ((i, .q) :: σ) a w :=
  fun a w hs => ⟨_, v, ho, .inl ⟨by simp [Region.wanted], fun w' hw' => by rw [Sof_b] at hw'; exact hq.h n a w' hs.agr hw'.1 hw'.2⟩, (h _ _ ⟨hs.agr.put v hd, hs.ch, hs.size, hs.has⟩).h⟩
theorem x_qg {j : Nat} {b want : Bool} (ho : ops[i]? = some ⟨some d, op, ty, pos, af, some (j, want)⟩) (hg : gd ops T j = some (.bool b)) (hb : (b == want) = true) (hq : Qt P X w0 ⟨some d, op, ty, pos, af, some (j, want)⟩ T (Lb b0 Lw) v) (hd : Nat.blt d n = true)
    (h : ∀ a w, SS n ((d, v) :: T) X w0 m L a w → XL P ops Q X w0 Lw b0 σ a w) : ∀ a w, SS n T X w0 m L a w → XL P ops Q X w0 Lw b0 ((i, .q) :: σ) a w :=
  fun a w hs => ⟨_, v, ho, .inl ⟨by simp only [Region.wanted, yielded_of hs.agr hg]; simp at hb; simp [hb], fun w' hw' => by rw [Sof_b] at hw'; exact hq.h n a w' hs.agr hw'.1 hw'.2⟩, (h _ _ ⟨hs.agr.put v hd, hs.ch, hs.size, hs.has⟩).h⟩
theorem x_skip {j : Nat} {b want : Bool} (ho : ops[i]? = some ⟨some d, op, ty, pos, af, some (j, want)⟩) (hg : gd ops T j = some (.bool b)) (hb : (b == want) = false) (hd : Nat.blt d n = true)
    (h : ∀ a w, SS n ((d, undef) :: T) X w0 m L a w → XL P ops Q X w0 Lw b0 σ a w) : ∀ a w, SS n T X w0 m L a w → XL P ops Q X w0 Lw b0 ((i, .q) :: σ) a w :=
  fun a w hs => ⟨_, undef, ho, .inr ⟨by simp only [Region.wanted, yielded_of hs.agr hg]; cases b <;> cases want <;> simp_all, rfl⟩, (h _ _ ⟨hs.agr.put undef hd, hs.ch, hs.size, hs.has⟩).h⟩
theorem x_n (ho : ops[i]? = some ⟨some d, op, ty, pos, af, none⟩) (hq : Qt P X w0 ⟨some d, op, ty, pos, af, none⟩ T [] v) (hd : Nat.blt d n = true) (h : ∀ a w, SS n ((d, v) :: T) X w0 m L a w → XL P ops Q X w0 Lw b0 σ a w) :
    ∀ a w, SS n T X w0 m L a w → XL P ops Q X w0 Lw b0 ((i, .n) :: σ) a w :=
  fun a w hs => ⟨_, v, ho, .inl ⟨by simp [Region.wanted], fun w' hw' => hq.h n a w' hs.agr hw'.1 hw'.2⟩, (h _ _ ⟨hs.agr.put v hd, hs.ch, hs.size, hs.has⟩).h⟩
theorem x_ng {j : Nat} {b want : Bool} (ho : ops[i]? = some ⟨some d, op, ty, pos, af, some (j, want)⟩) (hg : gd ops T j = some (.bool b)) (hb : (b == want) = true) (hq : Qt P X w0 ⟨some d, op, ty, pos, af, some (j, want)⟩ T [] v) (hd : Nat.blt d n = true)
    (h : ∀ a w, SS n ((d, v) :: T) X w0 m L a w → XL P ops Q X w0 Lw b0 σ a w) : ∀ a w, SS n T X w0 m L a w → XL P ops Q X w0 Lw b0 ((i, .n) :: σ) a w :=
  fun a w hs => ⟨_, v, ho, .inl ⟨by simp only [Region.wanted, yielded_of hs.agr hg]; simp at hb; simp [hb], fun w' hw' => hq.h n a w' hs.agr hw'.1 hw'.2⟩, (h _ _ ⟨hs.agr.put v hd, hs.ch, hs.size, hs.has⟩).h⟩
theorem x_nskip {j : Nat} {b want : Bool} (ho : ops[i]? = some ⟨some d, op, ty, pos, af, some (j, want)⟩) (hg : gd ops T j = some (.bool b)) (hb : (b == want) = false) (hd : Nat.blt d n = true)
    (h : ∀ a w, SS n ((d, undef) :: T) X w0 m L a w → XL P ops Q X w0 Lw b0 σ a w) : ∀ a w, SS n T X w0 m L a w → XL P ops Q X w0 Lw b0 ((i, .n) :: σ) a w :=
  fun a w hs => ⟨_, undef, ho, .inr ⟨by simp only [Region.wanted, yielded_of hs.agr hg]; cases b <;> cases want <;> simp_all, rfl⟩, (h _ _ ⟨hs.agr.put undef hd, hs.ch, hs.size, hs.has⟩).h⟩
theorem x_e (ho : ops[i]? = some ⟨dst, op, ty, pos, af, none⟩) (h : ∀ a w, SS n T X w0 m L a w → OW P ⟨dst, op, ty, pos, af, none⟩ (XK X w0 (Lb b0 Lw) (XL P ops Q X w0 Lw b0 σ)) (NoPO Q.den) a w) :
    ∀ a w, SS n T X w0 m L a w → XL P ops Q X w0 Lw b0 ((i, .e) :: σ) a w := by
  intro a w hs
  refine ⟨?_⟩
  unfold LX wpOp
  simp only [ho]
  rw [if_pos (by simp [Region.wanted])]
  exact .inl (Oper.wp_mono (fun a w h => ⟨by rw [Sof_b]; exact h.s, h.h.h⟩) (h a w hs).h)
theorem x_eg {j : Nat} {b want : Bool} (ho : ops[i]? = some ⟨dst, op, ty, pos, af, some (j, want)⟩) (hg : gd ops T j = some (.bool b)) (hb : (b == want) = true) (h : ∀ a w, SS n T X w0 m L a w → OW P ⟨dst, op, ty, pos, af, some (j, want)⟩ (XK X w0 (Lb b0 Lw) (XL P ops Q X w0 Lw b0 σ)) (NoPO Q.den) a w) :
    ∀ a w, SS n T X w0 m L a w → XL P ops Q X w0 Lw b0 ((i, .e) :: σ) a w := by
  intro a w hs
  refine ⟨?_⟩
  unfold LX wpOp
  simp only [ho]
  rw [if_pos (by simp only [Region.wanted, yielded_of hs.agr hg]; simp at hb; simp [hb])]
  exact .inl (Oper.wp_mono (fun a w h => ⟨by rw [Sof_b]; exact h.s, h.h.h⟩) (h a w hs).h)
theorem x_eskip {j : Nat} {b want : Bool} (hL : (Lb b0 Lw).Sublist L) (ho : ops[i]? = some ⟨some d, op, ty, pos, af, some (j, want)⟩) (hg : gd ops T j = some (.bool b)) (hb : (b == want) = false) (hd : Nat.blt d n = true) (h : ∀ a w, SS n ((d, undef) :: T) X w0 m L a w → XL P ops Q X w0 Lw b0 σ a w) :
    ∀ a w, SS n T X w0 m L a w → XL P ops Q X w0 Lw b0 ((i, .e) :: σ) a w := by
  intro a w hs
  refine ⟨?_⟩
  unfold LX wpOp
  simp only [ho]
  rw [if_neg (by simp only [Region.wanted, yielded_of hs.agr hg]; cases b <;> cases want <;> simp_all)]
  exact ⟨by rw [Sof_b]; exact ⟨hs.ch, hs.has.sub hL⟩, (h _ _ ⟨hs.agr.put undef hd, hs.ch, hs.size, hs.has⟩).h⟩
/-- The one that turns what the others read. -/
theorem x_b (ho : ops[i]? = some ⟨dst, op, ty, pos, af, none⟩) (h : ∀ a w, SS n T X w0 m L a w → OW P ⟨dst, op, ty, pos, af, none⟩ (XK X w0 [] (XL P ops Q X w0 Lw true σ)) (NoPO Q.den) a w) :
    ∀ a w, SS n T X w0 m L a w → XL P ops Q X w0 Lw b0 ((i, .b) :: σ) a w := by
  intro a w hs
  refine ⟨?_⟩
  unfold LX wpOp
  simp only [ho]
  rw [if_pos (by simp [Region.wanted])]
  exact .inl (Oper.wp_mono (fun a w h => ⟨h.s, h.h.h⟩) (h a w hs).h)
theorem x_k {K : Act → World → Prop} (hL : Lw.Sublist L) (h : ∀ a w, SS n T X w0 m L a w → K a w) : ∀ a w, SS n T X w0 m L a w → XK X w0 Lw K a w :=
  fun a w hs => ⟨⟨hs.ch, hs.has.sub hL⟩, h a w hs⟩
end
end Go.Proofs.Ytlcckgimagllaaa
