/- Regions that draw their order and whose operations each yield one value in every world that meets S, leaving a world that meets S: they may be carried out in the order of the text. -/
import Derived.Test.YtgfodhbejcbogaaRows
import Derived.WalkKit
import Derived.OrdersHeld
import Derived.Deep.RegionHeld3
import Derived.Below
namespace Go.Proofs.Ytgfodhbejcbogaa
open Go

section
variable {P : Program} {ops : Array Oper} {Q : Exit → Act → World → Prop} {md : Region.Mode} {S : World → Prop}

/-- What an operation's run comes to: the value v (or no slot wants it), in a world that meets S. -/
def Gives (P : Program) (S : World → Prop) (dst : Option Tmp) (v : Value) : Result Next → Prop
  | .ok (.value u) w' => (dst = none ∨ u = v) ∧ S w'
  | .ok .skip w' => (dst = none ∨ undef = v) ∧ S w'
  | .ok (.enter f args) w' => Calls P f args w' fun e w'' => ∃ u, e = .returned u ∧ (dst = none ∨ u = v) ∧ S w''
  | .ok (.row row args) w' => Go.Rows P row args w' fun u w'' => (dst = none ∨ u = v) ∧ S w''
  | _ => False

def YieldsU (P : Program) (ops : Array Oper) (S : World → Prop) (o : Oper) (v : Value) (a : Act) : Prop :=
  (Region.wanted o (yielded ops a.tmps) = true ∧ ∀ w, S w → Gives P S o.dst v ((execOp a.eval o).run P w)) ∨
  (Region.wanted o (yielded ops a.tmps) = false ∧ v = undef)

theorem put_eq {a : Act} {dst : Option Tmp} {u v : Value} (h : dst = none ∨ u = v) : a.put dst u = a.put dst v := by
  rcases h with rfl | rfl <;> rfl

theorem YieldsU.wpOp {i : Nat} {o : Oper} {v : Value} {a : Act} (hi : ops[i]? = some o) (hy : YieldsU P ops S o v a)
    {K : Act → World → Prop} {w : World} (hS : S w) (h : ∀ w', S w' → K (a.put o.dst v) w') : wpOp P ops Q i K a w := by
  unfold Go.wpOp
  simp only [hi]
  rcases hy with ⟨hw, hv⟩ | ⟨hw, rfl⟩
  · rw [if_pos hw]
    refine .inl ?_
    have hg := hv w hS
    unfold Oper.wp
    generalize (execOp a.eval o).run P w = r at *
    cases r with
    | ok n w' =>
      cases n <;> simp only [Gives] at hg <;> simp only [Oper.upon]
      case value u => rw [put_eq hg.1]; exact h _ hg.2
      case skip => rw [put_eq hg.1]; exact h _ hg.2
      case enter f args =>
        refine Calls.mono hg fun e w'' he => ?_
        obtain ⟨u, rfl, h1, h2⟩ := he
        simp only
        rw [put_eq h1]; exact h _ h2
      case row row args => exact Rows.mono hg fun u w'' he => by rw [put_eq he.1]; exact h _ he.2
    | halt x w' => simp only [Gives] at hg
  · rw [if_neg (by simp [hw])]; exact h _ hS

theorem YieldsU.of_same {o : Oper} {v : Value} {a a' : Act} (hy : YieldsU P ops S o v a) (he : execOp a'.eval o = execOp a.eval o)
    (hw : Region.wanted o (yielded ops a'.tmps) = Region.wanted o (yielded ops a.tmps)) : YieldsU P ops S o v a' := by
  unfold YieldsU at *
  rw [he, hw]
  exact hy

theorem wpOp_putU {j : Nat} {oi oj : Oper} {v : Value} (hj : ops[j]? = some oj) (hap : oi.apart ops oj = true)
    (hsi : ∀ cs b, oi.op ≠ .select cs b) (hsj : ∀ cs b, oj.op ≠ .select cs b)
    (hQ : ∀ c a w, Q (.panic c) (a.put oi.dst v) w → Q (.panic c) a w) {K : Act → World → Prop} {a : Act} {w : World}
    (hy : YieldsU P ops S oi v a) (h : wpOp P ops Q j K (a.put oi.dst v) w) :
    wpOp P ops Q j (fun a' w' => YieldsU P ops S oi v a' ∧ K (a'.put oi.dst v) w') a w := by
  obtain ⟨h1, h2, h3⟩ := Oper.apart_spec hap
  have keep : ∀ (a : Act), YieldsU P ops S oi v a → ∀ u, YieldsU P ops S oi v (a.put oj.dst u) := fun a hy u =>
    hy.of_same (execOp_put oi hsi a oj.dst u h3) (wanted_put oi a oj.dst u h3)
  have keepD : ∀ d, YieldsU P ops S oi v { a with defers := d :: a.defers } := fun d => hy.of_same rfl rfl
  unfold Go.wpOp at *
  simp only [hj] at *
  rw [wanted_put oj a oi.dst v h1] at h
  split
  · rename_i hw
    simp only [hw, if_true] at h
    rcases h with h | ⟨hasks, hlets⟩
    case inr => exact .inr ⟨by unfold Oper.asks at *; rw [execOp_put oj hsj a oi.dst v h1] at hasks; exact hasks, hlets⟩
    refine .inl ?_
    unfold Oper.wp at *
    rw [execOp_put oj hsj a oi.dst v h1] at h
    generalize (execOp a.eval oj).run P w = r at *
    cases r with
    | ok n w' =>
      cases n <;> simp only [Oper.upon] at h ⊢
      case value u => exact ⟨keep a hy u, by rw [← Act.put_comm a v u h2]; exact h⟩
      case skip => exact ⟨keep a hy _, by rw [← Act.put_comm a v undef h2]; exact h⟩
      case defer d =>
        refine ⟨keep _ (keepD d) _, ?_⟩
        rw [← Act.put_comm _ v undef h2, ← Act.put_defers]
        exact h
      case enter f args =>
        refine Calls.mono h fun e w'' he => ?_
        cases e with
        | returned u => exact ⟨keep a hy u, by rw [← Act.put_comm a v u h2]; exact he⟩
        | panicked c => exact hQ _ _ _ he
        | outgrown => exact he
      case row row args => exact Rows.mono h fun u w'' he => ⟨keep a hy u, by rw [← Act.put_comm a v u h2]; exact he⟩
    | halt x w' =>
      cases x <;> simp only [Oper.upon] at h ⊢
      case panic u => exact hQ _ _ _ h
  · rename_i hw
    simp only [hw] at h
    exact ⟨keep a hy _, by rw [← Act.put_comm a v undef h2]; exact h⟩

def anyU (P : Program) (md : Region.Mode) (ops : Array Oper) (Q : Exit → Act → World → Prop) (S : World → Prop) : Nat → Array Bool → Act → Prop
  | 0, listed, a => Region.ready md ops listed = [] ∧ ∀ w, S w → Q .normal a w
  | fuel + 1, listed, a =>
    (Region.ready md ops listed = [] → ∀ w, S w → Q .normal a w) ∧
    ∀ i ∈ Region.ready md ops listed, ∀ w, S w → wpOp P ops Q i (fun a' w' => S w' ∧ anyU P md ops Q S fuel (listed.setIfInBounds i true) a') a w

theorem wpAny_of_U : ∀ (fuel : Nat) (listed : Array Bool) (a : Act) (w : World), S w → anyU P md ops Q S fuel listed a → wpAny P md ops Q fuel listed a w
  | 0, _, _, w, hS, h => ⟨h.1, h.2 w hS⟩
  | fuel + 1, _, _, w, hS, h => ⟨fun h0 => h.1 h0 w hS, fun i hi => wpOp_mono (fun a' w' h' => wpAny_of_U fuel _ a' w' h'.1 h'.2) (h.2 i hi w hS)⟩

theorem anyU_first {i : Nat} {oi : Oper} {v : Value} (hi : ops[i]? = some oi) (hsel : ∀ (j : Nat) (o : Oper) cs b, ops[j]? = some o → o.op ≠ .select cs b)
    (hQ : ∀ c a w, Q (.panic c) (a.put oi.dst v) w → Q (.panic c) a w) :
    ∀ (fuel : Nat) (listed : Array Bool) (a : Act),
      (∀ j oj, ops[j]? = some oj → j ≠ i → listed.getD j true = false → (∀ e ∈ oj.after, Region.binds md e = true → e.on ≠ i) → oi.apart ops oj = true) →
      i ∈ Region.ready md ops listed → YieldsU P ops S oi v a →
      anyU P md ops Q S fuel (listed.setIfInBounds i true) (a.put oi.dst v) → anyU P md ops Q S (fuel + 1) listed a := by
  intro fuel
  induction fuel with
  | zero =>
    intro listed a _ hr hy H
    refine ⟨fun h => (by rw [h] at hr; cases hr), fun j hj w hS => ?_⟩
    by_cases hji : j = i
    · subst hji; exact hy.wpOp hi hS (fun w' hS' => ⟨hS', H⟩)
    · have := ready_mono hj hji
      rw [H.1] at this
      cases this
  | succ fuel ih =>
    intro listed a hfree hr hy H
    refine ⟨fun h => (by rw [h] at hr; cases hr), fun j hj w hS => ?_⟩
    by_cases hji : j = i
    · subst hji; exact hy.wpOp hi hS (fun w' hS' => ⟨hS', H⟩)
    · have h1 := H.2 j (ready_mono hj hji) w hS
      obtain ⟨hjun, oj, hoj, hall⟩ := mem_ready.1 hj
      have hnot : ∀ e ∈ oj.after, Region.binds md e = true → e.on ≠ i := fun e he hb heq => by
        have h1 := hall e he hb
        have h0 := (mem_ready.1 hr).1
        rw [heq] at h1
        rcases Nat.lt_or_ge i listed.size with h' | h'
        · simp [h'] at h0 h1; rw [h0] at h1; cases h1
        · simp [Array.getElem?_eq_none h'] at h1
      have h2 := wpOp_putU hoj (hfree j oj hoj hji hjun hnot) (fun cs b => hsel i oi cs b hi) (fun cs b => hsel j oj cs b hoj) hQ hy h1
      have hfree' : ∀ k ok, ops[k]? = some ok → k ≠ i → (listed.setIfInBounds j true).getD k true = false →
          (∀ e ∈ ok.after, Region.binds md e = true → e.on ≠ i) → oi.apart ops ok = true := fun k ok hk hki hun hno => by
        refine hfree k ok hk hki ?_ hno
        by_cases hjk : j = k
        · subst hjk; exact hjun
        · rw [getD_set_ne true hjk] at hun; exact hun
      refine wpOp_mono (fun a' w' h3 => ⟨h3.2.1, ih (listed.setIfInBounds j true) a' hfree' (ready_mono hr (Ne.symm hji)) h3.1 ?_⟩) h2
      rw [Array.setIfInBounds_comm _ _ hji]
      exact h3.2.2

/-- The first k operations have come up. -/
def firsts (n : Nat) : Nat → Array Bool
  | 0 => Array.replicate n false
  | k + 1 => (firsts n k).setIfInBounds k true

/-- The look at a region, by the kernel: taken in the text's order each may come up, and none that hasn't come up touches its slots unless it waits for it; slots lie in the frame. -/
def okU (ops : Array Oper) (n : Nat) : Bool :=
  Region.noSelect ops && (List.range ops.size).all (fun i => Region.free .any ops (firsts ops.size i) i && (Region.ready .any ops (firsts ops.size i)).contains i) &&
    (Region.ready .any ops (firsts ops.size ops.size)).isEmpty && ops.all (fun o => (o.dst.map (decide <| · < n)).getD true)

/-- The operations one behind the other, each in whatever world meets S. -/
def ListU (P : Program) (ops : Array Oper) (S : World → Prop) (Q : Exit → Act → World → Prop) : List Oper → Act → Prop
  | [], a => ∀ w, S w → Q .normal a w
  | o :: rest, a => ∃ a1, (∀ w, S w → ∀ K : Act → World → Prop, (∀ w', S w' → K a1 w') →
      if Region.wanted o (yielded ops a.tmps) then Oper.wp P o a w K (fun _ _ _ => False) else K (a.put o.dst undef) w) ∧ a1.defers = a.defers ∧ ListU P ops S Q rest a1

theorem ListU.cons {o : Oper} {rest : List Oper} {a a1 : Act} (h : ∀ w, S w → ∀ K : Act → World → Prop, (∀ w', S w' → K a1 w') →
      if Region.wanted o (yielded ops a.tmps) then Oper.wp P o a w K (fun _ _ _ => False) else K (a.put o.dst undef) w) (hd : a1.defers = a.defers)
    (hr : ListU P ops S Q rest a1) : ListU P ops S Q (o :: rest) a := ⟨a1, h, hd, hr⟩

theorem put_inj {a : Act} {dst : Option Tmp} {u v : Value} (hd : ∀ d, dst = some d → d < a.tmps.size) (h : a.put dst u = a.put dst v) : dst = none ∨ u = v := by
  cases dst with
  | none => exact .inl rfl
  | some d =>
    have h0 := hd d rfl
    have h1 := congrArg (fun x : Act => x.tmps[d]?) h
    simp [Act.put, h0] at h1
    exact .inr h1

theorem defer_ne {a : Act} {d : Deferred} {dst : Option Tmp} {v : Value} {a1 : Act} (hd : a1.defers = a.defers) : ({ a with defers := d :: a.defers } : Act).put dst v ≠ a1 := by
  intro h
  have h1 := congrArg (fun x : Act => x.defers.length) h
  rw [hd] at h1
  cases dst <;> simp [Act.put] at h1

theorem letsOut_false : ¬ LetsOut (fun _ _ _ => False) := fun ⟨_, _, h⟩ => h

theorem calls_end {P : Program} {f : FuncId} {args : Array Value} {w : World} {R : Ending → World → Prop} (h : Calls P f args w R) : ∃ e w', R e w' :=
  let ⟨e, w', _, hr, _⟩ := h []; ⟨e, w', hr⟩
theorem rows_end {P : Program} {row : String} {args : Array Value} {w : World} {R : Value → World → Prop} (h : Go.Rows P row args w R) : ∃ v w', R v w' :=
  let ⟨v, w', hr, _⟩ := h default []; ⟨v, w', hr⟩

theorem yields_of_wp {o : Oper} {a a1 : Act} (hin : ∃ w, S w) (hd : ∀ d, o.dst = some d → d < a.tmps.size) (hdef : a1.defers = a.defers)
    (h : ∀ w, S w → ∀ K : Act → World → Prop, (∀ w', S w' → K a1 w') → if Region.wanted o (yielded ops a.tmps) then Oper.wp P o a w K (fun _ _ _ => False) else K (a.put o.dst undef) w) :
    ∃ v, a1 = a.put o.dst v ∧ YieldsU P ops S o v a := by
  cases hw : Region.wanted o (yielded ops a.tmps) with
  | false =>
    obtain ⟨w, hS⟩ := hin
    have := h w hS (fun x _ => x = a1) (fun _ _ => rfl)
    rw [hw] at this
    exact ⟨undef, by simpa using this.symm, .inr ⟨hw, rfl⟩⟩
  | true =>
    have h' : ∀ w, S w → Oper.wp P o a w (fun x w' => x = a1 ∧ S w') (fun _ _ _ => False) := fun w hS => by
      have := h w hS (fun x w' => x = a1 ∧ S w') (fun w' hS' => ⟨rfl, hS'⟩)
      rw [hw] at this
      simpa using this
    have key : ∃ v, a1 = a.put o.dst v := by
      obtain ⟨w, hS⟩ := hin
      have := h' w hS
      unfold Oper.wp at this
      generalize (execOp a.eval o).run P w = r at this
      cases r with
      | ok n w' =>
        cases n <;> simp only [Oper.upon] at this
        case value u => exact ⟨u, this.1.symm⟩
        case skip => exact ⟨undef, this.1.symm⟩
        case defer d => exact absurd this.1 (defer_ne hdef)
        case enter f args =>
          obtain ⟨e, w2, he⟩ := calls_end this
          cases e with
          | returned u => exact ⟨u, he.1.symm⟩
          | panicked c => exact he.elim
          | outgrown => exact (letsOut_false he).elim
        case row row args =>
          obtain ⟨u, w2, he⟩ := rows_end this
          exact ⟨u, he.1.symm⟩
      | halt x w' => cases x <;> simp only [Oper.upon] at this
    obtain ⟨v, hv⟩ := key
    refine ⟨v, hv, .inl ⟨hw, fun w hS => ?_⟩⟩
    have := h' w hS
    unfold Oper.wp at this
    generalize (execOp a.eval o).run P w = r at this
    cases r with
    | ok n w' =>
      cases n <;> simp only [Oper.upon] at this <;> simp only [Gives]
      case value u => exact ⟨put_inj hd (this.1.trans hv), this.2⟩
      case skip => exact ⟨put_inj hd (this.1.trans hv), this.2⟩
      case defer d => exact absurd this.1 (defer_ne hdef)
      case enter f args =>
        refine Calls.mono this fun e w2 he => ?_
        cases e with
        | returned u => exact ⟨u, rfl, put_inj hd (he.1.trans hv), he.2⟩
        | panicked c => exact he.elim
        | outgrown => exact (letsOut_false he).elim
      case row row args => exact Rows.mono this fun u w2 he => ⟨put_inj hd (he.1.trans hv), he.2⟩
    | halt x w' => cases x <;> simp only [Oper.upon] at this

theorem size_put (a : Act) (dst : Option Tmp) (v : Value) : (a.put dst v).tmps.size = a.tmps.size := by cases dst <;> simp [Act.put]

theorem anyU_of_list {n : Nat} (hok : okU ops n = true) (hin : ∃ w, S w) (hQ : ∀ c a w, ¬ Q (.panic c) a w) : ∀ (k i : Nat) (a : Act), i + k = ops.size → a.tmps.size = n → ListU P ops S Q (ops.toList.drop i) a → anyU P .any ops Q S k (firsts ops.size i) a := by
  have hok' := hok
  unfold okU at hok'
  simp only [Bool.and_eq_true, List.all_eq_true, List.mem_range, Array.all_eq_true] at hok'
  obtain ⟨⟨⟨hsel, hall⟩, hend⟩, hdst⟩ := hok'
  intro k
  induction k with
  | zero =>
    intro i a hi hn h
    have hi' : i = ops.size := by omega
    subst hi'
    rw [List.drop_of_length_le (by simp)] at h
    exact ⟨by simpa using hend, h⟩
  | succ k ih =>
    intro i a hi hn h
    have hlt : i < ops.size := by omega
    have hl : i < ops.toList.length := by simpa using hlt
    rw [List.drop_eq_getElem_cons hl] at h
    obtain ⟨a1, h1, h2, h3⟩ := h
    have hoi : ops[i]? = some ops.toList[i] := by simp [hlt]
    have hd : ∀ d, ops.toList[i].dst = some d → d < a.tmps.size := by
      intro d hd
      have := hdst i hlt
      rw [hn]
      simp only [Array.getElem_toList] at hd
      rw [hd] at this
      simpa using this
    obtain ⟨v, rfl, hy⟩ := yields_of_wp hin hd h2 h1
    obtain ⟨hf, hr⟩ := hall i hlt
    refine anyU_first hoi (Region.noSelect_spec hsel) (fun c a w h => absurd h (hQ _ _ _)) k _ a (Region.free_spec hoi hf) (by simpa using hr) hy ?_
    exact ih (i + 1) _ (by omega) (by rw [size_put]; exact hn) h3

/-- **A REGION THAT DRAWS ITS ORDER, IN THE ORDER OF THE TEXT.** -/
theorem region_U {id : Nat} {a : Act} {w : World} (n : Nat) (S : World → Prop) (hm : P.follows .mixedOrders = true) (hok : okU ops n = true) (hn : a.tmps.size = n) (hS : S w.drew)
    (h : ListU P ops S (NoPanic Q) ops.toList a) : (Code.region id ops true).wp P Q a w := by
  refine wp_region_noPanic (wp_region_any hm ?_)
  refine wpAny_of_U _ _ _ _ hS ?_
  exact anyU_of_list hok ⟨_, hS⟩ (fun _ _ _ h => h) ops.size 0 a (by omega) hn (by simpa using h)
end
end Go.Proofs.Ytgfodhbejcbogaa
