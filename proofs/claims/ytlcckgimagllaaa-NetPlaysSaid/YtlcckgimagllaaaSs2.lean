/- The walk by known slots and chunks: control, calls, loops, returns. No program in sight. -/
import Derived.Test.YtlcckgimagllaaaSs
import Derived.Sort.LoopGhostIn
import Derived.LoopNIn
import Derived.OrdersIn
import Derived.RegionIn
import Derived.RangeFuncLeaves
import Derived.RangeFuncCalls
namespace Go.Proofs.Ytlcckgimagllaaa
open Go Go.RowKit
set_option linter.unusedVariables false

/-! ### out of the plain walk into a frame of whatever make -/
/-- Whatever function; a round's frame, or none. -/
def fen (ro : Option Nat) : Fence := { Fence.wide with round := ro }
def notDefer : Op → Bool
  | .defer _ => false
  | _ => true
theorem notDefer_spec {op : Op} (h : notDefer op = true) : ∀ c, op ≠ .defer c := fun c e => by subst e; simp [notDefer] at h
theorem calls_fen {P : Program} {ro : Option Nat} {n : Nat} {f : FuncId} {args : Array Value} {w : World} {R : Ending → World → Prop} (h : Calls P f args w R) : CallsIn (fen ro) n P f args w R := by
  cases ro with
  | none => exact callsIn_wide.2 h
  | some l => exact CallsIn.inRound (F := Fence.wide) l (callsIn_wide.2 h)
theorem wpIn_of_op {P : Program} {ro : Option Nat} {o : Oper} {a : Act} {w : World} {K : Act → World → Prop} {Q : Exit → Act → World → Prop} (hnd : (ro.isNone || notDefer o.op) = true) (h : o.wp P a w K Q) : o.wpIn (fen ro) 0 P a w K Q := by
  refine ⟨fun _ _ => trivial, ?_⟩
  have e : Oper.semAt (fen ro).round a.eval o = execOp a.eval o := by
    cases ro with
    | none => rfl
    | some l => exact Oper.semAt_some l _ _ (notDefer_spec (by simpa using hnd))
  rw [e]
  unfold Oper.wp at h
  generalize (execOp a.eval o).run P w = r at h ⊢
  cases r with
  | ok n w' =>
    cases n <;> simp only [Oper.upon, Oper.uponIn] at h ⊢ <;>
      first
        | exact h
        | exact h.elim
        | exact ⟨fun h' => (by simp [fen, Fence.wide] at h'), calls_fen h⟩
        | exact ⟨fun h' => (by simp [fen, Fence.wide] at h'), fun c cs _ => (let ⟨v, w', r, s⟩ := h c cs; ⟨v, w', r, (StepsIn.of_steps s).mono fun m _ => fenced_wide P m⟩)⟩
  | halt x w' => cases x <;> simp only [Oper.upon, Oper.uponIn] at h ⊢ <;> exact h
structure SS (n : Nat) (T : List (Nat × Value)) (X : List Nat) (w0 : World) (m : Nat) (L : List Chunk) (a : Act) (w : World) : Prop where
  agr : Agr n T a
  ch : Ch X w0 w
  size : w.heap.size = m
  has : Has L w

/-- An operation that reads: in whatever world of this memory it yields v and leaves all as it is. (These are structures, not definitions: so the unifier doesn't look into them.) -/
structure Qt (P : Program) (X : List Nat) (w0 : World) (o : Oper) (T : List (Nat × Value)) (L : List Chunk) (v : Value) : Prop where
  h : ∀ n a w, Agr n T a → Ch X w0 w → Has L w → (execOp a.eval o).run P w = .ok (.value v) w
/-- A contract: a structure, too. -/
structure CA (P : Program) (f : FuncId) (vs : List Value) (w : World) (R : Ending → World → Prop) : Prop where
  h : Calls P f vs.toArray w R
/-- What is asked behind a piece of code, as data. -/
inductive Ct where
  | thn (K : Act → World → Prop) (Q : Ct)
  | blk (id : Nat) (Q : Ct)
  | post (P : Program) (fn : Func) (R : Ending → World → Prop)
  /-- likewise, of a function that ranges over one -/
  | postM (P : Program) (fn : Func) (R : Ending → World → Prop)
  /-- in a round of the loop l -/
  | rnd (l : Nat) (R : Exit → Act → World → Prop)
def Ct.ro : Ct → Option Nat
  | .thn _ Q => Q.ro
  | .blk _ Q => Q.ro
  | .post _ _ _ => none
  | .postM _ _ _ => none
  | .rnd l _ => some l
def Ct.den : Ct → Exit → Act → World → Prop
  | .rnd _ R => R
  | .postM P fn R => bodyPostM Fence.wide 0 P fn R
  | .thn K Q => Exit.then K Q.den
  | .blk id Q => Exit.inBlock id Q.den
  | .post P fn R => bodyPost P fn R
structure CW (P : Program) (c : Code) (Q : Ct) (a : Act) (w : World) : Prop where
  h : c.wpIn (fen Q.ro) 0 P Q.den a w
structure WL (P : Program) (ops : Array Oper) (Q : Ct) (l : List Oper) (a : Act) (w : World) : Prop where
  h : wpListIn (fen Q.ro) 0 P ops Q.den l a w
structure OW (P : Program) (o : Oper) (K : Act → World → Prop) (Q : Exit → Act → World → Prop) (a : Act) (w : World) : Prop where
  h : Oper.wp P o a w K Q
structure EX (Q : Ct) (e : Exit) (a : Act) (w : World) : Prop where
  h : Q.den e a w
structure RN (P : Program) (c : Code) (Q : Ct) (k : Nat) (a : Act) (w : World) : Prop where
  h : Code.roundsIn (fen Q.ro) 0 P c Q.den k a w

section
variable {P : Program} {n m d : Nat} {T : List (Nat × Value)} {X : List Nat} {w0 : World} {L : List Chunk} {ops : Array Oper} {rest : List Oper} {Q : Ct} {Qf : Exit → Act → World → Prop} {F K : Act → World → Prop}
  {op : Op} {ty : TypeId} {pos : String} {af : Array Edge} {gu : Option (Nat × Bool)} {v : Value} {x y : Code} {id id' : Nat} {c : Operand}

theorem Qt.cast {o : Oper} {v v' : Value} (h : v = v') (hq : Qt P X w0 o T L v) : Qt P X w0 o T L v' := h ▸ hq

theorem st_q (hq : Qt P X w0 ⟨some d, op, ty, pos, af, none⟩ T L v) (hd : Nat.blt d n = true) (h : ∀ a w, SS n ((d, v) :: T) X w0 m L a w → WL P ops Q rest a w) (hnd : (Q.ro.isNone || notDefer op) = true := by rfl) :
    ∀ a w, SS n T X w0 m L a w → WL P ops Q (⟨some d, op, ty, pos, af, none⟩ :: rest) a w := by
  intro a w hs
  refine ⟨wpListIn_plain rfl fun K hK => wpIn_of_op hnd ?_⟩
  unfold Oper.wp
  rw [hq.h n a w hs.agr hs.ch hs.has, Oper.upon_value]
  exact hK _ _ (h _ _ ⟨hs.agr.put v hd, hs.ch, hs.size, hs.has⟩).h

theorem st_e (h : ∀ a w, SS n T X w0 m L a w → OW P ⟨some d, op, ty, pos, af, none⟩ (WL P ops Q rest) Q.den a w) (hnd : (Q.ro.isNone || notDefer op) = true := by rfl) :
    ∀ a w, SS n T X w0 m L a w → WL P ops Q (⟨some d, op, ty, pos, af, none⟩ :: rest) a w := by
  intro a w hs
  refine ⟨wpListIn_plain rfl fun K hK => wpIn_of_op hnd (Oper.wp_mono (fun _ _ h => hK _ _ h.h) (h a w hs).h)⟩
theorem st_e0 (h : ∀ a w, SS n T X w0 m L a w → OW P ⟨none, op, ty, pos, af, none⟩ (WL P ops Q rest) Q.den a w) (hnd : (Q.ro.isNone || notDefer op) = true := by rfl) :
    ∀ a w, SS n T X w0 m L a w → WL P ops Q (⟨none, op, ty, pos, af, none⟩ :: rest) a w := by
  intro a w hs
  refine ⟨wpListIn_plain rfl fun K hK => wpIn_of_op hnd (Oper.wp_mono (fun _ _ h => hK _ _ h.h) (h a w hs).h)⟩

/-- What the guard's slot holds. -/
def gd (ops : Array Oper) (T : List (Nat × Value)) (j : Nat) : Option Value :=
  match ops[j]? with
  | some o => match o.dst with
    | some t => lks T t
    | none => none
  | none => none

theorem yielded_of {a : Act} (hA : Agr n T a) {j : Nat} {b : Bool} (h : gd ops T j = some (.bool b)) : yielded ops a.tmps j = some b := by
  unfold gd at h
  unfold yielded
  cases ho : ops[j]? with
  | none => simp [ho] at h
  | some o =>
    simp only [ho] at h
    cases hd : o.dst with
    | none => simp [hd] at h
    | some t =>
      simp only [hd] at h
      simp [hd, hA.slot t _ h]

/-- A guarded operation that is not wanted. -/
theorem st_skip {j : Nat} {b want : Bool} (hg : gd ops T j = some (.bool b)) (hb : (b == want) = false) (hd : Nat.blt d n = true)
    (h : ∀ a w, SS n ((d, undef) :: T) X w0 m L a w → WL P ops Q rest a w) :
    ∀ a w, SS n T X w0 m L a w → WL P ops Q (⟨some d, op, ty, pos, af, some (j, want)⟩ :: rest) a w := by
  intro a w hs
  refine ⟨?_⟩
  unfold wpListIn
  rw [if_neg (by simp only [Region.wanted, yielded_of hs.agr hg]; intro h'; simp at h'; subst h'; simp at hb)]
  exact ⟨fun _ _ => trivial, (h _ _ ⟨hs.agr.put undef hd, hs.ch, hs.size, hs.has⟩).h⟩
/-- A guarded one that is. -/
theorem st_want {j : Nat} {b want : Bool} (hg : gd ops T j = some (.bool b)) (hb : (b == want) = true) {dst : Option Tmp}
    (h : ∀ a w, SS n T X w0 m L a w → WL P ops Q (⟨dst, op, ty, pos, af, none⟩ :: rest) a w) :
    ∀ a w, SS n T X w0 m L a w → WL P ops Q (⟨dst, op, ty, pos, af, some (j, want)⟩ :: rest) a w := by
  intro a w hs
  have h1 := (h a w hs).h
  refine ⟨?_⟩
  unfold wpListIn at h1 ⊢
  rw [if_pos (by simp [Region.wanted])] at h1
  rw [if_pos (by simp only [Region.wanted, yielded_of hs.agr hg]; simp at hb; simp [hb])]
  exact h1

/-- The newest slot, otherwise spelt. -/
theorem top {v' : Value} (e : v = v') (h : ∀ a w, SS n ((d, v') :: T) X w0 m L a w → F a w) : ∀ a w, SS n ((d, v) :: T) X w0 m L a w → F a w := e ▸ h
/-- The newest slot's bool, by cases. -/
theorem cs {b : Bool} (ht : b = true → ∀ a w, SS n ((d, .bool true) :: T) X w0 m L a w → F a w) (hf : b = false → ∀ a w, SS n ((d, .bool false) :: T) X w0 m L a w → F a w) :
    ∀ a w, SS n ((d, .bool b) :: T) X w0 m L a w → F a w := by
  cases b
  · exact hf rfl
  · exact ht rfl

/-- Less is known. -/
theorem fgt {T' : List (Nat × Value)} {L' : List Chunk} (hT : subT T T') (hL : L'.Sublist L) (h : ∀ a w, SS n T' X w0 m L' a w → F a w) : ∀ a w, SS n T X w0 m L a w → F a w :=
  fun a w hs => h a w ⟨hs.agr.sub hT, hs.ch, hs.size, hs.has.sub hL⟩
theorem chg {L' : List Chunk} (e : L = L') (h : ∀ a w, SS n T X w0 m L' a w → F a w) : ∀ a w, SS n T X w0 m L a w → F a w := e ▸ h

/-! ### control -/
theorem c_seq (h : ∀ a w, SS n T X w0 m L a w → CW P x (.thn (CW P y Q) Q) a w) : ∀ a w, SS n T X w0 m L a w → CW P (Code.seq x y) Q a w :=
  fun a w hs => ⟨wpIn_seq (wpIn_mono (h a w hs).h fun e a w hq => by cases e <;> first | exact hq | exact CW.h hq)⟩
theorem c_block (h : ∀ a w, SS n T X w0 m L a w → CW P x (.blk id Q) a w) : ∀ a w, SS n T X w0 m L a w → CW P (Code.block id x) Q a w := fun a w hs => ⟨wpIn_block (h a w hs).h⟩
theorem c_skip (h : ∀ a w, SS n T X w0 m L a w → EX Q .normal a w) : ∀ a w, SS n T X w0 m L a w → CW P Code.skip Q a w := fun a w hs => ⟨wpIn_skip (h a w hs).h⟩
theorem c_ret (h : ∀ a w, SS n T X w0 m L a w → EX Q .ret a w) : ∀ a w, SS n T X w0 m L a w → CW P Code.ret Q a w := fun a w hs => ⟨wpIn_ret (h a w hs).h⟩
theorem c_exit (h : ∀ a w, SS n T X w0 m L a w → EX Q (.exit id) a w) : ∀ a w, SS n T X w0 m L a w → CW P (Code.exit id) Q a w := fun a w hs => ⟨wpIn_exit (h a w hs).h⟩
theorem c_region {l : List Oper} (h : ∀ a w, SS n T X w0 m L a w → WL P l.toArray Q l a w) : ∀ a w, SS n T X w0 m L a w → CW P (Code.region id l.toArray false) Q a w :=
  fun a w hs => ⟨wpIn_region_lit (h a w hs).h⟩
theorem l_nil (h : ∀ a w, SS n T X w0 m L a w → EX Q .normal a w) : ∀ a w, SS n T X w0 m L a w → WL P ops Q [] a w := fun a w hs => ⟨(h a w hs).h⟩
theorem n_then (h : ∀ a w, SS n T X w0 m L a w → K a w) : ∀ a w, SS n T X w0 m L a w → EX (.thn K Q) .normal a w := fun a w hs => ⟨h a w hs⟩
theorem n_then_exit (h : ∀ a w, SS n T X w0 m L a w → EX Q (.exit id) a w) : ∀ a w, SS n T X w0 m L a w → EX (.thn K Q) (.exit id) a w := fun a w hs => ⟨(h a w hs).h⟩
theorem n_then_ret (h : ∀ a w, SS n T X w0 m L a w → EX Q .ret a w) : ∀ a w, SS n T X w0 m L a w → EX (.thn K Q) .ret a w := fun a w hs => ⟨(h a w hs).h⟩
theorem n_block (h : ∀ a w, SS n T X w0 m L a w → EX Q .normal a w) : ∀ a w, SS n T X w0 m L a w → EX (.blk id Q) .normal a w := fun a w hs => ⟨(h a w hs).h⟩
theorem n_block_ret (h : ∀ a w, SS n T X w0 m L a w → EX Q .ret a w) : ∀ a w, SS n T X w0 m L a w → EX (.blk id Q) .ret a w := fun a w hs => ⟨(h a w hs).h⟩
theorem n_block_eq (h : ∀ a w, SS n T X w0 m L a w → EX Q .normal a w) : ∀ a w, SS n T X w0 m L a w → EX (.blk id Q) (.exit id) a w := fun a w hs => ⟨by
  simp only [Ct.den, Exit.inBlock, if_true]; exact (h a w hs).h⟩
theorem n_block_ne (hne : Nat.beq id' id = false) (h : ∀ a w, SS n T X w0 m L a w → EX Q (.exit id') a w) : ∀ a w, SS n T X w0 m L a w → EX (.blk id Q) (.exit id') a w := fun a w hs => ⟨by
  simp only [Ct.den, Exit.inBlock, if_neg (Nat.ne_of_beq_eq_false hne)]; exact (h a w hs).h⟩

theorem c_cond_t (hc : ev T c = some (.bool true)) (h : ∀ a w, SS n T X w0 m L a w → CW P x Q a w) : ∀ a w, SS n T X w0 m L a w → CW P (Code.cond c x y) Q a w :=
  fun a w hs => ⟨wpIn_cond_true (hs.agr.eval hc) (h a w hs).h⟩
theorem c_cond_f (hc : ev T c = some (.bool false)) (h : ∀ a w, SS n T X w0 m L a w → CW P y Q a w) : ∀ a w, SS n T X w0 m L a w → CW P (Code.cond c x y) Q a w :=
  fun a w hs => ⟨wpIn_cond_false (hs.agr.eval hc) (h a w hs).h⟩
theorem c_cond {b : Bool} (hc : ev T c = some (.bool b)) (ht : b = true → ∀ a w, SS n T X w0 m L a w → CW P x Q a w) (hf : b = false → ∀ a w, SS n T X w0 m L a w → CW P y Q a w) :
    ∀ a w, SS n T X w0 m L a w → CW P (Code.cond c x y) Q a w :=
  fun a w hs => ⟨wpIn_cond_split (hs.agr.eval hc) (fun h => (ht h a w hs).h) (fun h => (hf h a w hs).h)⟩
theorem c_cond_dec {p : Prop} [Decidable p] (hc : ev T c = some (.bool (decide p))) (ht : p → ∀ a w, SS n T X w0 m L a w → CW P x Q a w) (hf : ¬ p → ∀ a w, SS n T X w0 m L a w → CW P y Q a w) :
    ∀ a w, SS n T X w0 m L a w → CW P (Code.cond c x y) Q a w :=
  c_cond hc (fun h => ht (of_decide_eq_true h)) (fun h => hf (of_decide_eq_false h))
theorem c_cond_eq {p q : Int} (hc : ev T c = some (.bool (p == q))) (ht : p = q → ∀ a w, SS n T X w0 m L a w → CW P x Q a w) (hf : p ≠ q → ∀ a w, SS n T X w0 m L a w → CW P y Q a w) :
    ∀ a w, SS n T X w0 m L a w → CW P (Code.cond c x y) Q a w :=
  c_cond hc (fun h => ht (by simpa using h)) (fun h => hf (by simpa using h))
theorem c_cond_ne {p q : Int} (hc : ev T c = some (.bool (p != q))) (ht : p ≠ q → ∀ a w, SS n T X w0 m L a w → CW P x Q a w) (hf : p = q → ∀ a w, SS n T X w0 m L a w → CW P y Q a w) :
    ∀ a w, SS n T X w0 m L a w → CW P (Code.cond c x y) Q a w :=
  c_cond hc (fun h => ht (by simpa using h)) (fun h => hf (by simpa using h))

/-! ### a loop -/
structure LoopK {γ : Type} (n : Nat) (X : List Nat) (w0 : World) (T' : γ → List (Nat × Value)) (m' : γ → Nat) (L' : γ → List Chunk) (Φ : γ → Prop) (μ : γ → Nat) (k : Nat) (a : Act) (w : World) : Prop where
  h : ∃ y, Φ y ∧ μ y < k ∧ SS n (T' y) X w0 (m' y) (L' y) a w

theorem c_loop {γ : Type} (T' : γ → List (Nat × Value)) (m' : γ → Nat) (L' : γ → List Chunk) (Φ : γ → Prop) (μ : γ → Nat) (x0 : γ) (h0 : Φ x0) (hT : subT T (T' x0)) (hm : m' x0 = m) (hL : (L' x0).Sublist L)
    (round : ∀ z, Φ z → ∀ a w, SS n (T' z) X w0 (m' z) (L' z) a w → CW P x (.thn (LoopK n X w0 T' m' L' Φ μ (μ z)) Q) a w) :
    ∀ a w, SS n T X w0 m L a w → CW P (Code.loop x) Q a w := by
  intro a w hs
  refine ⟨wpIn_loop_ghost (fun k a w => ∃ y, Φ y ∧ μ y = k ∧ SS n (T' y) X w0 (m' y) (L' y) a w) (μ x0) ⟨x0, h0, rfl, ⟨hs.agr.sub hT, hs.ch, hm ▸ hs.size, hs.has.sub hL⟩⟩ ?_⟩
  rintro k a w ⟨z, hz, rfl, hs⟩
  refine wpIn_mono (round z hz a w hs).h ?_
  intro e a' w' hq
  cases e with
  | normal => obtain ⟨y, hy, hlt, hs'⟩ := LoopK.h hq; exact ⟨μ y, hlt, y, hy, rfl, hs'⟩
  | _ => exact hq

/-- The round's end. -/
theorem c_round {γ : Type} {T' : γ → List (Nat × Value)} {m' : γ → Nat} {L' : γ → List Chunk} {Φ : γ → Prop} {μ : γ → Nat} {k : Nat} (y : γ) (hy : Φ y) (hlt : μ y < k) (hT : subT T (T' y)) (hm : m' y = m) (hL : (L' y).Sublist L) :
    ∀ a w, SS n T X w0 m L a w → LoopK n X w0 T' m' L' Φ μ k a w :=
  fun a w hs => ⟨y, hy, hlt, hs.agr.sub hT, hs.ch, hm ▸ hs.size, hs.has.sub hL⟩

/-- A loop gone round by round, at most k times. -/
theorem c_rounds (k : Nat) (h : ∀ a w, SS n T X w0 m L a w → RN P x Q k a w) : ∀ a w, SS n T X w0 m L a w → CW P (Code.loop x) Q a w := fun a w hs => ⟨wpIn_loop_rounds k (h a w hs).h⟩
theorem r_succ {k : Nat} (h : ∀ a w, SS n T X w0 m L a w → CW P x (.thn (RN P x Q k) Q) a w) : ∀ a w, SS n T X w0 m L a w → RN P x Q (k + 1) a w :=
  fun a w hs => ⟨wpIn_mono (h a w hs).h fun e a w hq => by cases e <;> first | exact hq | exact RN.h hq⟩

/-! ### a call, and a return -/
def Ret {α : Type} (V : α → Value) (X : List Nat) (N : α → List Chunk) (Φ : α → Prop) (w : World) (e : Ending) (w' : World) : Prop :=
  ∃ z, e = .returned (V z) ∧ Ch X w w' ∧ Has (N z) w' ∧ (∀ g ∈ feet (N z), g ∈ X ∨ w.heap.size ≤ g) ∧ Φ z

/-- A function with a body of its own. -/
def bodied (P : Program) (f : FuncId) : Bool :=
  match P.funcs[f]? with
  | some fn => !(fn.name == "runtime.NumGoroutine") && fn.body.isSome
  | none => false

theorem run_callFunc_bodied {f : FuncId} (h : bodied P f = true) (args : Array Value) (w : World) : (callFunc f args).run P w = .ok (.enter f args) w := by
  unfold bodied at h
  cases hf : P.funcs[f]? with
  | none => simp [hf] at h
  | some fn =>
    simp [hf] at h
    obtain ⟨h1, h2⟩ := h
    have h2' : ¬ fn.body = none := by intro e; simp [e] at h2
    simp [callFunc, program, Sem.run, hf, h1, h2']

theorem feet_mem_append {L L' : List Chunk} {g : Nat} : g ∈ feet (L ++ L') ↔ g ∈ feet L ∨ g ∈ feet L' := by rw [feet_append, List.mem_append]

theorem wp_call_of {o : Oper} {fop : Operand} {xs : List Operand} {ats : Array TypeId} (ho : o.op = .call { callee := .value fop, args := xs.toArray, argTypes := ats }) {f : FuncId} {first cap : Array Value} {vs : List Value} {a : Act} {w : World}
    (hf : a.eval fop = .func (.func f) first cap) (ha : xs.map a.eval = vs) (hb : bodied P f = true) {R : Ending → World → Prop} (hc : Calls P f (first ++ vs.toArray ++ cap) w R) (hR : ∀ e w', R e w' → ∃ v, e = .returned v ∧ K (a.put o.dst v) w') : OW P o K Qf a w := by
  refine ⟨?_⟩
  unfold Oper.wp execOp
  simp only [ho, resolve, hf, Deferred.ofValue, invoke, Sem.run_bind, Sem.run_pure, Result.andThen_ok, List.map_toArray, ha, run_callFunc_bodied hb]
  refine Calls.mono hc fun e w' he => ?_
  obtain ⟨v, rfl, hk⟩ := hR e w' he
  exact hk

theorem e_call {α : Type} {V : α → Value} {Y : List Nat} {N : α → List Chunk} {Φ : α → Prop} {fop : Operand} {xs : List Operand} {ats : Array TypeId} {f : FuncId} {vs : List Value} {L' : List Chunk}
    (hf : ev T fop = some (.func (.func f) #[] #[])) (hargs : evs T xs = some vs) (hb : bodied P f = true) (hd : Nat.blt d n = true)
    (hcon : ∀ w, Ch X w0 w → w.heap.size = m → Has L w → CA P f vs w (Ret V Y N Φ w))
    (hY : ∀ g ∈ Y, g ∈ X ∨ w0.heap.size ≤ g) (hL' : L'.Sublist L) (hYL : ∀ g ∈ Y, g ∉ feet L')
    (h : ∀ z m', Φ z → (∀ g ∈ feet (N z), g ∈ Y ∨ m ≤ g) → m ≤ m' → ∀ a w, SS n ((d, V z) :: T) X w0 m' (N z ++ L') a w → K a w) :
    ∀ a w, SS n T X w0 m L a w → OW P ⟨some d, .call { callee := .value fop, args := xs.toArray, argTypes := ats }, ty, pos, af, gu⟩ K Qf a w := by
  intro a w hs
  refine wp_call_of rfl (hs.agr.eval hf) (hs.agr.evals hargs) hb (by simpa using (hcon w hs.ch hs.size hs.has).h) ?_
  rintro e w' ⟨z, rfl, hch, hN, hnew, hz⟩
  refine ⟨_, rfl, h z w'.heap.size hz (fun g hg => by have := hnew g hg; rw [hs.size] at this; exact this) (by have := hch.size; have := hs.size; omega) _ _ ⟨hs.agr.put _ hd, hs.ch.call hch hY, rfl, ?_⟩⟩
  have hk : Has L' w' := (hs.has.sub hL').congr fun g hg => hch.block g ((hs.has.sub hL').lt g hg) (fun hm => hYL g hm hg)
  refine ⟨fun c hc => (List.mem_append.1 hc).elim (hN.ok c) (hk.ok c), ?_⟩
  rw [feet_append]
  refine List.nodup_append.2 ⟨hN.apart, hk.apart, fun a1 h1 b1 h2 e => ?_⟩
  subst e
  rcases hnew a1 h1 with hy | hy
  · exact hYL a1 hy h2
  · have := (hs.has.sub hL').lt a1 h2; omega

theorem e_call0 {α : Type} {V : α → Value} {Y : List Nat} {N : α → List Chunk} {Φ : α → Prop} {fop : Operand} {xs : List Operand} {ats : Array TypeId} {f : FuncId} {vs : List Value} {L' : List Chunk}
    (hf : ev T fop = some (.func (.func f) #[] #[])) (hargs : evs T xs = some vs) (hb : bodied P f = true)
    (hcon : ∀ w, Ch X w0 w → w.heap.size = m → Has L w → CA P f vs w (Ret V Y N Φ w))
    (hY : ∀ g ∈ Y, g ∈ X ∨ w0.heap.size ≤ g) (hL' : L'.Sublist L) (hYL : ∀ g ∈ Y, g ∉ feet L')
    (h : ∀ z m', Φ z → (∀ g ∈ feet (N z), g ∈ Y ∨ m ≤ g) → m ≤ m' → ∀ a w, SS n T X w0 m' (N z ++ L') a w → K a w) :
    ∀ a w, SS n T X w0 m L a w → OW P ⟨none, .call { callee := .value fop, args := xs.toArray, argTypes := ats }, ty, pos, af, gu⟩ K Qf a w := by
  intro a w hs
  refine wp_call_of rfl (hs.agr.eval hf) (hs.agr.evals hargs) hb (by simpa using (hcon w hs.ch hs.size hs.has).h) ?_
  rintro e w' ⟨z, rfl, hch, hN, hnew, hz⟩
  refine ⟨_, rfl, h z w'.heap.size hz (fun g hg => by have := hnew g hg; rw [hs.size] at this; exact this) (by have := hch.size; have := hs.size; omega) _ _ ⟨hs.agr, hs.ch.call hch hY, rfl, ?_⟩⟩
  have hk : Has L' w' := (hs.has.sub hL').congr fun g hg => hch.block g ((hs.has.sub hL').lt g hg) (fun hm => hYL g hm hg)
  refine ⟨fun c hc => (List.mem_append.1 hc).elim (hN.ok c) (hk.ok c), ?_⟩
  rw [feet_append]
  refine List.nodup_append.2 ⟨hN.apart, hk.apart, fun a1 h1 b1 h2 e => ?_⟩
  subst e
  rcases hnew a1 h1 with hy | hy
  · exact hYL a1 hy h2
  · have := (hs.has.sub hL').lt a1 h2; omega

/-- A call of which only a value comes. -/
theorem e_callp {fop : Operand} {xs : List Operand} {ats : Array TypeId} {f : FuncId} {vs : List Value}
    (hf : ev T fop = some (.func (.func f) #[] #[])) (hargs : evs T xs = some vs) (hb : bodied P f = true) (hd : Nat.blt d n = true)
    (hcon : ∀ w, Ch X w0 w → w.heap.size = m → Has L w → CA P f vs w (Ret (fun _ : Unit => v) [] (fun _ => []) (fun _ => True) w))
    (h : ∀ m', m ≤ m' → ∀ a w, SS n ((d, v) :: T) X w0 m' L a w → K a w) :
    ∀ a w, SS n T X w0 m L a w → OW P ⟨some d, .call { callee := .value fop, args := xs.toArray, argTypes := ats }, ty, pos, af, gu⟩ K Qf a w :=
  e_call hf hargs hb hd hcon (by simp) (List.Sublist.refl _) (by simp) fun _ m' _ _ hm => h m' hm

/-- A contract of which only a value comes. -/
abbrev RV (v : Value) (w : World) : Ending → World → Prop := Ret (fun _ : Unit => v) [] (fun _ => []) (fun _ => True) w
theorem ret_below {f : FuncId} {args : List Value} {w : World} (h : Calls P f args.toArray w fun e w' => e = .returned v ∧ Below w.heap.size w w') : CA P f args w (RV v w) :=
  ⟨Calls.mono h fun e w' ⟨he, hb⟩ => ⟨(), he, Ch.of_below hb, Has.nil _, by simp [feet], trivial⟩⟩
theorem ret_same {f : FuncId} {args : List Value} {w : World} (h : Calls P f args.toArray w fun e w' => e = .returned v ∧ w' = w) : CA P f args w (RV v w) :=
  ⟨Calls.mono h fun e w' ⟨he, hb⟩ => ⟨(), he, hb ▸ Ch.refl _ _, Has.nil _, by simp [feet], trivial⟩⟩
theorem below_ret {f : FuncId} {args : List Value} {w : World} (h : CA P f args w (RV v w)) : Calls P f args.toArray w fun e w' => e = .returned v ∧ Below w.heap.size w w' :=
  Calls.mono h.h fun e w' ⟨_, he, hc, _⟩ => ⟨he, hc.below⟩

/-! ### entry and return -/
def numbered : Nat → List Value → List (Nat × Value)
  | _, [] => []
  | i, v :: vs => (i, v) :: numbered (i + 1) vs

theorem lk_numbered (vs : List Value) : ∀ (i t : Nat) (v : Value), lk (numbered i vs) t = some v → i ≤ t ∧ vs[t - i]? = some v := by
  induction vs with
  | nil => intro i t v h; simp [numbered, lk] at h
  | cons u us ih =>
    intro i t v h
    simp only [numbered, lk] at h
    cases hb : Nat.beq i t with
    | true =>
      have e : i = t := Nat.eq_of_beq_eq_true hb
      subst e
      simp at h
      simp [h]
    | false =>
      have e : i ≠ t := Nat.ne_of_beq_eq_false hb
      simp [hb] at h
      obtain ⟨h1, h2⟩ := ih _ _ _ h
      refine ⟨by omega, ?_⟩
      rw [show t - i = (t - (i + 1)) + 1 by omega]
      simpa using h2

theorem enter_agr {n : Nat} {vs : List Value} {T : List (Nat × Value)} (hv : (Nat.ble vs.length n && Nat.ble n dslot) = true) (hT : numbered 0 vs = T) : Agr n T { tmps := vs.toArray ++ Array.replicate (n - vs.toArray.size) undef, defers := [] } := by
  simp only [Bool.and_eq_true] at hv
  have h1 := Nat.le_of_ble_eq_true hv.1
  have h2 := Nat.le_of_ble_eq_true hv.2
  have hnone : lk T dslot = none := by
    subst hT
    cases h3 : lk (numbered 0 vs) dslot with
    | none => rfl
    | some v =>
      obtain ⟨_, h4⟩ := lk_numbered vs 0 _ v h3
      rw [List.getElem?_eq_none (by omega)] at h4
      cases h4
  refine ⟨by simp; omega, h2, by simp only [dfs, hnone], ?_⟩
  intro t v ht
  have ht := (lks_lk ht).2
  subst hT
  obtain ⟨_, h2⟩ := lk_numbered vs 0 t v ht
  have hlt : t < vs.length := by
    rcases Nat.lt_or_ge t vs.length with h' | h'
    · exact h'
    · simp [List.getElem?_eq_none h'] at h2
  simp only [Nat.sub_zero] at h2
  rw [Array.getElem?_append_left (by simpa using hlt)]
  simpa using h2
theorem enter {f : FuncId} {fn : Func} {c : Code} {vs : List Value} {w : World} {R : Ending → World → Prop} (hf : P.funcs[f]? = some fn) (hb : fn.body = some c) (hn : fn.ntmps = n) (hv : (Nat.ble vs.length n && Nat.ble n dslot) = true) (hT : numbered 0 vs = T) (hL : Has L w)
    (h : ∀ a w', SS n T X w w.heap.size L a w' → CW P c (.post P fn R) a w') : CA P f vs w R := by
  subst hn
  exact ⟨calls_of_wp hf hb (wpIn_wide.1 (h _ _ ⟨enter_agr hv hT, Ch.refl X w, rfl, hL⟩).h)⟩
theorem enterM {f : FuncId} {fn : Func} {c : Code} {vs : List Value} {w : World} {R : Ending → World → Prop} (hf : P.funcs[f]? = some fn) (hb : fn.body = some c) (hn : fn.ntmps = n) (hv : (Nat.ble vs.length n && Nat.ble n dslot) = true) (hT : numbered 0 vs = T) (hL : Has L w)
    (h : ∀ a w', SS n T X w w.heap.size L a w' → CW P c (.postM P fn R) a w') : CA P f vs w R := by
  subst hn
  exact ⟨callsIn_wide.1 (callsIn_of_wp_marks hf hb trivial (h _ _ ⟨enter_agr hv hT, Ch.refl X w, rfl, hL⟩).h)⟩

end
end Go.Proofs.Ytlcckgimagllaaa
