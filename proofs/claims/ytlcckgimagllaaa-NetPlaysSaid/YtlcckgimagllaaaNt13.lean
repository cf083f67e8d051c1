/- net: the law NetPlays: what stays. -/
import Derived.Test.YtlcckgimagllaaaNt12
namespace Go.Proofs.Ytlcckgimagllaaa
open Go Go.RowKit
set_option linter.unusedVariables false
set_option linter.unusedSimpArgs false
section
variable {P : Program} {n m d : Nat} {T : List (Nat × Value)} {X : List Nat} {w0 : World} {L L' : List Chunk} {K : Act → World → Prop} {Q : Exit → Act → World → Prop}
  {ty : TypeId} {pos : String} {af : Array Edge} {gu : Option (Nat × Bool)}
/-- As e_callX; what the call hands over comes last. -/
theorem e_callY {α : Type} {V : α → Value} {N : α → List Chunk} {Φ : α → Prop} {fop : Operand} {xs : List Operand} {ats : Array TypeId} {f : FuncId} {vs : List Value}
    (A : List Chunk) (L2 : α → List Chunk) (hf : ev T fop = some (.func (.func f) #[] #[])) (hargs : evs T xs = some vs) (hb : bodied P f = true) (hd : Nat.blt d n = true)
    (hsp : Sp A L L')
    (hcon : ∀ w, Ch X w0 w → w.heap.size = m → Has A w → Has L' w → (∀ g ∈ feet A, g ∉ feet L') → CA P f vs w (Ret V (feet A) N Φ w))
    (hY : ∀ g ∈ feet A, g ∈ X ∨ w0.heap.size ≤ g) (h2 : ∀ z, L' ++ N z = L2 z)
    (h : ∀ z m', Φ z → (∀ g ∈ feet (N z), g ∈ X ∨ w0.heap.size ≤ g) → m ≤ m' → ∀ a w, SS n ((d, V z) :: T) X w0 m' (L2 z) a w → K a w) :
    ∀ a w, SS n T X w0 m L a w → OW P ⟨some d, .call { callee := .value fop, args := xs.toArray, argTypes := ats }, ty, pos, af, gu⟩ K Q a w :=
  e_callX A (fun z => N z ++ L') hf hargs hb hd hsp hcon hY (fun z => rfl) (fun z m' hz hn hm => prm (by rw [← h2 z]; exact List.perm_append_comm) (h z m' hz hn hm))
end
/-- What is under way, here and in the reference, is the same. -/
structure PInv (w : World) (gn gr : Nat) (bw : Option Addr) (cw : Nat) (ls : List Lt) (rb : Option Addr) (rc : Nat) (rs : List Lt) : Prop where
  key : ls.map Lt.key = rs.map Lt.key
  hls : ∀ l ∈ ls, OS [] 0 l.b l.cap l.xs.length ∧ l.xs.length ≤ 16384
  hrs : ∀ r ∈ rs, SlE (Value.int .u8) w r.b r.xs ∧ r.xs.length ≤ 16384
  n : ls.length ≤ 200
  how : OS [] 0 bw cw ls.length
  hor : OS [] 0 rb rc rs.length
  nw : ∀ g ∈ feet (NetL gn bw cw ls), w.heap.size ≤ g
  rnw : ∀ g ∈ feet (RL gr rb rc rs), w.heap.size ≤ g
theorem PInv.len {w : World} {gn gr : Nat} {bw : Option Addr} {cw : Nat} {ls : List Lt} {rb : Option Addr} {rc : Nat} {rs : List Lt} (h : PInv w gn gr bw cw ls rb rc rs) : rs.length = ls.length := by
  have := congrArg List.length h.key; simpa using this.symm
theorem key_eq {l r : Lt} (h : l.key = r.key) : ∃ b c, r = ⟨l.f, l.t, b, c, l.xs⟩ := by
  obtain ⟨f, t, b, c, xs⟩ := r
  simp only [Lt.key, Prod.mk.injEq] at h
  obtain ⟨h1, h2, h3⟩ := h
  exact ⟨b, c, by rw [h1, h2, h3]⟩
theorem PInv.at_ {w : World} {gn gr : Nat} {bw : Option Addr} {cw : Nat} {ls : List Lt} {rb : Option Addr} {rc : Nat} {rs : List Lt} (h : PInv w gn gr bw cw ls rb rc rs) {k : Nat} (hk : k < ls.length) :
    ∃ l b c, ls[k]? = some l ∧ rs[k]? = some ⟨l.f, l.t, b, c, l.xs⟩ ∧ SlE (Value.int .u8) w b l.xs ∧ l.xs.length ≤ 16384 ∧ OS [] 0 l.b l.cap l.xs.length := by
  have hr := h.len
  obtain ⟨l, hl⟩ : ∃ l, ls[k]? = some l := ⟨_, List.getElem?_eq_getElem hk⟩
  obtain ⟨r, hrk⟩ : ∃ r, rs[k]? = some r := ⟨_, List.getElem?_eq_getElem (by omega)⟩
  have h1 := congrArg (fun x => x[k]?) h.key
  simp only [List.getElem?_map, hl, hrk, Option.map_some, Option.some.injEq] at h1
  obtain ⟨b, c, rfl⟩ := key_eq h1
  exact ⟨l, b, c, hl, hrk, (h.hrs _ (List.mem_of_getElem? hrk)).1, (h.hls _ (List.mem_of_getElem? hl)).2, (h.hls _ (List.mem_of_getElem? hl)).1⟩
theorem PInv.push {w : World} {gn gr : Nat} {bw : Option Addr} {cw : Nat} {ls : List Lt} {rb : Option Addr} {rc : Nat} {rs : List Lt} (h : PInv w gn gr bw cw ls rb rc rs) (hn : ls.length < 200) {f t : Int} {xs : List Int} (hx : xs.length ≤ 16384)
    {b2 : Option Addr} {c2 : Nat} {b3 : Option Addr} {c3 : Nat} {a : Option Addr} {cap : Nat} {b4 : Option Addr} {c4 : Nat} (hs : SlE (Value.int .u8) w a xs) (ho2 : OS [] 0 b2 c2 (ls.length + 1)) (ho3 : OS [] 0 b3 c3 xs.length) (ho4 : OS [] 0 b4 c4 (rs.length + 1))
    (h5 : ∀ g ∈ feet (NetL gn b2 c2 (ls ++ [⟨f, t, b3, c3, xs⟩])), g ∈ [] ∨ w.heap.size ≤ g) (h6 : ∀ g ∈ feet (RL gr b4 c4 (rs ++ [⟨f, t, a, cap, xs⟩])), g ∈ [] ∨ w.heap.size ≤ g) : PInv w gn gr b2 c2 (ls ++ [⟨f, t, b3, c3, xs⟩]) b4 c4 (rs ++ [⟨f, t, a, cap, xs⟩]) :=
  ⟨by rw [List.map_append, List.map_append, h.key]; rfl, fun l hl => by rcases List.mem_append.1 hl with h9 | h9; exact h.hls l h9; (simp only [List.mem_singleton] at h9; subst h9; exact ⟨ho3, hx⟩),
    fun r hr => by rcases List.mem_append.1 hr with h9 | h9; exact h.hrs r h9; (simp only [List.mem_singleton] at h9; subst h9; exact ⟨hs, hx⟩), by rw [List.length_append]; simp; omega, by rw [List.length_append]; exact ho2, by rw [List.length_append]; exact ho4,
    fun g hg => (h5 g hg).elim (by simp) id, fun g hg => (h6 g hg).elim (by simp) id⟩
theorem PInv.pull {w : World} {gn gr : Nat} {bw : Option Addr} {cw : Nat} {ls : List Lt} {rb : Option Addr} {rc : Nat} {rs : List Lt} (h : PInv w gn gr bw cw ls rb rc rs) {k : Nat} (hk : k < ls.length)
    {b2 : Option Addr} {c2 : Nat} {b4 : Option Addr} {c4 : Nat} (ho2 : OS [] 0 b2 c2 (ls.length - 1)) (ho4 : OS [] 0 b4 c4 (rs.length - 1))
    (h5 : ∀ g ∈ feet (NetL gn b2 c2 (ls.take k ++ ls.drop (k + 1))), g ∈ [] ∨ w.heap.size ≤ g) (h6 : ∀ g ∈ feet (RL gr b4 c4 (rs.take k ++ rs.drop (k + 1))), g ∈ [] ∨ w.heap.size ≤ g) : PInv w gn gr b2 c2 (ls.take k ++ ls.drop (k + 1)) b4 c4 (rs.take k ++ rs.drop (k + 1)) := by
  have hr := h.len
  have hn := h.n
  have e1 : (ls.take k ++ ls.drop (k + 1)).length = ls.length - 1 := by simp; omega
  have e2 : (rs.take k ++ rs.drop (k + 1)).length = rs.length - 1 := by simp; omega
  exact ⟨by rw [List.map_append, List.map_append, List.map_take, List.map_take, List.map_drop, List.map_drop, h.key],
    fun l hl => by rcases List.mem_append.1 hl with h9 | h9; exact h.hls l (List.mem_of_mem_take h9); exact h.hls l (List.mem_of_mem_drop h9),
    fun r hr => by rcases List.mem_append.1 hr with h9 | h9; exact h.hrs r (List.mem_of_mem_take h9); exact h.hrs r (List.mem_of_mem_drop h9), by omega, by rw [e1]; exact ho2, by rw [e2]; exact ho4,
    fun g hg => (h5 g hg).elim (by simp) id, fun g hg => (h6 g hg).elim (by simp) id⟩
theorem PInv.turn {w : World} {gn gr : Nat} {bw : Option Addr} {cw : Nat} {ls : List Lt} {rb : Option Addr} {rc : Nat} {rs : List Lt} (h : PInv w gn gr bw cw ls rb rc rs) {k : Nat} {f t : Int} {xs : List Int} (hx : xs.length ≤ 16384)
    {b3 : Option Addr} {c3 : Nat} {a : Option Addr} {cap : Nat} (hs : SlE (Value.int .u8) w a xs) (ho3 : OS [] 0 b3 c3 xs.length)
    (h5 : ∀ g ∈ feet (NetL gn bw cw (ls.set k ⟨f, t, b3, c3, xs⟩)), g ∈ [] ∨ w.heap.size ≤ g) : PInv w gn gr bw cw (ls.set k ⟨f, t, b3, c3, xs⟩) rb rc (rs.set k ⟨f, t, a, cap, xs⟩) :=
  ⟨by rw [List.map_set, List.map_set, h.key]; rfl, fun l hl => by rcases List.mem_or_eq_of_mem_set hl with h9 | h9; exact h.hls l h9; (subst h9; exact ⟨ho3, hx⟩),
    fun r hr => by rcases List.mem_or_eq_of_mem_set hr with h9 | h9; exact h.hrs r h9; (subst h9; exact ⟨hs, hx⟩), by rw [List.length_set]; exact h.n, by rw [List.length_set]; exact h.how, by rw [List.length_set]; exact h.hor,
    fun g hg => (h5 g hg).elim (by simp) id, fun g hg => h.rnw g (by simp only [feet, RL, List.flatMap_cons, List.flatMap_nil, List.append_nil, List.mem_append] at hg ⊢; rcases hg with h9 | h9; exact .inl (by cases rb <;> exact h9); exact .inr (by simpa [Chunk.foot] using h9))⟩
end Go.Proofs.Ytlcckgimagllaaa
