/- The walk by known slots and chunks: append onto a slice of our own. No program in sight. -/
import Derived.Test.YtlcckgimagllaaaSs7
import Derived.Maps.AppendAt
namespace Go.Proofs.Ytlcckgimagllaaa
open Go Go.RowKit
set_option linter.unusedVariables false

/-- L without c. -/
inductive Rm (c : Chunk) : List Chunk → List Chunk → Prop
  | here {R : List Chunk} : Rm c (c :: R) R
  | there {d : Chunk} {R R' : List Chunk} (h : Rm c R R') : Rm c (d :: R) (d :: R')
theorem Rm.split {c : Chunk} {L L' : List Chunk} (h : Rm c L L') : ∃ A B, L = A ++ c :: B ∧ L' = A ++ B := by
  induction h with
  | @here R => exact ⟨[], R, rfl, rfl⟩
  | @there d R R' _ ih => obtain ⟨A, B, h1, h2⟩ := ih; exact ⟨d :: A, B, by simp [h1], by simp [h2]⟩
theorem Rm.mem {c : Chunk} {L L' : List Chunk} (h : Rm c L L') : c ∈ L := by obtain ⟨A, B, rfl, _⟩ := h.split; simp
theorem Rm.sub {c : Chunk} {L L' : List Chunk} (h : Rm c L L') : L'.Sublist L := by
  obtain ⟨A, B, rfl, rfl⟩ := h.split
  exact List.Sublist.append_left (List.sublist_cons_self _ _) _
theorem Rm.apart {c : Chunk} {L L' : List Chunk} {w : World} (h : Rm c L L') (hL : Has L w) : ∀ g ∈ c.foot, g ∉ feet L' := by
  obtain ⟨A, B, rfl, rfl⟩ := h.split
  have hap := hL.apart
  rw [feet_append] at hap
  simp only [feet, List.flatMap_cons] at hap
  intro g hg hm
  rw [feet_append] at hm
  obtain ⟨n1, n2, n3⟩ := List.nodup_append.1 hap
  obtain ⟨m1, m2, m3⟩ := List.nodup_append.1 n2
  rcases List.mem_append.1 hm with h | h
  · exact n3 g h g (List.mem_append_left _ hg) rfl
  · exact m3 g hg g h rfl

/-- A slice of our own: nil, or a block's beginning. -/
def OB (b : Option Addr) (xs : List Value) : Prop := (b = none ∧ xs = []) ∨ ∃ g, b = some ⟨g, 0, none⟩
section
variable {P : Program} {n m d : Nat} {T : List (Nat × Value)} {X : List Nat} {w0 : World} {L L' : List Chunk} {K : Act → World → Prop} {Q : Exit → Act → World → Prop}
  {ty t e : TypeId} {pos : String} {af : Array Edge} {gu : Option (Nat × Bool)} {x y : Operand}

theorem q_extractn {dst : Option Tmp} {i : Nat} {vs : List Value} {v : Value} (hx : ev T x = some (.tuple vs.toArray)) (hv : nth vs i = some v) : Qt P X w0 ⟨dst, .extract x i, ty, pos, af, gu⟩ T L v :=
  q_extract hx (by rw [nth_eq] at hv; simpa using hv)
/-- An operation that reads, where nothing else can come. -/
theorem e_q {op : Op} {v : Value} (hq : Qt P X w0 ⟨some d, op, ty, pos, af, gu⟩ T L v) (hd : Nat.blt d n = true) (h : ∀ a w, SS n ((d, v) :: T) X w0 m L a w → K a w) : ∀ a w, SS n T X w0 m L a w → OW P ⟨some d, op, ty, pos, af, gu⟩ K Q a w :=
  fun a w hs => wp_value (hq.h n a w hs.agr hs.ch hs.has) (h _ _ ⟨hs.agr.put v hd, hs.ch, hs.size, hs.has⟩)
theorem Has.perm {L L' : List Chunk} {w : World} (h : Has L w) (hp : L.Perm L') : Has L' w :=
  ⟨fun c hc => h.ok c (hp.mem_iff.2 hc), (List.Perm.flatMap_right _ hp).nodup_iff.1 h.apart⟩
theorem prm {F : Act → World → Prop} (hp : L.Perm L') (h : ∀ a w, SS n T X w0 m L' a w → F a w) : ∀ a w, SS n T X w0 m L a w → F a w :=
  fun a w hs => h a w ⟨hs.agr, hs.ch, hs.size, hs.has.perm hp⟩
theorem e_make1n {bytes : Nat} {k k' : IntKind} {l c : Nat} {z : Value} (hx : ev T x = some (.int k l)) (hy : ev T y = some (.int k' c)) (hd : Nat.blt d n = true) [hu : UT P t (.slice e)] [hz : ZrT P e #[z]] [hs : SzT P e 1] [hb : ByT P e bytes]
    (h1 : l ≤ c) (h2 : bytes * c ≤ 281474976710656) (h3 : c ≤ 9223372036854775807)
    (h : ∀ a w, SS n ((d, .slice (some ⟨m, 0, none⟩) l c) :: T) X w0 (m + 1) (.sl (some ⟨m, 0, none⟩) c e 1 (List.replicate c z) :: L) a w → K a w) :
    ∀ a w, SS n T X w0 m L a w → OW P ⟨some d, .makeSlice t x y, ty, pos, af, gu⟩ K Q a w :=
  e_make1 (l := (l : Int)) (c := (c : Int)) hx hy hd (by omega) (by omega) (by rw [← Int.natCast_mul]; omega) (by omega) (by simp only [Int.toNat_natCast]; exact h)
theorem q_makeFunc {dst : Option Tmp} {k : Nat} {xs ys : List Operand} {vs us : List Value} (hx : evs T xs = some vs) (hy : evs T ys = some us) : Qt P X w0 ⟨dst, .makeFunc (.func k) xs.toArray ys.toArray, ty, pos, af, gu⟩ T L (.func (.func k) vs.toArray us.toArray) := by
  refine ⟨?_⟩
  intro n ac w hA hC hL
  simp [execOp, Instr.makeFunc, ← hA.evals hx, ← hA.evals hy]
theorem e_append {b : Option Addr} {len cap sz bytes len2 cap2 : Nat} {xs news : List Value} {p : Addr} {zs : Array Value} (hx : ev T x = some (.slice b len cap)) (hy : ev T y = some (.slice (some p) len2 cap2)) (hd : Nat.blt d n = true)
    [hu : UT P t (.slice e)] [hs : SzT P e sz] [hb : ByT P e bytes] [hz : ZrT P e zs] (hzs : (Nat.beq zs.size sz && Nat.blt 0 sz) = true) (hr : Rm (.sl b cap e sz xs) L L') (hv : RdN X w0 L p news)
    (hlen : xs.length = len * sz) (hl2 : news.length = len2 * sz) (hcl : len ≤ cap) (hcap : cap ≤ 9223372036854775807) (hone : allOne news = true) (hsum : len + len2 ≤ 9223372036854775807) (hby : (len + len2) * bytes ≤ 140737488355328)
    (hg : ∀ g ∈ (Chunk.sl b cap e sz xs).foot, g ∈ X ∨ w0.heap.size ≤ g)
    (h : ∀ b' cap' m', (∀ g ∈ (Chunk.sl b' cap' e sz (xs ++ news)).foot, g ∈ X ∨ w0.heap.size ≤ g) → len + len2 ≤ cap' → cap' ≤ 9223372036854775807 → m ≤ m' → OB b' (xs ++ news) → ∀ a w, SS n ((d, .slice b' (len + len2) cap') :: T) X w0 m' (.sl b' cap' e sz (xs ++ news) :: L') a w → K a w) :
    ∀ a w, SS n T X w0 m L a w → OW P ⟨some d, .call { callee := .builtin .append, args := #[x, y], argTypes := #[t, t] }, ty, pos, af, gu⟩ K Q a w := by
  intro a w hs'
  obtain ⟨hA, hC, rfl, hL⟩ := hs'
  simp only [Bool.and_eq_true] at hzs
  obtain ⟨it, z, h1, h2, h3⟩ := zeroOf_spec hz.h
  have hs1 := hs.h
  have hb1 := hb.h
  simp only [h1, Option.map_some, Option.some.injEq] at hs1 hb1
  have hok := hL.ok _ hr.mem
  simp only [Chunk.ok] at hok
  have hown : w.ownsRow 0 e sz (.slice b len cap) len xs := by
    refine ⟨hlen, ?_⟩
    rcases hok with ⟨rfl, rfl, rfl⟩ | ⟨g, cs, rfl, h4, h5, h6⟩
    · have : len = 0 := by omega
      subst this
      exact .inl ⟨rfl, rfl⟩
    · exact .inr ⟨g, cap, cs, rfl, Nat.zero_le _, h4, hcl, by simpa [maxLen] using hcap, h5, by rw [← hlen]; exact h6⟩
  obtain ⟨v', w', hrun, ho', hgr, _, hob⟩ := run_append_own_at (P := P) w 0 t ty e it z sz bytes hu.h h1 h2 hs1 hb1 (by rw [h3]; exact Nat.eq_of_beq_eq_true hzs.1) (lt_of_blt hzs.2) (.slice b len cap) len xs hown p len2 cap2 news hl2 (hv.cells hC hL) (allOne_mem hone) (by simpa [maxLen] using hsum) hby (Nat.zero_le _)
  have hC' : Ch X w0 w' := hC.call (Y := (Chunk.sl b cap e sz xs).foot) ⟨hgr.os, hgr.tape, hgr.output, hgr.size, fun k hk hne => hgr.block k hk (by
    intro e1
    apply hne
    cases b with
    | none => simp [Value.ownBlock] at e1
    | some q => simp [Value.ownBlock] at e1; simp [Chunk.foot, e1])⟩ hg
  have hL2 : Has L' w' := (hL.sub hr.sub).congr fun k hk => hgr.block k ((hL.sub hr.sub).lt k hk) fun e1 => by
    cases b with
    | none => simp [Value.ownBlock] at e1
    | some q => simp [Value.ownBlock] at e1; exact hr.apart hL k (by simp [Chunk.foot, e1]) hk
  have key : ∀ (b' : Option Addr) (cap' : Nat), v' = .slice b' (len + len2) cap' → (Chunk.sl b' cap' e sz (xs ++ news)).ok w' → len + len2 ≤ cap' → cap' ≤ 9223372036854775807 → OB b' (xs ++ news) → OW P ⟨some d, .call { callee := .builtin .append, args := #[x, y], argTypes := #[t, t] }, ty, pos, af, gu⟩ K Q a w := by
    intro b' cap' hv' hk' hc1 hc2 hOB
    have hfoot : ∀ g ∈ (Chunk.sl b' cap' e sz (xs ++ news)).foot, g ∈ (Chunk.sl b cap e sz xs).foot ∨ w.heap.size ≤ g := by
      intro g hg'
      cases b' with
      | none => simp [Chunk.foot] at hg'
      | some q =>
        simp [Chunk.foot] at hg'
        subst hg'
        rw [hv'] at hob
        rcases hob with h8 | h8
        · cases b with
          | none => simp [Value.ownBlock] at h8
          | some q' => simp [Value.ownBlock] at h8; exact .inl (by simp [Chunk.foot, h8])
        · simp [Value.ownBlock] at h8; exact .inr (by omega)
    refine wp_value (w' := w') (v := v') ?_ (hv' ▸ h b' cap' w'.heap.size (fun g hg' => (hfoot g hg').elim (hg g) (fun h9 => .inr (by have := hC.size; omega))) hc1 hc2 hgr.size hOB _ _ ⟨?_, hC', rfl, ?_⟩)
    · simp only [execOp, resolve, Sem.run_bind, Sem.run_pure, Result.andThen_ok, invoke, List.map_toArray, List.map_cons, List.map_nil, hA.eval hx, hA.eval hy, builtin, hrun]
    · exact hv' ▸ hA.put _ hd
    · refine hL2.cons hk' (fun g hg' hm => ?_) (foot_nodup _)
      rcases hfoot g hg' with h9 | h9
      · exact hr.apart hL g h9 hm
      · have := (hL.sub hr.sub).lt g hm; omega
  rcases ho'.2 with ⟨hv', h0⟩ | ⟨g, cap', cur, hv', _, hc, hn, hm, hcs, htk⟩
  · have hnil : xs ++ news = [] := by
      have h9 := ho'.1
      rw [h0, Nat.zero_mul] at h9
      exact List.eq_nil_of_length_eq_zero h9
    refine key none 0 (by rw [hv', h0]) (.inl ⟨rfl, rfl, hnil⟩) (by omega) (by omega) (.inl ⟨rfl, hnil⟩)
  · refine key (some ⟨g, 0, none⟩) cap' hv' (.inr ⟨g, cur, rfl, hc, hcs, ?_⟩) hn (by simpa [maxLen] using hm) (.inr ⟨g, rfl⟩)
    rw [ho'.1]; exact htk
/-- Of a slice of our own only the first cells. -/
theorem wk_sl {F : Act → World → Prop} {b : Option Addr} {cap sz : Nat} {xs : List Value} (k : Nat) (hp : Pl (.sl b cap e sz xs) (.sl b cap e sz (xs.take k)) L L') (h : ∀ a w, SS n T X w0 m L' a w → F a w) : ∀ a w, SS n T X w0 m L a w → F a w := by
  intro a w hs
  have hk := hs.has.ok _ hp.mem
  refine h a w ⟨hs.agr, hs.ch, hs.size, Has.repl hp hs.has (fun g hg => .inl (by cases b <;> exact hg)) ?_ (fun _ _ _ => rfl)⟩
  simp only [Chunk.ok] at hk ⊢
  rcases hk with ⟨h1, h2, h3⟩ | ⟨g, cs, h1, h2, h3, h4⟩
  · exact .inl ⟨h1, h2, by simp [h3]⟩
  · refine .inr ⟨g, cs, h1, h2, h3, ?_⟩
    rw [List.length_take]
    rw [← List.take_take, h4]
theorem Vw.own {b : Option Addr} {cap sz : Nat} {xs : List Value} (hb : OB b xs) (hm : Chunk.sl b cap e sz xs ∈ L) : Vw X w0 L b xs := by
  rcases hb with ⟨h1, h2⟩ | ⟨g, rfl⟩
  · exact .inl ⟨h1, h2⟩
  · exact .inr ⟨_, rfl, RdN.sl hm (by simp)⟩
end
end Go.Proofs.Ytlcckgimagllaaa
