/- The walk by known slots and chunks: operations that read. No program in sight. -/
import Derived.Test.YtlcckgimagllaaaSs2
import Derived.Laws.BitsAllLaws
namespace Go.Proofs.Ytlcckgimagllaaa
open Go Go.RowKit
set_option linter.unusedVariables false

/-! ### what the program's types are: found by their numbers -/
class UT (P : Program) (t : TypeId) (d : outParam TypeDesc) : Prop where
  h : P.underlying t = some d
class SzT (P : Program) (t : TypeId) (k : outParam Nat) : Prop where
  h : (P.info? t).map (·.size) = some k
class ByT (P : Program) (t : TypeId) (k : outParam Nat) : Prop where
  h : (P.info? t).map (·.bytes) = some k
def zeroOf (P : Program) (t : TypeId) : Option (Array Value) := ((P.info? t).bind (·.zero)).map (·.cells)
class ZrT (P : Program) (t : TypeId) (cs : outParam (Array Value)) : Prop where
  h : zeroOf P t = some cs
def flatT (P : Program) (t : TypeId) : Bool :=
  match P.underlying t with
  | some (.struct _) | some (.array _ _) | none => false
  | _ => true
class FlT (P : Program) (t : TypeId) : Prop where
  h : flatT P t = true
/-- A whole array or struct, with its number of cells. -/
def rowT (P : Program) (t : TypeId) (k : Nat) : Bool :=
  (match P.underlying t with | some (.struct _) | some (.array _ _) => true | _ => false) && (match P.info? t with | some i => Nat.beq i.size k | none => false)
class RwT (P : Program) (t : TypeId) (k : outParam Nat) : Prop where
  h : rowT P t k = true

section
variable {P : Program} {n m d : Nat} {T : List (Nat × Value)} {X : List Nat} {w0 : World} {L : List Chunk}
  {ty t e : TypeId} {pos : String} {af : Array Edge} {gu : Option (Nat × Bool)} {u v v1 v2 : Value} {x y c : Operand} {dst : Option Tmp}

/-! ### what a cell holds -/
inductive Rd (X : List Nat) (w0 : World) (L : List Chunk) : Addr → Value → Prop
  | blk {g i : Nat} {cs : Array Value} {t : TypeId} {fr : Nat × Nat} {v : Value} (hm : Chunk.blk g (.cells cs t fr) ∈ L) (hv : cs[i]? = some v) : Rd X w0 L ⟨g, i, none⟩ v
  | sl {g i cap sz : Nat} {e : TypeId} {xs : List Value} {v : Value} (hm : Chunk.sl (some ⟨g, 0, none⟩) cap e sz xs ∈ L) (hv : xs[i]? = some v) : Rd X w0 L ⟨g, i, none⟩ v
  | old {p : Addr} {v : Value} (hc : w0.cell? p = some v) (hx : p.block ∉ X) : Rd X w0 L p v

/-- A cell's lookup that reckons. -/
def nth : List Value → Nat → Option Value
  | [], _ => none
  | v :: _, 0 => some v
  | _ :: l, i + 1 => nth l i
theorem nth_eq : ∀ (l : List Value) (i : Nat), nth l i = l[i]?
  | [], _ => rfl
  | _ :: _, 0 => rfl
  | _ :: l, i + 1 => by rw [nth, nth_eq l i]; rfl
theorem Rd.blkn {X : List Nat} {w0 : World} {L : List Chunk} {g i : Nat} {cs : Array Value} {t : TypeId} {fr : Nat × Nat} {v : Value} (hm : Chunk.blk g (.cells cs t fr) ∈ L) (hv : nth cs.toList i = some v) : Rd X w0 L ⟨g, i, none⟩ v :=
  .blk hm (by rw [nth_eq] at hv; simpa using hv)
theorem Rd.sln {X : List Nat} {w0 : World} {L : List Chunk} {g i cap sz : Nat} {e : TypeId} {xs : List Value} {v : Value} (hm : Chunk.sl (some ⟨g, 0, none⟩) cap e sz xs ∈ L) (hv : nth xs i = some v) : Rd X w0 L ⟨g, i, none⟩ v :=
  .sl hm (by rwa [nth_eq] at hv)

/-- Cells that were there at the call: from the place o of the block g on. -/
structure Old (w : World) (g o : Nat) (vs : List Value) : Prop where
  cell : ∀ j v, nth vs j = some v → w.cell? ⟨g, o + j, none⟩ = some v
theorem Rd.oldn {X : List Nat} {w0 : World} {L : List Chunk} {g o j : Nat} {vs : List Value} {v : Value} (h : Old w0 g o vs) (hv : nth vs j = some v) (hx : g ∉ X) : Rd X w0 L ⟨g, o + j, none⟩ v := .old (h.cell j v hv) hx
theorem Rd.old0 {X : List Nat} {w0 : World} {L : List Chunk} {g o : Nat} {vs : List Value} {v : Value} (h : Old w0 g o (v :: vs)) (hx : g ∉ X) : Rd X w0 L ⟨g, o, none⟩ v := .old (h.cell 0 v rfl) hx

theorem Rd.cell {X : List Nat} {w0 w : World} {L : List Chunk} {p : Addr} {v : Value} (h : Rd X w0 L p v) (hC : Ch X w0 w) (hL : Has L w) : w.cell? p = some v := by
  cases h with
  | blk hm hv => have h1 := hL.ok _ hm; simp only [Chunk.ok] at h1; simp [World.cell?, h1, hv]
  | @sl g i cap sz e xs v hm hv =>
    have h1 := hL.ok _ hm
    simp only [Chunk.ok] at h1
    rcases h1 with ⟨h1, _⟩ | ⟨g', cs, h1, h2, _, h3⟩
    · simp at h1
    · simp only [Option.some.injEq, Addr.mk.injEq, and_true] at h1
      subst h1
      rw [← h3, List.getElem?_take] at hv
      split at hv
      · simp [World.cell?, h2]; simpa using hv
      · simp at hv
  | old hc hx => exact hC.cell hc hx

/-- Cells from a place on. -/
inductive RdN (X : List Nat) (w0 : World) (L : List Chunk) : Addr → List Value → Prop
  | nil {p : Addr} : RdN X w0 L p []
  | cons {g o : Nat} {v : Value} {vs : List Value} (h : Rd X w0 L ⟨g, o, none⟩ v) (hs : RdN X w0 L ⟨g, o + 1, none⟩ vs) : RdN X w0 L ⟨g, o, none⟩ (v :: vs)
  | blk {g o : Nat} {cs : Array Value} {t : TypeId} {fr : Nat × Nat} {vs : List Value} (hm : Chunk.blk g (.cells cs t fr) ∈ L) (hv : (cs.toList.drop o).take vs.length = vs) : RdN X w0 L ⟨g, o, none⟩ vs
  | sl {g o cap sz : Nat} {e : TypeId} {xs vs : List Value} (hm : Chunk.sl (some ⟨g, 0, none⟩) cap e sz xs ∈ L) (hv : (xs.drop o).take vs.length = vs) : RdN X w0 L ⟨g, o, none⟩ vs
  | all {g o : Nat} {vs : List Value} (h : ∀ j v, vs[j]? = some v → Rd X w0 L ⟨g, o + j, none⟩ v) : RdN X w0 L ⟨g, o, none⟩ vs

theorem RdN.old {X : List Nat} {w0 : World} {L : List Chunk} {g o : Nat} {vs : List Value} (h : Old w0 g o vs) (hx : g ∉ X) : RdN X w0 L ⟨g, o, none⟩ vs := .all fun j v hj => .old (h.cell j v (by rwa [nth_eq])) hx
theorem RdN.rd {X : List Nat} {w0 : World} {L : List Chunk} {p : Addr} {vs : List Value} (h : RdN X w0 L p vs) : ∀ j v, vs[j]? = some v → p.spot = none ∧ Rd X w0 L ⟨p.block, p.off + j, none⟩ v := by
  induction h with
  | nil => intro j v h; simp at h
  | cons h hs ih =>
    intro j v hj
    cases j with
    | zero => simp at hj; subst hj; exact ⟨rfl, h⟩
    | succ j => have := ih j v (by simpa using hj); refine ⟨rfl, ?_⟩; have h2 := this.2; simp only at h2 ⊢; rwa [Nat.add_assoc, Nat.add_comm 1 j] at h2
  | @blk g o cs t fr vs hm hv =>
    intro j v hj
    refine ⟨rfl, .blk hm ?_⟩
    rw [← hv, List.getElem?_take] at hj
    split at hj
    · simpa using hj
    · simp at hj
  | @sl g o cap sz e xs vs hm hv =>
    intro j v hj
    refine ⟨rfl, .sl hm ?_⟩
    rw [← hv, List.getElem?_take] at hj
    split at hj
    · simpa using hj
    · simp at hj
  | all h => exact fun j v hj => ⟨rfl, h j v hj⟩

theorem RdN.cells {X : List Nat} {w0 w : World} {L : List Chunk} {p : Addr} {vs : List Value} (h : RdN X w0 L p vs) (hC : Ch X w0 w) (hL : Has L w) : ∀ j v, vs[j]? = some v → w.cell? (p.add j) = some v := by
  intro j v hj
  obtain ⟨h1, h2⟩ := h.rd j v hj
  have e : p.add j = ⟨p.block, p.off + j, none⟩ := by
    obtain ⟨b, o, s⟩ := p
    simp only at h1
    subst h1
    exact Addr.add_mid b o j
  rw [e]
  exact h2.cell hC hL

/-- What a callee finds in a block of the caller's. -/
theorem Has.old {L : List Chunk} {w : World} (hL : Has L w) {g o k : Nat} {cs : Array Value} {t : TypeId} {fr : Nat × Nat} {vs : List Value} (hm : Chunk.blk g (.cells cs t fr) ∈ L) (hv : (cs.toList.drop o).take k = vs) : Old w g o vs := ⟨fun j v hj => by
  have h1 := hL.ok _ hm
  simp only [Chunk.ok] at h1
  rw [nth_eq, ← hv, List.getElem?_take] at hj
  split at hj
  · simp [World.cell?, h1]; simpa using hj
  · simp at hj⟩
theorem Has.old_sl {L : List Chunk} {w : World} (hL : Has L w) {g o k cap sz : Nat} {e : TypeId} {xs vs : List Value} (hm : Chunk.sl (some ⟨g, 0, none⟩) cap e sz xs ∈ L) (hv : (xs.drop o).take k = vs) : Old w g o vs := ⟨fun j v hj => by
  have h1 : Rd [] w L ⟨g, o + j, none⟩ v := .sl hm (by
    rw [nth_eq, ← hv, List.getElem?_take] at hj
    split at hj
    · simpa using hj
    · simp at hj)
  exact h1.cell (Ch.refl _ _) hL⟩
/-- What the caller found, its callee finds too. -/
theorem Old.ch {X : List Nat} {w w' : World} {g o : Nat} {vs : List Value} (h : Old w g o vs) (hC : Ch X w w') (hx : g ∉ X) : Old w' g o vs := ⟨fun j v hj => hC.cell (h.cell j v hj) hx⟩

/-! ### plain operations -/
theorem q_move (hx : ev T x = some v) : Qt P X w0 ⟨dst, .move x, ty, pos, af, gu⟩ T L v := by
  refine ⟨?_⟩
  intro n a w hA hC hL
  simp [execOp, hA.eval hx]
theorem q_assign (hx : ev T x = some v) : Qt P X w0 ⟨dst, .assign x, ty, pos, af, gu⟩ T L v := by
  refine ⟨?_⟩
  intro n a w hA hC hL
  simp [execOp, hA.eval hx]
theorem q_pick_t (hc : ev T c = some (.bool true)) (hx : ev T x = some v) : Qt P X w0 ⟨dst, .pick c x y, ty, pos, af, gu⟩ T L v := by
  refine ⟨?_⟩
  intro n a w hA hC hL
  simp [execOp, hA.eval hx, hA.eval hc, asBool]
theorem q_pick_f (hc : ev T c = some (.bool false)) (hy : ev T y = some v) : Qt P X w0 ⟨dst, .pick c x y, ty, pos, af, gu⟩ T L v := by
  refine ⟨?_⟩
  intro n a w hA hC hL
  simp [execOp, hA.eval hy, hA.eval hc, asBool]
theorem q_extract {i : Nat} {vs : Array Value} (hx : ev T x = some (.tuple vs)) (hv : vs[i]? = some v) : Qt P X w0 ⟨dst, .extract x i, ty, pos, af, gu⟩ T L v := by
  refine ⟨?_⟩
  intro n a w hA hC hL
  simp [execOp, hA.eval hx, Instr.extract, hv]
theorem q_nilCheck {p : Addr} (hx : ev T x = some (.pointer (some p))) : Qt P X w0 ⟨dst, .nilCheck x, ty, pos, af, gu⟩ T L (.pointer (some p)) := by
  refine ⟨?_⟩
  intro n a w hA hC hL
  simp [execOp, hA.eval hx]

/-! ### numbers -/
theorem q_bin_int {op : BinOp} {k k' : IntKind} {a b : Int} {ty2 : TypeId} (hx : ev T x = some (.int k a)) (hy : ev T y = some (.int k' b)) (h : ∀ w, (binOp op t (.int k a) (.int k' b)).run P w = .ok v w) : Qt P X w0 ⟨dst, .binOp op t x y ty2, ty, pos, af, gu⟩ T L v := by
  refine ⟨?_⟩
  intro n ac w hA hC hL
  have hg : (eqGuard op t x y (.int k a) (.int k' b)).run P w = .ok () w := by unfold eqGuard; split <;> simp_all
  simp only [execOp, Sem.run_bind, hA.eval hx, hA.eval hy, hg, h, Result.andThen_ok, Sem.run_pure]

section
variable {a b : Int} {ty2 : TypeId} {k : IntKind}
theorem q_add64 (hx : ev T x = some (.int .i64 a)) (hy : ev T y = some (.int .i64 b)) (h : -9223372036854775808 ≤ a + b ∧ a + b ≤ 9223372036854775807) {r : Int} (hr : a + b = r) : Qt P X w0 ⟨dst, .binOp .add t x y ty2, ty, pos, af, gu⟩ T L (.int .i64 r) :=
  hr ▸   q_bin_int hx hy fun w => by simp [binOp, Op.intArith, IntKind.wrap_i64]; omega
theorem q_sub64 (hx : ev T x = some (.int .i64 a)) (hy : ev T y = some (.int .i64 b)) (h : -9223372036854775808 ≤ a - b ∧ a - b ≤ 9223372036854775807) {r : Int} (hr : a - b = r) : Qt P X w0 ⟨dst, .binOp .sub t x y ty2, ty, pos, af, gu⟩ T L (.int .i64 r) :=
  hr ▸   q_bin_int hx hy fun w => by simp [binOp, Op.intArith, IntKind.wrap_i64]; omega
theorem q_mul64 (hx : ev T x = some (.int .i64 a)) (hy : ev T y = some (.int .i64 b)) (h : -9223372036854775808 ≤ a * b ∧ a * b ≤ 9223372036854775807) {r : Int} (hr : a * b = r) : Qt P X w0 ⟨dst, .binOp .mul t x y ty2, ty, pos, af, gu⟩ T L (.int .i64 r) :=
  hr ▸   q_bin_int hx hy fun w => by
    simp [binOp, Op.intArith, IntKind.wrap_i64]
    generalize a * b = r at h ⊢
    omega
theorem q_add8 (hx : ev T x = some (.int .u8 a)) (hy : ev T y = some (.int .u8 b)) : Qt P X w0 ⟨dst, .binOp .add t x y ty2, ty, pos, af, gu⟩ T L (.int .u8 ((a + b) % 256)) :=
  q_bin_int hx hy fun w => by simp [binOp, Op.intArith, IntKind.wrap_u8']
theorem q_sub8 (hx : ev T x = some (.int .u8 a)) (hy : ev T y = some (.int .u8 b)) : Qt P X w0 ⟨dst, .binOp .sub t x y ty2, ty, pos, af, gu⟩ T L (.int .u8 ((a - b) % 256)) :=
  q_bin_int hx hy fun w => by simp [binOp, Op.intArith, IntKind.wrap_u8']
theorem q_add32 (hx : ev T x = some (.int .u32 a)) (hy : ev T y = some (.int .u32 b)) : Qt P X w0 ⟨dst, .binOp .add t x y ty2, ty, pos, af, gu⟩ T L (.int .u32 ((a + b) % 4294967296)) :=
  q_bin_int hx hy fun w => by simp [binOp, Op.intArith, IntKind.wrap_u32']
theorem q_sub32 (hx : ev T x = some (.int .u32 a)) (hy : ev T y = some (.int .u32 b)) : Qt P X w0 ⟨dst, .binOp .sub t x y ty2, ty, pos, af, gu⟩ T L (.int .u32 ((a - b) % 4294967296)) :=
  q_bin_int hx hy fun w => by simp [binOp, Op.intArith, IntKind.wrap_u32']
theorem q_mul32 (hx : ev T x = some (.int .u32 a)) (hy : ev T y = some (.int .u32 b)) : Qt P X w0 ⟨dst, .binOp .mul t x y ty2, ty, pos, af, gu⟩ T L (.int .u32 ((a * b) % 4294967296)) :=
  q_bin_int hx hy fun w => by simp [binOp, Op.intArith, IntKind.wrap_u32']
theorem q_addU (hx : ev T x = some (.int .u64 a)) (hy : ev T y = some (.int .u64 b)) : Qt P X w0 ⟨dst, .binOp .add t x y ty2, ty, pos, af, gu⟩ T L (.int .u64 ((a + b) % 18446744073709551616)) :=
  q_bin_int hx hy fun w => by simp [binOp, Op.intArith, IntKind.wrap_u64]
theorem q_subU (hx : ev T x = some (.int .u64 a)) (hy : ev T y = some (.int .u64 b)) : Qt P X w0 ⟨dst, .binOp .sub t x y ty2, ty, pos, af, gu⟩ T L (.int .u64 ((a - b) % 18446744073709551616)) :=
  q_bin_int hx hy fun w => by simp [binOp, Op.intArith, IntKind.wrap_u64]
theorem q_mulU (hx : ev T x = some (.int .u64 a)) (hy : ev T y = some (.int .u64 b)) : Qt P X w0 ⟨dst, .binOp .mul t x y ty2, ty, pos, af, gu⟩ T L (.int .u64 ((a * b) % 18446744073709551616)) :=
  q_bin_int hx hy fun w => by simp [binOp, Op.intArith, IntKind.wrap_u64]
/-- A quotient of numbers that aren't below 0. -/
theorem q_quo (hx : ev T x = some (.int k a)) (hy : ev T y = some (.int k b)) (h0 : 0 ≤ a) (hb : 0 < b) (hw : k.wrap (a / b) = a / b) : Qt P X w0 ⟨dst, .binOp .quo t x y ty2, ty, pos, af, gu⟩ T L (.int k (a / b)) :=
  q_bin_int hx hy fun w => by
    have e : ¬ b = 0 := by omega
    simp [binOp, Op.intDiv, e, Int.tdiv_eq_ediv_of_nonneg h0, hw]
theorem q_rem (hx : ev T x = some (.int k a)) (hy : ev T y = some (.int k b)) (h0 : 0 ≤ a) (hb : 0 < b) : Qt P X w0 ⟨dst, .binOp .rem t x y ty2, ty, pos, af, gu⟩ T L (.int k (a % b)) :=
  q_bin_int hx hy fun w => by
    have e : ¬ b = 0 := by omega
    simp [binOp, Op.intDiv, e, Int.tmod_eq_emod_of_nonneg h0]
theorem q_and (hx : ev T x = some (.int k a)) (hy : ev T y = some (.int k b)) : Qt P X w0 ⟨dst, .binOp .and t x y ty2, ty, pos, af, gu⟩ T L (.int k (bits .and k a b)) :=
  q_bin_int hx hy fun w => by simp [binOp, Op.intBits, bits]
theorem q_or (hx : ev T x = some (.int k a)) (hy : ev T y = some (.int k b)) : Qt P X w0 ⟨dst, .binOp .or t x y ty2, ty, pos, af, gu⟩ T L (.int k (bits .or k a b)) :=
  q_bin_int hx hy fun w => by simp [binOp, Op.intBits, bits]
theorem q_xor (hx : ev T x = some (.int k a)) (hy : ev T y = some (.int k b)) : Qt P X w0 ⟨dst, .binOp .xor t x y ty2, ty, pos, af, gu⟩ T L (.int k (bits .xor k a b)) :=
  q_bin_int hx hy fun w => by simp [binOp, Op.intBits, bits]
theorem q_andNot (hx : ev T x = some (.int k a)) (hy : ev T y = some (.int k b)) : Qt P X w0 ⟨dst, .binOp .andNot t x y ty2, ty, pos, af, gu⟩ T L (.int k (bits .andNot k a b)) :=
  q_bin_int hx hy fun w => by simp [binOp, Op.intBits, bits]
theorem q_shl {k' : IntKind} (hx : ev T x = some (.int k a)) (hy : ev T y = some (.int k' b)) (h0 : 0 ≤ b) (hb : b.toNat ≤ k.bits) : Qt P X w0 ⟨dst, .binOp .shl t x y ty2, ty, pos, af, gu⟩ T L (.int k (k.wrap (a * 2 ^ b.toNat))) :=
  q_bin_int hx hy fun w => by
    have e : ¬ b < 0 := by omega
    simp [binOp, Op.shift, e, Nat.min_eq_left hb]
theorem q_shr {k' : IntKind} (hx : ev T x = some (.int k a)) (hy : ev T y = some (.int k' b)) (h0 : 0 ≤ b) (hb : b.toNat ≤ k.bits) : Qt P X w0 ⟨dst, .binOp .shr t x y ty2, ty, pos, af, gu⟩ T L (.int k (a / 2 ^ b.toNat)) :=
  q_bin_int hx hy fun w => by
    have e : ¬ b < 0 := by omega
    have e2 : a.fdiv (2 ^ b.toNat) = a / 2 ^ b.toNat := Int.fdiv_eq_ediv_of_nonneg a (Int.le_of_lt (Int.pow_pos (by decide)))
    simp [binOp, Op.shift, e, Nat.min_eq_left hb, e2]
theorem q_lss (hx : ev T x = some (.int k a)) (hy : ev T y = some (.int k b)) : Qt P X w0 ⟨dst, .binOp .lss t x y ty2, ty, pos, af, gu⟩ T L (.bool (decide (a < b))) :=
  q_bin_int hx hy fun w => by simp [binOp, Op.intCmp]
theorem q_leq (hx : ev T x = some (.int k a)) (hy : ev T y = some (.int k b)) : Qt P X w0 ⟨dst, .binOp .leq t x y ty2, ty, pos, af, gu⟩ T L (.bool (decide (a ≤ b))) :=
  q_bin_int hx hy fun w => by simp [binOp, Op.intCmp]
theorem q_gtr (hx : ev T x = some (.int k a)) (hy : ev T y = some (.int k b)) : Qt P X w0 ⟨dst, .binOp .gtr t x y ty2, ty, pos, af, gu⟩ T L (.bool (decide (b < a))) :=
  q_bin_int hx hy fun w => by simp [binOp, Op.intCmp]
theorem q_geq (hx : ev T x = some (.int k a)) (hy : ev T y = some (.int k b)) : Qt P X w0 ⟨dst, .binOp .geq t x y ty2, ty, pos, af, gu⟩ T L (.bool (decide (b ≤ a))) :=
  q_bin_int hx hy fun w => by simp [binOp, Op.intCmp]
theorem q_eql (hx : ev T x = some (.int k a)) (hy : ev T y = some (.int k b)) : Qt P X w0 ⟨dst, .binOp .eql t x y ty2, ty, pos, af, gu⟩ T L (.bool (a == b)) :=
  q_bin_int hx hy fun w => by simp [binOp, Op.intCmp]
theorem q_neq (hx : ev T x = some (.int k a)) (hy : ev T y = some (.int k b)) : Qt P X w0 ⟨dst, .binOp .neq t x y ty2, ty, pos, af, gu⟩ T L (.bool (a != b)) :=
  q_bin_int hx hy fun w => by simp [binOp, Op.intCmp]
end
theorem q_not {b : Bool} (hx : ev T x = some (.bool b)) : Qt P X w0 ⟨dst, .unOp .not t x, ty, pos, af, gu⟩ T L (.bool (!b)) := by
  refine ⟨?_⟩
  intro n a w hA hC hL
  simp [execOp, hA.eval hx, Op.unary]
/-- '==' and '!=' of bools. -/
theorem q_bin_val {op : BinOp} {ty2 : TypeId} (hx : ev T x = some v1) (hy : ev T y = some v2) (hg : ∀ w, (eqGuard op t x y v1 v2).run P w = .ok () w) (h : ∀ w, (binOp op t v1 v2).run P w = .ok v w) : Qt P X w0 ⟨dst, .binOp op t x y ty2, ty, pos, af, gu⟩ T L v := by
  refine ⟨?_⟩
  intro n ac w hA hC hL
  simp only [execOp, Sem.run_bind, hA.eval hx, hA.eval hy, hg, h, Result.andThen_ok, Sem.run_pure]
theorem q_eql_bool {a b : Bool} {ty2 : TypeId} (hx : ev T x = some (.bool a)) (hy : ev T y = some (.bool b)) [hu : UT P t .bool] : Qt P X w0 ⟨dst, .binOp .eql t x y ty2, ty, pos, af, gu⟩ T L (.bool (a == b)) :=
  q_bin_val hx hy (fun w => by simp [eqGuard]) fun w => by rw [show binOp .eql t (.bool a) (.bool b) = (do pure (.bool (← Op.equal t (.bool a) (.bool b)))) from rfl]; simp only [Sem.run_bind, Op.equal, show Op.maxDepth = 9999 + 1 from rfl, run_equalIn_bool' (P := P) w 9999 t a b hu.h, Result.andThen_ok, Sem.run_pure]
theorem q_neq_bool {a b : Bool} {ty2 : TypeId} (hx : ev T x = some (.bool a)) (hy : ev T y = some (.bool b)) [hu : UT P t .bool] : Qt P X w0 ⟨dst, .binOp .neq t x y ty2, ty, pos, af, gu⟩ T L (.bool (a != b)) :=
  q_bin_val hx hy (fun w => by simp [eqGuard]) fun w => by rw [show binOp .neq t (.bool a) (.bool b) = (do pure (.bool (!(← Op.equal t (.bool a) (.bool b))))) from rfl]; simp only [Sem.run_bind, Op.equal, show Op.maxDepth = 9999 + 1 from rfl, run_equalIn_bool' (P := P) w 9999 t a b hu.h, Result.andThen_ok, Sem.run_pure, bne]
theorem q_eql_str {a b : ByteArray} {ty2 : TypeId} (hx : ev T x = some (.string a)) (hy : ev T y = some (.string b)) : Qt P X w0 ⟨dst, .binOp .eql t x y ty2, ty, pos, af, gu⟩ T L (.bool (a.toList == b.toList)) :=
  q_bin_val hx hy (fun w => by simp [eqGuard]) fun w => by simp [binOp, Op.stringOp]
theorem q_neq_str {a b : ByteArray} {ty2 : TypeId} (hx : ev T x = some (.string a)) (hy : ev T y = some (.string b)) : Qt P X w0 ⟨dst, .binOp .neq t x y ty2, ty, pos, af, gu⟩ T L (.bool (!(a.toList == b.toList))) :=
  q_bin_val hx hy (fun w => by simp [eqGuard]) fun w => by simp [binOp, Op.stringOp]

/-! ### conversions -/
theorem q_conv {k k' : IntKind} {a : Int} {src : TypeId} (hx : ev T x = some (.int k a)) {ds : TypeDesc} [hs : UT P src ds] [hu : UT P t (.int k')] : Qt P X w0 ⟨dst, .convert src t x, ty, pos, af, gu⟩ T L (.int k' (k'.wrap a)) := by
  refine ⟨?_⟩
  intro n ac w hA hC hL
  simp [execOp, hA.eval hx, convert, run_underlying hs.h, run_underlying hu.h, Conv.intToInt]
section
variable {a : Int} {k : IntKind} {src : TypeId} {ds : TypeDesc}
theorem q_conv_i64 (hx : ev T x = some (.int k a)) [hs : UT P src ds] [hu : UT P t (.int .i64)] (h0 : -9223372036854775808 ≤ a) (h1 : a ≤ 9223372036854775807) : Qt P X w0 ⟨dst, .convert src t x, ty, pos, af, gu⟩ T L (.int .i64 a) :=
  Qt.cast (by rw [IntKind.wrap_i64]; congr 1; omega) (q_conv hx)
theorem q_conv8 (hx : ev T x = some (.int k a)) [hs : UT P src ds] [hu : UT P t (.int .u8)] : Qt P X w0 ⟨dst, .convert src t x, ty, pos, af, gu⟩ T L (.int .u8 (a % 256)) :=
  Qt.cast (by rw [IntKind.wrap_u8']) (q_conv hx)
theorem q_conv32 (hx : ev T x = some (.int k a)) [hs : UT P src ds] [hu : UT P t (.int .u32)] : Qt P X w0 ⟨dst, .convert src t x, ty, pos, af, gu⟩ T L (.int .u32 (a % 4294967296)) :=
  Qt.cast (by rw [IntKind.wrap_u32']) (q_conv hx)
theorem q_convU (hx : ev T x = some (.int k a)) [hs : UT P src ds] [hu : UT P t (.int .u64)] : Qt P X w0 ⟨dst, .convert src t x, ty, pos, af, gu⟩ T L (.int .u64 (a % 18446744073709551616)) :=
  Qt.cast (by rw [IntKind.wrap_u64]) (q_conv hx)
end
section
variable {a b : Int} {ty2 : TypeId} {k' : IntKind}
theorem q_shl8 (hx : ev T x = some (.int .u8 a)) (hy : ev T y = some (.int k' b)) (h0 : 0 ≤ b) (hb : b ≤ 8) : Qt P X w0 ⟨dst, .binOp .shl t x y ty2, ty, pos, af, gu⟩ T L (.int .u8 (a * 2 ^ b.toNat % 256)) :=
  Qt.cast (by rw [IntKind.wrap_u8']) (q_shl hx hy h0 (by show _ ≤ 8; omega))
theorem q_shl32 (hx : ev T x = some (.int .u32 a)) (hy : ev T y = some (.int k' b)) (h0 : 0 ≤ b) (hb : b ≤ 32) : Qt P X w0 ⟨dst, .binOp .shl t x y ty2, ty, pos, af, gu⟩ T L (.int .u32 (a * 2 ^ b.toNat % 4294967296)) :=
  Qt.cast (by rw [IntKind.wrap_u32']) (q_shl hx hy h0 (by show _ ≤ 32; omega))
theorem q_shlU (hx : ev T x = some (.int .u64 a)) (hy : ev T y = some (.int k' b)) (h0 : 0 ≤ b) (hb : b ≤ 64) : Qt P X w0 ⟨dst, .binOp .shl t x y ty2, ty, pos, af, gu⟩ T L (.int .u64 (a * 2 ^ b.toNat % 18446744073709551616)) :=
  Qt.cast (by rw [IntKind.wrap_u64]) (q_shl hx hy h0 (by show _ ≤ 64; omega))
theorem q_shl64 (hx : ev T x = some (.int .i64 a)) (hy : ev T y = some (.int k' b)) (h0 : 0 ≤ b) (hb : b ≤ 64) : Qt P X w0 ⟨dst, .binOp .shl t x y ty2, ty, pos, af, gu⟩ T L (.int .i64 (IntKind.i64.wrap (a * 2 ^ b.toNat))) :=
  q_shl hx hy h0 (by show _ ≤ 64; omega)
end
theorem q_conv_str {b : ByteArray} {src : TypeId} (hx : ev T x = some (.string b)) [hs : UT P src .string] [hu : UT P t .string] : Qt P X w0 ⟨dst, .convert src t x, ty, pos, af, gu⟩ T L (.string b) := by
  refine ⟨?_⟩
  intro n ac w hA hC hL
  simp [execOp, hA.eval hx, convert, run_underlying hs.h, run_underlying hu.h]

/-! ### addresses -/
theorem q_fieldAddr {fs : Array Field} {f : Field} {i : Nat} {g o : Nat} (hx : ev T x = some (.pointer (some ⟨g, o, none⟩))) [hu : UT P t (.struct fs)] (hf : fs[i]? = some f) {k : Nat} [hz : SzT P f.type k] (hp : Nat.beq k 0 = false) :
    Qt P X w0 ⟨dst, .fieldAddr t x i, ty, pos, af, gu⟩ T L (.pointer (some ⟨g, o + f.offset, none⟩)) := by
  refine ⟨?_⟩
  intro n ac w hA hC hL
  have hz := hz.h
  rw [Option.map_eq_some_iff] at hz
  obtain ⟨inf, h2, rfl⟩ := hz
  simp [execOp, hA.eval hx, Instr.fieldAt, run_underlying hu.h, hf, Instr.sureAddr, fieldPlace, sizeOf, typeInfo, h2, Nat.ne_of_beq_eq_false hp, Addr.add_mid]
theorem q_indexAddr_arr {len : Nat} {g o sz : Nat} {k : IntKind} {i : Int} (hx : ev T x = some (.pointer (some ⟨g, o, none⟩))) (hy : ev T y = some (.int k i)) [hu : UT P t (.array len e)] [hs : SzT P e sz] (h0 : 0 ≤ i) (h1 : i < len) {o' : Nat} (ho : o + i.toNat * sz = o') :
    Qt P X w0 ⟨dst, .indexAddr t x y, ty, pos, af, gu⟩ T L (.pointer (some ⟨g, o', none⟩)) := by
  subst ho
  refine ⟨?_⟩
  intro n ac w hA hC hL
  have hs := hs.h
  rw [Option.map_eq_some_iff] at hs
  obtain ⟨inf, h2, rfl⟩ := hs
  simp [execOp, hA.eval hx, hA.eval hy, Instr.indexAt, asIntOf, run_underlying hu.h, Instr.sureAddr, h0, h1, sizeOf, typeInfo, h2, Addr.add_mid]
theorem q_indexAddr_sl {len cap : Nat} {g o sz : Nat} {k : IntKind} {i : Int} (hx : ev T x = some (.slice (some ⟨g, o, none⟩) len cap)) (hy : ev T y = some (.int k i)) [hu : UT P t (.slice e)] [hs : SzT P e sz] (h0 : 0 ≤ i) (h1 : i < len) {o' : Nat} (ho : o + i.toNat * sz = o') :
    Qt P X w0 ⟨dst, .indexAddr t x y, ty, pos, af, gu⟩ T L (.pointer (some ⟨g, o', none⟩)) := by
  subst ho
  refine ⟨?_⟩
  intro n ac w hA hC hL
  have hs := hs.h
  rw [Option.map_eq_some_iff] at hs
  obtain ⟨inf, h2, rfl⟩ := hs
  simp [execOp, hA.eval hx, hA.eval hy, Instr.indexAt, asIntOf, run_underlying hu.h, h0, h1, sizeOf, typeInfo, h2, Addr.add_mid]

/-! ### loads -/
theorem run_isAgg_flat {w : World} (h : flatT P t = true) : (isAgg t).run P w = .ok false w := by
  unfold flatT at h
  cases hu : P.underlying t with
  | none => simp [hu] at h
  | some d => cases d <;> simp [hu] at h <;> simp [isAgg, run_underlying hu]
theorem q_load {p : Addr} (hx : ev T x = some (.pointer (some p))) [hf : FlT P t] (hr : Rd X w0 L p v) : Qt P X w0 ⟨dst, .load t x, ty, pos, af, gu⟩ T L v := by
  refine ⟨?_⟩
  intro n ac w hA hC hL
  simp [execOp, hA.eval hx, Instr.loadAt, Instr.sureAddr, loadVar, run_isAgg_flat hf.h, hr.cell hC hL]
theorem rowT_spec {k : Nat} (h : rowT P t k = true) : (∃ d, P.underlying t = some d ∧ d.isRow = true) ∧ (P.info? t).map (·.size) = some k := by
  unfold rowT at h
  simp only [Bool.and_eq_true] at h
  obtain ⟨h1, h2⟩ := h
  constructor
  · split at h1
    · exact ⟨_, ‹_›, rfl⟩
    · exact ⟨_, ‹_›, rfl⟩
    · simp at h1
  · split at h2
    · rename_i i hi; rw [hi]; simp [Nat.eq_of_beq_eq_true h2]
    · simp at h2
theorem q_load_row {g o k : Nat} {vs : List Value} (hx : ev T x = some (.pointer (some ⟨g, o, none⟩))) [hf : RwT P t k] (hr : RdN X w0 L ⟨g, o, none⟩ vs) (hl : vs.length = k) : Qt P X w0 ⟨dst, .load t x, ty, pos, af, gu⟩ T L (.agg vs.toArray) := by
  refine ⟨?_⟩
  intro n ac w hA hC hL
  obtain ⟨⟨de, hu, hd⟩, hi⟩ := rowT_spec hf.h
  subst hl
  have h1 : w.rangeAt g o vs := fun j v hj => by have := hr.cells hC hL j v hj; rwa [Addr.add_mid] at this
  simp only [execOp, hA.eval hx, Sem.run_bind, run_loadAt_mid w g o t vs de h1 hu hd hi, Result.andThen_ok, Sem.run_pure]
theorem q_load_blk {g k : Nat} {cs : Array Value} {t' : TypeId} {fr : Nat × Nat} (hx : ev T x = some (.pointer (some ⟨g, 0, none⟩))) [hf : RwT P t k] (hm : Chunk.blk g (.cells cs t' fr) ∈ L) (hl : cs.size = k) : Qt P X w0 ⟨dst, .load t x, ty, pos, af, gu⟩ T L (.agg cs) := by
  have := q_load_row (P := P) (t := t) (w0 := w0) (X := X) (ty := ty) (pos := pos) (af := af) (gu := gu) (dst := dst) hx (.blk (vs := cs.toList) hm (by rw [List.drop_zero, List.take_length])) (by simpa using hl)
  simpa using this

/-! ### parts of values -/
theorem q_field {fs : Array Field} {f : Field} {i : Nat} {cs : Array Value} (hx : ev T x = some (.agg cs)) [hu : UT P t (.struct fs)] (hf : fs[i]? = some f) [ha : FlT P f.type] (hv : cs[f.offset]? = some v) : Qt P X w0 ⟨dst, .field t x i, ty, pos, af, gu⟩ T L v := by
  refine ⟨?_⟩
  intro n ac w hA hC hL
  simp [execOp, hA.eval hx, Instr.field, run_underlying hu.h, hf, asAgg, part, run_isAgg_flat ha.h, hv]
theorem run_isAgg_row {k : Nat} {w : World} (h : rowT P t k = true) : (isAgg t).run P w = .ok true w := by
  obtain ⟨⟨de, hu, hd⟩, _⟩ := rowT_spec h
  cases de <;> simp [TypeDesc.isRow] at hd <;> simp [isAgg, run_underlying hu]
theorem run_sizeOf_row {k : Nat} {w : World} (h : rowT P t k = true) : (sizeOf t).run P w = .ok k w := by
  obtain ⟨_, hi⟩ := rowT_spec h
  rw [Option.map_eq_some_iff] at hi
  obtain ⟨inf, h2, rfl⟩ := hi
  simp [sizeOf, typeInfo, h2]
theorem q_field_row {fs : Array Field} {f : Field} {i k : Nat} {cs : Array Value} (hx : ev T x = some (.agg cs)) [hu : UT P t (.struct fs)] (hf : fs[i]? = some f) [ha : RwT P f.type k] : Qt P X w0 ⟨dst, .field t x i, ty, pos, af, gu⟩ T L (.agg (cs.extract f.offset (f.offset + k))) := by
  refine ⟨?_⟩
  intro n ac w hA hC hL
  simp [execOp, hA.eval hx, Instr.field, run_underlying hu.h, hf, asAgg, part, run_isAgg_row ha.h, run_sizeOf_row ha.h]
theorem q_index {len : Nat} {k : IntKind} {i : Int} {cs : Array Value} {sz : Nat} (hx : ev T x = some (.agg cs)) (hy : ev T y = some (.int k i)) [hu : UT P t (.array len e)] [ha : FlT P e] [hs : SzT P e sz] (h0 : 0 ≤ i) (h1 : i < len) (hv : cs[i.toNat * sz]? = some v) : Qt P X w0 ⟨dst, .index t x y, ty, pos, af, gu⟩ T L v := by
  refine ⟨?_⟩
  intro n ac w hA hC hL
  have hs := hs.h
  rw [Option.map_eq_some_iff] at hs
  obtain ⟨inf, h2, rfl⟩ := hs
  simp [execOp, hA.eval hx, hA.eval hy, Instr.index, asIntOf, run_underlying hu.h, h0, h1, part, run_isAgg_flat ha.h, sizeOf, typeInfo, h2, hv]
theorem q_index_row {len : Nat} {k : IntKind} {i : Int} {cs : Array Value} {sz : Nat} (hx : ev T x = some (.agg cs)) (hy : ev T y = some (.int k i)) [hu : UT P t (.array len e)] [ha : RwT P e sz] (h0 : 0 ≤ i) (h1 : i < len) : Qt P X w0 ⟨dst, .index t x y, ty, pos, af, gu⟩ T L (.agg (cs.extract (i.toNat * sz) (i.toNat * sz + sz))) := by
  refine ⟨?_⟩
  intro n ac w hA hC hL
  simp [execOp, hA.eval hx, hA.eval hy, Instr.index, asIntOf, run_underlying hu.h, h0, h1, part, run_isAgg_row ha.h, run_sizeOf_row ha.h]
theorem q_build {parts : Array (Nat × Operand)} {pv : List (Nat × Value)} {cells : Array Value} (hp : (parts.map fun (i, x) => ((i, ev T x) : Nat × Option Value)).toList = pv.map fun (i, v) => (i, some v)) (hb : P.built t pv = some cells) : Qt P X w0 ⟨dst, .build t parts, ty, pos, af, gu⟩ T L (.agg cells) := by
  refine ⟨?_⟩
  intro n ac w hA hC hL
  have e : (parts.map fun (i, x) => (i, ac.eval x)).toList = pv := by
    rw [Array.toList_map] at hp ⊢
    generalize parts.toList = l at hp ⊢
    clear hb
    induction l generalizing pv with
    | nil => cases pv <;> simp_all
    | cons q l ih =>
      cases pv with
      | nil => simp at hp
      | cons r pv =>
        obtain ⟨i, x⟩ := q
        obtain ⟨j, u⟩ := r
        simp only [List.map_cons, List.cons.injEq, Prod.mk.injEq] at hp ⊢
        exact ⟨⟨hp.1.1, hA.eval hp.1.2⟩, ih hp.2⟩
  have h := run_build (P := P) w t (parts.map fun (i, x) => (i, ac.eval x)) cells (by rw [e]; exact hb)
  simp only [execOp, Sem.run_bind, h, Result.andThen_ok, Sem.run_pure]

/-! ### slices and builtins -/
theorem q_call_builtin {bi : Builtin} {xs : List Operand} {ats : Array TypeId} {vs : List Value} (hargs : evs T xs = some vs) (h : ∀ w, (builtin bi ats ty ((xs.map fun | .const _ => true | _ => false).toArray) vs.toArray).run P w = .ok (.value v) w) :
    Qt P X w0 ⟨dst, .call { callee := .builtin bi, args := xs.toArray, argTypes := ats }, ty, pos, af, gu⟩ T L v := by
  refine ⟨?_⟩
  intro n ac w hA hC hL
  simp only [execOp, resolve, Sem.run_bind, Sem.run_pure, Result.andThen_ok, invoke, List.map_toArray, hA.evals hargs]
  exact h w
theorem q_len_sl {b : Option Addr} {len cap : Nat} (hx : ev T x = some (.slice b len cap)) [hu : UT P t (.slice e)] : Qt P X w0 ⟨dst, .call { callee := .builtin .len, args := #[x], argTypes := #[t] }, ty, pos, af, gu⟩ T L (.int .i64 len) :=
  q_call_builtin (xs := [x]) (vs := [.slice b len cap]) (by simp [evs, hx]) fun w => by simp [builtin, Builtin.len_, run_underlying hu.h, goInt]
theorem q_len_str {b : ByteArray} (hx : ev T x = some (.string b)) [hu : UT P t .string] : Qt P X w0 ⟨dst, .call { callee := .builtin .len, args := #[x], argTypes := #[t] }, ty, pos, af, gu⟩ T L (.int .i64 b.size) :=
  q_call_builtin (xs := [x]) (vs := [.string b]) (by simp [evs, hx]) fun w => by simp [builtin, Builtin.len_, run_underlying hu.h, goInt]
theorem q_cap_sl {b : Option Addr} {len cap : Nat} (hx : ev T x = some (.slice b len cap)) [hu : UT P t (.slice e)] : Qt P X w0 ⟨dst, .call { callee := .builtin .cap, args := #[x], argTypes := #[t] }, ty, pos, af, gu⟩ T L (.int .i64 cap) :=
  q_call_builtin (xs := [x]) (vs := [.slice b len cap]) (by simp [evs, hx]) fun w => by simp [builtin, Builtin.cap_, run_underlying hu.h, goInt]
theorem q_min {k k' : IntKind} {a b : Int} {ats : Array TypeId} (hx : ev T x = some (.int k a)) (hy : ev T y = some (.int k' b)) : Qt P X w0 ⟨dst, .call { callee := .builtin .min, args := #[x, y], argTypes := ats }, ty, pos, af, gu⟩ T L (.int k (if b < a then b else a)) :=
  q_call_builtin (xs := [x, y]) (vs := [.int k a, .int k' b]) (by simp [evs, hx, hy]) fun w => by simp [builtin, Builtin.min_, Builtin.min2]
theorem q_max {k k' : IntKind} {a b : Int} {ats : Array TypeId} (hx : ev T x = some (.int k a)) (hy : ev T y = some (.int k' b)) : Qt P X w0 ⟨dst, .call { callee := .builtin .max, args := #[x, y], argTypes := ats }, ty, pos, af, gu⟩ T L (.int k (if a < b then b else a)) :=
  q_call_builtin (xs := [x, y]) (vs := [.int k a, .int k' b]) (by simp [evs, hx, hy]) fun w => by simp [builtin, Builtin.max_, Builtin.max2]

/-- A reslice. -/
def bnd (T : List (Nat × Value)) (dflt : Nat) : Option Operand → Option Int
  | none => some dflt
  | some x => match ev T x with
    | some (.int _ i) => some i
    | _ => none
theorem q_slice {lo hi : Option Operand} {b : Option Addr} {len cap sz : Nat} {l h : Int} (hx : ev T x = some (.slice b len cap)) (hlo : bnd T 0 lo = some l) (hhi : bnd T len hi = some h) [hu : UT P t (.slice e)] [hs : SzT P e sz]
    (h0 : 0 ≤ l) (h1 : l ≤ h) (h2 : h ≤ cap) (hlc : len ≤ cap) {b' : Option Addr} {len' cap' : Nat} (hb' : (if cap = l.toNat then b else b.map (·.add (l.toNat * sz))) = b') (hlen : h.toNat - l.toNat = len') (hcap : cap - l.toNat = cap') : Qt P X w0 ⟨dst, .slice t x lo hi none, ty, pos, af, gu⟩ T L (.slice b' len' cap') := by
  subst hb'; subst hlen; subst hcap
  refine ⟨?_⟩
  intro n ac w hA hC hL
  have hs := hs.h
  rw [Option.map_eq_some_iff] at hs
  obtain ⟨inf, h3, rfl⟩ := hs
  have hb : (Instr.sliceBounds true len cap (lo.map ac.eval) (hi.map ac.eval) none).run P w = .ok (l.toNat, h.toNat, cap) w := by
    have key : ∀ (z : Operand) (i : Int), bnd T 0 (some z) = some i → ∃ k, ac.eval z = .int k i := by
      intro z i hz
      simp only [bnd] at hz
      split at hz
      · rename_i k j hj; simp at hz; subst hz; exact ⟨k, hA.eval hj⟩
      · simp at hz
    have hh : (match hi.map ac.eval with | some v => Instr.sliceBound v cap .sliceAcap | none => pure len : Sem Nat).run P w = .ok h.toNat w := by
      cases hi with
      | none => simp [bnd] at hhi; subst hhi; simp
      | some z => obtain ⟨k, hz⟩ := key z h hhi; simp [hz, Instr.sliceBound, asIntOf, show 0 ≤ h by omega, h2]
    have hl : (match lo.map ac.eval with | some v => Instr.sliceBound v h.toNat .sliceB | none => pure 0 : Sem Nat).run P w = .ok l.toNat w := by
      cases lo with
      | none => simp [bnd] at hlo; subst hlo; simp
      | some z => obtain ⟨k, hz⟩ := key z l hlo; simp only [Option.map_some, hz]; exact run_sliceBound (P := P) (w := w) k l h.toNat .sliceB h0 (by omega)
    unfold Instr.sliceBounds
    simp only [Sem.run_bind, Sem.run_pure, Result.andThen_ok, Option.isSome_none, if_true, Bool.false_eq_true, if_false]
    cases hi <;> cases lo <;> simp only [Option.map] at hh hl ⊢ <;> simp_all
  simp only [execOp, hA.eval hx, Instr.sliceAt, Sem.run_bind, run_underlying hu.h, Result.andThen_ok, Instr.slice, hb, Option.map_none, sizeOf, typeInfo, program, Sem.run, h3, Sem.run_pure]

/-- A slice of an array variable. -/
theorem q_slice_arr {lo hi : Option Operand} {g o k sz : Nat} {l h : Int} (hx : ev T x = some (.pointer (some ⟨g, o, none⟩))) (hlo : bnd T 0 lo = some l) (hhi : bnd T k hi = some h) [hu : UT P t (.array k e)] [hs : SzT P e sz]
    (h0 : 0 ≤ l) (h1 : l ≤ h) (h2 : h ≤ k) {o' len' cap' : Nat} (ho : (if k = l.toNat then o else o + l.toNat * sz) = o') (hlen : h.toNat - l.toNat = len') (hcap : k - l.toNat = cap') : Qt P X w0 ⟨dst, .slice t x lo hi none, ty, pos, af, gu⟩ T L (.slice (some ⟨g, o', none⟩) len' cap') := by
  subst ho; subst hlen; subst hcap
  refine ⟨?_⟩
  intro n ac w hA hC hL
  have hs := hs.h
  rw [Option.map_eq_some_iff] at hs
  obtain ⟨inf, h3, rfl⟩ := hs
  have hb : (Instr.sliceBounds false k k (lo.map ac.eval) (hi.map ac.eval) none).run P w = .ok (l.toNat, h.toNat, k) w := by
    have key : ∀ (z : Operand) (i : Int), bnd T 0 (some z) = some i → ∃ k, ac.eval z = .int k i := by
      intro z i hz
      simp only [bnd] at hz
      split at hz
      · rename_i k j hj; simp at hz; subst hz; exact ⟨k, hA.eval hj⟩
      · simp at hz
    have hh : (match hi.map ac.eval with | some v => Instr.sliceBound v k .sliceAlen | none => pure k : Sem Nat).run P w = .ok h.toNat w := by
      cases hi with
      | none => simp [bnd] at hhi; subst hhi; simp
      | some z => obtain ⟨k, hz⟩ := key z h hhi; simp [hz, Instr.sliceBound, asIntOf, show 0 ≤ h by omega, h2]
    have hl : (match lo.map ac.eval with | some v => Instr.sliceBound v h.toNat .sliceB | none => pure 0 : Sem Nat).run P w = .ok l.toNat w := by
      cases lo with
      | none => simp [bnd] at hlo; subst hlo; simp
      | some z => obtain ⟨k, hz⟩ := key z l hlo; simp only [Option.map_some, hz]; exact run_sliceBound (P := P) (w := w) k l h.toNat .sliceB h0 (by omega)
    unfold Instr.sliceBounds
    simp only [Sem.run_bind, Sem.run_pure, Result.andThen_ok, Option.isSome_none, Bool.false_eq_true, if_false]
    cases hi <;> cases lo <;> simp only [Option.map] at hh hl ⊢ <;> simp_all
  simp only [execOp, hA.eval hx, Instr.sliceAt, Sem.run_bind, run_underlying hu.h, Result.andThen_ok, hb, Instr.sureAddr, Option.map_none, sizeOf, typeInfo, program, Sem.run, h3, Sem.run_pure, Addr.add_mid]
  by_cases hk : k = l.toNat <;> simp [hk]

/-! ### results -/
inductive Res (P : Program) (X : List Nat) (w0 : World) (T : List (Nat × Value)) (L : List Chunk) : List ResultVar → List Value → Prop
  | nil : Res P X w0 T L [] []
  | tmp {t : Tmp} {v : Value} {rs : List ResultVar} {vs : List Value} (h : lks T t = some v) (hs : Res P X w0 T L rs vs) : Res P X w0 T L (.tmp t :: rs) (v :: vs)
  | cell {t : Tmp} {ty : TypeId} {p : Addr} {v : Value} {rs : List ResultVar} {vs : List Value} (h : lks T t = some (.pointer (some p))) [hf : FlT P ty] (hr : Rd X w0 L p v) (hs : Res P X w0 T L rs vs) : Res P X w0 T L (.cell t ty :: rs) (v :: vs)
  | row {t : Tmp} {ty : TypeId} {g k : Nat} {cs : Array Value} {t' : TypeId} {fr : Nat × Nat} {rs : List ResultVar} {vs : List Value} (h : lks T t = some (.pointer (some ⟨g, 0, none⟩))) [hf : RwT P ty k] (hm : Chunk.blk g (.cells cs t' fr) ∈ L) (hl : cs.size = k) (hs : Res P X w0 T L rs vs) : Res P X w0 T L (.cell t ty :: rs) (.agg cs :: vs)

def vval : List Value → Value
  | [v] => v
  | vs => .tuple vs.toArray

theorem Res.run {rs : List ResultVar} {vs : List Value} (h : Res P X w0 T L rs vs) {n : Nat} {a : Act} {w : World} (hA : Agr n T a) (hC : Ch X w0 w) (hL : Has L w) :
    (rs.mapM fun (r : ResultVar) => (match r with | .tmp t => pure (a.tmps.getD t undef) | .cell q t => do loadVar t (← asAddr (a.tmps.getD q undef)) : Sem Value)).run P w = .ok vs w := by
  have key : ∀ t v, lks T t = some v → a.tmps.getD t undef = v := fun t v h => by have := hA.slot t v h; simp [this]
  induction h with
  | nil => simp
  | tmp h hs ih => rw [List.mapM_cons]; simp only [Sem.run_bind, Sem.run_pure, Result.andThen_ok, key _ _ h, ih]
  | @cell t ty p v rs vs h hf hr hs ih =>
    have h2 : (loadVar ty p).run P w = .ok v w := by simp [loadVar, run_isAgg_flat hf.h, hr.cell hC hL]
    have h3 : (asAddr (.pointer (some p))).run P w = .ok p w := rfl
    rw [List.mapM_cons]; simp only [Sem.run_bind, Sem.run_pure, Result.andThen_ok, key _ _ h, h3, h2, ih]
  | @row t ty g k cs t' fr rs vs h hf hm hl hs ih =>
    rw [List.mapM_cons]
    obtain ⟨⟨de, hu, hd⟩, hi⟩ := rowT_spec hf.h
    have h1 := hL.ok _ hm
    simp only [Chunk.ok] at h1
    have h2 := run_loadVar_row (P := P) w g t' ty cs fr de h1 hu (by cases de <;> simp_all [TypeDesc.isRow]) (by rw [hl]; exact hi)
    have h3 : (asAddr (.pointer (some ⟨g, 0, none⟩))).run P w = .ok ⟨g, 0, none⟩ w := rfl
    simp only [Sem.run_bind, Sem.run_pure, Result.andThen_ok, key _ _ h, h3, h2, ih]

theorem results_of {fn : Func} {rs : List ResultVar} {vs : List Value} (hfn : fn.results = rs.toArray) (h : Res P X w0 T L rs vs) {n : Nat} {a : Act} {w : World} (hA : Agr n T a) (hC : Ch X w0 w) (hL : Has L w) : (results fn a.tmps).run P w = .ok (vval vs) w := by
  unfold results
  rw [hfn]
  have hr := h.run hA hC hL
  simp only [Sem.run_bind, List.mapM_toArray]
  simp only [Sem.run_map]
  erw [hr]
  cases vs with
  | nil => simp [vval]
  | cons v vs => cases vs <;> simp [vval]

theorem new_nil {k : Nat} : ∀ g ∈ feet ([] : List Chunk), g ∈ X ∨ k ≤ g := by simp [feet]
theorem new_blk {k g : Nat} {o : Obj} (h : g ∈ X ∨ k ≤ g) (hs : ∀ g ∈ feet L, g ∈ X ∨ k ≤ g) : ∀ g' ∈ feet (.blk g o :: L), g' ∈ X ∨ k ≤ g' := by
  intro g' hg
  simp only [feet, List.flatMap_cons, Chunk.foot, List.mem_append, List.mem_singleton] at hg
  exact hg.elim (fun e => e ▸ h) (fun h' => hs g' h')
theorem new_sl {k : Nat} {b : Option Addr} {cap sz : Nat} {xs : List Value} (h : ∀ g ∈ (Chunk.sl b cap e sz xs).foot, g ∈ X ∨ k ≤ g) (hs : ∀ g ∈ feet L, g ∈ X ∨ k ≤ g) : ∀ g' ∈ feet (.sl b cap e sz xs :: L), g' ∈ X ∨ k ≤ g' := by
  intro g' hg
  simp only [feet, List.flatMap_cons, List.mem_append] at hg
  exact hg.elim (fun h' => h g' h') (fun h' => hs g' h')
variable {α : Type} {V : α → Value} {N : α → List Chunk} {Φ : α → Prop} {fn : Func} {rs : List ResultVar} {vs : List Value}
theorem r_ret (z : α) (hd0 : dfs T = []) (hfn : fn.results = rs.toArray) (hR : Res P X w0 T L rs vs) (hv : vval vs = V z) (hN : (N z).Sublist L) (hnew : ∀ g ∈ feet (N z), g ∈ X ∨ w0.heap.size ≤ g) (hz : Φ z) :
    ∀ a w, SS n T X w0 m L a w → EX (.post P fn (Ret V X N Φ w0)) .ret a w :=
  fun a w hs => ⟨hs.agr.defers.trans hd0, _, results_of hfn hR hs.agr hs.ch hs.has, z, by rw [hv], hs.ch, hs.has.sub hN, hnew, hz⟩
theorem r_end (z : α) (hd0 : dfs T = []) (hfn : fn.results = rs.toArray) (hR : Res P X w0 T L rs vs) (hv : vval vs = V z) (hN : (N z).Sublist L) (hnew : ∀ g ∈ feet (N z), g ∈ X ∨ w0.heap.size ≤ g) (hz : Φ z) :
    ∀ a w, SS n T X w0 m L a w → EX (.post P fn (Ret V X N Φ w0)) .normal a w :=
  fun a w hs => ⟨hs.agr.defers.trans hd0, _, results_of hfn hR hs.agr hs.ch hs.has, z, by rw [hv], hs.ch, hs.has.sub hN, hnew, hz⟩
end
end Go.Proofs.Ytlcckgimagllaaa
