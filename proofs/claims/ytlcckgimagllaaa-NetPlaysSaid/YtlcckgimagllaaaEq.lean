/- '==' on arrays of numbers of one kind, and of bools. -/
import Derived.Test.YtlcckgimagllaaaRows
import Derived.WalkKit
import Derived.Laws.StructEq
namespace Go.Proofs.Ytlcckgimagllaaa
open Go

theorem range_all {α : Type} [BEq α] [LawfulBEq α] (z : α) (xs ys : List α) (h : xs.length = ys.length) : ((List.range xs.length).all fun i => xs.getD i z == ys.getD i z) = (xs == ys) := by
  rw [Bool.eq_iff_iff]
  simp only [List.all_eq_true, List.mem_range, beq_iff_eq]
  constructor
  · intro H
    refine List.ext_getElem h fun i h1 h2 => ?_
    have := H i h1
    simpa [List.getD, h1, h2] using this
  · rintro rfl i _; rfl

section
variable {P : Program} (w : World)

/-- An array's equality from its elements'. -/
theorem run_equalIn_row {α : Type} [BEq α] [LawfulBEq α] (z : α) (mk : α → Value) (d : Nat) (t e : TypeId) (n : Nat) (ht : P.underlying t = some (.array n e)) (hsz : ∀ w, (sizeOf e).run P w = .ok 1 w)
    (hpart : ∀ (cs : Array Value) (i : Nat) (x : α) (w : World), cs[i]? = some (mk x) → (part e cs i).run P w = .ok (mk x) w)
    (heq : ∀ (x y : α) (w : World), (Op.equalIn (d + 1) e (mk x) (mk y)).run P w = .ok (x == y) w)
    (xs ys : List α) (hx : xs.length = n) (hy : ys.length = n) :
    (Op.equalIn (d + 2) t (.agg (xs.map mk).toArray) (.agg (ys.map mk).toArray)).run P w = .ok (xs == ys) w := by
  rw [← range_all z xs ys (hx.trans hy.symm), hx, List.range_eq_range', Op.equalIn]
  simp only [Sem.run_bind, run_underlying ht, Result.andThen_ok, hsz, Std.Legacy.Range.forIn_eq_forIn_range', Std.Legacy.Range.size, Nat.sub_zero, Nat.add_sub_cancel, Nat.div_one]
  have hl : ∀ i ∈ List.range' 0 n 1, i < n := fun i hi => by simpa using (List.mem_range'_1.1 hi).2
  generalize List.range' 0 n 1 = l at hl ⊢
  induction l with
  | nil => simp
  | cons i l ih =>
    have hi : i < n := hl i (by simp)
    have px := hpart (xs.map mk).toArray (i * 1) (xs.getD i z) w (by simp [List.getD, show i < xs.length by omega])
    have py := hpart (ys.map mk).toArray (i * 1) (ys.getD i z) w (by simp [List.getD, show i < ys.length by omega])
    simp only [List.forIn_cons, Sem.run_bind, px, py, heq, Result.andThen_ok, List.all_cons]
    cases hb : (xs.getD i z == ys.getD i z)
    · simp
    · simp only [Bool.not_true, Bool.false_eq_true, if_false, Sem.run_pure, Result.andThen_ok, Bool.true_and]
      exact ih fun j hj => hl j (by simp [hj])

theorem run_equalIn_ints (d : Nat) (t e : TypeId) (n : Nat) (k : IntKind) (ht : P.underlying t = some (.array n e)) (he : P.underlying e = some (.int k)) (hsz : ∀ w, (sizeOf e).run P w = .ok 1 w)
    (xs ys : List Int) (hx : xs.length = n) (hy : ys.length = n) :
    (Op.equalIn (d + 2) t (.agg (xs.map (Value.int k)).toArray) (.agg (ys.map (Value.int k)).toArray)).run P w = .ok (xs == ys) w :=
  run_equalIn_row w 0 (Value.int k) d t e n ht hsz (fun cs i x w h => by simp [part, isAgg, run_underlying he, h]) (fun x y w => run_equalIn_int w d e k k x y he) xs ys hx hy

theorem run_equalIn_bools (d : Nat) (t e : TypeId) (n : Nat) (ht : P.underlying t = some (.array n e)) (he : P.underlying e = some .bool) (hsz : ∀ w, (sizeOf e).run P w = .ok 1 w)
    (xs ys : List Bool) (hx : xs.length = n) (hy : ys.length = n) :
    (Op.equalIn (d + 2) t (.agg (xs.map Value.bool).toArray) (.agg (ys.map Value.bool).toArray)).run P w = .ok (xs == ys) w :=
  run_equalIn_row w false Value.bool d t e n ht hsz (fun cs i x w h => by simp [part, isAgg, run_underlying he, h]) (fun x y w => run_equalIn_bool' w d e x y he) xs ys hx hy

theorem run_eql_ints (t e : TypeId) (n : Nat) (k : IntKind) (ht : P.underlying t = some (.array n e)) (he : P.underlying e = some (.int k)) (hsz : ∀ w, (sizeOf e).run P w = .ok 1 w)
    (xs ys : List Int) (hx : xs.length = n) (hy : ys.length = n) :
    (binOp .eql t (.agg (xs.map (Value.int k)).toArray) (.agg (ys.map (Value.int k)).toArray)).run P w = .ok (.bool (xs == ys)) w := by
  rw [run_eql_struct, run_equalIn_ints w 9998 t e n k ht he hsz xs ys hx hy]
  rfl

theorem run_neq_ints (t e : TypeId) (n : Nat) (k : IntKind) (ht : P.underlying t = some (.array n e)) (he : P.underlying e = some (.int k)) (hsz : ∀ w, (sizeOf e).run P w = .ok 1 w)
    (xs ys : List Int) (hx : xs.length = n) (hy : ys.length = n) :
    (binOp .neq t (.agg (xs.map (Value.int k)).toArray) (.agg (ys.map (Value.int k)).toArray)).run P w = .ok (.bool (xs != ys)) w := by
  rw [run_neq_struct, run_equalIn_ints w 9998 t e n k ht he hsz xs ys hx hy]
  rfl
end
end Go.Proofs.Ytlcckgimagllaaa
