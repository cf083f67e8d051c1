/- Proved: for every input, the law jalousielaw04.SealOpens returns true and does not panic, and each argument reads behind the call as it read before. Conditions: the card's own, that is, the package-level values that it names are as the program lays them. -/
import Derived.Test.YteopejjlhmghbaaDoorSSealOpensD
namespace Go.Proofs.YteopejjlhmghbaaDoor
open Go Go.RowKit Go.Extern.Stop Go.Stop Go.Extern
set_option linter.unusedVariables false
theorem rf_valueOfP (t : Addr) (w : World) : (ReflectliteValue.unpack (.iface 60 (.pointer (some t)))).run Tryd.prog w = .ok (.agg #[.pointer (some ⟨3, 60, none⟩), .pointer (some ⟨w.heap.size, 0, none⟩), .int .u64 150]) (w.alloc (.cells #[.pointer (some t)] 60)) := by kernel_rfl
theorem rf_type (a : Addr) (w : World) : (ReflectliteValue.methodAny (ReflectliteValue.valueError "reflectlite.Value.Type" 0) (fun t _ _ _ => ReflectliteType.toType t) #[.agg #[.pointer (some ⟨3, 60, none⟩), .pointer (some a), .int .u64 150]]).run Tryd.prog w = .ok (.iface 106 (.agg #[.pointer (some ⟨3, 60, none⟩)])) w := by kernel_rfl
theorem rf_mKind (h : Value) (w : World) : (Go.method 255 106 (.agg #[h]) "Kind").run Tryd.prog w = .ok (74, h) w := by kernel_rfl
theorem rf_kindP (w : World) : ((ReflectliteType.abiMethod fun t => (fun a : Nat => Value.int IntKind.u8 (a : Int)) <$> Rtype.kind t) #[.pointer (some ⟨3, 60, none⟩)]).run Tryd.prog w = .ok (.int .u8 22) w := by kernel_rfl
theorem rf_kindE (w : World) : ((ReflectliteType.abiMethod fun t => (fun a : Nat => Value.int IntKind.u8 (a : Int)) <$> Rtype.kind t) #[.pointer (some ⟨3, 58, none⟩)]).run Tryd.prog w = .ok (.int .u8 22) w := by kernel_rfl
theorem rf_m (z : Sem Value) (f : TypeId → Addr → Nat → Nat → Sem Value) (v : Value) : ReflectliteValue.method z f #[v] = (do match ← ReflectliteValue.parts v with | none => z | some (t, a, fl) => f t a fl (fl % 32)) := rfl
theorem rf_partsP (a : Addr) (w : World) : (ReflectliteValue.parts (.agg #[.pointer (some ⟨3, 60, none⟩), .pointer (some a), .int .u64 150])).run Tryd.prog w = .ok (some (60, a, 150)) w := by kernel_rfl
theorem rf_isNil (a p : Addr) (W : World) (ha : W.cell? a = some (.pointer (some p))) : (ReflectliteValue.method (ReflectliteValue.valueError "reflectlite.Value.IsNil" 0) ReflectliteValue.isNil #[.agg #[.pointer (some ⟨3, 60, none⟩), .pointer (some a), .int .u64 150]]).run Tryd.prog W = .ok (.bool false) W := by
  rw [rf_m]
  simp only [Sem.run_bind, rf_partsP, Result.andThen]
  simp [ReflectliteValue.isNil, loadVar, isAgg, underlying, Tryd.underlying60, ha, Result.andThen]
theorem rf_mElem (h : Value) (w : World) : (Go.method 255 106 (.agg #[h]) "Elem").run Tryd.prog w = .ok (87, .agg #[h]) w := by kernel_rfl
theorem rf_mImpl (h : Value) (w : World) : (Go.method 255 106 (.agg #[h]) "Implements").run Tryd.prog w = .ok (88, .agg #[h]) w := by kernel_rfl
theorem rf_mAss (h : Value) (w : World) : (Go.method 255 106 (.agg #[h]) "AssignableTo").run Tryd.prog w = .ok (85, .agg #[h]) w := by kernel_rfl
theorem rf_mUnwrap (h : Value) (w : World) : (Go.method 255 55 h "Unwrap").run Tryd.prog w = .ok (78, h) w := by kernel_rfl
theorem rf_elemP (w : World) : (ReflectliteType.method ReflectliteType.elem #[.agg #[.pointer (some ⟨3, 60, none⟩)]]).run Tryd.prog w = .ok (.iface 106 (.agg #[.pointer (some ⟨3, 58, none⟩)])) w := by kernel_rfl
theorem rf_implE (w : World) : (ReflectliteType.relation "Implements" ReflectliteType.implements_ #[.agg #[.pointer (some ⟨3, 58, none⟩)], .iface 106 (.agg #[.pointer (some ⟨3, 42, none⟩)])]).run Tryd.prog w = .ok (.bool true) w := by kernel_rfl
theorem rf_typeE (v : Value) (w : World) : (ReflectliteType.typeOf #[.iface 58 v]).run Tryd.prog w = .ok (.iface 106 (.agg #[.pointer (some ⟨3, 58, none⟩)])) w := by kernel_rfl
theorem rf_typeF (v : Value) (w : World) : (ReflectliteType.typeOf #[.iface 55 v]).run Tryd.prog w = .ok (.iface 106 (.agg #[.pointer (some ⟨3, 55, none⟩)])) w := by kernel_rfl
theorem rf_assE (w : World) : (ReflectliteType.relation "AssignableTo" ReflectliteType.assignableTo #[.agg #[.pointer (some ⟨3, 58, none⟩)], .iface 106 (.agg #[.pointer (some ⟨3, 58, none⟩)])]).run Tryd.prog w = .ok (.bool true) w := by kernel_rfl
theorem rf_assF (w : World) : (ReflectliteType.relation "AssignableTo" ReflectliteType.assignableTo #[.agg #[.pointer (some ⟨3, 55, none⟩)], .iface 106 (.agg #[.pointer (some ⟨3, 58, none⟩)])]).run Tryd.prog w = .ok (.bool false) w := by kernel_rfl
theorem rf_noAs (v : Value) (xT : TypeId) (w : World) : (Instr.typeAssert (.iface 55 v) xT 111 true).run Tryd.prog w = .ok (.tuple #[.nilIface, .bool false]) w := run_typeAssert_lacksB Tryd.underlying111 (by kernel_rfl) (by kernel_rfl) v xT w
theorem rf_hasU (v : Value) (xT : TypeId) (w : World) : (Instr.typeAssert (.iface 55 v) xT 114 true).run Tryd.prog w = .ok (.tuple #[.iface 55 v, .bool true]) w := run_typeAssert_hasB Tryd.underlying114 (by kernel_rfl) v xT w
theorem rf_valueOfE (e : Addr) (w : World) : (ReflectliteValue.unpack (.iface 58 (.pointer (some e)))).run Tryd.prog w = .ok (.agg #[.pointer (some ⟨3, 58, none⟩), .pointer (some ⟨w.heap.size, 0, none⟩), .int .u64 150]) (w.alloc (.cells #[.pointer (some e)] 58)) := by kernel_rfl
theorem rf_elemOfP (w : World) : (Rtype.elem? 60).run Tryd.prog w = .ok (some 58) w := by kernel_rfl
theorem rf_mkE (p : Addr) (w : World) : (ReflectliteValue.mk 58 p ReflectliteValue.flagAddr).run Tryd.prog w = .ok (.agg #[.pointer (some ⟨3, 58, none⟩), .pointer (some p), .int .u64 406]) w := by kernel_rfl
theorem rf_elemV (a p : Addr) (W : World) (ha : W.cell? a = some (.pointer (some p))) : (ReflectliteValue.method (ReflectliteValue.valueError "reflectlite.Value.Elem" 0) ReflectliteValue.elem #[.agg #[.pointer (some ⟨3, 60, none⟩), .pointer (some a), .int .u64 150]]).run Tryd.prog W = .ok (.agg #[.pointer (some ⟨3, 58, none⟩), .pointer (some p), .int .u64 406]) W := by
  rw [rf_m]
  simp only [Sem.run_bind, rf_partsP, Result.andThen]
  simp [ReflectliteValue.elem, loadVar, isAgg, underlying, Tryd.underlying60, ha, Result.andThen, rf_elemOfP, rf_mkE]
theorem rf_s (v x : Value) : ReflectliteValue.set #[v, x] = (do
    let (some (dst, a, fl), some (src, b, _)) := (← ReflectliteValue.parts v, ← ReflectliteValue.parts x)
      | unsupported (.noEntry "extern/(internal/reflectlite.Value).Set.zeroValue")
    if fl / ReflectliteValue.flagAddr % 2 == 0 then unsupported (.noEntry "extern/(internal/reflectlite.Value).Set.unaddressable")
    let val ← loadVar src b
    if ← Rtype.directlyAssignable dst src then storeVar dst a val
    else if ← Rtype.implements dst src then
      if (← Rtype.kind src) == 20 then
        match val with
        | .nilIface => unsupported (.noEntry "extern/reflectlite: a nil value of one interface type handed on as a value of another")
        | _ => storeVar dst a val
      else storeVar dst a (.iface src val)
    else panicString ("reflectlite.Set: value of type " ++ (← Rtype.spelt src) ++ " is not assignable to type " ++ (← Rtype.spelt dst))
    pure (.tuple #[])) := rfl
theorem rf_partsEa (a : Addr) (w : World) : (ReflectliteValue.parts (.agg #[.pointer (some ⟨3, 58, none⟩), .pointer (some a), .int .u64 406])).run Tryd.prog w = .ok (some (58, a, 406)) w := by kernel_rfl
theorem rf_partsE (a : Addr) (w : World) : (ReflectliteValue.parts (.agg #[.pointer (some ⟨3, 58, none⟩), .pointer (some a), .int .u64 150])).run Tryd.prog w = .ok (some (58, a, 150)) w := by kernel_rfl
theorem rf_dirE (w : World) : (Rtype.directlyAssignable 58 58).run Tryd.prog w = .ok true w := by kernel_rfl
theorem rf_set (ta b e : Addr) (old : Value) (W : World) (hb : W.cell? b = some (.pointer (some e))) (ht : W.cell? ta = some old) (hf : W.frozen? ta = false) :
    (ReflectliteValue.set #[.agg #[.pointer (some ⟨3, 58, none⟩), .pointer (some ta), .int .u64 406], .agg #[.pointer (some ⟨3, 58, none⟩), .pointer (some b), .int .u64 150]]).run Tryd.prog W = .ok (.tuple #[]) (W.setCell ta (.pointer (some e))) := by
  rw [rf_s]
  simp only [Sem.run_bind, rf_partsEa, rf_partsE, Result.andThen]
  simp [ReflectliteValue.flagAddr, loadVar, isAgg, underlying, Tryd.underlying58, hb, Result.andThen, rf_dirE, storeVar, Value.cells, storeCells, Addr.add]
  rw [run_store Tryd.prog W ta _ _ (by rfl)]
  simp [ht, hf]
set_option maxHeartbeats 8000000 in
set_option maxRecDepth 100000 in
theorem as_second (fl e t : Addr) (old : Value) (w : World) (hg : w.cell? ⟨2, 0, none⟩ = some (.iface 106 (.agg #[.pointer (some ⟨3, 42, none⟩)]))) (hF : w.cell? fl = some (.iface 58 (.pointer (some e)))) (hFl : fl.spot = none) (ht0 : w.cell? t = some old) (hf0 : w.frozen? t = false) :
    Calls Tryd.prog 22 #[.iface 55 (.pointer (some fl)), .iface 60 (.pointer (some t))] w fun ev w' => ev = .returned (.bool true) ∧ w' = ((((w.alloc (.cells #[.pointer (some t)] 60)).alloc (.cells #[.pointer (some ⟨3, 60, none⟩), .pointer (some ⟨w.heap.size, 0, none⟩), .int .u64 150] 84)).alloc (.cells #[.pointer (some ⟨3, 60, none⟩), .pointer (some ⟨w.heap.size, 0, none⟩), .int .u64 150] 84)).alloc (.cells #[.pointer (some e)] 58)).setCell t (.pointer (some e)) := by
  have h6 := @run_callFunc_extern Tryd.prog 36 _ (fun args => ReflectliteValue.unpack (args.getD 0 (.tuple #[]))) Tryd.func36 (by kernel_rfl) (by kernel_rfl) (by kernel_rfl) (by kernel_rfl)
  have h7 := @run_callFunc_extern Tryd.prog 37 _ (ReflectliteValue.methodAny (ReflectliteValue.valueError "reflectlite.Value.Type" 0) (fun t _ _ _ => ReflectliteType.toType t)) Tryd.func37 (by kernel_rfl) (by kernel_rfl) (by kernel_rfl) (by kernel_rfl)
  have h8 := @run_callFunc_extern Tryd.prog 38 _ (ReflectliteValue.method (ReflectliteValue.valueError "reflectlite.Value.IsNil" 0) ReflectliteValue.isNil) Tryd.func38 (by kernel_rfl) (by kernel_rfl) (by kernel_rfl) (by kernel_rfl)
  have h27 := @run_callFunc_extern Tryd.prog 74 _ (ReflectliteType.abiMethod fun t => do pure (.int .u8 (← Rtype.kind t))) Tryd.func74 (by kernel_rfl) (by kernel_rfl) (by kernel_rfl) (by kernel_rfl)
  have h37 := @run_callFunc_extern Tryd.prog 87 _ (ReflectliteType.method ReflectliteType.elem) Tryd.func87 (by kernel_rfl) (by kernel_rfl) (by kernel_rfl) (by kernel_rfl)
  have h38 := @run_callFunc_extern Tryd.prog 88 _ (ReflectliteType.relation "Implements" ReflectliteType.implements_) Tryd.func88 (by kernel_rfl) (by kernel_rfl) (by kernel_rfl) (by kernel_rfl)
  have h10 := @run_callFunc_extern Tryd.prog 53 _ (ReflectliteType.typeOf) Tryd.func53 (by kernel_rfl) (by kernel_rfl) (by kernel_rfl) (by kernel_rfl)
  have h35 := @run_callFunc_extern Tryd.prog 85 _ (ReflectliteType.relation "AssignableTo" ReflectliteType.assignableTo) Tryd.func85 (by kernel_rfl) (by kernel_rfl) (by kernel_rfl) (by kernel_rfl)
  have h11 := @run_callFunc_extern Tryd.prog 54 _ (ReflectliteValue.method (ReflectliteValue.valueError "reflectlite.Value.Elem" 0) ReflectliteValue.elem) Tryd.func54 (by kernel_rfl) (by kernel_rfl) (by kernel_rfl) (by kernel_rfl)
  have h12 := @run_callFunc_extern Tryd.prog 55 _ (ReflectliteValue.set) Tryd.func55 (by kernel_rfl) (by kernel_rfl) (by kernel_rfl) (by kernel_rfl)
  have q0 := rf_typeE
  have q1 := rf_typeF
  have q2 := rf_mAss
  have q3 := rf_assE
  have q4 := rf_assF
  have q5 := rf_valueOfE
  have q6 := rf_valueOfP
  have q7 := rf_type
  have q8 := rf_mKind
  have q9 := rf_mElem
  have q10 := rf_mImpl
  have q11 := rf_mUnwrap
  have q12 := rf_kindP
  have q13 := rf_kindE
  have q14 := rf_elemP
  have q15 := rf_implE
  have q16 := rf_noAs
  have q17 := rf_hasU
  have n8 := rf_isNil ⟨w.heap.size, 0, none⟩ t ((w.alloc (.cells #[.pointer (some t)] 60)).alloc (.cells #[.pointer (some ⟨3, 60, none⟩), .pointer (some ⟨w.heap.size, 0, none⟩), .int .u64 150] 84)) (by simp)
  have lt_of : ∀ (p : Addr) (v : Value), w.cell? p = some v → p.block < w.heap.size := by
    intro p v hp
    rcases Nat.lt_or_ge p.block w.heap.size with h | h
    · exact h
    · simp [World.cell?, Array.getElem?_eq_none h] at hp
  have hlt : 2 < w.heap.size := lt_of _ _ hg
  have htl := lt_of _ _ ht0
  have hfl := lt_of _ _ hF
  have hg2 : ((w.alloc (.cells #[.pointer (some t)] 60)).alloc (.cells #[.pointer (some ⟨3, 60, none⟩), .pointer (some ⟨w.heap.size, 0, none⟩), .int .u64 150] 84)).cell? ⟨2, 0, none⟩ = some (.iface 106 (.agg #[.pointer (some ⟨3, 42, none⟩)])) := by
    rw [World.cell?_alloc_lt _ _ ⟨2, 0, none⟩ (by simp; omega), World.cell?_alloc_lt _ _ ⟨2, 0, none⟩ hlt]; exact hg
  have hF3 : (((w.alloc (.cells #[.pointer (some t)] 60)).alloc (.cells #[.pointer (some ⟨3, 60, none⟩), .pointer (some ⟨w.heap.size, 0, none⟩), .int .u64 150] 84)).alloc (.cells #[.pointer (some ⟨3, 60, none⟩), .pointer (some ⟨w.heap.size, 0, none⟩), .int .u64 150] 84)).cell? fl = some (.iface 58 (.pointer (some e))) := by
    rw [World.cell?_alloc_lt _ _ fl (by simp; omega), World.cell?_alloc_lt _ _ fl (by simp; omega), World.cell?_alloc_lt _ _ fl hfl]; exact hF
  have hF4 : (((w.alloc (.cells #[.pointer (some t)] 60)).alloc (.cells #[.pointer (some ⟨3, 60, none⟩), .pointer (some ⟨w.heap.size, 0, none⟩), .int .u64 150] 84)).alloc (.cells #[.pointer (some ⟨3, 60, none⟩), .pointer (some ⟨w.heap.size, 0, none⟩), .int .u64 150] 84)).cell? (fl.add 0) = some (.iface 58 (.pointer (some e))) := by simpa [Addr.add] using hF3
  have el := rf_elemV ⟨w.heap.size, 0, none⟩ t (((w.alloc (.cells #[.pointer (some t)] 60)).alloc (.cells #[.pointer (some ⟨3, 60, none⟩), .pointer (some ⟨w.heap.size, 0, none⟩), .int .u64 150] 84)).alloc (.cells #[.pointer (some ⟨3, 60, none⟩), .pointer (some ⟨w.heap.size, 0, none⟩), .int .u64 150] 84)) (by rw [World.cell?_alloc_lt _ _ ⟨w.heap.size, 0, none⟩ (by simp; omega)]; simp)
  have st := rf_set t ⟨w.heap.size + 1 + 1 + 1, 0, none⟩ e old ((((w.alloc (.cells #[.pointer (some t)] 60)).alloc (.cells #[.pointer (some ⟨3, 60, none⟩), .pointer (some ⟨w.heap.size, 0, none⟩), .int .u64 150] 84)).alloc (.cells #[.pointer (some ⟨3, 60, none⟩), .pointer (some ⟨w.heap.size, 0, none⟩), .int .u64 150] 84)).alloc (.cells #[.pointer (some e)] 58))
    (by rw [World.cell?_alloc_at _ _ _ _ (by simp)]; rfl)
    (by rw [World.cell?_alloc_lt _ _ t (by simp; omega), World.cell?_alloc_lt _ _ t (by simp; omega), World.cell?_alloc_lt _ _ t (by simp; omega), World.cell?_alloc_lt _ _ t htl]; exact ht0)
    (by rw [World.frozen?_alloc_old _ _ t (by simp; omega), World.frozen?_alloc_old _ _ t (by simp; omega), World.frozen?_alloc_old _ _ t (by simp; omega), World.frozen?_alloc_old _ _ t (Nat.ne_of_lt htl)]; exact hf0)
  obtain ⟨fb, fo, fs⟩ := fl
  simp only at hFl
  subst hFl
  clear lt_of
  go_enter Tryd.func22, Tryd.ntmps22
  go_wp2
  refine wp_loop_rounds 2 ?_
  rw [rounds_succ]
  go_wp2
  rw [rounds_succ]
  go_wp2
  go_ret
  exact ⟨rfl, rfl⟩
end Go.Proofs.YteopejjlhmghbaaDoor
namespace Go.Proofs.YteopejjlhmghbaaDoor
open Go Go.RowKit
set_option linter.unusedVariables false
def isIf : TypeDesc → Bool
  | .interface _ => true
  | _ => false
section
variable {P : Program} {T : List (Nat × Value)} {X : List Nat} {w0 : World} {L : List Chunk} {x y : Operand} {dst : Option Tmp} {ty t ty2 tx : TypeId} {pos : String} {af : Array Edge} {gu : Option (Nat × Bool)} {v : Value} {ds : TypeDesc} {ms : Array (String × TypeId)}
theorem q_mkI [hu : UT P t ds] (hx : ev T x = some v := by rfl) (hd : isIf ds = false := by rfl) : Qt P X w0 ⟨dst, .makeInterface t x, ty, pos, af, gu⟩ T L (.iface t v) := by
  refine ⟨?_⟩
  intro n a w hA hC hL
  cases ds <;> simp [isIf] at hd <;> simp [execOp, hA.eval hx, Instr.makeInterface, run_underlying hu.h]
theorem eqIface_in (hu : P.underlying t = some (.interface ms)) (tx : TypeId) (vx : Value) (w : World) : (Op.equal t (.iface tx vx) .nilIface).run P w = .ok false w := by
  have h : ∀ d : Nat, (Op.equalIn (d + 1) t (.iface tx vx) .nilIface).run P w = .ok false w := fun d => by simp [Op.equalIn, run_underlying hu]
  exact h 9999
theorem eqIface_nn (hu : P.underlying t = some (.interface ms)) (w : World) : (Op.equal t .nilIface .nilIface).run P w = .ok true w := by
  have h : ∀ d : Nat, (Op.equalIn (d + 1) t .nilIface .nilIface).run P w = .ok true w := fun d => by simp [Op.equalIn, run_underlying hu]
  exact h 9999
theorem q_neq_in [hu : UT P t (.interface ms)] (hx : ev T x = some (.iface tx v) := by rfl) : Qt P X w0 ⟨dst, .binOp .neq t x (.const .nilIface) ty2, ty, pos, af, gu⟩ T L (.bool true) :=
  q_bin_val hx (show ev T (.const .nilIface) = some .nilIface from rfl) (fun w => by simp [eqGuard]) fun w => by rw [show binOp .neq t (.iface tx v) .nilIface = (do pure (.bool (!(← Op.equal t (.iface tx v) .nilIface)))) from rfl]; simp only [Sem.run_bind, eqIface_in hu.h, Result.andThen_ok, Sem.run_pure, Bool.not_false]
theorem q_neq_nn [hu : UT P t (.interface ms)] (hx : ev T x = some .nilIface := by rfl) : Qt P X w0 ⟨dst, .binOp .neq t x (.const .nilIface) ty2, ty, pos, af, gu⟩ T L (.bool false) :=
  q_bin_val hx (show ev T (.const .nilIface) = some .nilIface from rfl) (fun w => by simp [eqGuard]) fun w => by rw [show binOp .neq t .nilIface .nilIface = (do pure (.bool (!(← Op.equal t .nilIface .nilIface)))) from rfl]; simp only [Sem.run_bind, eqIface_nn hu.h, Result.andThen_ok, Sem.run_pure, Bool.not_true]
end
end Go.Proofs.YteopejjlhmghbaaDoor
namespace Go.Proofs.YteopejjlhmghbaaDoor
open Go Go.RowKit
set_option linter.unusedVariables false
set_option linter.unusedSimpArgs false
structure Er (w : World) (u0 : TypeId) (v0 : Value) (u1 : TypeId) (v1 : Value) : Prop where
  e0 : Old w 0 0 [.iface u0 v0]
  e1 : Old w 1 0 [.iface u1 v1]
  e2 : w.cell? ⟨2, 0, none⟩ = some (.iface 106 (.agg #[.pointer (some ⟨3, 42, none⟩)]))
theorem Er.ch0 {w w' : World} {u0 u1 : TypeId} {v0 v1 : Value} (h : Er w u0 v0 u1 v1) (hC : Ch [] w w') : Er w' u0 v0 u1 v1 := ⟨h.e0.ch hC (by simp), h.e1.ch hC (by simp), hC.cell h.e2 (by simp)⟩
theorem as_c (fl e g : Nat) (old : Value) (w : World) {{u0 u1 : TypeId}} {{v0 v1 : Value}} (hE : Er w u0 v0 u1 v1) (hF : Old w fl 0 [.iface 58 (.pointer (some ⟨e, 0, none⟩))]) (hL : Has [.blk g (.cells #[old] 58 (0, 0))] w) :
    CA Tryd.prog 22 [.iface 55 (.pointer (some ⟨fl, 0, none⟩)), .iface 60 (.pointer (some ⟨g, 0, none⟩))] w (RU (.bool true) g (.cells #[.pointer (some ⟨e, 0, none⟩)] 58 (0, 0)) w) := by
  have hb := hL.ok _ (List.Mem.head _)
  simp only [Chunk.ok] at hb
  have hc := as_second ⟨fl, 0, none⟩ ⟨e, 0, none⟩ ⟨g, 0, none⟩ old w hE.e2 (hF.cell 0 _ rfl) rfl (by simp [World.cell?, hb]) (by simp [World.frozen?, hb])
  refine ⟨Calls.mono hc ?_⟩
  rintro ev w' ⟨rfl, rfl⟩
  have hC4 := ((((Ch.refl [] w).alloc (.cells #[.pointer (some ⟨g, 0, none⟩)] 60)).alloc (.cells #[.pointer (some ⟨3, 60, none⟩), .pointer (some ⟨w.heap.size, 0, none⟩), .int .u64 150] 84)).alloc (.cells #[.pointer (some ⟨3, 60, none⟩), .pointer (some ⟨w.heap.size, 0, none⟩), .int .u64 150] 84)).alloc (.cells #[.pointer (some ⟨e, 0, none⟩)] 58)
  have hlt := foot_lt (c := .blk g (.cells #[old] 58 (0, 0))) hb g (by simp [Chunk.foot])
  have hb4 := (hC4.block g hlt (by simp)).trans hb
  refine ⟨(), rfl, (hC4.mono (by simp)).setCell (.inl (by simp)) _, ⟨fun c hc => ?_, by simp [feet, Chunk.foot]⟩, fun g' hg => .inl (by simpa [feet, Chunk.foot] using hg), trivial⟩
  simp only [List.mem_singleton] at hc
  subst hc
  exact cellsOf_setCell (v := .pointer (some ⟨e, 0, none⟩)) (i := 0) hb4
set_option maxRecDepth 100000 in
set_option maxHeartbeats 4000000 in
theorem numberOf_c (fl e : Nat) (num : Int) (cz : Value) (w : World) {{u0 u1 : TypeId}} {{v0 v1 : Value}} (hE : Er w u0 v0 u1 v1) (hF : Old w fl 0 [.iface 58 (.pointer (some ⟨e, 0, none⟩))]) (hN : Old w e 0 [.int .i64 num, cz]) :
    CA Tryd.prog 14 [.iface 55 (.pointer (some ⟨fl, 0, none⟩))] w (RV (.int .i64 num) w) := by
  refine enter (L := []) (X := []) Tryd.func14 rfl Tryd.ntmps14 rfl rfl (Has.nil _) ?_
  repeat (first | refine c_seq ?_ | (refine c_region (id := 0) ?_; refine sq qa ?_; refine l_nil ?_) | (refine c_region (id := 1) ?_; refine se ?_; refine ea ?_; refine l_nil ?_) | (refine c_region (id := 2) ?_; refine sq qm ?_; refine sq q_mkI ?_; refine se ?_; refine e_call_upd rfl rfl (by kernel_rfl) rfl (fun w hC hm hL => by exact as_c fl e _ _ w (hE.ch0 hC) (hF.ch hC (by simp)) (hL.sub (by (repeat (first | exact List.nil_sublist _ | exact List.Sublist.slnil | apply List.Sublist.cons_cons | exact List.Sublist.refl _ | apply List.Sublist.cons))))) (by (repeat (first | exact Pl.here | apply Pl.there))) (by first | (left; simp; done) | (right; omega)) ?_; intro m' hm'; refine l_nil ?_) | (refine c_region (id := 3) ?_; refine sq (by exact ql (hr := Rd.blkn (by (repeat (first | exact List.Mem.head _ | apply List.Mem.tail))) (by rfl))) ?_; refine sq qn ?_; refine sq qf ?_; refine sq (by exact ql (hr := Rd.old0 hN (by simp))) ?_; refine sq qa ?_; refine l_nil ?_) | refine n_then ?_ | refine c_block ?_ | refine c_skip ?_ | refine n_block ?_ | refine c_exit ?_ | refine n_then_exit ?_ | refine n_block_eq ?_ | refine n_block_ne rfl ?_ | refine c_ret ?_ | refine n_then_ret ?_ | refine n_block_ret ?_ | refine c_cond_t rfl ?_ | refine c_cond_f rfl ?_ | refine r_succ ?_ )
  (first | apply r_ret () | apply r_end ()); exact rfl; exact rfl; exact (.tmp rfl .nil); exact rfl; exact (List.nil_sublist _); exact new_nil; exact trivial
theorem sl0 (a : Option Addr) (cap : Nat) : (if cap = (0 : Int).toNat then a else a.map (·.add ((0 : Int).toNat * 1))) = a := by
  split
  · rfl
  · cases a with
    | none => rfl
    | some p => simp [Addr.add]
set_option maxRecDepth 100000 in
set_option maxHeartbeats 4000000 in
theorem checked_short (kb nb : Nat → Int) (a1 : Option Addr) (l1 c1 : Nat) (xs : List Int) (hl1 : xs.length = l1) (hc1 : l1 ≤ c1) (hb1 : ∀ x ∈ xs, 0 ≤ x ∧ x ≤ 255) (hz1 : l1 ≤ 20000) (a2 : Option Addr) (l2 c2 : Nat) (hs16 : l1 < 16) (w : World) {{u0 u1 : TypeId}} {{v0 v1 : Value}} (hE : Er w u0 v0 u1 v1) :
    CA Tryd.prog 21 [.agg (keyA kb), .agg (nonA nb), .slice a1 l1 c1, .slice a2 l2 c2] w (Ret (fun e : Nat => .tuple #[.slice none 0 0, .iface 58 (.pointer (some ⟨e, 0, none⟩))]) [] (fun e => [.blk e (.cells #[.int .i64 2, .iface u0 v0] 62 (0, 0))]) (fun _ => True) w) := by
  have hO := hE.e0
  refine enter (L := []) (X := []) Tryd.func21 rfl Tryd.ntmps21 rfl rfl (Has.nil _) ?_
  repeat (first | refine c_seq ?_ | (refine c_region (id := 0) ?_; refine se ?_; refine eb ?_; refine se ?_; refine eb ?_; refine sq qa ?_; refine sq qa ?_; refine l_nil ?_) | (refine c_region (id := 1) ?_; refine sq qm ?_; refine sq qls ?_; refine sq (by first | exact dlsst | exact dlssf) ?_; refine l_nil ?_) | (refine x_region (id := 2) none [(0, .q), (1, .n), (4, .n), (2, .e), (3, .n), (5, .n)] _ mixed (by kernel_rfl) (List.Sublist.refl _) ?_; refine xq rfl ql ?_; refine xn rfl qbs ?_; refine xn rfl qa ?_; refine x_e rfl ?_; refine eb ?_; refine xk ?_; refine xn rfl q_mkI ?_; refine xn rfl qa ?_; refine x_nil ?_) | refine n_then ?_ | refine c_block ?_ | refine c_skip ?_ | refine n_block ?_ | refine c_exit ?_ | refine n_then_exit ?_ | refine n_block_eq ?_ | refine n_block_ne rfl ?_ | refine c_ret ?_ | refine n_then_ret ?_ | refine n_block_ret ?_ | refine c_cond_t rfl ?_ | refine c_cond_f rfl ?_ | refine r_succ ?_ )
  (first | apply r_ret (w.heap.size + 1 + 1) | apply r_end (w.heap.size + 1 + 1)); exact rfl; exact rfl; exact (.tmp rfl (.tmp rfl .nil)); exact rfl; exact (by exact (by (repeat (first | exact List.nil_sublist _ | exact List.Sublist.slnil | apply List.Sublist.cons_cons | exact List.Sublist.refl _ | apply List.Sublist.cons)))); exact (by intro g hg; simp [feet, Chunk.foot] at hg; exact .inr (by omega)); exact trivial
set_option maxRecDepth 100000 in
set_option maxHeartbeats 4000000 in
theorem checked_wrong (kb nb : Nat → Int) (hk : ∀ i, 0 ≤ kb i ∧ kb i ≤ 255) (hn : ∀ i, 0 ≤ nb i ∧ nb i ≤ 255) (a1 : Option Addr) (l1 c1 : Nat) (xs : List Int) (hl1 : xs.length = l1) (hc1 : l1 ≤ c1) (hb1 : ∀ x ∈ xs, 0 ≤ x ∧ x ≤ 255) (hz1 : l1 ≤ 20000) (a2 : Option Addr) (l2 c2 : Nat) (ys : List Int) (hl2 : ys.length = l2) (hc2 : l2 ≤ c2) (hb2 : ∀ x ∈ ys, 0 ≤ x ∧ x ≤ 255) (hz2 : l2 ≤ 20000) (w : World) (hs1 : SlE (Value.int .u8) w a1 xs) (hs2 : SlE (Value.int .u8) w a2 ys) {{u0 u1 : TypeId}} {{v0 v1 : Value}} (hE : Er w u0 v0 u1 v1) (hs16 : 16 ≤ l1) (hcmp : (macI kb nb ys (xs.take (l1 - 16)) == (xs.drop (l1 - 16))) = false) :
    CA Tryd.prog 21 [.agg (keyA kb), .agg (nonA nb), .slice a1 l1 c1, .slice a2 l2 c2] w (Ret (fun e : Nat => .tuple #[.slice none 0 0, .iface 58 (.pointer (some ⟨e, 0, none⟩))]) [] (fun e => [.blk e (.cells #[.int .i64 6, .iface u1 v1] 62 (0, 0))]) (fun _ => True) w) := by
  have hO := hE.e1
  obtain ⟨b9, hb9⟩ : ∃ b9, (if c1 = (((l1 - 16 : Nat) : Int)).toNat then a1 else a1.map (·.add ((((l1 - 16 : Nat) : Int)).toNat * 1))) = b9 := ⟨_, rfl⟩
  have hp9 : SlE (Value.int .u8) w b9 (xs.drop (l1 - 16)) := by
    have h9 := hs1.part (l1 - 16) l1 c1 (by omega) (by omega) (by omega)
    rw [← hb9, Int.toNat_natCast]
    rwa [List.take_of_length_le (by simp; omega)] at h9
  have hp8 : SlE (Value.int .u8) w a1 (xs.take (l1 - 16)) := by
    have h9 := hs1.part 0 (l1 - 16) c1 (by omega) (by omega) (by omega)
    have h8 := sl0 a1 c1
    rw [show (0 : Int).toNat = 0 from rfl] at h8
    rw [h8] at h9
    simpa using h9
  refine enter (L := []) (X := []) Tryd.func21 rfl Tryd.ntmps21 rfl rfl (Has.nil _) ?_
  repeat (first | refine c_seq ?_ | (refine c_region (id := 0) ?_; refine se ?_; refine eb ?_; refine se ?_; refine eb ?_; refine sq qa ?_; refine sq qa ?_; refine l_nil ?_) | (refine c_region (id := 1) ?_; refine sq qm ?_; refine sq qls ?_; refine sq (by first | exact dlsst | exact dlssf) ?_; refine l_nil ?_) | (refine x_region (id := 3) none [(0, .n), (1, .n), (2, .n), (3, .n), (4, .n), (5, .n), (6, .n), (7, .n), (8, .n), (9, .n), (10, .n), (11, .n)] _ mixed (by kernel_rfl) (List.Sublist.refl _) ?_; refine xn rfl qm ?_; refine xn rfl qm ?_; refine xn rfl qls ?_; refine xn rfl (by exact Qt.cast (v' := .int .i64 ((l1 - 16 : Nat) : Int)) (congrArg (Value.int .i64) (by omega)) (q_sub64 rfl rfl ⟨by omega, by omega⟩ rfl)) ?_; refine xn rfl (by exact q_slice (b' := a1) (len' := l1 - 16) (cap' := c1) rfl rfl rfl (by omega) (by omega) (by omega) (by omega) (sl0 a1 c1) (by omega) (by omega)) ?_; refine xn rfl qm ?_; refine xn rfl qm ?_; refine xn rfl qls ?_; refine xn rfl (by exact Qt.cast (v' := .int .i64 ((l1 - 16 : Nat) : Int)) (congrArg (Value.int .i64) (by omega)) (q_sub64 rfl rfl ⟨by omega, by omega⟩ rfl)) ?_; refine xn rfl (by exact q_slice (b' := b9) (len' := 16) (cap' := c1 - (l1 - 16)) rfl rfl rfl (by omega) (by omega) (by omega) (by omega) hb9 (by omega) (by omega)) ?_; refine xn rfl qa ?_; refine xn rfl qa ?_; refine x_nil ?_) | (refine c_region (id := 4) ?_; refine sq (by first | exact qlb | exact qlr) ?_; refine sq (by first | exact qlb | exact qlr) ?_; refine sq qm ?_; refine sq qm ?_; refine se ?_; refine ecp rfl rfl (fun w hC hm hL => by exact codeOf_c kb nb hk hn a1 (l1 - 16) c1 (xs.take (l1 - 16)) (by simp; omega) (by omega) (fun x hx => hb1 x (List.mem_of_mem_take hx)) (by omega) a2 l2 c2 ys hl2 hc2 hb2 hz2 w (hp8.ch0 hC) (hs2.ch0 hC)) ?_; intro m' hm'; refine se ?_; refine ea ?_; refine se ?_; refine esa ?_; refine l_nil ?_) | (refine c_region (id := 5) ?_; refine sq qsa ?_; refine sq qm ?_; refine se ?_; refine ecp rfl rfl (fun w hC hm hL => by have h9 := equal_c _ b9 16 16 16 (c1 - (l1 - 16)) (macI kb nb ys (xs.take (l1 - 16))) (xs.drop (l1 - 16)) (macI_bd _ _ _ _) (fun x hx => hb1 x (List.mem_of_mem_drop hx)) (by omega) w (SlE.slB' (SlE.blk hL (by (repeat (first | exact List.Mem.head _ | apply List.Mem.tail))) 0 16 (by rw [List.drop_zero]; exact List.take_of_length_le (by simp [macI_len]))) (macI_len _ _ _ _)) (SlE.slB' (hp9.ch0 hC) (by simp; omega)); rw [hcmp] at h9; exact h9) ?_; intro m' hm'; refine sq qnt ?_; refine l_nil ?_) | (refine x_region (id := 6) none [(0, .q), (1, .n), (4, .n), (2, .e), (3, .n), (5, .n)] _ mixed (by kernel_rfl) (List.Sublist.refl _) ?_; refine xq rfl ql ?_; refine xn rfl qbs ?_; refine xn rfl qa ?_; refine x_e rfl ?_; refine eb ?_; refine xk ?_; refine xn rfl q_mkI ?_; refine xn rfl qa ?_; refine x_nil ?_) | refine n_then ?_ | refine c_block ?_ | refine c_skip ?_ | refine n_block ?_ | refine c_exit ?_ | refine n_then_exit ?_ | refine n_block_eq ?_ | refine n_block_ne rfl ?_ | refine c_ret ?_ | refine n_then_ret ?_ | refine n_block_ret ?_ | refine c_cond_t rfl ?_ | refine c_cond_f rfl ?_ | refine r_succ ?_ )
  (first | apply r_ret m' | apply r_end m'); exact rfl; exact rfl; exact (.tmp rfl (.tmp rfl .nil)); exact rfl; exact (by exact (by (repeat (first | exact List.nil_sublist _ | exact List.Sublist.slnil | apply List.Sublist.cons_cons | exact List.Sublist.refl _ | apply List.Sublist.cons)))); exact (by intro g hg; simp [feet, Chunk.foot] at hg; exact .inr (by omega)); exact trivial
set_option maxRecDepth 100000 in
set_option maxHeartbeats 4000000 in
theorem checked_ok (kb nb : Nat → Int) (hk : ∀ i, 0 ≤ kb i ∧ kb i ≤ 255) (hn : ∀ i, 0 ≤ nb i ∧ nb i ≤ 255) (a1 : Option Addr) (l1 c1 : Nat) (xs : List Int) (hl1 : xs.length = l1) (hc1 : l1 ≤ c1) (hb1 : ∀ x ∈ xs, 0 ≤ x ∧ x ≤ 255) (hz1 : l1 ≤ 20000) (a2 : Option Addr) (l2 c2 : Nat) (ys : List Int) (hl2 : ys.length = l2) (hc2 : l2 ≤ c2) (hb2 : ∀ x ∈ ys, 0 ≤ x ∧ x ≤ 255) (hz2 : l2 ≤ 20000) (w : World) (hs1 : SlE (Value.int .u8) w a1 xs) (hs2 : SlE (Value.int .u8) w a2 ys) (hs16 : 16 ≤ l1) (hcmp : (macI kb nb ys (xs.take (l1 - 16)) == (xs.drop (l1 - 16))) = true) :
    CA Tryd.prog 21 [.agg (keyA kb), .agg (nonA nb), .slice a1 l1 c1, .slice a2 l2 c2] w (RV (.tuple #[.slice a1 (l1 - 16) c1, .nilIface]) w) := by
  obtain ⟨b9, hb9⟩ : ∃ b9, (if c1 = (((l1 - 16 : Nat) : Int)).toNat then a1 else a1.map (·.add ((((l1 - 16 : Nat) : Int)).toNat * 1))) = b9 := ⟨_, rfl⟩
  have hp9 : SlE (Value.int .u8) w b9 (xs.drop (l1 - 16)) := by
    have h9 := hs1.part (l1 - 16) l1 c1 (by omega) (by omega) (by omega)
    rw [← hb9, Int.toNat_natCast]
    rwa [List.take_of_length_le (by simp; omega)] at h9
  have hp8 : SlE (Value.int .u8) w a1 (xs.take (l1 - 16)) := by
    have h9 := hs1.part 0 (l1 - 16) c1 (by omega) (by omega) (by omega)
    have h8 := sl0 a1 c1
    rw [show (0 : Int).toNat = 0 from rfl] at h8
    rw [h8] at h9
    simpa using h9
  refine enter (L := []) (X := []) Tryd.func21 rfl Tryd.ntmps21 rfl rfl (Has.nil _) ?_
  repeat (first | refine c_seq ?_ | (refine c_region (id := 0) ?_; refine se ?_; refine eb ?_; refine se ?_; refine eb ?_; refine sq qa ?_; refine sq qa ?_; refine l_nil ?_) | (refine c_region (id := 1) ?_; refine sq qm ?_; refine sq qls ?_; refine sq (by first | exact dlsst | exact dlssf) ?_; refine l_nil ?_) | (refine x_region (id := 3) none [(0, .n), (1, .n), (2, .n), (3, .n), (4, .n), (5, .n), (6, .n), (7, .n), (8, .n), (9, .n), (10, .n), (11, .n)] _ mixed (by kernel_rfl) (List.Sublist.refl _) ?_; refine xn rfl qm ?_; refine xn rfl qm ?_; refine xn rfl qls ?_; refine xn rfl (by exact Qt.cast (v' := .int .i64 ((l1 - 16 : Nat) : Int)) (congrArg (Value.int .i64) (by omega)) (q_sub64 rfl rfl ⟨by omega, by omega⟩ rfl)) ?_; refine xn rfl (by exact q_slice (b' := a1) (len' := l1 - 16) (cap' := c1) rfl rfl rfl (by omega) (by omega) (by omega) (by omega) (sl0 a1 c1) (by omega) (by omega)) ?_; refine xn rfl qm ?_; refine xn rfl qm ?_; refine xn rfl qls ?_; refine xn rfl (by exact Qt.cast (v' := .int .i64 ((l1 - 16 : Nat) : Int)) (congrArg (Value.int .i64) (by omega)) (q_sub64 rfl rfl ⟨by omega, by omega⟩ rfl)) ?_; refine xn rfl (by exact q_slice (b' := b9) (len' := 16) (cap' := c1 - (l1 - 16)) rfl rfl rfl (by omega) (by omega) (by omega) (by omega) hb9 (by omega) (by omega)) ?_; refine xn rfl qa ?_; refine xn rfl qa ?_; refine x_nil ?_) | (refine c_region (id := 4) ?_; refine sq (by first | exact qlb | exact qlr) ?_; refine sq (by first | exact qlb | exact qlr) ?_; refine sq qm ?_; refine sq qm ?_; refine se ?_; refine ecp rfl rfl (fun w hC hm hL => by exact codeOf_c kb nb hk hn a1 (l1 - 16) c1 (xs.take (l1 - 16)) (by simp; omega) (by omega) (fun x hx => hb1 x (List.mem_of_mem_take hx)) (by omega) a2 l2 c2 ys hl2 hc2 hb2 hz2 w (hp8.ch0 hC) (hs2.ch0 hC)) ?_; intro m' hm'; refine se ?_; refine ea ?_; refine se ?_; refine esa ?_; refine l_nil ?_) | (refine c_region (id := 5) ?_; refine sq qsa ?_; refine sq qm ?_; refine se ?_; refine ecp rfl rfl (fun w hC hm hL => by have h9 := equal_c _ b9 16 16 16 (c1 - (l1 - 16)) (macI kb nb ys (xs.take (l1 - 16))) (xs.drop (l1 - 16)) (macI_bd _ _ _ _) (fun x hx => hb1 x (List.mem_of_mem_drop hx)) (by omega) w (SlE.slB' (SlE.blk hL (by (repeat (first | exact List.Mem.head _ | apply List.Mem.tail))) 0 16 (by rw [List.drop_zero]; exact List.take_of_length_le (by simp [macI_len]))) (macI_len _ _ _ _)) (SlE.slB' (hp9.ch0 hC) (by simp; omega)); rw [hcmp] at h9; exact h9) ?_; intro m' hm'; refine sq qnt ?_; refine l_nil ?_) | (refine c_region (id := 7) ?_; refine sq qm ?_; refine sq qa ?_; refine sq qa ?_; refine l_nil ?_) | refine n_then ?_ | refine c_block ?_ | refine c_skip ?_ | refine n_block ?_ | refine c_exit ?_ | refine n_then_exit ?_ | refine n_block_eq ?_ | refine n_block_ne rfl ?_ | refine c_ret ?_ | refine n_then_ret ?_ | refine n_block_ret ?_ | refine c_cond_t rfl ?_ | refine c_cond_f rfl ?_ | refine r_succ ?_ )
  (first | apply r_ret () | apply r_end ()); exact rfl; exact rfl; exact (.tmp rfl (.tmp rfl .nil)); exact rfl; exact (List.nil_sublist _); exact new_nil; exact trivial
set_option maxRecDepth 100000 in
set_option maxHeartbeats 4000000 in
theorem openi_short (kb nb : Nat → Int) (a1 : Option Addr) (l1 c1 : Nat) (xs : List Int) (hl1 : xs.length = l1) (hc1 : l1 ≤ c1) (hb1 : ∀ x ∈ xs, 0 ≤ x ∧ x ≤ 255) (hz1 : l1 ≤ 20000) (a2 : Option Addr) (l2 c2 : Nat) (hs16 : l1 < 16) (w : World) {u0 u1 : TypeId} {v0 v1 : Value} (hE : Er w u0 v0 u1 v1) :
    CA Tryd.prog 13 [.agg (keyA kb), .agg (nonA nb), .slice a1 l1 c1, .slice a2 l2 c2] w (Ret (fun z : Nat × Nat => .tuple #[.slice none 0 0, .iface 55 (.pointer (some ⟨z.1, 0, none⟩))]) [] (fun z => [.blk z.1 (.cells #[.iface 58 (.pointer (some ⟨z.2, 0, none⟩))] 57 (0, 0)), .blk z.2 (.cells #[.int .i64 2, .iface u0 v0] 62 (0, 0))]) (fun _ => True) w) := by
  refine enter (L := []) (X := []) Tryd.func13 rfl Tryd.ntmps13 rfl rfl (Has.nil _) ?_
  repeat (first | refine c_seq ?_ | (refine c_region (id := 0) ?_; refine se ?_; refine eb ?_; refine se ?_; refine eb ?_; refine sq qa ?_; refine sq qa ?_; refine l_nil ?_) | (refine c_region (id := 1) ?_; refine sq (by first | exact qlb | exact qlr) ?_; refine sq (by first | exact qlb | exact qlr) ?_; refine sq qm ?_; refine sq qm ?_; refine se ?_; refine ecl rfl rfl (fun w hC hm hL => checked_short kb nb a1 l1 c1 xs hl1 hc1 hb1 hz1 a2 l2 c2 hs16 w (hE.ch0 hC)) ?_; intro e1 m1 _ hn1 hm1; refine sq qm ?_; refine sq qe ?_; refine sq qe ?_; refine sq qa ?_; refine sq qa ?_; refine l_nil ?_) | (refine c_region (id := 2) ?_; refine sq qm ?_; refine sq q_neq_in ?_; refine l_nil ?_) | (refine c_region (id := 3) ?_; refine sq qm ?_; refine sq qbs ?_; refine se ?_; refine eb ?_; refine sq q_mkI ?_; refine sq qa ?_; refine sq qa ?_; refine l_nil ?_) | refine n_then ?_ | refine c_block ?_ | refine c_skip ?_ | refine n_block ?_ | refine c_exit ?_ | refine n_then_exit ?_ | refine n_block_eq ?_ | refine n_block_ne rfl ?_ | refine c_ret ?_ | refine n_then_ret ?_ | refine n_block_ret ?_ | refine c_cond_t rfl ?_ | refine c_cond_f rfl ?_ | refine r_succ ?_ )
  have he1 := hn1 e1 (by simp [feet, Chunk.foot])
  (first | apply r_ret (m1, e1) | apply r_end (m1, e1)); exact rfl; exact rfl; exact (.tmp rfl (.tmp rfl .nil)); exact rfl; exact (by exact (by (repeat (first | exact List.nil_sublist _ | exact List.Sublist.slnil | apply List.Sublist.cons_cons | exact List.Sublist.refl _ | apply List.Sublist.cons)))); exact (by intro g hg; simp [feet, Chunk.foot] at hg; rcases hg with hg | hg <;> exact .inr (by omega)); exact trivial
set_option maxRecDepth 100000 in
set_option maxHeartbeats 4000000 in
theorem openi_wrong (kb nb : Nat → Int) (hk : ∀ i, 0 ≤ kb i ∧ kb i ≤ 255) (hn : ∀ i, 0 ≤ nb i ∧ nb i ≤ 255) (a1 : Option Addr) (l1 c1 : Nat) (xs : List Int) (hl1 : xs.length = l1) (hc1 : l1 ≤ c1) (hb1 : ∀ x ∈ xs, 0 ≤ x ∧ x ≤ 255) (hz1 : l1 ≤ 20000) (a2 : Option Addr) (l2 c2 : Nat) (ys : List Int) (hl2 : ys.length = l2) (hc2 : l2 ≤ c2) (hb2 : ∀ x ∈ ys, 0 ≤ x ∧ x ≤ 255) (hz2 : l2 ≤ 20000) (w : World) (hs1 : SlE (Value.int .u8) w a1 xs) (hs2 : SlE (Value.int .u8) w a2 ys) {u0 u1 : TypeId} {v0 v1 : Value} (hE : Er w u0 v0 u1 v1) (hs16 : 16 ≤ l1) (hcmp : (macI kb nb ys (xs.take (l1 - 16)) == (xs.drop (l1 - 16))) = false) :
    CA Tryd.prog 13 [.agg (keyA kb), .agg (nonA nb), .slice a1 l1 c1, .slice a2 l2 c2] w (Ret (fun z : Nat × Nat => .tuple #[.slice none 0 0, .iface 55 (.pointer (some ⟨z.1, 0, none⟩))]) [] (fun z => [.blk z.1 (.cells #[.iface 58 (.pointer (some ⟨z.2, 0, none⟩))] 57 (0, 0)), .blk z.2 (.cells #[.int .i64 6, .iface u1 v1] 62 (0, 0))]) (fun _ => True) w) := by
  refine enter (L := []) (X := []) Tryd.func13 rfl Tryd.ntmps13 rfl rfl (Has.nil _) ?_
  repeat (first | refine c_seq ?_ | (refine c_region (id := 0) ?_; refine se ?_; refine eb ?_; refine se ?_; refine eb ?_; refine sq qa ?_; refine sq qa ?_; refine l_nil ?_) | (refine c_region (id := 1) ?_; refine sq (by first | exact qlb | exact qlr) ?_; refine sq (by first | exact qlb | exact qlr) ?_; refine sq qm ?_; refine sq qm ?_; refine se ?_; refine ecl rfl rfl (fun w hC hm hL => checked_wrong kb nb hk hn a1 l1 c1 xs hl1 hc1 hb1 hz1 a2 l2 c2 ys hl2 hc2 hb2 hz2 w (hs1.ch0 hC) (hs2.ch0 hC) (hE.ch0 hC) hs16 hcmp) ?_; intro e1 m1 _ hn1 hm1; refine sq qm ?_; refine sq qe ?_; refine sq qe ?_; refine sq qa ?_; refine sq qa ?_; refine l_nil ?_) | (refine c_region (id := 2) ?_; refine sq qm ?_; refine sq q_neq_in ?_; refine l_nil ?_) | (refine c_region (id := 3) ?_; refine sq qm ?_; refine sq qbs ?_; refine se ?_; refine eb ?_; refine sq q_mkI ?_; refine sq qa ?_; refine sq qa ?_; refine l_nil ?_) | refine n_then ?_ | refine c_block ?_ | refine c_skip ?_ | refine n_block ?_ | refine c_exit ?_ | refine n_then_exit ?_ | refine n_block_eq ?_ | refine n_block_ne rfl ?_ | refine c_ret ?_ | refine n_then_ret ?_ | refine n_block_ret ?_ | refine c_cond_t rfl ?_ | refine c_cond_f rfl ?_ | refine r_succ ?_ )
  have he1 := hn1 e1 (by simp [feet, Chunk.foot])
  (first | apply r_ret (m1, e1) | apply r_end (m1, e1)); exact rfl; exact rfl; exact (.tmp rfl (.tmp rfl .nil)); exact rfl; exact (by exact (by (repeat (first | exact List.nil_sublist _ | exact List.Sublist.slnil | apply List.Sublist.cons_cons | exact List.Sublist.refl _ | apply List.Sublist.cons)))); exact (by intro g hg; simp [feet, Chunk.foot] at hg; rcases hg with hg | hg <;> exact .inr (by omega)); exact trivial
set_option maxRecDepth 100000 in
set_option maxHeartbeats 4000000 in
theorem open_short (kb nb : Nat → Int) (a1 : Option Addr) (l1 c1 : Nat) (xs : List Int) (hl1 : xs.length = l1) (hc1 : l1 ≤ c1) (hb1 : ∀ x ∈ xs, 0 ≤ x ∧ x ≤ 255) (hz1 : l1 ≤ 20000) (a2 : Option Addr) (l2 c2 : Nat) (hs16 : l1 < 16) (w : World) {{u0 u1 : TypeId}} {{v0 v1 : Value}} (hE : Er w u0 v0 u1 v1) :
    CA Tryd.prog 9 [.agg (keyA kb), .agg (nonA nb), .slice a1 l1 c1, .slice a2 l2 c2] w (RV (.tuple #[.slice none 0 0, .int .i64 2]) w) := by
  refine enter (L := []) (X := []) Tryd.func9 rfl Tryd.ntmps9 rfl rfl (Has.nil _) ?_
  repeat (first | refine c_seq ?_ | (refine c_region (id := 0) ?_; refine se ?_; refine eb ?_; refine se ?_; refine eb ?_; refine sq qa ?_; refine sq qa ?_; refine l_nil ?_) | (refine c_region (id := 1) ?_; refine sq (by first | exact qlb | exact qlr) ?_; refine sq (by first | exact qlb | exact qlr) ?_; refine sq qm ?_; refine sq qm ?_; refine se ?_; refine ecl rfl rfl (fun w hC hm hL => openi_short kb nb a1 l1 c1 xs hl1 hc1 hb1 hz1 a2 l2 c2 hs16 w (hE.ch0 hC)) ?_; rintro ⟨f1, e1⟩ m1 _ hn1 hm1; dsimp only at hn1 ⊢; refine sq qm ?_; refine sq qe ?_; refine sq qe ?_; refine sq qa ?_; refine sq qa ?_; refine l_nil ?_) | (refine c_region (id := 2) ?_; refine sq qm ?_; refine sq q_neq_in ?_; refine l_nil ?_) | (refine c_region (id := 3) ?_; refine sq qm ?_; refine se ?_; refine ecp rfl rfl (fun w hC hm hL => by exact numberOf_c f1 e1 2 (.iface u0 v0) w (hE.ch0 hC) (hL.old (k := 1) (by (repeat (first | exact List.Mem.head _ | apply List.Mem.tail))) (by rfl)) (hL.old (k := 2) (by (repeat (first | exact List.Mem.head _ | apply List.Mem.tail))) (by rfl))) ?_; intro m' hm'; refine sq qa ?_; refine sq qa ?_; refine l_nil ?_) | refine n_then ?_ | refine c_block ?_ | refine c_skip ?_ | refine n_block ?_ | refine c_exit ?_ | refine n_then_exit ?_ | refine n_block_eq ?_ | refine n_block_ne rfl ?_ | refine c_ret ?_ | refine n_then_ret ?_ | refine n_block_ret ?_ | refine c_cond_t rfl ?_ | refine c_cond_f rfl ?_ | refine r_succ ?_ )
  (first | apply r_ret () | apply r_end ()); exact rfl; exact rfl; exact (.tmp rfl (.tmp rfl .nil)); exact rfl; exact (List.nil_sublist _); exact new_nil; exact trivial
set_option maxRecDepth 100000 in
set_option maxHeartbeats 4000000 in
theorem open_wrong (kb nb : Nat → Int) (hk : ∀ i, 0 ≤ kb i ∧ kb i ≤ 255) (hn : ∀ i, 0 ≤ nb i ∧ nb i ≤ 255) (a1 : Option Addr) (l1 c1 : Nat) (xs : List Int) (hl1 : xs.length = l1) (hc1 : l1 ≤ c1) (hb1 : ∀ x ∈ xs, 0 ≤ x ∧ x ≤ 255) (hz1 : l1 ≤ 20000) (a2 : Option Addr) (l2 c2 : Nat) (ys : List Int) (hl2 : ys.length = l2) (hc2 : l2 ≤ c2) (hb2 : ∀ x ∈ ys, 0 ≤ x ∧ x ≤ 255) (hz2 : l2 ≤ 20000) (w : World) (hs1 : SlE (Value.int .u8) w a1 xs) (hs2 : SlE (Value.int .u8) w a2 ys) {{u0 u1 : TypeId}} {{v0 v1 : Value}} (hE : Er w u0 v0 u1 v1) (hs16 : 16 ≤ l1) (hcmp : (macI kb nb ys (xs.take (l1 - 16)) == (xs.drop (l1 - 16))) = false) :
    CA Tryd.prog 9 [.agg (keyA kb), .agg (nonA nb), .slice a1 l1 c1, .slice a2 l2 c2] w (RV (.tuple #[.slice none 0 0, .int .i64 6]) w) := by
  refine enter (L := []) (X := []) Tryd.func9 rfl Tryd.ntmps9 rfl rfl (Has.nil _) ?_
  repeat (first | refine c_seq ?_ | (refine c_region (id := 0) ?_; refine se ?_; refine eb ?_; refine se ?_; refine eb ?_; refine sq qa ?_; refine sq qa ?_; refine l_nil ?_) | (refine c_region (id := 1) ?_; refine sq (by first | exact qlb | exact qlr) ?_; refine sq (by first | exact qlb | exact qlr) ?_; refine sq qm ?_; refine sq qm ?_; refine se ?_; refine ecl rfl rfl (fun w hC hm hL => openi_wrong kb nb hk hn a1 l1 c1 xs hl1 hc1 hb1 hz1 a2 l2 c2 ys hl2 hc2 hb2 hz2 w (hs1.ch0 hC) (hs2.ch0 hC) (hE.ch0 hC) hs16 hcmp) ?_; rintro ⟨f1, e1⟩ m1 _ hn1 hm1; dsimp only at hn1 ⊢; refine sq qm ?_; refine sq qe ?_; refine sq qe ?_; refine sq qa ?_; refine sq qa ?_; refine l_nil ?_) | (refine c_region (id := 2) ?_; refine sq qm ?_; refine sq q_neq_in ?_; refine l_nil ?_) | (refine c_region (id := 3) ?_; refine sq qm ?_; refine se ?_; refine ecp rfl rfl (fun w hC hm hL => by exact numberOf_c f1 e1 6 (.iface u1 v1) w (hE.ch0 hC) (hL.old (k := 1) (by (repeat (first | exact List.Mem.head _ | apply List.Mem.tail))) (by rfl)) (hL.old (k := 2) (by (repeat (first | exact List.Mem.head _ | apply List.Mem.tail))) (by rfl))) ?_; intro m' hm'; refine sq qa ?_; refine sq qa ?_; refine l_nil ?_) | refine n_then ?_ | refine c_block ?_ | refine c_skip ?_ | refine n_block ?_ | refine c_exit ?_ | refine n_then_exit ?_ | refine n_block_eq ?_ | refine n_block_ne rfl ?_ | refine c_ret ?_ | refine n_then_ret ?_ | refine n_block_ret ?_ | refine c_cond_t rfl ?_ | refine c_cond_f rfl ?_ | refine r_succ ?_ )
  (first | apply r_ret () | apply r_end ()); exact rfl; exact rfl; exact (.tmp rfl (.tmp rfl .nil)); exact rfl; exact (List.nil_sublist _); exact new_nil; exact trivial
set_option maxRecDepth 100000 in
set_option maxHeartbeats 4000000 in
theorem openi_ok (kb nb : Nat → Int) (hk : ∀ i, 0 ≤ kb i ∧ kb i ≤ 255) (hn : ∀ i, 0 ≤ nb i ∧ nb i ≤ 255) (a1 : Option Addr) (l1 c1 : Nat) (xs : List Int) (hl1 : xs.length = l1) (hc1 : l1 ≤ c1) (hb1 : ∀ x ∈ xs, 0 ≤ x ∧ x ≤ 255) (hz1 : l1 ≤ 20000) (a2 : Option Addr) (l2 c2 : Nat) (ys : List Int) (hl2 : ys.length = l2) (hc2 : l2 ≤ c2) (hb2 : ∀ x ∈ ys, 0 ≤ x ∧ x ≤ 255) (hz2 : l2 ≤ 20000) (w : World) (hs1 : SlE (Value.int .u8) w a1 xs) (hs2 : SlE (Value.int .u8) w a2 ys) (hs16 : 16 ≤ l1) (hcmp : (macI kb nb ys (xs.take (l1 - 16)) == (xs.drop (l1 - 16))) = true) :
    CA Tryd.prog 13 [.agg (keyA kb), .agg (nonA nb), .slice a1 l1 c1, .slice a2 l2 c2] w (Ret (fun g : Nat => .tuple #[.slice (some ⟨g, 0, none⟩) (l1 - 16) (l1 - 16), .nilIface]) [] (fun g => [.sl (some ⟨g, 0, none⟩) (l1 - 16) 5 1 ((tur kb nb (xs.take (l1 - 16))).map (Value.int .u8))]) (fun _ => True) w) := by
  obtain ⟨b9, hb9⟩ : ∃ b9, (if c1 = (((l1 - 16 : Nat) : Int)).toNat then a1 else a1.map (·.add ((((l1 - 16 : Nat) : Int)).toNat * 1))) = b9 := ⟨_, rfl⟩
  have hp9 : SlE (Value.int .u8) w b9 (xs.drop (l1 - 16)) := by
    have h9 := hs1.part (l1 - 16) l1 c1 (by omega) (by omega) (by omega)
    rw [← hb9, Int.toNat_natCast]
    rwa [List.take_of_length_le (by simp; omega)] at h9
  have hp8 : SlE (Value.int .u8) w a1 (xs.take (l1 - 16)) := by
    have h9 := hs1.part 0 (l1 - 16) c1 (by omega) (by omega) (by omega)
    have h8 := sl0 a1 c1
    rw [show (0 : Int).toNat = 0 from rfl] at h8
    rw [h8] at h9
    simpa using h9
  refine enter (L := []) (X := []) Tryd.func13 rfl Tryd.ntmps13 rfl rfl (Has.nil _) ?_
  repeat (first | refine c_seq ?_ | (refine c_region (id := 0) ?_; refine se ?_; refine eb ?_; refine se ?_; refine eb ?_; refine sq qa ?_; refine sq qa ?_; refine l_nil ?_) | (refine c_region (id := 1) ?_; refine sq (by first | exact qlb | exact qlr) ?_; refine sq (by first | exact qlb | exact qlr) ?_; refine sq qm ?_; refine sq qm ?_; refine se ?_; refine ecp rfl rfl (fun w hC hm hL => checked_ok kb nb hk hn a1 l1 c1 xs hl1 hc1 hb1 hz1 a2 l2 c2 ys hl2 hc2 hb2 hz2 w (hs1.ch0 hC) (hs2.ch0 hC) hs16 hcmp) ?_; intro m' hm'; refine sq qm ?_; refine sq qe ?_; refine sq qe ?_; refine sq qa ?_; refine sq qa ?_; refine l_nil ?_) | (refine c_region (id := 2) ?_; refine sq qm ?_; refine sq q_neq_nn ?_; refine l_nil ?_) | (refine c_region (id := 4) ?_; refine sq (by first | exact qlb | exact qlr) ?_; refine sq (by first | exact qlb | exact qlr) ?_; refine sq qm ?_; refine se ?_; refine ecl rfl rfl (fun w hC hm hL => by exact xorI_c kb nb hk hn a1 (l1 - 16) c1 (xs.take (l1 - 16)) (by omega) (by omega) (by simp; omega) w (hp8.ch0 hC)) ?_; intro g1 m1 _ hn1 hm1; refine sq qa ?_; refine sq qa ?_; refine l_nil ?_) | refine n_then ?_ | refine c_block ?_ | refine c_skip ?_ | refine n_block ?_ | refine c_exit ?_ | refine n_then_exit ?_ | refine n_block_eq ?_ | refine n_block_ne rfl ?_ | refine c_ret ?_ | refine n_then_ret ?_ | refine n_block_ret ?_ | refine c_cond_t rfl ?_ | refine c_cond_f rfl ?_ | refine r_succ ?_ )
  (first | apply r_ret g1 | apply r_end g1); exact rfl; exact rfl; exact (.tmp rfl (.tmp rfl .nil)); exact rfl; exact (by exact (by (repeat (first | exact List.nil_sublist _ | exact List.Sublist.slnil | apply List.Sublist.cons_cons | exact List.Sublist.refl _ | apply List.Sublist.cons)))); exact (by intro g hg; have := hn1 g hg; exact .inr (by omega)); exact trivial
set_option maxRecDepth 100000 in
set_option maxHeartbeats 4000000 in
theorem open_ok (kb nb : Nat → Int) (hk : ∀ i, 0 ≤ kb i ∧ kb i ≤ 255) (hn : ∀ i, 0 ≤ nb i ∧ nb i ≤ 255) (a1 : Option Addr) (l1 c1 : Nat) (xs : List Int) (hl1 : xs.length = l1) (hc1 : l1 ≤ c1) (hb1 : ∀ x ∈ xs, 0 ≤ x ∧ x ≤ 255) (hz1 : l1 ≤ 20000) (a2 : Option Addr) (l2 c2 : Nat) (ys : List Int) (hl2 : ys.length = l2) (hc2 : l2 ≤ c2) (hb2 : ∀ x ∈ ys, 0 ≤ x ∧ x ≤ 255) (hz2 : l2 ≤ 20000) (w : World) (hs1 : SlE (Value.int .u8) w a1 xs) (hs2 : SlE (Value.int .u8) w a2 ys) (hs16 : 16 ≤ l1) (hcmp : (macI kb nb ys (xs.take (l1 - 16)) == (xs.drop (l1 - 16))) = true) :
    CA Tryd.prog 9 [.agg (keyA kb), .agg (nonA nb), .slice a1 l1 c1, .slice a2 l2 c2] w (Ret (fun g : Nat => .tuple #[.slice (some ⟨g, 0, none⟩) (l1 - 16) (l1 - 16), .int .i64 0]) [] (fun g => [.sl (some ⟨g, 0, none⟩) (l1 - 16) 5 1 ((tur kb nb (xs.take (l1 - 16))).map (Value.int .u8))]) (fun _ => True) w) := by
  refine enter (L := []) (X := []) Tryd.func9 rfl Tryd.ntmps9 rfl rfl (Has.nil _) ?_
  repeat (first | refine c_seq ?_ | (refine c_region (id := 0) ?_; refine se ?_; refine eb ?_; refine se ?_; refine eb ?_; refine sq qa ?_; refine sq qa ?_; refine l_nil ?_) | (refine c_region (id := 1) ?_; refine sq (by first | exact qlb | exact qlr) ?_; refine sq (by first | exact qlb | exact qlr) ?_; refine sq qm ?_; refine sq qm ?_; refine se ?_; refine ecl rfl rfl (fun w hC hm hL => openi_ok kb nb hk hn a1 l1 c1 xs hl1 hc1 hb1 hz1 a2 l2 c2 ys hl2 hc2 hb2 hz2 w (hs1.ch0 hC) (hs2.ch0 hC) hs16 hcmp) ?_; intro g1 m1 _ hn1 hm1; refine sq qm ?_; refine sq qe ?_; refine sq qe ?_; refine sq qa ?_; refine sq qa ?_; refine l_nil ?_) | (refine c_region (id := 2) ?_; refine sq qm ?_; refine sq q_neq_nn ?_; refine l_nil ?_) | (refine c_region (id := 4) ?_; refine sq qm ?_; refine sq qa ?_; refine sq qa ?_; refine l_nil ?_) | refine n_then ?_ | refine c_block ?_ | refine c_skip ?_ | refine n_block ?_ | refine c_exit ?_ | refine n_then_exit ?_ | refine n_block_eq ?_ | refine n_block_ne rfl ?_ | refine c_ret ?_ | refine n_then_ret ?_ | refine n_block_ret ?_ | refine c_cond_t rfl ?_ | refine c_cond_f rfl ?_ | refine r_succ ?_ )
  (first | apply r_ret g1 | apply r_end g1); exact rfl; exact rfl; exact (.tmp rfl (.tmp rfl .nil)); exact rfl; exact (by exact (by (repeat (first | exact List.nil_sublist _ | exact List.Sublist.slnil | apply List.Sublist.cons_cons | exact List.Sublist.refl _ | apply List.Sublist.cons)))); exact (by intro g hg; have := hn1 g hg; exact .inr (by omega)); exact trivial
end Go.Proofs.YteopejjlhmghbaaDoor
namespace Go.Proofs.YteopejjlhmghbaaDoor
open Go Go.RowKit
set_option linter.unusedVariables false
structure SlF {α : Type} (enc : α → List Value) (w : World) (b : Option Addr) (xs : List α) : Prop where
  h : xs = [] ∨ ∃ g o, b = some ⟨g, o, none⟩ ∧ Old w g o (xs.flatMap enc)
theorem SlF.ch0 {α : Type} {enc : α → List Value} {w w' : World} {b : Option Addr} {xs : List α} (h : SlF enc w b xs) (hC : Ch [] w w') : SlF enc w' b xs :=
  ⟨h.h.imp id fun ⟨g, o, e, hO⟩ => ⟨g, o, e, hO.ch hC (by simp)⟩⟩
theorem SlF.get {α : Type} {enc : α → List Value} {w : World} {b : Option Addr} {xs : List α} (h : SlF enc w b xs) {i : Nat} (hi : i < xs.length) : ∃ g o, b = some ⟨g, o, none⟩ ∧ Old w g o (xs.flatMap enc) := by
  rcases h.h with h | h
  · subst h; simp at hi
  · exact h
theorem flatMap_one {α : Type} (f : α → Value) (xs : List α) : xs.flatMap (fun x => [f x]) = xs.map f := by
  induction xs with
  | nil => rfl
  | cons x xs ih => simp [List.flatMap_cons, ih]
theorem SlF.slE {α : Type} {f : α → Value} {w : World} {b : Option Addr} {xs : List α} (h : SlF (fun x => [f x]) w b xs) : SlE f w b xs :=
  ⟨h.h.imp id fun ⟨g, o, e, hO⟩ => ⟨g, o, e, by rw [flatMap_one] at hO; exact hO⟩⟩
theorem flat_at {α : Type} {enc : α → List Value} {sz : Nat} (hsz : ∀ x, (enc x).length = sz) : ∀ {xs : List α} {i : Nat} {x : α}, xs[i]? = some x → ((xs.flatMap enc).drop (i * sz)).take sz = enc x
  | y :: xs, 0, x, h => by
    simp only [List.getElem?_cons_zero, Option.some.injEq] at h
    subst h
    rw [Nat.zero_mul, List.drop_zero, List.flatMap_cons, ← hsz y, List.take_left]
  | y :: xs, i + 1, x, h => by
    rw [List.getElem?_cons_succ] at h
    have := flat_at (enc := enc) hsz h
    rw [List.flatMap_cons, show (i + 1) * sz = (enc y).length + i * sz by rw [hsz, Nat.succ_mul, Nat.add_comm], List.drop_append, List.drop_of_length_le (Nat.le_add_right _ _), List.nil_append, Nat.add_sub_cancel_left]
    exact this
  | [], i, x, h => by simp at h
theorem Old.at {w : World} {g o : Nat} {vs us : List Value} (h : Old w g o vs) (k n : Nat) (e : (vs.drop k).take n = us) : Old w g (o + k) us := ⟨fun j v hj => by
  rw [← e, nth_eq, List.getElem?_take] at hj
  split at hj
  · rw [List.getElem?_drop] at hj
    have := h.cell (k + j) v (by rw [nth_eq]; exact hj)
    rwa [← Nat.add_assoc] at this
  · cases hj⟩
theorem SlF.el {α : Type} {enc : α → List Value} {sz : Nat} (hsz : ∀ x, (enc x).length = sz) {w : World} {b : Option Addr} {xs : List α} (h : SlF enc w b xs) {i : Nat} {x : α} (hi : xs[i]? = some x) : ∃ g o, b = some ⟨g, o, none⟩ ∧ Old w g (o + i * sz) (enc x) := by
  obtain ⟨g, o, e, hO⟩ := h.get (List.getElem?_eq_some_iff.1 hi).1
  exact ⟨g, o, e, hO.at _ _ (flat_at hsz hi)⟩
theorem exists_list {α : Type} (p : Nat → α → Prop) : ∀ (n : Nat), (∀ i, i < n → ∃ x, p i x) → ∃ xs : List α, xs.length = n ∧ ∀ i x, xs[i]? = some x → p i x
  | 0, _ => ⟨[], rfl, by simp⟩
  | n + 1, h => by
    obtain ⟨xs, h1, h2⟩ := exists_list p n (fun i hi => h i (by omega))
    obtain ⟨x, hx⟩ := h n (by omega)
    refine ⟨xs ++ [x], by simp [h1], fun i y hy => ?_⟩
    by_cases hi : i < n
    · rw [List.getElem?_append_left (by omega)] at hy; exact h2 i y hy
    · rw [List.getElem?_append_right (by omega)] at hy
      have hi2 : i - xs.length = 0 := by
        rcases Nat.eq_zero_or_pos (i - xs.length) with h | h
        · exact h
        · rw [List.getElem?_eq_none (by simp; omega)] at hy; cases hy
      rw [hi2] at hy
      simp at hy
      obtain rfl : i = n := by omega
      exact hy ▸ hx
theorem mapM_gets {α β : Type} {f : α → Option β} : ∀ {l : List α} {r : List β}, l.mapM f = some r → r.length = l.length ∧ ∀ (i : Nat) (y : β), r[i]? = some y → ∃ x : α, l[i]? = some x ∧ f x = some y
  | [], r, h => by
    simp at h; subst h; simp
  | b :: l, r, h => by
    rw [List.mapM_cons] at h
    simp only [Option.bind_eq_bind, Option.bind_eq_some_iff] at h
    obtain ⟨y, hy, ys, hys, h9⟩ := h
    simp at h9
    subst h9
    obtain ⟨h1, h2⟩ := mapM_gets hys
    refine ⟨by simp [h1], fun i z hz => ?_⟩
    cases i with
    | zero => simp at hz; subst hz; exact ⟨b, rfl, hy⟩
    | succ i => simp at hz; obtain ⟨x, hx1, hx2⟩ := h2 i z hz; exact ⟨x, by simpa using hx1, hx2⟩
theorem addr_add_add (ad : Addr) (a b : Nat) : (ad.add a).add b = ad.add (a + b) := by
  rcases Nat.eq_zero_or_pos a with rfl | h1 <;> rcases Nat.eq_zero_or_pos b with rfl | h2
  · simp [Addr.add]
  · simp [Addr.add]
  · simp [Addr.add]
  · have e1 : a ≠ 0 := by omega
    have e2 : b ≠ 0 := by omega
    have e3 : a + b ≠ 0 := by omega
    simp [Addr.add, e1, e2, Nat.add_assoc]
theorem Reads.rows {P : Program} {w : World} {t e : TypeId} {sz : Nat} (ht : P.underlying t = some (.slice e)) (hce : P.cellsOf e = sz) (hsz0 : 0 < sz) {α : Type} (enc : α → List Value) (good : α → Prop) (hel : ∀ c, Reads P w e c → ∃ x, c = enc x ∧ good x)
    {a : Option Addr} {len cap : Nat} (h : Reads P w t [.slice a len cap]) : ∃ xs : List α, xs.length = len ∧ len ≤ cap ∧ cap ≤ maxLen ∧ SlF enc w a xs ∧ ∀ x ∈ xs, good x := by
  rcases h.slice ht with h | ⟨ad, l, c, hcs, hl, hm, hcell⟩
  · simp at h
    obtain ⟨rfl, rfl, rfl⟩ := h
    exact ⟨[], rfl, Nat.le_refl _, Nat.zero_le _, ⟨.inl rfl⟩, by simp⟩
  · simp at hcs
    obtain ⟨rfl, rfl, rfl⟩ := hcs
    rw [hce] at hcell
    obtain ⟨xs, h1, h2⟩ := exists_list (fun i (x : α) => w.cells? 0 (ad.add (i * sz)) sz = some (enc x) ∧ good x) len (fun i hi => by
      obtain ⟨c, hc, hr⟩ := hcell i (by omega)
      obtain ⟨x, rfl, hg⟩ := hel c hr
      exact ⟨x, hc, hg⟩)
    refine ⟨xs, h1, hl, hm, ⟨?_⟩, fun x hx => ?_⟩
    · by_cases h0 : xs = []
      · exact .inl h0
      · refine .inr ?_
        have key : ∀ i x, xs[i]? = some x → (enc x).length = sz ∧ ∀ j v, (enc x)[j]? = some v → w.cell? (ad.add (i * sz + j)) = some v := by
          intro i x hx
          have := (h2 i x hx).1
          unfold World.cells? at this
          rw [if_pos (Nat.zero_le _)] at this
          obtain ⟨k1, k2⟩ := mapM_gets this
          refine ⟨by simpa using k1, fun j v hj => ?_⟩
          obtain ⟨q, hq1, hq2⟩ := k2 j v hj
          have hj2 : j < sz := by
            have := (List.getElem?_eq_some_iff.1 hj).1
            simp at k1; omega
          rw [List.getElem?_range hj2] at hq1
          simp at hq1
          subst hq1
          rwa [addr_add_add] at hq2
        obtain ⟨x0, hx0⟩ : ∃ x0, xs[0]? = some x0 := by
          cases xs with
          | nil => exact absurd rfl h0
          | cons x _ => exact ⟨x, rfl⟩
        have k0 := key 0 x0 hx0
        obtain ⟨v0, hv0⟩ : ∃ v, (enc x0)[0]? = some v := ⟨_, List.getElem?_eq_getElem (by omega)⟩
        have hc0 := k0.2 0 v0 hv0
        obtain ⟨b, off, spot⟩ := ad
        have hspot : spot = none := by simpa [Addr.add] using World.cell?_spot hc0
        subst hspot
        refine ⟨b, off, rfl, ⟨fun j v hj => ?_⟩⟩
        have hlen : ∀ (ys : List α), (∀ y ∈ ys, (enc y).length = sz) → (ys.flatMap enc).length = ys.length * sz := by
          intro ys hys
          induction ys with
          | nil => simp
          | cons y ys ih => rw [List.flatMap_cons, List.length_append, hys y (by simp), ih (fun z hz => hys z (by simp [hz])), List.length_cons, Nat.succ_mul, Nat.add_comm]
        have hall : ∀ y ∈ xs, (enc y).length = sz := fun y hy => by
          obtain ⟨i, hi, rfl⟩ := List.getElem_of_mem hy
          exact (key i _ (List.getElem?_eq_getElem hi)).1
        have hgen : ∀ (ys : List α), (∀ y ∈ ys, (enc y).length = sz) → ∀ j v, (ys.flatMap enc)[j]? = some v → ∃ x, ys[j / sz]? = some x ∧ (enc x)[j % sz]? = some v := by
          intro ys
          induction ys with
          | nil => intro _ j v h; simp at h
          | cons y ys ih =>
            intro hys j v h
            rw [List.flatMap_cons] at h
            by_cases hj : j < sz
            · rw [List.getElem?_append_left (by rw [hys y (by simp)]; exact hj)] at h
              exact ⟨y, by rw [Nat.div_eq_of_lt hj]; rfl, by rw [Nat.mod_eq_of_lt hj]; exact h⟩
            · rw [List.getElem?_append_right (by rw [hys y (by simp)]; omega), hys y (by simp)] at h
              obtain ⟨x, hx1, hx2⟩ := ih (fun z hz => hys z (by simp [hz])) _ _ h
              have hjs : j = (j - sz) + sz := by omega
              refine ⟨x, ?_, ?_⟩
              · rw [hjs, Nat.add_div_right _ hsz0]; simpa using hx1
              · rw [hjs, Nat.add_mod_right]; exact hx2
        rw [nth_eq] at hj
        obtain ⟨x, hx1, hx2⟩ := hgen xs hall j v hj
        have := (key _ x hx1).2 _ v hx2
        rw [Nat.mul_comm, Nat.div_add_mod] at this
        have hadd : (⟨b, off, none⟩ : Addr).add j = ⟨b, off + j, none⟩ := by simp [Addr.add]
        rwa [hadd] at this
    · obtain ⟨i, hi, rfl⟩ := List.getElem_of_mem hx
      exact (h2 i _ (List.getElem?_eq_getElem hi)).2
theorem Reads.bytes {P : Program} {w : World} {t e : TypeId} (ht : P.underlying t = some (.slice e)) (he : P.underlying e = some (.int .u8)) (hce : P.cellsOf e = 1) {cs : List Value} (h : Reads P w t cs) :
    ∃ a len cap xs, cs = [.slice a len cap] ∧ xs.length = len ∧ len ≤ cap ∧ cap ≤ maxLen ∧ SlE (Value.int .u8) w a xs ∧ ∀ x ∈ xs, 0 ≤ x ∧ x ≤ 255 := by
  have key : ∀ a len cap, cs = [.slice a len cap] → ∃ a len cap xs, cs = [.slice a len cap] ∧ xs.length = len ∧ len ≤ cap ∧ cap ≤ maxLen ∧ SlE (Value.int .u8) w a xs ∧ ∀ x ∈ xs, 0 ≤ x ∧ x ≤ 255 := by
    rintro a len cap rfl
    obtain ⟨xs, h1, h2, h3, h4, h5⟩ := h.rows ht hce (by omega) (fun x : Int => [Value.int .u8 x]) (fun x => 0 ≤ x ∧ x ≤ 255) (fun c hc => by
      obtain ⟨n, rfl, hw⟩ := hc.int he
      exact ⟨n, rfl, bounds_u8 hw⟩)
    exact ⟨a, len, cap, xs, rfl, h1, h2, h3, h4.slE, h5⟩
  rcases h.slice ht with h9 | ⟨ad, l, c, hcs, _⟩
  · exact key _ _ _ h9
  · exact key _ _ _ hcs
end Go.Proofs.YteopejjlhmghbaaDoor
namespace Go.Proofs.YteopejjlhmghbaaDoor
open Go Go.RowKit Go.ChangeShapes Go.WideShapes
set_option linter.unusedVariables false
structure Tx (w : World) (a : Option Addr) (len cap : Nat) (xs : List Int) : Prop where
  l : xs.length = len
  c : len ≤ cap
  m : cap ≤ 9223372036854775807
  s : SlE (Value.int .u8) w a xs
  r : ∀ x ∈ xs, 0 ≤ x ∧ x ≤ 255
theorem texts2_of {P : Program} {w : World} {T S E : TypeId} (hU : P.underlying T = some (.array 2 S)) (hS : P.underlying S = some (.slice E)) (hE : P.underlying E = some (.int .u8)) (hc : P.cellsOf E = 1) (hcS : P.cellsOf S = 1) (hcT : P.cellsOf T = 2) {v : Value} {r : Reach} {base : Nat} (hok : Value.okWide P w r base T v) (h : Reads P w T v.cells.toList) :
    ∃ a l c xs b n d ys, v = .agg #[.slice a l c, .slice b n d] ∧ Tx w a l c xs ∧ Tx w b n d ys := by
  obtain ⟨cs, rfl⟩ := okWide_row (.inl ⟨_, _, hU⟩) hok
  obtain ⟨hl, hr⟩ := h.array hU
  simp only [Value.cells] at hl hr
  rw [hcT] at hl
  match hcs : cs.toList, hl with
  | [u, v], _ =>
    rw [hcs] at hr
    have h0 := hr 0 (by omega)
    have h1 := hr 1 (by omega)
    rw [hcS] at h0 h1
    obtain ⟨a, l, c, xs, e0, p1, p2, p3, p4, p5⟩ := h0.bytes hS hE hc
    obtain ⟨b, n, d, ys, e1, q1, q2, q3, q4, q5⟩ := h1.bytes hS hE hc
    simp at e0 e1
    subst e0 e1
    refine ⟨a, l, c, xs, b, n, d, ys, ?_, ⟨p1, p2, by simpa [maxLen] using p3, p4, p5⟩, ⟨q1, q2, by simpa [maxLen] using q3, q4, q5⟩⟩
    congr 1
    apply Array.ext'
    simpa using hcs
end Go.Proofs.YteopejjlhmghbaaDoor
namespace Go.Proofs.YteopejjlhmghbaaDoor
open Go Go.ChangeShapes Go.WideShapes Go.ChangeAt Go.RowKit
set_option linter.unusedVariables false
theorem bytes32_of {P : Program} {w : World} {T E : TypeId} (hU : P.underlying T = some (.array 32 E)) (hE : P.underlying E = some (.int .u8)) (hc : P.cellsOf E = 1) (hcT : P.cellsOf T = 32) {v : Value} {r : Reach} {base : Nat} (hok : Value.okWide P w r base T v) (h : Reads P w T v.cells.toList) :
    ∃ f : Nat → Int, (∀ i, 0 ≤ f i ∧ f i ≤ 255) ∧ v = .agg #[.int .u8 (f 0), .int .u8 (f 1), .int .u8 (f 2), .int .u8 (f 3), .int .u8 (f 4), .int .u8 (f 5), .int .u8 (f 6), .int .u8 (f 7), .int .u8 (f 8), .int .u8 (f 9), .int .u8 (f 10), .int .u8 (f 11), .int .u8 (f 12), .int .u8 (f 13), .int .u8 (f 14), .int .u8 (f 15), .int .u8 (f 16), .int .u8 (f 17), .int .u8 (f 18), .int .u8 (f 19), .int .u8 (f 20), .int .u8 (f 21), .int .u8 (f 22), .int .u8 (f 23), .int .u8 (f 24), .int .u8 (f 25), .int .u8 (f 26), .int .u8 (f 27), .int .u8 (f 28), .int .u8 (f 29), .int .u8 (f 30), .int .u8 (f 31)] := by
  obtain ⟨cs, rfl⟩ := okWide_row (.inl ⟨_, _, hU⟩) hok
  obtain ⟨xs, h1, h2, h3⟩ := h.ints hU hE hc hcT
  refine ⟨fun i => xs.getD i 0, fun i => ?_, ?_⟩
  · by_cases hi : i < xs.length
    · have := bounds_u8 (h3 (xs[i]) (List.getElem_mem hi))
      simpa [List.getD, hi] using this
    · simp [List.getD, hi]
  · match xs, h1 with
    | [x0, x1, x2, x3, x4, x5, x6, x7, x8, x9, x10, x11, x12, x13, x14, x15, x16, x17, x18, x19, x20, x21, x22, x23, x24, x25, x26, x27, x28, x29, x30, x31], _ =>
      have e : cs.toList = [Value.int .u8 x0, Value.int .u8 x1, Value.int .u8 x2, Value.int .u8 x3, Value.int .u8 x4, Value.int .u8 x5, Value.int .u8 x6, Value.int .u8 x7, Value.int .u8 x8, Value.int .u8 x9, Value.int .u8 x10, Value.int .u8 x11, Value.int .u8 x12, Value.int .u8 x13, Value.int .u8 x14, Value.int .u8 x15, Value.int .u8 x16, Value.int .u8 x17, Value.int .u8 x18, Value.int .u8 x19, Value.int .u8 x20, Value.int .u8 x21, Value.int .u8 x22, Value.int .u8 x23, Value.int .u8 x24, Value.int .u8 x25, Value.int .u8 x26, Value.int .u8 x27, Value.int .u8 x28, Value.int .u8 x29, Value.int .u8 x30, Value.int .u8 x31] := by simpa [Value.cells] using h2
      congr 1
      apply Array.ext'
      simpa using e
end Go.Proofs.YteopejjlhmghbaaDoor
namespace Go.Proofs.YteopejjlhmghbaaDoor
open Go Go.RowKit
set_option linter.unusedVariables false
set_option linter.unusedSimpArgs false
set_option maxRecDepth 100000 in
set_option maxHeartbeats 4000000 in
theorem awake_c (w : World) : CA Tryd.prog 7 [] w (RV (.bool true) w) := by
  refine enter (L := []) (X := []) Tryd.func7 rfl Tryd.ntmps7 rfl rfl (Has.nil _) ?_
  repeat (first | refine c_seq ?_ | (refine c_region (id := 0) ?_; refine sq qa ?_; refine l_nil ?_) | (refine c_region (id := 1) ?_; refine sq qba ?_; refine sq qba ?_; refine se ?_; refine ebs ?_; refine se ?_; refine e_conv_const rfl rfl (by (repeat (first | exact Pl.here | apply Pl.there))) (by first | (left; simp; done) | (right; omega)) ?_; refine se ?_; refine e_callL (enc := (Value.int .u8)) (e := 5) rfl rfl (by kernel_rfl) rfl (fun w hC hm hL => by exact seal_c (fun _ => 0) (fun _ => 0) (fun _ => by omega) (fun _ => by omega) _ 5 5 [104, 101, 108, 108, 111] rfl (by omega) (by simp) (by omega) none 0 0 [] rfl (by omega) (by simp) (by omega) w (SlE.blk hL (by (repeat (first | exact List.Mem.head _ | apply List.Mem.tail))) 0 5 (by rfl)) SlE.nil) ?_; intro b1 cap1 z1 m1 hz1 ho1 hm1; have hl1 := sealL_len (fun _ => 0) (fun _ => 0) [104, 101, 108, 108, 111] []; subst hz1; simp only [List.length_cons, List.length_nil] at hl1; refine sq qls ?_; refine sq (by first | exact deqlt | exact deqlf) ?_; refine sq qa ?_; refine l_nil ?_) | refine n_then ?_ | refine c_block ?_ | refine c_skip ?_ | refine n_block ?_ | refine c_exit ?_ | refine n_then_exit ?_ | refine n_block_eq ?_ | refine n_block_ne rfl ?_ | refine c_ret ?_ | refine n_then_ret ?_ | refine n_block_ret ?_ | refine c_cond_t rfl ?_ | refine c_cond_f rfl ?_ | refine r_succ ?_ )
  (first | apply r_ret () | apply r_end ()); exact rfl; exact rfl; exact (.tmp rfl .nil); exact rfl; exact (List.nil_sublist _); exact new_nil; exact trivial
def nN (x : Int) (i : Nat) : Int := if i = 0 then x else 0
theorem nN_bd (x : Int) (hx : 0 ≤ x ∧ x ≤ 255) (i : Nat) : 0 ≤ nN x i ∧ nN x i ≤ 255 := by unfold nN; split <;> omega
theorem tur_tur (kb nb : Nat → Int) (zs : List Int) (hz : ∀ x ∈ zs, 0 ≤ x ∧ x ≤ 255) : tur kb nb (tur kb nb zs) = zs := by
  have h := outI_twice zs hz kb nb 1
  unfold tur
  rw [outI_len]
  exact h
theorem sealL_take (kb nb : Nat → Int) (zs ys : List Int) : (sealL kb nb zs ys).take zs.length = tur kb nb zs := by
  unfold sealL
  rw [← tur_len kb nb zs]
  exact List.take_left
theorem sealL_drop (kb nb : Nat → Int) (zs ys : List Int) : (sealL kb nb zs ys).drop zs.length = macI kb nb ys (tur kb nb zs) := by
  unfold sealL
  rw [← tur_len kb nb zs]
  exact List.drop_left
theorem open_sealed {ys : List Int} (kb nb : Nat → Int) (hk : ∀ i, 0 ≤ kb i ∧ kb i ≤ 255) (hn : ∀ i, 0 ≤ nb i ∧ nb i ≤ 255) (zs : List Int) (hzb : ∀ x ∈ zs, 0 ≤ x ∧ x ≤ 255) (hzl : zs.length ≤ 10000) (b : Option Addr) (cap : Nat) (hcap : (sealL kb nb zs ys).length ≤ cap) (a2 : Option Addr) (l2 c2 : Nat) (hl2 : ys.length = l2) (hc2 : l2 ≤ c2) (hb2 : ∀ x ∈ ys, 0 ≤ x ∧ x ≤ 255) (hz2 : l2 ≤ 20000) (w : World) (hs1 : SlE (Value.int .u8) w b (sealL kb nb zs ys)) (hs2 : SlE (Value.int .u8) w a2 ys) :
    CA Tryd.prog 9 [.agg (keyA kb), .agg (nonA nb), .slice b (sealL kb nb zs ys).length cap, .slice a2 l2 c2] w (Ret (fun g : Nat => .tuple #[.slice (some ⟨g, 0, none⟩) zs.length zs.length, .int .i64 0]) [] (fun g => [.sl (some ⟨g, 0, none⟩) zs.length 5 1 (zs.map (Value.int .u8))]) (fun _ => True) w) := by
  have hl := sealL_len kb nb zs ys
  have e16 : (sealL kb nb zs ys).length - 16 = zs.length := by omega
  have h := open_ok kb nb hk hn b (sealL kb nb zs ys).length cap (sealL kb nb zs ys) rfl hcap (sealL_bd kb nb zs ys hzb) (by omega) a2 l2 c2 ys hl2 hc2 hb2 hz2 w hs1 hs2 (by omega) (by rw [e16, sealL_take, sealL_drop]; exact beq_self_eq_true _)
  rw [e16, sealL_take, tur_tur kb nb zs hzb] at h
  exact h
set_option maxRecDepth 100000 in
set_option maxHeartbeats 4000000 in
theorem opened_c (kb : Nat → Int) (hk : ∀ i, 0 ≤ kb i ∧ kb i ≤ 255) (w : World) (a1 : Option Addr) (l1 c1 : Nat) (xs : List Int) (h1 : Tx w a1 l1 c1 xs) (a2 : Option Addr) (l2 c2 : Nat) (ys : List Int) (h2 : Tx w a2 l2 c2 ys) (hz1 : l1 ≤ 20000) (hz2 : l2 ≤ 20000) {{u0 u1 : TypeId}} {{v0 v1 : Value}} (hE : Er w u0 v0 u1 v1) :
    CA Tryd.prog 10 [.agg (keyA kb), .slice a1 l1 c1, .slice a2 l2 c2] w (RV (.bool true) w) := by
  by_cases hs16 : l1 < 16
  · refine enter (L := []) (X := []) Tryd.func10 rfl Tryd.ntmps10 rfl rfl (Has.nil _) ?_
    repeat (first | refine c_seq ?_ | (refine c_region (id := 0) ?_; refine se ?_; refine eb ?_; refine sq qa ?_; refine l_nil ?_) | (refine c_region (id := 1) ?_; refine sq (by first | exact qlb | exact qlr) ?_; refine sq qba ?_; refine sq qm ?_; refine sq qm ?_; refine se ?_; refine ecp rfl rfl (fun w hC hm hL => by exact open_short kb (nN 1) a1 l1 c1 xs h1.l h1.c h1.r hz1 a2 l2 c2 hs16 w (hE.ch0 hC)) ?_; intro m' hm'; refine sq qm ?_; refine sq qe ?_; refine sq qe ?_; refine sq qa ?_; refine sq qa ?_; refine l_nil ?_) | (refine c_region (id := 2) ?_; refine sq qm ?_; refine sq (by first | exact dneqt | exact dneqf) ?_; refine l_nil ?_) | (refine c_region (id := 3) ?_; refine sq qm ?_; refine sq (by first | exact deqlt | exact deqlf) ?_; refine sq qm ?_; refine sq qls ?_; refine sq (by first | exact dlsst | exact dlssf) ?_; refine sq qeqlb ?_; refine sq qm ?_; (first | refine sk ?_ | refine skv ?_ | (refine st_want rfl rfl ?_; refine sq qm ?_)); (first | refine sk ?_ | refine skv ?_ | (refine st_want rfl rfl ?_; refine sq (by first | exact deqlt | exact deqlf) ?_)); (first | refine sk ?_ | refine skv ?_ | (refine st_want rfl rfl ?_; refine sq qm ?_)); (first | refine sk ?_ | refine skv ?_ | (refine st_want rfl rfl ?_; refine sq qm ?_)); (first | refine sk ?_ | refine skv ?_ | (refine st_want rfl rfl ?_; refine sq (by first | exact deqlt | exact deqlf) ?_)); (first | refine sk ?_ | refine skv ?_ | (refine st_want rfl rfl ?_; refine sq (by first | exact qpt | exact qpf) ?_)); refine sq (by first | exact qpt | exact qpf) ?_; refine sq qm ?_; (first | refine sk ?_ | refine skv ?_ | (refine st_want rfl rfl ?_; refine sq qm ?_)); (first | refine sk ?_ | refine skv ?_ | (refine st_want rfl rfl ?_; refine sq qls ?_)); (first | refine sk ?_ | refine skv ?_ | (refine st_want rfl rfl ?_; refine sq (by first | exact deqlt | exact deqlf) ?_)); refine sq (by first | exact qpt | exact qpf) ?_; refine sq qa ?_; refine l_nil ?_) | refine n_then ?_ | refine c_block ?_ | refine c_skip ?_ | refine n_block ?_ | refine c_exit ?_ | refine n_then_exit ?_ | refine n_block_eq ?_ | refine n_block_ne rfl ?_ | refine c_ret ?_ | refine n_then_ret ?_ | refine n_block_ret ?_ | refine c_cond_t rfl ?_ | refine c_cond_f rfl ?_ | refine r_succ ?_ )
    (first | apply r_ret () | apply r_end ()); exact rfl; exact rfl; exact (.tmp rfl .nil); exact rfl; exact (List.nil_sublist _); exact new_nil; exact trivial
  have hs16 : 16 ≤ l1 := by omega
  cases hcmp : (macI kb (nN 1) ys (xs.take (l1 - 16)) == (xs.drop (l1 - 16))) with
  | false =>
    refine enter (L := []) (X := []) Tryd.func10 rfl Tryd.ntmps10 rfl rfl (Has.nil _) ?_
    repeat (first | refine c_seq ?_ | (refine c_region (id := 0) ?_; refine se ?_; refine eb ?_; refine sq qa ?_; refine l_nil ?_) | (refine c_region (id := 1) ?_; refine sq (by first | exact qlb | exact qlr) ?_; refine sq qba ?_; refine sq qm ?_; refine sq qm ?_; refine se ?_; refine ecp rfl rfl (fun w hC hm hL => by exact open_wrong kb (nN 1) hk (nN_bd 1 (by omega)) a1 l1 c1 xs h1.l h1.c h1.r hz1 a2 l2 c2 ys h2.l h2.c h2.r hz2 w (h1.s.ch0 hC) (h2.s.ch0 hC) (hE.ch0 hC) hs16 hcmp) ?_; intro m' hm'; refine sq qm ?_; refine sq qe ?_; refine sq qe ?_; refine sq qa ?_; refine sq qa ?_; refine l_nil ?_) | (refine c_region (id := 2) ?_; refine sq qm ?_; refine sq (by first | exact dneqt | exact dneqf) ?_; refine l_nil ?_) | (refine c_region (id := 3) ?_; refine sq qm ?_; refine sq (by first | exact deqlt | exact deqlf) ?_; refine sq qm ?_; refine sq qls ?_; refine sq (by first | exact dlsst | exact dlssf) ?_; refine sq qeqlb ?_; refine sq qm ?_; (first | refine sk ?_ | refine skv ?_ | (refine st_want rfl rfl ?_; refine sq qm ?_)); (first | refine sk ?_ | refine skv ?_ | (refine st_want rfl rfl ?_; refine sq (by first | exact deqlt | exact deqlf) ?_)); (first | refine sk ?_ | refine skv ?_ | (refine st_want rfl rfl ?_; refine sq qm ?_)); (first | refine sk ?_ | refine skv ?_ | (refine st_want rfl rfl ?_; refine sq qm ?_)); (first | refine sk ?_ | refine skv ?_ | (refine st_want rfl rfl ?_; refine sq (by first | exact deqlt | exact deqlf) ?_)); (first | refine sk ?_ | refine skv ?_ | (refine st_want rfl rfl ?_; refine sq (by first | exact qpt | exact qpf) ?_)); refine sq (by first | exact qpt | exact qpf) ?_; refine sq qm ?_; (first | refine sk ?_ | refine skv ?_ | (refine st_want rfl rfl ?_; refine sq qm ?_)); (first | refine sk ?_ | refine skv ?_ | (refine st_want rfl rfl ?_; refine sq qls ?_)); (first | refine sk ?_ | refine skv ?_ | (refine st_want rfl rfl ?_; refine sq (by first | exact deqlt | exact deqlf) ?_)); refine sq (by first | exact qpt | exact qpf) ?_; refine sq qa ?_; refine l_nil ?_) | refine n_then ?_ | refine c_block ?_ | refine c_skip ?_ | refine n_block ?_ | refine c_exit ?_ | refine n_then_exit ?_ | refine n_block_eq ?_ | refine n_block_ne rfl ?_ | refine c_ret ?_ | refine n_then_ret ?_ | refine n_block_ret ?_ | refine c_cond_t rfl ?_ | refine c_cond_f rfl ?_ | refine r_succ ?_ )
    (first | apply r_ret () | apply r_end ()); exact rfl; exact rfl; exact (.tmp rfl .nil); exact rfl; exact (List.nil_sublist _); exact new_nil; exact trivial
  | true =>
    have hT : ∀ x ∈ (xs.take (l1 - 16)), 0 ≤ x ∧ x ≤ 255 := fun x hx => h1.r x (List.mem_of_mem_take hx)
    have hxl := h1.l
    have hTl : (xs.take (l1 - 16)).length = l1 - 16 := by rw [List.length_take, hxl]; omega
    have he : sealL kb (nN 1) (tur kb (nN 1) (xs.take (l1 - 16))) ys = xs := by
      unfold sealL
      rw [tur_tur kb (nN 1) _ hT, eq_of_beq hcmp, List.take_append_drop]
    have htl := tur_len kb (nN 1) (xs.take (l1 - 16))
    refine enter (L := []) (X := []) Tryd.func10 rfl Tryd.ntmps10 rfl rfl (Has.nil _) ?_
    repeat (first | refine c_seq ?_ | (refine c_region (id := 0) ?_; refine se ?_; refine eb ?_; refine sq qa ?_; refine l_nil ?_) | (refine c_region (id := 1) ?_; refine sq (by first | exact qlb | exact qlr) ?_; refine sq qba ?_; refine sq qm ?_; refine sq qm ?_; refine se ?_; refine ecl rfl rfl (fun w hC hm hL => by exact open_ok kb (nN 1) hk (nN_bd 1 (by omega)) a1 l1 c1 xs h1.l h1.c h1.r hz1 a2 l2 c2 ys h2.l h2.c h2.r hz2 w (h1.s.ch0 hC) (h2.s.ch0 hC) hs16 hcmp) ?_; intro g1 m1 _ hn1 hm1; refine sq qm ?_; refine sq qe ?_; refine sq qe ?_; refine sq qa ?_; refine sq qa ?_; refine l_nil ?_) | (refine c_region (id := 2) ?_; refine sq qm ?_; refine sq (by first | exact dneqt | exact dneqf) ?_; refine l_nil ?_) | refine n_then ?_ | refine c_block ?_ | refine c_skip ?_ | refine n_block ?_ | refine c_exit ?_ | refine n_then_exit ?_ | refine n_block_eq ?_ | refine n_block_ne rfl ?_ | refine c_ret ?_ | refine n_then_ret ?_ | refine n_block_ret ?_ | refine c_cond_t rfl ?_ | refine c_cond_f rfl ?_ | refine r_succ ?_ )
    repeat (first | refine c_seq ?_ | (refine x_region (id := 4) none [(0, .q), (1, .n), (2, .n), (3, .n), (6, .n), (7, .q), (4, .e), (5, .e), (8, .n), (9, .n)] _ mixed (by kernel_rfl) (List.Sublist.refl _) ?_; refine xq rfl (by first | exact qlb | exact qlr) ?_; refine xn rfl qba ?_; refine xn rfl qm ?_; refine xn rfl qm ?_; refine xn rfl qm ?_; refine xq rfl (by exact q_conv_bytes (xs := xs) rfl h1.s.vw h1.l) ?_; refine x_e rfl ?_; refine e_callL (enc := (Value.int .u8)) (e := 5) rfl rfl (by kernel_rfl) rfl (fun w hC hm hL => by exact rseal_c kb (nN 1) hk (nN_bd 1 (by omega)) _ (l1 - 16) (l1 - 16) (tur kb (nN 1) (xs.take (l1 - 16))) (by omega) (by omega) (tur_bd kb (nN 1) _ hT) (by omega) a2 l2 c2 ys h2.l h2.c h2.r hz2 w (SlE.own hL (by (repeat (first | exact List.Mem.head _ | apply List.Mem.tail))) (⟨Nat.le_refl _, by omega, .inr ⟨_, rfl⟩, fun _ _ => .inr (Nat.zero_le _)⟩ : OS [] 0 _ (l1 - 16) (l1 - 16))) (h2.s.ch0 hC)) ?_; intro b3 cap3 z3 m3 hz3 ho3 hm3; have e3 := hz3.trans he; rw [e3] at ho3 ⊢; clear e3 hz3; refine xk ?_; refine x_e rfl ?_; refine e_q (by exact q_conv_bytes (xs := xs) rfl (Vw.own (ho3.obv (by simp)) (by (repeat (first | exact List.Mem.head _ | apply List.Mem.tail)))) rfl) rfl ?_; refine xk ?_; refine xn rfl (by exact Qt.cast (congrArg Value.bool (beq_self_eq_true _)) (q_eql_str rfl rfl)) ?_; refine xn rfl qa ?_; refine x_nil ?_) | refine n_then ?_ | refine c_block ?_ | refine c_skip ?_ | refine n_block ?_ | refine c_exit ?_ | refine n_then_exit ?_ | refine n_block_eq ?_ | refine n_block_ne rfl ?_ | refine c_ret ?_ | refine n_then_ret ?_ | refine n_block_ret ?_ | refine c_cond_t rfl ?_ | refine c_cond_f rfl ?_ | refine r_succ ?_ )
    (first | apply r_ret () | apply r_end ()); exact rfl; exact rfl; exact (.tmp rfl .nil); exact rfl; exact (List.nil_sublist _); exact new_nil; exact trivial
end Go.Proofs.YteopejjlhmghbaaDoor
namespace Go.Proofs.YteopejjlhmghbaaDoor
open Go Go.RowKit
set_option linter.unusedVariables false
set_option linter.unusedSimpArgs false
theorem gType : Tryd.prog.globalNamed "errors.errorType" = some 2 := by kernel_rfl
theorem gShort : Tryd.prog.globalNamed "jalousie/seal.errShort" = some 0 := by kernel_rfl
theorem gOther : Tryd.prog.globalNamed "jalousie/seal.errOther" = some 1 := by kernel_rfl
theorem tShort : (Tryd.prog.globals[0]?).map (·.type) = some 42 := by kernel_rfl
theorem tOther : (Tryd.prog.globals[1]?).map (·.type) = some 42 := by kernel_rfl
theorem rtName : (Tryd.prog.cutTypes.find? (·.1 == "internal/reflectlite.rtype")).map (·.2) = some 106 := by kernel_rfl
theorem oneRow : ((List.range 155).filter fun t => Tryd.prog.rowNamed t [101, 114, 114, 111, 114]) = [42] := by kernel_rfl
theorem nTypes : Tryd.prog.types.size = 155 := by kernel_rfl
theorem er_of {W : World} (h : laidMetH Tryd.prog [("errors.errorType", Rows.laid_errors_errorType), ("jalousie/seal.errShort", Rows.laid_jalousie_seal_errShort), ("jalousie/seal.errOther", Rows.laid_jalousie_seal_errOther)] W) : ∃ u0 v0 u1 v1, Er W u0 v0 u1 v1 := by
  have h' : laidMet Tryd.prog [("jalousie/seal.errShort", Rows.laid_jalousie_seal_errShort), ("jalousie/seal.errOther", Rows.laid_jalousie_seal_errOther)] W ∧ handlesMet Tryd.prog [("errors.errorType", Rows.laid_errors_errorType)] W := h
  obtain ⟨⟨ps, ⟨g0, t0, cs0, f0, p0, q0, hg0, ht0, hv0, hd0, ⟨g1, t1, cs1, f1, p1, q1, hg1, ht1, hv1, hd1, _, _⟩, _⟩, _, _⟩, hh⟩ := h'
  obtain rfl := Option.some.inj (gShort.symm.trans hg0)
  obtain rfl := Option.some.inj (tShort.symm.trans ht0)
  obtain rfl := Option.some.inj (gOther.symm.trans hg1)
  obtain rfl := Option.some.inj (tOther.symm.trans ht1)
  obtain ⟨_, u0, v0, c0, _⟩ := iface_of_trod Tryd.underlying42 hd0
  obtain ⟨_, u1, v1, c1, _⟩ := iface_of_trod Tryd.underlying42 hd1
  obtain ⟨name, u, ty, e1, e2, e3, e4, e5⟩ := hh _ (List.mem_singleton.2 rfl)
  have en : name = [101, 114, 114, 111, 114] := (Option.some.inj e1).symm
  subst en
  obtain rfl := Option.some.inj (rtName.symm.trans e2)
  have hm : ty ∈ (List.range 155).filter fun t => Tryd.prog.rowNamed t [101, 114, 114, 111, 114] := List.mem_filter.2 ⟨List.mem_range.2 (by rw [← nTypes]; exact e3), e4⟩
  rw [oneRow] at hm
  obtain rfl := List.mem_singleton.1 hm
  have hh : typeHandle Tryd.prog 42 = .pointer (some ⟨3, 42, none⟩) := by kernel_rfl
  rw [hh] at e5
  have one : ∀ (g : Nat) (v : Value), W.cell? ⟨g, 0, none⟩ = some v → Old W g 0 [v] := fun g v hc => ⟨fun j u hj => by
    cases j with
    | zero => simp [nth] at hj; subst hj; exact hc
    | succ j => simp [nth] at hj⟩
  exact ⟨u0, v0, u1, v1, one _ _ ((World.var?_cell gShort hv0 0).trans (by rw [← Array.getElem?_toList, c0]; rfl)), one _ _ ((World.var?_cell gOther hv1 0).trans (by rw [← Array.getElem?_toList, c1]; rfl)), by simpa using World.var?_cell gType e5 0⟩
end Go.Proofs.YteopejjlhmghbaaDoor
namespace Go.Proofs.YteopejjlhmghbaaDoor
open Go Go.RowKit
set_option linter.unusedVariables false
set_option linter.unusedSimpArgs false
theorem xor8_rng (a b : Int) : 0 ≤ bits .xor .u8 a b ∧ bits .xor .u8 a b ≤ 255 := by
  unfold bits
  simp only [IntKind.wrap_u8']
  omega
theorem set_rng {l : List Int} (h : ∀ x ∈ l, 0 ≤ x ∧ x ≤ 255) {i : Nat} {v : Int} (hv : 0 ≤ v ∧ v ≤ 255) : ∀ x ∈ l.set i v, 0 ≤ x ∧ x ≤ 255 := by
  intro x hx
  rcases List.mem_or_eq_of_mem_set hx with h9 | h9
  · exact h x h9
  · rw [h9]; exact hv
set_option maxRecDepth 100000 in
set_option maxHeartbeats 4000000 in
theorem opens_law (kb : Nat → Int) (hk : ∀ i, 0 ≤ kb i ∧ kb i ≤ 255) (w : World) (a1 : Option Addr) (l1 c1 : Nat) (xs : List Int) (h1 : Tx w a1 l1 c1 xs) (a2 : Option Addr) (l2 c2 : Nat) (ys : List Int) (h2 : Tx w a2 l2 c2 ys) (at_ : Int) (hat : 0 ≤ at_ ∧ at_ ≤ 65535) {{u0 u1 : TypeId}} {{v0 v1 : Value}} (hE : Er w u0 v0 u1 v1) :
    CA Tryd.prog 4 [.agg (keyA kb), .agg #[.slice a1 l1 c1, .slice a2 l2 c2], .int .u16 at_] w (RV (.bool true) w) := by
  by_cases g1 : l1 ≤ 300
  · by_cases g2 : l2 ≤ 200
    · have hl := sealL_len kb (nN 1) xs ys
      have hxl := h1.l
      obtain ⟨S, hS⟩ : ∃ S, S = (sealL kb (nN 1) xs ys) := ⟨_, rfl⟩
      have hSb : ∀ x ∈ S, 0 ≤ x ∧ x ≤ 255 := by rw [hS]; exact sealL_bd kb (nN 1) xs ys h1.r
      obtain ⟨n, hn⟩ : ∃ n : Nat, n = (at_.toNat / 8) % S.length := ⟨_, rfl⟩
      have hSl : S.length = l1 + 16 := by rw [hS, hl, hxl]
      have hnl : n < S.length := by rw [hn]; exact Nat.mod_lt _ (by omega)
      refine enter (L := []) (X := []) Tryd.func4 rfl Tryd.ntmps4 rfl rfl (Has.nil _) ?_
      repeat (first | refine c_seq ?_ | (refine c_region (id := 0) ?_; refine se ?_; refine eb ?_; refine se ?_; refine eb ?_; refine sq qa ?_; refine l_nil ?_) | (refine c_region (id := 1) ?_; refine se ?_; refine ecp rfl rfl (fun w hC hm hL => awake_c w) ?_; intro m' hm'; refine sq qnt ?_; refine sq qm ?_; (first | refine sk ?_ | refine skv ?_ | (refine st_want rfl rfl ?_; refine sq qia ?_)); (first | refine sk ?_ | refine skv ?_ | (refine st_want rfl rfl ?_; refine sq ql ?_)); (first | refine sk ?_ | refine skv ?_ | (refine st_want rfl rfl ?_; refine sq qls ?_)); (first | refine sk ?_ | refine skv ?_ | (refine st_want rfl rfl ?_; refine sq (by first | exact dgtrt | exact dgtrf) ?_)); refine sq (by first | exact qpt | exact qpf) ?_; refine sq qm ?_; (first | refine sk ?_ | refine skv ?_ | (refine st_want rfl rfl ?_; refine sq qia ?_)); (first | refine sk ?_ | refine skv ?_ | (refine st_want rfl rfl ?_; refine sq ql ?_)); (first | refine sk ?_ | refine skv ?_ | (refine st_want rfl rfl ?_; refine sq qls ?_)); (first | refine sk ?_ | refine skv ?_ | (refine st_want rfl rfl ?_; refine sq (by first | exact dgtrt | exact dgtrf) ?_)); refine sq (by first | exact qpt | exact qpf) ?_; refine l_nil ?_) | (refine c_region (id := 3) ?_; refine sq (by first | exact qlb | exact qlr) ?_; refine sq qba ?_; refine sq qia ?_; refine sq ql ?_; refine sq qia ?_; refine sq ql ?_; refine se ?_; refine e_callL (enc := (Value.int .u8)) (e := 5) rfl rfl (by kernel_rfl) rfl (fun w hC hm hL => by exact seal_c kb (nN 1) hk (nN_bd 1 (by omega)) a1 l1 c1 xs h1.l h1.c h1.r (by omega) a2 l2 c2 ys h2.l h2.c h2.r (by omega) w (h1.s.ch0 hC) (h2.s.ch0 hC)) ?_; intro b1 cap1 z1 m1 hz1 ho1 hm1; subst hz1; refine sq qa ?_; refine l_nil ?_) | refine n_then ?_ | refine c_block ?_ | refine c_skip ?_ | refine n_block ?_ | refine c_exit ?_ | refine n_then_exit ?_ | refine n_block_eq ?_ | refine n_block_ne rfl ?_ | refine c_ret ?_ | refine n_then_ret ?_ | refine n_block_ret ?_ | refine c_cond_t rfl ?_ | refine c_cond_f rfl ?_ | refine r_succ ?_ )
      repeat (first | refine c_seq ?_ | (refine c_region (id := 4) ?_; refine sq (by first | exact qlb | exact qlr) ?_; refine sq qba ?_; refine sq qm ?_; refine sq qia ?_; refine sq ql ?_; refine se ?_; refine ecl rfl rfl (fun w hC hm hL => by exact open_sealed kb (nN 1) hk (nN_bd 1 (by omega)) xs h1.r (by omega) b1 cap1 ho1.le a2 l2 c2 h2.l h2.c h2.r (by omega) w (SlE.own hL (by (repeat (first | exact List.Mem.head _ | apply List.Mem.tail))) ho1) (h2.s.ch0 hC)) ?_; intro g4 m4 _ hn4 hm4; refine sq qm ?_; refine sq qe ?_; refine sq qe ?_; refine sq qa ?_; refine sq qa ?_; refine l_nil ?_) | refine n_then ?_ | refine c_block ?_ | refine c_skip ?_ | refine n_block ?_ | refine c_exit ?_ | refine n_then_exit ?_ | refine n_block_eq ?_ | refine n_block_ne rfl ?_ | refine c_ret ?_ | refine n_then_ret ?_ | refine n_block_ret ?_ | refine c_cond_t rfl ?_ | refine c_cond_f rfl ?_ | refine r_succ ?_ )
      rw [← hS] at ho1 ⊢
      repeat (first | refine c_seq ?_ | (refine c_region (id := 5) ?_; refine sq qm ?_; refine sq (by first | exact dneqt | exact dneqf) ?_; refine sq qm ?_; (first | refine sk ?_ | refine skv ?_ | (refine st_want rfl rfl ?_; refine sq qm ?_)); (first | refine sk ?_ | refine skv ?_ | (refine st_want rfl rfl ?_; refine sq (by exact q_conv_bytes (xs := xs) rfl (Vw.own (.inr ⟨_, rfl⟩) (by (repeat (first | exact List.Mem.head _ | apply List.Mem.tail)))) rfl) ?_)); (first | refine sk ?_ | refine skv ?_ | (refine st_want rfl rfl ?_; refine sq qia ?_)); (first | refine sk ?_ | refine skv ?_ | (refine st_want rfl rfl ?_; refine sq ql ?_)); (first | refine sk ?_ | refine skv ?_ | (refine st_want rfl rfl ?_; refine sq (by exact q_conv_bytes (xs := xs) rfl h1.s.vw h1.l) ?_)); (first | refine sk ?_ | refine skv ?_ | (refine st_want rfl rfl ?_; refine sq (by exact Qt.cast (v' := .bool false) (congrArg Value.bool (by rw [beq_self_eq_true]; rfl)) (q_neq_str rfl rfl)) ?_)); refine sq (by first | exact qpt | exact qpf) ?_; refine sq qm ?_; (first | refine sk ?_ | refine skv ?_ | (refine st_want rfl rfl ?_; refine sq qm ?_)); (first | refine sk ?_ | refine skv ?_ | (refine st_want rfl rfl ?_; refine sq qls ?_)); (first | refine sk ?_ | refine skv ?_ | (refine st_want rfl rfl ?_; refine sq qia ?_)); (first | refine sk ?_ | refine skv ?_ | (refine st_want rfl rfl ?_; refine sq ql ?_)); (first | refine sk ?_ | refine skv ?_ | (refine st_want rfl rfl ?_; refine sq qls ?_)); (first | refine sk ?_ | refine skv ?_ | (refine st_want rfl rfl ?_; refine sq qadd64 ?_)); (first | refine sk ?_ | refine skv ?_ | (refine st_want rfl rfl ?_; refine sq (by first | exact dneqt | exact dneqf) ?_)); refine sq (by first | exact qpt | exact qpf) ?_; refine l_nil ?_) | refine n_then ?_ | refine c_block ?_ | refine c_skip ?_ | refine n_block ?_ | refine c_exit ?_ | refine n_then_exit ?_ | refine n_block_eq ?_ | refine n_block_ne rfl ?_ | refine c_ret ?_ | refine n_then_ret ?_ | refine n_block_ret ?_ | refine c_cond_t rfl ?_ | refine c_cond_f rfl ?_ | refine r_succ ?_ )
      obtain ⟨gs, rfl⟩ := ho1.some (by omega)
      have hnew : gs ∈ ([] : List Nat) ∨ w.heap.size ≤ gs := ho1.new gs (by simp [Chunk.foot])
      have hz1 := map_nth S n hnl
      have hlm : (S.map (Value.int .u8)).length = S.length := by simp
      obtain ⟨v, hv⟩ : ∃ v, v = bits .xor .u8 (S.getD n 0) ((1 : Int) * 2 ^ (at_ % 8).toNat % 256) := ⟨_, rfl⟩
      have hvb : 0 ≤ v ∧ v ≤ 255 := by rw [hv]; exact xor8_rng _ _
      repeat (first | refine c_seq ?_ | (refine c_region (id := 7) ?_; refine sq qm ?_; refine sq qm ?_; refine sq qci ?_; refine sq (by exact Qt.cast (v' := .int .i64 ((at_.toNat / 8 : Nat) : Int)) (congrArg (Value.int .i64) (by omega)) (q_quo rfl rfl (by omega) (by omega) (by simp only [IntKind.wrap_i64]; omega))) ?_; refine sq qm ?_; refine sq qls ?_; refine sq (by exact Qt.cast (v' := .int .i64 (n : Int)) (congrArg (Value.int .i64) (by rw [hn]; omega)) (q_rem rfl rfl (by omega) (by omega))) ?_; refine sq (by exact qis (o' := n) (ho := by omega)) ?_; refine sq (by exact ql (hr := Rd.sln (by (repeat (first | exact List.Mem.head _ | apply List.Mem.tail))) hz1)) ?_; refine sq qm ?_; refine sq qrem ?_; refine sq qshl8 ?_; refine sq (by exact Qt.cast (congrArg (Value.int .u8) hv.symm) (q_xor rfl rfl)) ?_; refine sq (by exact qis (o' := n) (ho := by omega)) ?_; refine se ?_; refine es3 ?_ (hoff := by omega) (hg := hnew); refine l_nil ?_) | refine n_then ?_ | refine c_block ?_ | refine c_skip ?_ | refine n_block ?_ | refine c_exit ?_ | refine n_then_exit ?_ | refine n_block_eq ?_ | refine n_block_ne rfl ?_ | refine c_ret ?_ | refine n_then_ret ?_ | refine n_block_ret ?_ | refine c_cond_t rfl ?_ | refine c_cond_f rfl ?_ | refine r_succ ?_ )
      refine chgc (.sl (some ⟨gs, 0, none⟩) cap1 5 1 ((S.map (Value.int .u8)).set n (.int .u8 v))) (.sl (some ⟨gs, 0, none⟩) cap1 5 1 ((S.set n v).map (Value.int .u8))) (by (repeat (first | exact Pl.here | apply Pl.there))) (by rw [List.map_set]) ?_
      repeat (first | refine c_seq ?_ | (refine c_region (id := 8) ?_; refine sq (by first | exact qlb | exact qlr) ?_; refine sq qm ?_; refine sq qia ?_; refine sq ql ?_; refine se ?_; refine ecp rfl rfl (fun w hC hm hL => by exact opened_c kb hk w (some ⟨gs, 0, none⟩) S.length cap1 (S.set n v) ⟨by simp, ho1.le, ho1.max, SlE.own hL (by (repeat (first | exact List.Mem.head _ | apply List.Mem.tail))) ho1, set_rng hSb hvb⟩ a2 l2 c2 ys ⟨h2.l, h2.c, h2.m, h2.s.ch0 hC, h2.r⟩ (by omega) (by omega) (hE.ch0 hC)) ?_; intro m' hm'; refine sq qa ?_; refine l_nil ?_) | refine n_then ?_ | refine c_block ?_ | refine c_skip ?_ | refine n_block ?_ | refine c_exit ?_ | refine n_then_exit ?_ | refine n_block_eq ?_ | refine n_block_ne rfl ?_ | refine c_ret ?_ | refine n_then_ret ?_ | refine n_block_ret ?_ | refine c_cond_t rfl ?_ | refine c_cond_f rfl ?_ | refine r_succ ?_ )
      (first | apply r_ret () | apply r_end ()); exact rfl; exact rfl; exact (.tmp rfl .nil); exact rfl; exact (List.nil_sublist _); exact new_nil; exact trivial
    · refine enter (L := []) (X := []) Tryd.func4 rfl Tryd.ntmps4 rfl rfl (Has.nil _) ?_
      repeat (first | refine c_seq ?_ | (refine c_region (id := 0) ?_; refine se ?_; refine eb ?_; refine se ?_; refine eb ?_; refine sq qa ?_; refine l_nil ?_) | (refine c_region (id := 1) ?_; refine se ?_; refine ecp rfl rfl (fun w hC hm hL => awake_c w) ?_; intro m' hm'; refine sq qnt ?_; refine sq qm ?_; (first | refine sk ?_ | refine skv ?_ | (refine st_want rfl rfl ?_; refine sq qia ?_)); (first | refine sk ?_ | refine skv ?_ | (refine st_want rfl rfl ?_; refine sq ql ?_)); (first | refine sk ?_ | refine skv ?_ | (refine st_want rfl rfl ?_; refine sq qls ?_)); (first | refine sk ?_ | refine skv ?_ | (refine st_want rfl rfl ?_; refine sq (by first | exact dgtrt | exact dgtrf) ?_)); refine sq (by first | exact qpt | exact qpf) ?_; refine sq qm ?_; (first | refine sk ?_ | refine skv ?_ | (refine st_want rfl rfl ?_; refine sq qia ?_)); (first | refine sk ?_ | refine skv ?_ | (refine st_want rfl rfl ?_; refine sq ql ?_)); (first | refine sk ?_ | refine skv ?_ | (refine st_want rfl rfl ?_; refine sq qls ?_)); (first | refine sk ?_ | refine skv ?_ | (refine st_want rfl rfl ?_; refine sq (by first | exact dgtrt | exact dgtrf) ?_)); refine sq (by first | exact qpt | exact qpf) ?_; refine l_nil ?_) | (refine c_region (id := 2) ?_; refine se ?_; refine ecp rfl rfl (fun w hC hm hL => awake_c w) ?_; intro m' hm'; refine sq qa ?_; refine l_nil ?_) | refine n_then ?_ | refine c_block ?_ | refine c_skip ?_ | refine n_block ?_ | refine c_exit ?_ | refine n_then_exit ?_ | refine n_block_eq ?_ | refine n_block_ne rfl ?_ | refine c_ret ?_ | refine n_then_ret ?_ | refine n_block_ret ?_ | refine c_cond_t rfl ?_ | refine c_cond_f rfl ?_ | refine r_succ ?_ )
      (first | apply r_ret () | apply r_end ()); exact rfl; exact rfl; exact (.tmp rfl .nil); exact rfl; exact (List.nil_sublist _); exact new_nil; exact trivial
  · refine enter (L := []) (X := []) Tryd.func4 rfl Tryd.ntmps4 rfl rfl (Has.nil _) ?_
    repeat (first | refine c_seq ?_ | (refine c_region (id := 0) ?_; refine se ?_; refine eb ?_; refine se ?_; refine eb ?_; refine sq qa ?_; refine l_nil ?_) | (refine c_region (id := 1) ?_; refine se ?_; refine ecp rfl rfl (fun w hC hm hL => awake_c w) ?_; intro m' hm'; refine sq qnt ?_; refine sq qm ?_; (first | refine sk ?_ | refine skv ?_ | (refine st_want rfl rfl ?_; refine sq qia ?_)); (first | refine sk ?_ | refine skv ?_ | (refine st_want rfl rfl ?_; refine sq ql ?_)); (first | refine sk ?_ | refine skv ?_ | (refine st_want rfl rfl ?_; refine sq qls ?_)); (first | refine sk ?_ | refine skv ?_ | (refine st_want rfl rfl ?_; refine sq (by first | exact dgtrt | exact dgtrf) ?_)); refine sq (by first | exact qpt | exact qpf) ?_; refine sq qm ?_; (first | refine sk ?_ | refine skv ?_ | (refine st_want rfl rfl ?_; refine sq qia ?_)); (first | refine sk ?_ | refine skv ?_ | (refine st_want rfl rfl ?_; refine sq ql ?_)); (first | refine sk ?_ | refine skv ?_ | (refine st_want rfl rfl ?_; refine sq qls ?_)); (first | refine sk ?_ | refine skv ?_ | (refine st_want rfl rfl ?_; refine sq (by first | exact dgtrt | exact dgtrf) ?_)); refine sq (by first | exact qpt | exact qpf) ?_; refine l_nil ?_) | (refine c_region (id := 2) ?_; refine se ?_; refine ecp rfl rfl (fun w hC hm hL => awake_c w) ?_; intro m' hm'; refine sq qa ?_; refine l_nil ?_) | refine n_then ?_ | refine c_block ?_ | refine c_skip ?_ | refine n_block ?_ | refine c_exit ?_ | refine n_then_exit ?_ | refine n_block_eq ?_ | refine n_block_ne rfl ?_ | refine c_ret ?_ | refine n_then_ret ?_ | refine n_block_ret ?_ | refine c_cond_t rfl ?_ | refine c_cond_f rfl ?_ | refine r_succ ?_ )
    (first | apply r_ret () | apply r_end ()); exact rfl; exact rfl; exact (.tmp rfl .nil); exact rfl; exact (List.nil_sublist _); exact new_nil; exact trivial
theorem opensWalk_ {w : World} (hL : laidMetH Tryd.prog [("errors.errorType", Rows.laid_errors_errorType), ("jalousie/seal.errShort", Rows.laid_jalousie_seal_errShort), ("jalousie/seal.errOther", Rows.laid_jalousie_seal_errOther)] w) (kb : Nat → Int) (hk : ∀ i, 0 ≤ kb i ∧ kb i ≤ 255) (a1 : Option Addr) (l1 c1 : Nat) (xs : List Int) (a2 : Option Addr) (l2 c2 : Nat) (ys : List Int) (h1 : Tx w a1 l1 c1 xs) (h2 : Tx w a2 l2 c2 ys) (at_ : Int) (hat : (Lit.int .u16 at_).wf = true) :
    Calls Tryd.prog 4 #[.agg (keyA kb), .agg #[.slice a1 l1 c1, .slice a2 l2 c2], .int .u16 at_] w fun e w' => e = .returned (.bool true) ∧ Below w.heap.size w w' := by
  obtain ⟨_, _, _, _, hE⟩ := er_of hL
  exact below_ret (opens_law kb hk w a1 l1 c1 xs h1 a2 l2 c2 ys h2 at_ (bounds_u16 hat) hE)
end Go.Proofs.YteopejjlhmghbaaDoor
namespace Go.Proofs.YteopejjlhmghbaaDoor.lawSealOpens
open Go.ChangeShapes Go.WideShapes Go.ChangeAt Go.RowKit
open Go.ChangeMaps (open_string shut_string)
set_option linter.unusedVariables false
theorem own : ownKnob Tryd.prog.godebug = none := by kernel_rfl
theorem laidOut : laidOutB Tryd.prog = true := by kernel_rfl
/-- What the row lists. -/
def theLaid : List (String × DataW Unit) := [("errors.errorType", Rows.laid_errors_errorType), ("jalousie/seal.errShort", Rows.laid_jalousie_seal_errShort), ("jalousie/seal.errOther", Rows.laid_jalousie_seal_errOther)]
set_option maxRecDepth 100000 in
theorem door_met (os : Os) (args : Array Value) : laidMetH Tryd.prog theLaid ((World.doorLaid Tryd.prog 54 os).forCall (fun _ _ => 0) ⟨#[], args, []⟩).memory :=
  laidMetH_of_parts3 (fuel := 65) (laidMet_of_run' 65 (by kernel_rfl) (by kernel_rfl)) (by kernel_rfl) (by kernel_rfl)
set_option maxRecDepth 100000 in
theorem lifted (os : Os) (started : os.Started) (H : Type) (enc : TypeId × Value → H) :
    ReturnsInHanded {} Tryd.checked os 4 .any (fun w args => (Rows.sealOpensSpec.pre enc Tryd.prog Tryd.f4 [] false w args ∧ laidMetH Tryd.prog theLaid w) ∧ sizedMet enc Tryd.prog Tryd.f4 (OpenSpec.ofChange Rows.sealOpensSpec) false w args)
      (Rows.sealOpensSpec.post enc Tryd.prog Tryd.f4 false true false false) := by
  refine returnsInHanded_of_change_and (C := Tryd.checked) (X := fun w _ => laidMetH Tryd.prog theLaid w) (fun _ _ _ hh h => h.of_heap hh) own started (by kernel_rfl) Tryd.func4
    (ChangeSpec.witness_shaped (enc := enc) (C := Tryd.checked) (os := os) (X := fun w _ => laidMetH Tryd.prog theLaid w) false (World.doorLaid Tryd.prog 54 os) #[.agg #[.int .u8 0, .int .u8 0, .int .u8 0, .int .u8 0, .int .u8 0, .int .u8 0, .int .u8 0, .int .u8 0, .int .u8 0, .int .u8 0, .int .u8 0, .int .u8 0, .int .u8 0, .int .u8 0, .int .u8 0, .int .u8 0, .int .u8 0, .int .u8 0, .int .u8 0, .int .u8 0, .int .u8 0, .int .u8 0, .int .u8 0, .int .u8 0, .int .u8 0, .int .u8 0, .int .u8 0, .int .u8 0, .int .u8 0, .int .u8 0, .int .u8 0, .int .u8 0], .agg #[.slice none 0 0, .slice none 0 0], .int .u16 0] 8 rfl (World.shaped_of_RefB (by kernel_rfl) (by kernel_rfl)) (by kernel_rfl) (by kernel_rfl) (by kernel_rfl) (door_met os _)) ?_
  intro W base args ds gs before hval0 hW hcnd _ hL _
  have hval : ∀ (j : Nat) t v, Tryd.f4.params[j]? = some t → args[j]? = some v → Value.okWide Tryd.prog W .any base t v := hval0
  have hW' := hW
  obtain ⟨p, q, hA0, hV, rfl, hfz, hnd⟩ := hW
  have hA : DataW.TrodAll enc Tryd.prog W 0 (fun _ => true) true Tryd.f4.params.toList args.toList ds p := hA0
  rw [Tryd.params4] at hA hval
  obtain ⟨v0, vs0, d0, ds0, p0, q0, hargs, rfl, rfl, h0, r0⟩ := trodAll_cons hA
  obtain ⟨v1, vs1, d1, ds1, p1, q1, rfl, rfl, rfl, h1, r1⟩ := trodAll_cons r0
  obtain ⟨v2, vs2, d2, ds2, p2, q2, rfl, rfl, rfl, h2, r2⟩ := trodAll_cons r1
  obtain ⟨rfl, rfl, rfl⟩ := trodAll_nil r2
  obtain rfl : args = #[v0, v1, v2] := by cases args; simp_all
  obtain ⟨rfl, rfl⟩ := trodVars_none hV
  have k0 := h0
  have lt0 : ∀ x ∈ p0, x.block < W.heap.size := by obtain ⟨m, hm⟩ := k0; exact DataW.trod_lt m _ _ _ hm
  have k1 := h1
  have lt1 : ∀ x ∈ p1, x.block < W.heap.size := by obtain ⟨m, hm⟩ := k1; exact DataW.trod_lt m _ _ _ hm
  have k2 := h2
  have lt2 : ∀ x ∈ p2, x.block < W.heap.size := by obtain ⟨m, hm⟩ := k2; exact DataW.trod_lt m _ _ _ hm
  obtain ⟨a0, w0, rfl⟩ := bytes32_of Tryd.underlying23 Tryd.underlying5 (by kernel_rfl) (by kernel_rfl) (hval 0 23 v0 rfl rfl) (reads_of_trod k0)
  obtain ⟨a1, l1, c1, x1, b1, n1, e1, y1, rfl, t1, u1⟩ := texts2_of Tryd.underlying32 Tryd.underlying24 Tryd.underlying5 (by kernel_rfl) (by kernel_rfl) (by kernel_rfl) (hval 1 32 v1 rfl rfl) (reads_of_trod k1)
  obtain ⟨a2, rfl, rfl, rfl, w2⟩ := open_int Tryd.underlying33 (hval 2 33 v2 rfl rfl) h2
  clear hA0 hval0
  refine (opensWalk_ hL a0 w0 a1 l1 c1 x1 b1 n1 e1 y1 t1 u1 a2 w2).mono fun e W' ⟨he, bel⟩ => ?_
  subst he
  exact ⟨_, rfl, _, _, _, [], _, [], hW', trodAll_mk1 (shut_bool Tryd.underlying4 _), (trodAll_cons_mk (Below.trod laidOut (by kernel_rfl) (of_decide_eq_true (by kernel_rfl)) k0 bel lt0) (trodAll_cons_mk (Below.trod laidOut (by kernel_rfl) (of_decide_eq_true (by kernel_rfl)) k1 bel lt1) (trodAll_cons_mk (Below.trod laidOut (by kernel_rfl) (of_decide_eq_true (by kernel_rfl)) k2 bel lt2) trodAll_mk0))), rfl, bel.frame _, fun h => by cases h⟩
theorem over : Rows.sealOpensRow.holds Tryd.pinned (OpenSpec.ofChange Rows.sealOpensSpec) :=
  OpenClaim.holds_of_wide 4 Tryd.f4 rfl rfl rfl rfl rfl rfl rfl ⟨rfl, rfl, rfl, rfl, rfl⟩ rfl rfl rfl rfl rfl (by kernel_rfl) Tryd.func4 (by kernel_rfl)
    (of_decide_eq_true (by kernel_rfl)) (by unfold Func.isWrapper; first | (rw [if_pos (by decide +kernel)]; kernel_rfl) | (rw [if_neg (by decide +kernel)]; exact ⟨rfl, rfl⟩))
    (fun os started H enc _ => lifted os started H enc)
set_option maxRecDepth 100000 in
/-- SealOpens: whatever the input, the law answers true, and its arguments read afterwards as before. No condition. -/
theorem proved : Rows.SealOpensCardSaid :=
  Claim7.holds_tied_plain_at .later [] [.handle, .sentinel, .sentinel] true (true, "7ecc0ec85a5d27ccbb0ed817c53bf0e55bcc68a462d1413421f1869845574a91") true
    over (fun _ h => by cases h) (by kernel_rfl) (fun _ h => by cases h) sealOpens_row_tie rfl ⟨rfl, rfl⟩ (by kernel_rfl) rfl
    (fun f fn hf hfn => by
      obtain rfl : f = 4 := Option.some.inj ((show Tryd.prog.funcNamed "jalousie/jalousielaw04.SealOpens" = some 4 by kernel_rfl).symm.trans hf) |>.symm
      obtain rfl : fn = Tryd.f4 := (Option.some.inj (Tryd.func4.symm.trans hfn)).symm
      exact ⟨by kernel_rfl, fun j t ht => by
        rw [Tryd.params4] at ht
        have hm : t ∈ [23, 32, 33] := by simpa using Array.mem_of_getElem? ht
        have hall : ([23, 32, 33].all fun u => !Tryd.prog.wantsStandIn u) = true := by kernel_rfl
        exact (show Tryd.prog.wantsStandIn t = false by simpa using List.all_eq_true.1 hall t hm)⟩)
    (by kernel_rfl)
#print axioms proved
end Go.Proofs.YteopejjlhmghbaaDoor.lawSealOpens
