/- The walk by known slots and chunks: lists of one-celled values, handed in or of our own. No program in sight. -/
import Derived.Test.YtlcckgimagllaaaSs9
namespace Go.Proofs.Ytlcckgimagllaaa
open Go Go.RowKit
set_option linter.unusedVariables false
/-- A list that is handed in. -/
structure SlE {α : Type} (enc : α → Value) (w : World) (b : Option Addr) (xs : List α) : Prop where
  h : xs = [] ∨ ∃ g o, b = some ⟨g, o, none⟩ ∧ Old w g o (xs.map enc)
/-- A list of our own: how much room, and where. -/
structure OS (X : List Nat) (k : Nat) (b : Option Addr) (cap : Nat) (len : Nat) : Prop where
  le : len ≤ cap
  max : cap ≤ 9223372036854775807
  ob : (b = none ∧ len = 0) ∨ ∃ g, b = some ⟨g, 0, none⟩
  new : ∀ g ∈ (Chunk.sl b 0 0 1 []).foot, g ∈ X ∨ k ≤ g
theorem OS.nil (X : List Nat) (k : Nat) : OS X k none 0 0 := ⟨by omega, by omega, .inl ⟨rfl, rfl⟩, by simp [Chunk.foot]⟩
theorem OS.obv {X : List Nat} {k : Nat} {b : Option Addr} {cap len : Nat} (h : OS X k b cap len) {xs : List Value} (hl : xs.length = len) : OB b xs := by
  rcases h.ob with ⟨h1, h2⟩ | h
  · exact .inl ⟨h1, List.eq_nil_of_length_eq_zero (by omega)⟩
  · exact .inr h
theorem OS.mono {X : List Nat} {k k' : Nat} {b : Option Addr} {cap len : Nat} (h : OS X k b cap len) (hk : k' ≤ k) : OS X k' b cap len :=
  ⟨h.le, h.max, h.ob, fun g hg => (h.new g hg).imp id (fun h => by omega)⟩
theorem OS.less {X : List Nat} {k : Nat} {b : Option Addr} {cap len len' : Nat} (h : OS X k b cap len) (hl : len' ≤ len) : OS X k b cap len' :=
  ⟨Nat.le_trans hl h.le, h.max, h.ob.imp (fun ⟨a, c⟩ => ⟨a, by omega⟩) id, h.new⟩
theorem OS.newc {X : List Nat} {k : Nat} {b : Option Addr} {cap len : Nat} (h : OS X k b cap len) {c2 e sz : Nat} {xs : List Value} : ∀ g ∈ (Chunk.sl b c2 e sz xs).foot, g ∈ X ∨ k ≤ g :=
  fun g hg => h.new g (by cases b <;> exact hg)
theorem OS.some {X : List Nat} {k : Nat} {b : Option Addr} {cap len : Nat} (h : OS X k b cap len) (hl : 0 < len) : ∃ g, b = .some ⟨g, 0, none⟩ := by
  rcases h.ob with ⟨_, h2⟩ | h
  · omega
  · exact h
theorem nth_map {α : Type} {enc : α → Value} {xs : List α} {i : Nat} {x : α} (h : xs[i]? = some x) : nth (xs.map enc) i = some (enc x) := by
  rw [nth_eq, List.getElem?_map, h]; rfl
theorem SlE.ch {α : Type} {enc : α → Value} {X : List Nat} {w w' : World} {b : Option Addr} {xs : List α} (h : SlE enc w b xs) (hC : Ch X w w') (hx : ∀ g o, b = some ⟨g, o, none⟩ → g ∉ X) : SlE enc w' b xs :=
  ⟨h.h.imp id fun ⟨g, o, e, hO⟩ => ⟨g, o, e, hO.ch hC (hx g o e)⟩⟩
theorem SlE.ch0 {α : Type} {enc : α → Value} {w w' : World} {b : Option Addr} {xs : List α} (h : SlE enc w b xs) (hC : Ch [] w w') : SlE enc w' b xs := h.ch hC (by simp)
theorem SlE.own {α : Type} {enc : α → Value} {L : List Chunk} {w : World} (hL : Has L w) {b : Option Addr} {cap e : Nat} {xs : List α} (hm : Chunk.sl b cap e 1 (xs.map enc) ∈ L) {X : List Nat} {k len : Nat} (ho : OS X k b cap len) : SlE enc w b xs := by
  refine ⟨?_⟩
  have h1 := hL.ok _ hm
  simp only [Chunk.ok] at h1
  rcases h1 with ⟨_, _, h3⟩ | ⟨g, cs, rfl, h2, h3, h4⟩
  · exact .inl (by simpa using h3)
  · exact .inr ⟨g, 0, rfl, hL.old_sl (k := (xs.map enc).length) hm (by rw [List.drop_zero, List.take_of_length_le (Nat.le_refl _)])⟩
theorem SlE.blk {α : Type} {enc : α → Value} {L : List Chunk} {w : World} (hL : Has L w) {g : Nat} {cs : Array Value} {t : TypeId} {fr : Nat × Nat} {xs : List α} (hm : Chunk.blk g (.cells cs t fr) ∈ L) (o k : Nat) (hv : (cs.toList.drop o).take k = xs.map enc) : SlE enc w (some ⟨g, o, none⟩) xs :=
  ⟨.inr ⟨g, o, rfl, hL.old (k := k) hm hv⟩⟩
theorem SlE.get {α : Type} {enc : α → Value} {w : World} {b : Option Addr} {xs : List α} (h : SlE enc w b xs) {i : Nat} (hi : i < xs.length) : ∃ g o, b = some ⟨g, o, none⟩ ∧ Old w g o (xs.map enc) := by
  rcases h.h with h | h
  · subst h; simp at hi
  · exact h
theorem SlE.nil {α : Type} {enc : α → Value} {w : World} {b : Option Addr} : SlE enc w b ([] : List α) := ⟨.inl rfl⟩
theorem SlE.rdN {α : Type} {enc : α → Value} {w0 : World} {L : List Chunk} {p : Addr} {xs : List α} (h : SlE enc w0 (some p) xs) : RdN [] w0 L p (xs.map enc) := by
  rcases h.h with h | ⟨g, o, e, hO⟩
  · subst h; exact .nil
  · cases e; exact RdN.old hO (by simp)
theorem SlE.vw {α : Type} {enc : α → Value} {w0 : World} {L : List Chunk} {b : Option Addr} {xs : List α} (h : SlE enc w0 b xs) : Vw [] w0 L b (xs.map enc) := by
  cases b with
  | none =>
    rcases h.h with h | ⟨g, o, e, hO⟩
    · subst h; exact .inl ⟨rfl, rfl⟩
    · cases e
  | some p => exact .inr ⟨p, rfl, h.rdN⟩
theorem Old.drp {w : World} {g o : Nat} {vs : List Value} (h : Old w g o vs) (k : Nat) : Old w g (o + k) (vs.drop k) := ⟨fun j v hj => by
  rw [nth_eq, List.getElem?_drop] at hj
  have := h.cell (k + j) v (by rw [nth_eq]; exact hj)
  rwa [show o + (k + j) = o + k + j by omega] at this⟩
theorem Old.tak {w : World} {g o : Nat} {vs : List Value} (h : Old w g o vs) (k : Nat) : Old w g o (vs.take k) := ⟨fun j v hj => h.cell j v (by
  rw [nth_eq, List.getElem?_take] at hj
  split at hj
  · rw [nth_eq]; exact hj
  · cases hj)⟩
/-- A part of it: from lo up to hi (cap: of the whole). -/
theorem SlE.part {α : Type} {enc : α → Value} {w : World} {b : Option Addr} {xs : List α} (h : SlE enc w b xs) (lo hi cap : Nat) (hlo : lo ≤ hi) (hhi : hi ≤ xs.length) (hcap : xs.length ≤ cap) : SlE enc w (if cap = lo then b else b.map (·.add (lo * 1))) ((xs.drop lo).take (hi - lo)) := by
  refine ⟨?_⟩
  rcases h.h with h | ⟨g, o, rfl, hO⟩
  · left; simp [h]
  · by_cases hc : cap = lo
    · left
      have : hi - lo = 0 := by omega
      simp [this]
    · right
      refine ⟨g, o + lo, by rw [if_neg hc]; simp [Addr.add_mid], ?_⟩
      rw [List.map_take, List.map_drop]
      exact (hO.drp lo).tak _
section
variable {P : Program} {n m d : Nat} {T : List (Nat × Value)} {X : List Nat} {w0 : World} {L L' : List Chunk} {K : Act → World → Prop} {Q : Exit → Act → World → Prop}
  {ty t e : TypeId} {pos : String} {af : Array Edge} {gu : Option (Nat × Bool)} {x y : Operand}
/-- One more behind a list of our own. -/
theorem e_appM {α : Type} (enc : α → Value) (zs : List α) (z : α) {b : Option Addr} {len cap bytes cap2 g : Nat} {zz : Value} (hx : ev T x = some (.slice b len cap)) (hy : ev T y = some (.slice (some ⟨g, 0, none⟩) 1 cap2)) (hd : Nat.blt d n = true)
    [hu : UT P t (.slice e)] [hs : SzT P e 1] [hb : ByT P e bytes] [hz : ZrT P e #[zz]] (hr : Rm (.sl b cap e 1 (zs.map enc)) L L') (hm : Chunk.blk g (.cells #[enc z] e (0, 0)) ∈ L)
    (hlen : zs.length = len) (ho : OS X w0.heap.size b cap len) (hone : (enc z).oneCell' = true) (hby : (len + 1) * bytes ≤ 140737488355328) (hl9 : len ≤ 9223372036854775806)
    (h : ∀ b' cap' m', OS X w0.heap.size b' cap' (len + 1) → m ≤ m' → ∀ a w, SS n ((d, .slice b' (len + 1) cap') :: T) X w0 m' (.sl b' cap' e 1 ((zs ++ [z]).map enc) :: L') a w → K a w) :
    ∀ a w, SS n T X w0 m L a w → OW P ⟨some d, .call { callee := .builtin .append, args := #[x, y], argTypes := #[t, t] }, ty, pos, af, gu⟩ K Q a w := by
  refine e_append (xs := zs.map enc) (news := [enc z]) hx hy hd (by rfl) hr (RdN.blk hm (by rfl)) (by simp [hlen]) (by rfl) ho.le ho.max (by simp [allOne, hone]) (by omega) hby ho.newc ?_
  intro b' cap' m' h1 h2 h3 h4 h5
  have e1 : zs.map enc ++ [enc z] = (zs ++ [z]).map enc := by simp
  rw [e1] at h1 h5 ⊢
  refine h b' cap' m' ⟨h2, h3, ?_, fun g hg => h1 g (by cases b' <;> exact hg)⟩ h4
  rcases h5 with ⟨_, h6⟩ | h6
  · simp at h6
  · exact .inr h6
/-- A whole list that is read somewhere, behind one of our own. -/
theorem e_appL {α : Type} (enc : α → Value) (zs ys : List α) {b : Option Addr} {len cap bytes len2 cap2 : Nat} {p : Addr} {zz : Value} (hx : ev T x = some (.slice b len cap)) (hy : ev T y = some (.slice (some p) len2 cap2)) (hd : Nat.blt d n = true)
    [hu : UT P t (.slice e)] [hs : SzT P e 1] [hb : ByT P e bytes] [hz : ZrT P e #[zz]] (hr : Rm (.sl b cap e 1 (zs.map enc)) L L') (hv : RdN X w0 L p (ys.map enc))
    (hlen : zs.length = len) (hlen2 : ys.length = len2) (ho : OS X w0.heap.size b cap len) (hone : allOne (ys.map enc) = true) (hby : (len + len2) * bytes ≤ 140737488355328) (hl9 : len + len2 ≤ 9223372036854775807)
    (h : ∀ b' cap' m', OS X w0.heap.size b' cap' (len + len2) → m ≤ m' → ∀ a w, SS n ((d, .slice b' (len + len2) cap') :: T) X w0 m' (.sl b' cap' e 1 ((zs ++ ys).map enc) :: L') a w → K a w) :
    ∀ a w, SS n T X w0 m L a w → OW P ⟨some d, .call { callee := .builtin .append, args := #[x, y], argTypes := #[t, t] }, ty, pos, af, gu⟩ K Q a w := by
  refine e_append (xs := zs.map enc) (news := ys.map enc) hx hy hd (by rfl) hr hv (by simp [hlen]) (by simp [hlen2]) ho.le ho.max hone hl9 hby ho.newc ?_
  intro b' cap' m' h1 h2 h3 h4 h5
  rw [← List.map_append] at h1 h5 ⊢
  refine h b' cap' m' ⟨h2, h3, ?_, fun g hg => h1 g (by cases b' <;> exact hg)⟩ h4
  rcases h5 with ⟨h7, h6⟩ | h6
  · have h8 := congrArg List.length h6
    rw [List.length_map, List.length_append, hlen, hlen2] at h8
    exact .inl ⟨h7, h8⟩
  · exact .inr h6
/-- A chunk put first. -/
theorem frn {F : Act → World → Prop} {c : Chunk} (hr : Rm c L L') (h : ∀ a w, SS n T X w0 m (c :: L') a w → F a w) : ∀ a w, SS n T X w0 m L a w → F a w :=
  prm (by obtain ⟨A, B, rfl, rfl⟩ := hr.split; exact List.perm_middle) h
/-- A contract of which a list of our own comes. -/
abbrev RLe {α : Type} (enc : α → Value) (e : TypeId) (Φ : List α → Prop) (w : World) : Ending → World → Prop :=
  Ret (fun z : Option Addr × Nat × List α => .slice z.1 z.2.2.length z.2.1) [] (fun z => [.sl z.1 z.2.1 e 1 (z.2.2.map enc)]) (fun z => (z.2.2.length ≤ z.2.1 ∧ z.2.1 ≤ 9223372036854775807 ∧ ((z.1 = none ∧ z.2.2.length = 0) ∨ ∃ g, z.1 = some ⟨g, 0, none⟩)) ∧ Φ z.2.2) w
theorem e_callL {α : Type} {enc : α → Value} {Φ : List α → Prop} {fop : Operand} {xs : List Operand} {ats : Array TypeId} {f : FuncId} {vs : List Value}
    (hf : ev T fop = some (.func (.func f) #[] #[])) (hargs : evs T xs = some vs) (hb : bodied P f = true) (hd : Nat.blt d n = true)
    (hcon : ∀ w, Ch X w0 w → w.heap.size = m → Has L w → CA P f vs w (RLe enc e Φ w))
    (h : ∀ b cap zs m', Φ zs → OS X w0.heap.size b cap zs.length → m ≤ m' → ∀ a w, SS n ((d, .slice b zs.length cap) :: T) X w0 m' (.sl b cap e 1 (zs.map enc) :: L) a w → K a w) :
    ∀ a w, SS n T X w0 m L a w → OW P ⟨some d, .call { callee := .value fop, args := xs.toArray, argTypes := ats }, ty, pos, af, gu⟩ K Q a w := by
  intro a w hs
  have hm0 : w0.heap.size ≤ m := by have := hs.ch.size; have := hs.size; omega
  refine e_call (Y := []) hf hargs hb hd hcon (by simp) (List.Sublist.refl _) (by simp) ?_ a w hs
  rintro ⟨b, cap, zs⟩ m' ⟨⟨h1, h2, h3⟩, h4⟩ hnew hm'
  exact h b cap zs m' h4 ⟨h1, h2, h3, fun g hg => .inr (by
    have := hnew g (by simp only [feet, List.flatMap_cons, List.flatMap_nil, List.append_nil]; cases b <;> exact hg)
    simp at this; omega)⟩ hm'
end
/-! ### guards that hang on what was not wanted -/
def notW : Value → Bool → Bool
  | .bool b, want => !(b == want)
  | _, _ => true
section
variable {P : Program} {n m d : Nat} {T : List (Nat × Value)} {X : List Nat} {w0 : World} {L Lw : List Chunk} {ops : Array Oper} {rest : List Oper} {Q : Ct}
  {op : Op} {ty : TypeId} {pos : String} {af : Array Edge} {i : Nat} {b0 : Bool} {σ : List (Nat × Kd)}
theorem not_yielded {a : Act} (hA : Agr n T a) {j : Nat} {v : Value} {want : Bool} (h : gd ops T j = some v) (hv : notW v want = true) : ¬ yielded ops a.tmps j = some want := by
  unfold gd at h
  unfold yielded
  cases ho : ops[j]? with
  | none => simp [ho] at h
  | some o =>
    simp only [ho] at h
    cases hd : o.dst with
    | none => simp [hd] at h
    | some t =>
      simp only [hd] at h
      have := hA.slot t _ h
      simp only [Option.bind_some, hd, this]
      cases v <;> simp_all [notW]
theorem st_skipv {j : Nat} {v : Value} {want : Bool} (hg : gd ops T j = some v) (hb : notW v want = true) (hd : Nat.blt d n = true)
    (h : ∀ a w, SS n ((d, undef) :: T) X w0 m L a w → WL P ops Q rest a w) :
    ∀ a w, SS n T X w0 m L a w → WL P ops Q (⟨some d, op, ty, pos, af, some (j, want)⟩ :: rest) a w := by
  intro a w hs
  refine ⟨?_⟩
  unfold wpListIn
  rw [if_neg (by have := not_yielded hs.agr hg hb; simpa [Region.wanted] using this)]
  exact ⟨fun _ _ => trivial, (h _ _ ⟨hs.agr.put undef hd, hs.ch, hs.size, hs.has⟩).h⟩
theorem x_skipv {j : Nat} {v : Value} {want : Bool} (ho : ops[i]? = some ⟨some d, op, ty, pos, af, some (j, want)⟩) (hg : gd ops T j = some v) (hb : notW v want = true) (hd : Nat.blt d n = true)
    (h : ∀ a w, SS n ((d, undef) :: T) X w0 m L a w → XL P ops Q X w0 Lw b0 σ a w) : ∀ a w, SS n T X w0 m L a w → XL P ops Q X w0 Lw b0 ((i, .q) :: σ) a w :=
  fun a w hs => ⟨_, undef, ho, .inr ⟨by have := not_yielded hs.agr hg hb; simpa [Region.wanted] using this, rfl⟩, (h _ _ ⟨hs.agr.put undef hd, hs.ch, hs.size, hs.has⟩).h⟩
theorem x_nskipv {j : Nat} {v : Value} {want : Bool} (ho : ops[i]? = some ⟨some d, op, ty, pos, af, some (j, want)⟩) (hg : gd ops T j = some v) (hb : notW v want = true) (hd : Nat.blt d n = true)
    (h : ∀ a w, SS n ((d, undef) :: T) X w0 m L a w → XL P ops Q X w0 Lw b0 σ a w) : ∀ a w, SS n T X w0 m L a w → XL P ops Q X w0 Lw b0 ((i, .n) :: σ) a w :=
  fun a w hs => ⟨_, undef, ho, .inr ⟨by have := not_yielded hs.agr hg hb; simpa [Region.wanted] using this, rfl⟩, (h _ _ ⟨hs.agr.put undef hd, hs.ch, hs.size, hs.has⟩).h⟩
theorem x_eskipv {j : Nat} {v : Value} {want : Bool} (hL : (Lb b0 Lw).Sublist L) (ho : ops[i]? = some ⟨some d, op, ty, pos, af, some (j, want)⟩) (hg : gd ops T j = some v) (hb : notW v want = true) (hd : Nat.blt d n = true) (h : ∀ a w, SS n ((d, undef) :: T) X w0 m L a w → XL P ops Q X w0 Lw b0 σ a w) :
    ∀ a w, SS n T X w0 m L a w → XL P ops Q X w0 Lw b0 ((i, .e) :: σ) a w := by
  intro a w hs
  refine ⟨?_⟩
  unfold LX wpOp
  simp only [ho]
  rw [if_neg (by have := not_yielded hs.agr hg hb; simpa [Region.wanted] using this)]
  exact ⟨by rw [Sof_b]; exact ⟨hs.ch, hs.has.sub hL⟩, (h _ _ ⟨hs.agr.put undef hd, hs.ch, hs.size, hs.has⟩).h⟩
end
/-- What a list's maker answers. -/
theorem OS.ret {X : List Nat} {k : Nat} {b : Option Addr} {cap len : Nat} (h : OS X k b cap len) : len ≤ cap ∧ cap ≤ 9223372036854775807 ∧ ((b = none ∧ len = 0) ∨ ∃ g, b = Option.some ⟨g, 0, none⟩) := ⟨h.le, h.max, h.ob⟩
end Go.Proofs.Ytlcckgimagllaaa
