/- Contracts of package group. -/
import Derived.Test.YtmmaiohnfphcjaaGrp3
import Derived.Test.YtmmaiohnfphcjaaU
import Derived.Test.YtmmaiohnfphcjaaEq
import Derived.RegionTactic
import Derived.BigRegion
import Derived.Deep.QuietTactic
import Derived.BigQuiet
import Derived.WalkSmall
import Derived.DataReads
import Derived.Deep.MidRow
import Derived.Deep.DeepCutAuto
import Derived.WalkLawsBesides
namespace Go.Proofs.Ytmmaiohnfphcjaa
open Go Go.ChangeShapes Go.WideShapes Go.ChangeAt Go.RowKit
set_option linter.unusedVariables false

/-- Steps that came in: cell by cell. -/
structure Steps (w : World) (a : Option Addr) (len : Nat) (sw so sm sc : Nat → Int) : Prop where
  cells : 0 < len → ∃ b off, a = some ⟨b, off, none⟩ ∧ b < w.heap.size ∧ ∀ i, i < len →
    w.cell? ⟨b, off + i * 4, none⟩ = some (.int .i64 (sw i)) ∧ w.cell? ⟨b, off + i * 4 + 1, none⟩ = some (.int .i64 (so i)) ∧
    w.cell? ⟨b, off + i * 4 + 2, none⟩ = some (.int .i64 (sm i)) ∧ w.cell? ⟨b, off + i * 4 + 3, none⟩ = some (.int .u64 (sc i)) ∧
    (Lit.int .i64 (sw i)).wf = true ∧ (Lit.int .i64 (so i)).wf = true ∧ (Lit.int .i64 (sm i)).wf = true ∧ (Lit.int .u64 (sc i)).wf = true

theorem step_reads {w : World} {c : List Value} (h : Reads Try.prog w 56 c) : ∃ x y z u : Int, c = [.int .i64 x, .int .i64 y, .int .i64 z, .int .u64 u] ∧
    (Lit.int .i64 x).wf = true ∧ (Lit.int .i64 y).wf = true ∧ (Lit.int .i64 z).wf = true ∧ (Lit.int .u64 u).wf = true := by
  obtain ⟨hl, hf⟩ := h.struct Try.underlying56
  have hc : Try.prog.cellsOf 56 = 4 := by kernel_rfl
  have hi : Try.prog.cellsOf 3 = 1 := by kernel_rfl
  have hu : Try.prog.cellsOf 34 = 1 := by kernel_rfl
  rw [hc] at hl
  match c, hl with
  | [c0, c1, c2, c3], _ =>
    simp only [List.mem_cons, List.not_mem_nil, or_false, forall_eq_or_imp, forall_eq, hi, hu] at hf
    obtain ⟨h0, h1, h2, h3⟩ := hf
    obtain ⟨x, hx, wx⟩ := h0.int Try.underlying3
    obtain ⟨y, hy, wy⟩ := h1.int Try.underlying3
    obtain ⟨z, hz, wz⟩ := h2.int Try.underlying3
    obtain ⟨u, hu, wu⟩ := h3.int Try.underlying34
    simp at hx hy hz hu
    subst hx hy hz hu
    exact ⟨_, _, _, _, rfl, wx, wy, wz, wu⟩

theorem steps_of {w : World} {v : Value} {r : Reach} {base : Nat} (hok : Value.okWide Try.prog w r base 51 v) (h : Reads Try.prog w 51 v.cells.toList) :
    ∃ a len cap sw so sm sc, v = .slice a len cap ∧ len ≤ maxLen ∧ Steps w a len sw so sm sc := by
  obtain ⟨a, len, cap, rfl⟩ := okWide_slice Try.underlying51 hok
  rcases h.slice Try.underlying51 with hcs | ⟨ad, l, c, hcs, hl, hm, hel⟩
  · simp [Value.cells] at hcs
    obtain ⟨rfl, rfl, rfl⟩ := hcs
    exact ⟨_, _, _, fun _ => 0, fun _ => 0, fun _ => 0, fun _ => 0, rfl, Nat.zero_le _, ⟨by omega⟩⟩
  · simp [Value.cells] at hcs
    obtain ⟨rfl, rfl, rfl⟩ := hcs
    have hc : Try.prog.cellsOf 56 = 4 := by kernel_rfl
    rw [hc] at hel
    have key : ∀ i, ∃ q : Int × Int × Int × Int, i < cap → (w.cells? 0 (ad.add (i * 4)) 4 = some [.int .i64 q.1, .int .i64 q.2.1, .int .i64 q.2.2.1, .int .u64 q.2.2.2] ∧ (Lit.int .i64 q.1).wf = true ∧ (Lit.int .i64 q.2.1).wf = true ∧ (Lit.int .i64 q.2.2.1).wf = true ∧ (Lit.int .u64 q.2.2.2).wf = true) := fun i => by
      by_cases hi : i < cap
      · obtain ⟨cc, h1, h2⟩ := hel i hi
        obtain ⟨x, y, z, u, rfl, e⟩ := step_reads h2
        exact ⟨(x, y, z, u), fun _ => ⟨h1, e⟩⟩
      · exact ⟨(0, 0, 0, 0), fun h => absurd h hi⟩
    obtain ⟨q, hq⟩ := Classical.axiomOfChoice key
    refine ⟨_, _, _, fun i => (q i).1, fun i => (q i).2.1, fun i => (q i).2.2.1, fun i => (q i).2.2.2, rfl, Nat.le_trans hl hm, ⟨fun h0 => ?_⟩⟩
    obtain ⟨b, off, spot⟩ := ad
    have e0 := (World.cells?_some (hq 0 (by omega)).1).2.2 0 (by omega)
    have hspot : spot = none := by
      have := World.cell?_spot (w := w) (a := ((⟨b, off, spot⟩ : Addr).add (0 * 4)).add 0) (by rw [e0]; rfl)
      cases spot with
      | none => rfl
      | some x => simp [Addr.add] at this
    subst hspot
    have hadd : ∀ i j, ((⟨b, off, none⟩ : Addr).add (i * 4)).add j = ⟨b, off + i * 4 + j, none⟩ := fun i j => by rw [Addr.add_mid, Addr.add_mid]
    have hcell : ∀ i, i < cap → ∀ j, j < 4 → w.cell? ⟨b, off + i * 4 + j, none⟩ = [Value.int .i64 (q i).1, .int .i64 (q i).2.1, .int .i64 (q i).2.2.1, .int .u64 (q i).2.2.2][j]? := fun i hi j hj => by
      have := (World.cells?_some (hq i hi).1).2.2 j hj
      rwa [hadd] at this
    refine ⟨b, off, rfl, ?_, fun i hi => ⟨by simpa using hcell i (by omega) 0 (by omega), by simpa using hcell i (by omega) 1 (by omega), by simpa using hcell i (by omega) 2 (by omega), by simpa using hcell i (by omega) 3 (by omega), (hq i (by omega)).2⟩⟩
    have := World.block_lt_of_cell? w _ (hcell 0 (by omega) 0 (by omega))
    simpa using this

/-- The owner is a member, once there is one. -/
def GI (G : Gp) : Prop := G.o = 0 ∨ (1 ≤ G.o ∧ G.o ≤ 6 ∧ G.m (G.o - 1).toNat = true)

theorem may_zero {G : Gp} {a b n : Int} (h : mayF G a b n = 0) : say a b n = true ∧ alw G.o G.m G.g a b n = true := by
  unfold mayF at h
  cases hs : say a b n
  · simp [hs] at h
  · cases ha : alw G.o G.m G.g a b n
    · simp [hs, ha] at h
    · exact ⟨rfl, rfl⟩

theorem counts_step {G : Gp} {a b n : Int} (cut q : Int) (hI : GI G) (h : mayF G a b n = 0) :
    (b = 3 → cntF (behF G a b n cut) n q = decide (q ≤ cut)) ∧ (b = 2 → cntF (behF G a b n cut) n q = true) ∧ cntF (behF G a b n cut) (behF G a b n cut).o q = true ∧ GI (behF G a b n cut) := by
  obtain ⟨hs, ha⟩ := may_zero h
  obtain ⟨s1, s2, s3, s4⟩ := say_spec hs
  have b1 := ing_iff.1 s1
  rcases (by omega : b = 1 ∨ b = 2 ∨ b = 3 ∨ b = 4 ∨ b = 5) with rfl | rfl | rfl | rfl | rfl
  · refine ⟨by omega, by omega, ?_, ?_⟩
    · simp [behF, hs, cntF, isM, upd, s1]
    · exact .inr ⟨by simp [behF, hs]; omega, by simp [behF, hs]; omega, by simp [behF, hs, upd]⟩
  · have s4' : ing n = true := by simpa using s4
    have hao : a = G.o := by
      by_cases hne : a = G.o
      · exact hne
      · simp [alw, hne] at ha
    have hm : G.m (G.o - 1).toNat = true := by
      rcases hI with h0 | ⟨_, _, h1⟩
      · omega
      · exact h1
    have hm' : G.m (G.o.toNat - 1) = true := by simpa using hm
    rw [hao] at s1 b1
    refine ⟨by omega, fun _ => ?_, ?_, .inr ⟨by simp [behF, hs]; omega, by simp [behF, hs]; omega, by simp [behF, hs, upd, hm']⟩⟩
    · simp [behF, hs, cntF, isM, upd, s4']
    · simp [behF, hs, cntF, isM, upd, s1, hm']
  · have s4' : ing n = true := by simpa using s4
    have hao : a = G.o := by
      by_cases hne : a = G.o
      · exact hne
      · simp [alw, hne] at ha
    have hn := ing_iff.1 s4'
    have hno : n ≠ G.o := by
      simp [alw, hao] at ha
      exact ha.2
    have hm : G.m (G.o - 1).toNat = true := by
      rcases hI with h0 | ⟨_, _, h1⟩
      · omega
      · exact h1
    have hm' : G.m (G.o.toNat - 1) = true := by simpa using hm
    rw [hao] at s1 b1
    have hne : ¬ G.o.toNat - 1 = n.toNat - 1 := by omega
    refine ⟨fun _ => ?_, by omega, ?_, .inr ⟨by simp [behF, hs]; omega, by simp [behF, hs]; omega, by simp [behF, hs, upd, hm', hne]⟩⟩
    · simp [behF, hs, cntF, isM, upd, s4']
    · simp [behF, hs, cntF, isM, upd, s1, hm', hne]
  · have hao : a = G.o := by
      by_cases hne : a = G.o
      · exact hne
      · simp [alw, hne] at ha
    have hm : G.m (G.o - 1).toNat = true := by
      rcases hI with h0 | ⟨_, _, h1⟩
      · omega
      · exact h1
    have hm' : G.m (G.o.toNat - 1) = true := by simpa using hm
    rw [hao] at s1 b1
    refine ⟨by omega, by omega, ?_, .inr ⟨by simp [behF, hs]; omega, by simp [behF, hs]; omega, by simp [behF, hs, hm']⟩⟩
    simp [behF, hs, cntF, isM, s1, hm']
  · have s4' : ing n = true := by simpa using s4
    have hn := ing_iff.1 s4'
    have hmn : G.m (n - 1).toNat = true := by
      by_cases hne : a = G.o
      · simp [alw, hne, isM, s4'] at ha
        simpa using ha.1
      · simp [alw, hne] at ha
    have hmn' : G.m (n.toNat - 1) = true := by simpa using hmn
    refine ⟨by omega, by omega, ?_, .inr ⟨by simp [behF, hs]; omega, by simp [behF, hs]; omega, by simp [behF, hs, hmn']⟩⟩
    simp [behF, hs, cntF, isM, s4', hmn']

theorem beh_bounds (G : Gp) (a b n cut : Int) : G.e ≤ (behF G a b n cut).e ∧ (behF G a b n cut).e ≤ G.e + 1 ∧ G.s ≤ (behF G a b n cut).s ∧ (behF G a b n cut).s ≤ G.s + 1 := by
  unfold behF
  repeat' split
  all_goals first | omega | (dsimp only; omega)

theorem has_follows : Try.prog.follows .mixedOrders = true := by kernel_rfl

set_option maxRecDepth 100000 in
set_option maxHeartbeats 1600000 in
theorem counts_long (a : Option Addr) (len cap : Nat) (q : Int) (w : World) (hm : len ≤ maxLen) (h : 60 < len) : Calls Try.prog 10 #[.slice a len cap, .int .u64 q] w fun e w' => e = .returned (.bool true) ∧ Below w.heap.size w w' := by
  unfold maxLen at hm
  have e1 : decide (60 < len) = true := by simpa using h
  go_enter Try.func10, Try.ntmps10
  go_wp2_with fail
  refine (awake17 _).mono ?_
  rintro e w1 ⟨rfl, hb1⟩
  go_wp2_with fail
  refine (awake17 _).mono ?_
  rintro e w2 ⟨rfl, hb2⟩
  go_wp2_with fail
  go_ret
  exact ⟨rfl, hb1.trans (hb2.mono hb1.size)⟩

set_option maxRecDepth 100000 in
set_option maxHeartbeats 8000000 in
theorem counts_short (a : Option Addr) (len cap : Nat) (sw so sm sc : Nat → Int) (q : Int) (w : World) (hS : Steps w a len sw so sm sc) (h : len ≤ 60) (hq0 : 0 ≤ q) (hq1 : q ≤ 18446744073709551615) : Calls Try.prog 10 #[.slice a len cap, .int .u64 q] w fun e w' => e = .returned (.bool true) ∧ Below w.heap.size w w' := by
  have e1 : decide (60 < len) = false := by simp; omega
  have HS := Lib.hid hS
  clear hS
  go_enter Try.func10, Try.ntmps10
  go_wp2_with fail
  refine (awake17 _).mono ?_
  rintro e w1 ⟨rfl, hb1⟩
  have HB1 := Lib.hid hb1
  have hB1 := hb1.size
  clear hb1
  go_wp2_with fail
  obtain ⟨B, hB⟩ : ∃ B, B = w1.heap.size := ⟨_, rfl⟩
  obtain ⟨W, hW⟩ : ∃ W : World, W = w1.alloc (.cells #[.int .i64 0, .int .i64 0, .bool false, .bool false, .bool false, .bool false, .bool false, .bool false, .bool false, .bool false, .bool false, .bool false, .bool false, .bool false, .int .u64 0, .int .u64 0, .int .u64 0, .int .u64 0, .int .u64 0, .int .u64 0, .int .i64 0] 54) := ⟨_, rfl⟩
  rw [← hW, ← hB]
  have g0 : W.heap[B]? = some (.cells #[.int .i64 (⟨0, 0, fun _ => false, fun _ => false, fun _ => 0, 0⟩ : Gp).o, .int .i64 (⟨0, 0, fun _ => false, fun _ => false, fun _ => 0, 0⟩ : Gp).e, .bool ((⟨0, 0, fun _ => false, fun _ => false, fun _ => 0, 0⟩ : Gp).m 0), .bool ((⟨0, 0, fun _ => false, fun _ => false, fun _ => 0, 0⟩ : Gp).m 1), .bool ((⟨0, 0, fun _ => false, fun _ => false, fun _ => 0, 0⟩ : Gp).m 2), .bool ((⟨0, 0, fun _ => false, fun _ => false, fun _ => 0, 0⟩ : Gp).m 3), .bool ((⟨0, 0, fun _ => false, fun _ => false, fun _ => 0, 0⟩ : Gp).m 4), .bool ((⟨0, 0, fun _ => false, fun _ => false, fun _ => 0, 0⟩ : Gp).m 5), .bool ((⟨0, 0, fun _ => false, fun _ => false, fun _ => 0, 0⟩ : Gp).g 0), .bool ((⟨0, 0, fun _ => false, fun _ => false, fun _ => 0, 0⟩ : Gp).g 1), .bool ((⟨0, 0, fun _ => false, fun _ => false, fun _ => 0, 0⟩ : Gp).g 2), .bool ((⟨0, 0, fun _ => false, fun _ => false, fun _ => 0, 0⟩ : Gp).g 3), .bool ((⟨0, 0, fun _ => false, fun _ => false, fun _ => 0, 0⟩ : Gp).g 4), .bool ((⟨0, 0, fun _ => false, fun _ => false, fun _ => 0, 0⟩ : Gp).g 5), .int .u64 ((⟨0, 0, fun _ => false, fun _ => false, fun _ => 0, 0⟩ : Gp).c 0), .int .u64 ((⟨0, 0, fun _ => false, fun _ => false, fun _ => 0, 0⟩ : Gp).c 1), .int .u64 ((⟨0, 0, fun _ => false, fun _ => false, fun _ => 0, 0⟩ : Gp).c 2), .int .u64 ((⟨0, 0, fun _ => false, fun _ => false, fun _ => 0, 0⟩ : Gp).c 3), .int .u64 ((⟨0, 0, fun _ => false, fun _ => false, fun _ => 0, 0⟩ : Gp).c 4), .int .u64 ((⟨0, 0, fun _ => false, fun _ => false, fun _ => 0, 0⟩ : Gp).c 5), .int .i64 (⟨0, 0, fun _ => false, fun _ => false, fun _ => 0, 0⟩ : Gp).s] 54 (0, 0)) := by rw [hW, hB]; exact heap_alloc_new _ _
  have hbW : Below w.heap.size w W := by rw [hW]; exact HB1.out.alloc hB1 _
  have hBw : w.heap.size ≤ B := by rw [hB]; exact hB1
  have G0 := Lib.hid g0
  have HW := Lib.hid hbW
  clear hW hB g0 hbW hB1 HB1
  go_loopw [6] (fun i wz => ∃ (k : Nat) (G : Gp) (wr : World), k ≤ len ∧ i = .int .i64 k ∧ wr = wz ∧ Hid (Below w.heap.size w wr) ∧ Hid (wr.heap[B]? = some (.cells #[.int .i64 G.o, .int .i64 G.e, .bool (G.m 0), .bool (G.m 1), .bool (G.m 2), .bool (G.m 3), .bool (G.m 4), .bool (G.m 5), .bool (G.g 0), .bool (G.g 1), .bool (G.g 2), .bool (G.g 3), .bool (G.g 4), .bool (G.g 5), .int .u64 (G.c 0), .int .u64 (G.c 1), .int .u64 (G.c 2), .int .u64 (G.c 3), .int .u64 (G.c 4), .int .u64 (G.c 5), .int .i64 G.s] 54 (0, 0))) ∧ Hid (GI G) ∧ Hid (0 ≤ G.e ∧ G.e ≤ k ∧ 0 ≤ G.s ∧ G.s ≤ k)) (fun i _ => len - (intOf i).toNat)
  case atStart => exact ⟨0, _, _, Nat.zero_le _, rfl, rfl, HW, G0, Lib.hid (.inl rfl), Lib.hid (by decide)⟩
  case round =>
    obtain ⟨k, G, wr, hk, rfl, rfl, hbr, hgr, hI, hbd⟩ := hrel
    by_cases hlt : k < len
    · obtain ⟨bb, off, rfl, hlb, hcc⟩ := HS.out.cells (by omega)
      obtain ⟨x0, x1, x2, x3, f0, f1, f2, f3⟩ := hcc k hlt
      have y0 := (hbr.out.cell (p := ⟨bb, off + k * 4, none⟩) hlb).trans x0
      have y1 := (hbr.out.cell (p := ⟨bb, off + k * 4 + 1, none⟩) hlb).trans x1
      have y2 := (hbr.out.cell (p := ⟨bb, off + k * 4 + 2, none⟩) hlb).trans x2
      have y3 := (hbr.out.cell (p := ⟨bb, off + k * 4 + 3, none⟩) hlb).trans x3
      have hra : wr.rangeAt bb (off + k * 4) [.int .i64 (sw k), .int .i64 (so k), .int .i64 (sm k), .int .u64 (sc k)] := fun j v hj => by
        match j, hj with
        | 0, hj => simp at hj; subst hj; exact y0
        | 1, hj => simp at hj; subst hj; exact y1
        | 2, hj => simp at hj; subst hj; exact y2
        | 3, hj => simp at hj; subst hj; exact y3
      have HRA := Lib.hid hra
      clear hra y0 y1 y2 y3 x0 x1 x2 x3 hcc
      have k0 : (0 : Int) ≤ (k : Int) := by omega
      have k1 : (k : Int) < (len : Int) := by omega
      obtain ⟨a, ha⟩ : ∃ a, a = sw k := ⟨_, rfl⟩
      obtain ⟨b, hb⟩ : ∃ b, b = so k := ⟨_, rfl⟩
      obtain ⟨n, hn⟩ : ∃ n, n = sm k := ⟨_, rfl⟩
      obtain ⟨cut, hcut⟩ : ∃ cut, cut = sc k := ⟨_, rfl⟩
      rw [← ha, ← hb, ← hn, ← hcut] at HRA
      clear ha hb hn hcut f0 f1 f2 f3
      have lB : B < wr.heap.size := lt_of_blk hgr.out
      by_cases hmay : mayF G a b n = 0
      · have hm0 : (mayF G a b n != 0) = false := by rw [hmay]; rfl
        obtain ⟨e3, e2, e4, hI'⟩ := counts_step cut q hI.out hmay
        have E3 := Lib.hid e3
        have E2 := Lib.hid e2
        have E4 := Lib.hid e4
        have HI' := Lib.hid hI'
        clear hmay e3 e2 e4 hI'
        go_wp2_with (first | (refine wpList_load_mid (by rfl) 56 _ (by rfl) bb (off + k * 4) (by rfl) _ _ HRA.out Try.underlying56 (by rfl) (by kernel_rfl) ?_) | (refine wpList_store_blk (by rfl) 56 (.tmp 7) _ (by rfl) wr.heap.size (by rfl) _ (by rfl) _ 56 (heap_alloc_new wr _) (by rfl) (by kernel_rfl) (by simp [Value.oneCell']) B wr ((Below.refl _ _).alloc (by have := lt_of_blk hgr.out; omega) _) (by have := lt_of_blk hgr.out; omega) ?_; intro w2 H2 hb2 hs2 ho2; have hg2 : w2.heap[B]? = some (.cells #[.int .i64 G.o, .int .i64 G.e, .bool (G.m 0), .bool (G.m 1), .bool (G.m 2), .bool (G.m 3), .bool (G.m 4), .bool (G.m 5), .bool (G.g 0), .bool (G.g 1), .bool (G.g 2), .bool (G.g 3), .bool (G.g 4), .bool (G.g 5), .int .u64 (G.c 0), .int .u64 (G.c 1), .int .u64 (G.c 2), .int .u64 (G.c 3), .int .u64 (G.c 4), .int .u64 (G.c 5), .int .i64 G.s] 54 (0, 0)) := (by rw [ho2.out B (by omega), Below.heap_alloc _ _ _ lB]; exact hgr.out); have q0 : w2.cell? ⟨wr.heap.size, 0, none⟩ = some (.int .i64 a) := (by rw [cell_blk H2.out]; rfl); have q1 : w2.cell? ⟨wr.heap.size, 1, none⟩ = some (.int .i64 b) := (by rw [cell_blk H2.out]; rfl); have q2 : w2.cell? ⟨wr.heap.size, 2, none⟩ = some (.int .i64 n) := (by rw [cell_blk H2.out]; rfl); have q3 : w2.cell? ⟨wr.heap.size, 3, none⟩ = some (.int .u64 cut) := (by rw [cell_blk H2.out]; rfl); have HS2 := Lib.hid (show wr.heap.size + 1 = w2.heap.size by rw [hs2]; simp); have HB2 := Lib.hid hb2; have HG2 := Lib.hid hg2; clear hs2 hb2 hg2 ho2 H2) | (refine wpList_load_row (by rfl) 54 (.tmp 5) (by rfl) B (by rfl) 54 _ (0, 0) _ HG2.out Try.underlying54 (by rfl) (by kernel_rfl) ?_) | (go_at_call 30; refine (may_any G a b n _).mono ?_; rintro e w3 ⟨rfl, hb3⟩; have HS2o := HS2.out; have z0 := (hb3.cell (p := ⟨wr.heap.size, 0, none⟩) (by simp; omega)).trans q0; have z1 := (hb3.cell (p := ⟨wr.heap.size, 1, none⟩) (by simp; omega)).trans q1; have z2 := (hb3.cell (p := ⟨wr.heap.size, 2, none⟩) (by simp; omega)).trans q2; have z3 := (hb3.cell (p := ⟨wr.heap.size, 3, none⟩) (by simp; omega)).trans q3; have HG3 := Lib.hid ((hb3.block B (by omega)).trans HG2.out); have HBr3 := Lib.hid (hbr.out.trans ((HB2.out.trans (hb3.mono (by omega))).mono hBw)); have HZ3 := Lib.hid (show wr.heap.size + 1 ≤ w3.heap.size by have := hb3.size; omega); clear hb3 q0 q1 q2 q3 HS2o) | (refine wpList_load_row (by rfl) 54 (.tmp 5) (by rfl) B (by rfl) 54 _ (0, 0) _ HG3.out Try.underlying54 (by rfl) (by kernel_rfl) ?_) | (go_at_call 31; refine (beh_any G a b n cut (by have := hbd.out; omega) (by have := hbd.out; omega) (by have := hbd.out; omega) (by have := hbd.out; omega) _).mono ?_; rintro e w4 ⟨rfl, hb4⟩; have hz3 := HZ3.out; have y0 := (hb4.cell (p := ⟨wr.heap.size, 0, none⟩) (by simp; omega)).trans z0; have y1 := (hb4.cell (p := ⟨wr.heap.size, 1, none⟩) (by simp; omega)).trans z1; have y2 := (hb4.cell (p := ⟨wr.heap.size, 2, none⟩) (by simp; omega)).trans z2; have y3 := (hb4.cell (p := ⟨wr.heap.size, 3, none⟩) (by simp; omega)).trans z3; have HG4 := Lib.hid ((hb4.block B (by omega)).trans HG3.out); have HBr4 := Lib.hid (HBr3.out.trans (hb4.mono HBr3.out.size)); have HZ4 := Lib.hid (show wr.heap.size + 1 ≤ w4.heap.size by have := hb4.size; omega); clear hb4 z0 z1 z2 z3 hz3) | (refine wpList_store_blk (by rfl) 54 (.tmp 5) _ (by rfl) B (by rfl) _ (by rfl) _ 54 HG4.out (by rfl) (by kernel_rfl) (by simp [Value.oneCell']) w.heap.size w HBr4.out hBw ?_; intro w5 H5 hb5 hs5 ho5; have u0 := ((World.cell?_of_block (w := w4) (w' := w5) (a := ⟨wr.heap.size, 0, none⟩) (ho5.out wr.heap.size (by omega)))).trans y0; have u1 := ((World.cell?_of_block (w := w4) (w' := w5) (a := ⟨wr.heap.size, 1, none⟩) (ho5.out wr.heap.size (by omega)))).trans y1; have u2 := ((World.cell?_of_block (w := w4) (w' := w5) (a := ⟨wr.heap.size, 2, none⟩) (ho5.out wr.heap.size (by omega)))).trans y2; have u3 := ((World.cell?_of_block (w := w4) (w' := w5) (a := ⟨wr.heap.size, 3, none⟩) (ho5.out wr.heap.size (by omega)))).trans y3; have HB5 := Lib.hid hb5; have HS5 := Lib.hid (show wr.heap.size + 1 ≤ w5.heap.size by have := HZ4.out; omega); clear hb5 hs5 ho5 y0 y1 y2 y3))
        have l5 : wr.heap.size < w5.heap.size := by have := HS5.out; omega
        have lB5 : B < w5.heap.size := by omega
        have o5 : w5.cell? ⟨B, 0, none⟩ = some (.int .i64 (behF G a b n cut).o) := by rw [cell_blk H5.out]; rfl
        have e4 := E4.out
        have hI' := HI'.out
        by_cases hb3 : b = 3
        · have e3 := E3.out hb3
          have d3 : (b == 3) = true := by rw [hb3]; rfl
          have d2 : (b == 2) = false := by rw [hb3]; rfl
          clear hb3 E2 E3
          refine region_U 81 (fun v => Below w5.heap.size w5 v) has_follows (by kernel_rfl) rfl ((Below.refl _ _).drew) ?_
          iterate 36
            apply ListU.cons
            · intro v hv K hK
              first
                | (rw [if_pos (by rfl)]; exact wp_load_row 54 (.tmp 5) (by rfl) B (by rfl) 54 _ (0, 0) _ ((hv.block B lB5).trans H5.out) Try.underlying54 (by rfl) (by kernel_rfl) (hK _ hv))
                | (obtain ⟨hc, hf⟩ := bcell hv
                   go_simp
                   first
                     | exact hK _ hv
                     | (refine (cnt_any (behF G a b n cut) _ _ _).mono ?_; rintro e v1 ⟨rfl, hv1⟩; exact hK _ (hv.trans (hv1.mono hv.size))))
            · rfl
          intro v hv
          refine NoPanic.normal ?_
          go_wp2_with fail
          go_roundw
          case rel => exact ⟨k + 1, behF G a b n cut, _, by omega, by go_num, rfl, Lib.hid (HB5.out.trans (hv.mono HB5.out.size)), Lib.hid ((hv.block B lB5).trans H5.out), Lib.hid hI', Lib.hid (by have := hbd.out; have := beh_bounds G a b n cut; omega)⟩
          case measure => simp [intOf]; omega
        · have d3 : (b == 3) = false := by simpa using hb3
          by_cases hb2 : b = 2
          · have e2 := E2.out hb2
            have d2 : (b == 2) = true := by rw [hb2]; rfl
            clear hb3 hb2 E2 E3
            refine region_U 81 (fun v => Below w5.heap.size w5 v) has_follows (by kernel_rfl) rfl ((Below.refl _ _).drew) ?_
            iterate 36
              apply ListU.cons
              · intro v hv K hK
                first
                  | (rw [if_pos (by rfl)]; exact wp_load_row 54 (.tmp 5) (by rfl) B (by rfl) 54 _ (0, 0) _ ((hv.block B lB5).trans H5.out) Try.underlying54 (by rfl) (by kernel_rfl) (hK _ hv))
                  | (obtain ⟨hc, hf⟩ := bcell hv
                     go_simp
                     first
                       | exact hK _ hv
                       | (refine (cnt_any (behF G a b n cut) _ _ _).mono ?_; rintro e v1 ⟨rfl, hv1⟩; exact hK _ (hv.trans (hv1.mono hv.size))))
              · rfl
            intro v hv
            refine NoPanic.normal ?_
            go_wp2_with fail
            go_roundw
            case rel => exact ⟨k + 1, behF G a b n cut, _, by omega, by go_num, rfl, Lib.hid (HB5.out.trans (hv.mono HB5.out.size)), Lib.hid ((hv.block B lB5).trans H5.out), Lib.hid hI', Lib.hid (by have := hbd.out; have := beh_bounds G a b n cut; omega)⟩
            case measure => simp [intOf]; omega
          · have d2 : (b == 2) = false := by simpa using hb2
            clear hb3 hb2 E2 E3
            refine region_U 81 (fun v => Below w5.heap.size w5 v) has_follows (by kernel_rfl) rfl ((Below.refl _ _).drew) ?_
            iterate 36
              apply ListU.cons
              · intro v hv K hK
                first
                  | (rw [if_pos (by rfl)]; exact wp_load_row 54 (.tmp 5) (by rfl) B (by rfl) 54 _ (0, 0) _ ((hv.block B lB5).trans H5.out) Try.underlying54 (by rfl) (by kernel_rfl) (hK _ hv))
                  | (obtain ⟨hc, hf⟩ := bcell hv
                     go_simp
                     first
                       | exact hK _ hv
                       | (refine (cnt_any (behF G a b n cut) _ _ _).mono ?_; rintro e v1 ⟨rfl, hv1⟩; exact hK _ (hv.trans (hv1.mono hv.size))))
              · rfl
            intro v hv
            refine NoPanic.normal ?_
            go_wp2_with fail
            go_roundw
            case rel => exact ⟨k + 1, behF G a b n cut, _, by omega, by go_num, rfl, Lib.hid (HB5.out.trans (hv.mono HB5.out.size)), Lib.hid ((hv.block B lB5).trans H5.out), Lib.hid hI', Lib.hid (by have := hbd.out; have := beh_bounds G a b n cut; omega)⟩
            case measure => simp [intOf]; omega
      · have hm0 : (mayF G a b n != 0) = true := by simpa using hmay
        clear hmay
        go_wp2_with (first | (refine wpList_load_mid (by rfl) 56 _ (by rfl) bb (off + k * 4) (by rfl) _ _ HRA.out Try.underlying56 (by rfl) (by kernel_rfl) ?_) | (refine wpList_store_blk (by rfl) 56 (.tmp 7) _ (by rfl) wr.heap.size (by rfl) _ (by rfl) _ 56 (heap_alloc_new wr _) (by rfl) (by kernel_rfl) (by simp [Value.oneCell']) B wr ((Below.refl _ _).alloc (by have := lt_of_blk hgr.out; omega) _) (by have := lt_of_blk hgr.out; omega) ?_; intro w2 H2 hb2 hs2 ho2; have hg2 : w2.heap[B]? = some (.cells #[.int .i64 G.o, .int .i64 G.e, .bool (G.m 0), .bool (G.m 1), .bool (G.m 2), .bool (G.m 3), .bool (G.m 4), .bool (G.m 5), .bool (G.g 0), .bool (G.g 1), .bool (G.g 2), .bool (G.g 3), .bool (G.g 4), .bool (G.g 5), .int .u64 (G.c 0), .int .u64 (G.c 1), .int .u64 (G.c 2), .int .u64 (G.c 3), .int .u64 (G.c 4), .int .u64 (G.c 5), .int .i64 G.s] 54 (0, 0)) := (by rw [ho2.out B (by omega), Below.heap_alloc _ _ _ lB]; exact hgr.out); have q0 : w2.cell? ⟨wr.heap.size, 0, none⟩ = some (.int .i64 a) := (by rw [cell_blk H2.out]; rfl); have q1 : w2.cell? ⟨wr.heap.size, 1, none⟩ = some (.int .i64 b) := (by rw [cell_blk H2.out]; rfl); have q2 : w2.cell? ⟨wr.heap.size, 2, none⟩ = some (.int .i64 n) := (by rw [cell_blk H2.out]; rfl); have q3 : w2.cell? ⟨wr.heap.size, 3, none⟩ = some (.int .u64 cut) := (by rw [cell_blk H2.out]; rfl); have HS2 := Lib.hid (show wr.heap.size + 1 = w2.heap.size by rw [hs2]; simp); have HB2 := Lib.hid hb2; have HG2 := Lib.hid hg2; clear hs2 hb2 hg2 ho2 H2) | (refine wpList_load_row (by rfl) 54 (.tmp 5) (by rfl) B (by rfl) 54 _ (0, 0) _ HG2.out Try.underlying54 (by rfl) (by kernel_rfl) ?_) | (go_at_call 30; refine (may_any G a b n _).mono ?_; rintro e w3 ⟨rfl, hb3⟩; have HS2o := HS2.out; have z0 := (hb3.cell (p := ⟨wr.heap.size, 0, none⟩) (by simp; omega)).trans q0; have z1 := (hb3.cell (p := ⟨wr.heap.size, 1, none⟩) (by simp; omega)).trans q1; have z2 := (hb3.cell (p := ⟨wr.heap.size, 2, none⟩) (by simp; omega)).trans q2; have z3 := (hb3.cell (p := ⟨wr.heap.size, 3, none⟩) (by simp; omega)).trans q3; have HG3 := Lib.hid ((hb3.block B (by omega)).trans HG2.out); have HBr3 := Lib.hid (hbr.out.trans ((HB2.out.trans (hb3.mono (by omega))).mono hBw)); have HZ3 := Lib.hid (show wr.heap.size + 1 ≤ w3.heap.size by have := hb3.size; omega); clear hb3 q0 q1 q2 q3 HS2o))
        go_roundw
        case rel => exact ⟨k + 1, G, _, by omega, by go_num, rfl, HBr3, HG3, hI, Lib.hid (by have := hbd.out; omega)⟩
        case measure => simp [intOf]; omega
    · go_wp2_with fail
      go_ret
      exact ⟨rfl, hbr.out⟩
end Go.Proofs.Ytmmaiohnfphcjaa
