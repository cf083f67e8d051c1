/- Contracts of package group. -/
import Derived.Test.YtmmaiohnfphcjaaGrp4
import Derived.Test.YtmmaiohnfphcjaaU
import Derived.Test.YtmmaiohnfphcjaaEq
import Derived.RegionTactic
import Derived.BigRegion
import Derived.Deep.QuietTactic
import Derived.BigQuiet
import Derived.WalkSmall
import Derived.DataReads
import Derived.Great.Walk
import Derived.Deep.MidRow
import Derived.Deep.DeepCutAuto
import Derived.WalkLawsBesides
namespace Go.Proofs.Ytmmaiohnfphcjaa
open Go Go.ChangeShapes Go.WideShapes Go.ChangeAt Go.RowKit
set_option linter.unusedVariables false

/-- Owner, members and those that are gone. -/
def GK (G : Gp) : Prop := (G.o = 0 ∧ ∀ k, G.m k = false ∧ G.g k = false) ∨ (1 ≤ G.o ∧ G.o ≤ 6 ∧ G.m (G.o - 1).toNat = true ∧ ∀ k, G.m k = true → G.g k = false)

def Keep (G H : Gp) : Prop := ∀ k, k < 6 → (H.m k = true ∧ H.g k = false ∧ G.g k = false) ∨ (H.m k = false ∧ G.g k = false) ∨ (H.m k = false ∧ H.g k = true ∧ G.g k = true ∧ H.c k = G.c k)

theorem keep_same {G : Gp} (o e s : Int) (h : ∀ k, G.m k = true → G.g k = false) : Keep G ⟨o, e, G.m, G.g, G.c, s⟩ := by
  intro k _
  cases h1 : G.m k
  · cases h2 : G.g k
    · exact .inr (.inl ⟨rfl, rfl⟩)
    · exact .inr (.inr ⟨rfl, rfl, rfl, rfl⟩)
  · exact .inl ⟨rfl, h _ h1, h _ h1⟩

theorem keep_step {G : Gp} {a b n : Int} (cut : Int) (hI : GK G) (he : 0 ≤ G.e ∧ G.e ≤ 255) (h : mayF G a b n = 0) :
    Keep G (behF G a b n cut) ∧ isM (behF G a b n cut).m (behF G a b n cut).o = true ∧ GK (behF G a b n cut) ∧ G.e ≤ (behF G a b n cut).e ∧ (behF G a b n cut).e ≤ 255 := by
  obtain ⟨hs, ha⟩ := may_zero h
  obtain ⟨s1, s2, s3, s4⟩ := say_spec hs
  have b1 := ing_iff.1 s1
  have hlim : b ≠ 5 → G.e < 255 := by
    intro hb
    unfold mayF at h
    simp only [hs, ha, if_neg (by simp : ¬ true = false)] at h
    by_cases h5 : b ≠ 5 ∧ 255 ≤ G.e
    · simp [h5] at h
    · omega
  have hap : ∀ k, G.m k = true → G.g k = false := by
    rcases hI with ⟨_, h⟩ | ⟨_, _, _, h⟩
    · exact fun k hk => (h k).2
    · exact h
  rcases (by omega : b = 1 ∨ b = 2 ∨ b = 3 ∨ b = 4 ∨ b = 5) with rfl | rfl | rfl | rfl | rfl
  · have ho : G.o = 0 := by simpa [alw] using ha
    have hz : ∀ k, G.m k = false ∧ G.g k = false := by
      rcases hI with ⟨_, h⟩ | ⟨h, _⟩
      · exact h
      · omega
    have hl := hlim (by omega)
    refine ⟨fun k _ => ?_, by simp [behF, hs, isM, upd, s1], .inr ⟨by simp [behF, hs]; omega, by simp [behF, hs]; omega, by simp [behF, hs, upd], fun k _ => by simp [behF, hs, (hz k).2]⟩, by simp [behF, hs]; omega, by simp [behF, hs]; omega⟩
    by_cases hk : k = a.toNat - 1
    · exact .inl ⟨by simp [behF, hs, upd, hk], by simp [behF, hs, (hz k).2], (hz k).2⟩
    · exact .inr (.inl ⟨by simp [behF, hs, upd, hk, (hz k).1], (hz k).2⟩)
  · have s4' : ing n = true := by simpa using s4
    have hao : a = G.o := by
      by_cases hne : a = G.o
      · exact hne
      · simp [alw, hne] at ha
    have hn := ing_iff.1 s4'
    obtain ⟨hm1, hg1⟩ : isM G.m n = false ∧ G.g (n - 1).toNat = false := by simpa [alw, hao] using ha
    have hg1' : G.g (n.toNat - 1) = false := by simpa using hg1
    have hm : G.m (G.o - 1).toNat = true := by
      rcases hI with ⟨h0, _⟩ | ⟨_, _, h1, _⟩
      · omega
      · exact h1
    have hm' : G.m (G.o.toNat - 1) = true := by simpa using hm
    rw [hao] at s1 b1
    have hl := hlim (by omega)
    refine ⟨fun k hk6 => ?_, by simp [behF, hs, isM, upd, s1, hm'], .inr ⟨by simp [behF, hs]; omega, by simp [behF, hs]; omega, by simp [behF, hs, upd, hm'], fun k hk => ?_⟩, by simp [behF, hs]; omega, by simp [behF, hs]; omega⟩
    · by_cases hk : k = n.toNat - 1
      · exact .inl ⟨by simp [behF, hs, upd, hk], by simp [behF, hs, hk, hg1'], by rw [hk]; exact hg1'⟩
      · rcases keep_same G.o G.e G.s hap k hk6 with ⟨x, y, z⟩ | ⟨x, y⟩ | ⟨x, y, z, u⟩
        · exact .inl ⟨by simp [behF, hs, upd, hk]; exact x, by simp [behF, hs]; exact y, z⟩
        · exact .inr (.inl ⟨by simp [behF, hs, upd, hk]; exact x, y⟩)
        · exact .inr (.inr ⟨by simp [behF, hs, upd, hk]; exact x, by simp [behF, hs]; exact y, z, by simp [behF, hs]⟩)
    · by_cases hk2 : k = n.toNat - 1
      · simp [behF, hs, hk2, hg1']
      · simp [behF, hs, upd, hk2] at hk
        simpa [behF, hs] using hap k hk
  · have s4' : ing n = true := by simpa using s4
    have hao : a = G.o := by
      by_cases hne : a = G.o
      · exact hne
      · simp [alw, hne] at ha
    have hn := ing_iff.1 s4'
    obtain ⟨hm1, hno⟩ : isM G.m n = true ∧ n ≠ G.o := by simpa [alw, hao] using ha
    have hmn : G.m (n.toNat - 1) = true := by simpa [isM, s4'] using hm1
    have hm : G.m (G.o - 1).toNat = true := by
      rcases hI with ⟨h0, _⟩ | ⟨_, _, h1, _⟩
      · omega
      · exact h1
    have hm' : G.m (G.o.toNat - 1) = true := by simpa using hm
    rw [hao] at s1 b1
    have hne : ¬ G.o.toNat - 1 = n.toNat - 1 := by omega
    have hl := hlim (by omega)
    refine ⟨fun k hk6 => ?_, by simp [behF, hs, isM, upd, s1, hm', hne], .inr ⟨by simp [behF, hs]; omega, by simp [behF, hs]; omega, by simp [behF, hs, upd, hm', hne], fun k hk => ?_⟩, by simp [behF, hs]; omega, by simp [behF, hs]; omega⟩
    · by_cases hk : k = n.toNat - 1
      · exact .inr (.inl ⟨by simp [behF, hs, upd, hk], by rw [hk]; exact hap _ hmn⟩)
      · rcases keep_same G.o G.e G.s hap k hk6 with ⟨x, y, z⟩ | ⟨x, y⟩ | ⟨x, y, z, u⟩
        · exact .inl ⟨by simp [behF, hs, upd, hk]; exact x, by simp [behF, hs, upd, hk]; exact y, z⟩
        · exact .inr (.inl ⟨by simp [behF, hs, upd, hk]; exact x, y⟩)
        · exact .inr (.inr ⟨by simp [behF, hs, upd, hk]; exact x, by simp [behF, hs, upd, hk]; exact y, z, by simp [behF, hs, upd, hk]⟩)
    · by_cases hk2 : k = n.toNat - 1
      · simp [behF, hs, upd, hk2] at hk
      · simp [behF, hs, upd, hk2] at hk
        simpa [behF, hs, upd, hk2] using hap k hk
  · have hao : a = G.o := by
      by_cases hne : a = G.o
      · exact hne
      · simp [alw, hne] at ha
    have hm : G.m (G.o - 1).toNat = true := by
      rcases hI with ⟨h0, _⟩ | ⟨_, _, h1, _⟩
      · omega
      · exact h1
    have hm' : G.m (G.o.toNat - 1) = true := by simpa using hm
    rw [hao] at s1 b1
    have hl := hlim (by omega)
    refine ⟨by simpa [behF, hs] using keep_same _ _ _ hap, by simp [behF, hs, isM, s1, hm'], .inr ⟨by simp [behF, hs]; omega, by simp [behF, hs]; omega, by simp [behF, hs, hm'], by simpa [behF, hs] using hap⟩, by simp [behF, hs]; omega, by simp [behF, hs]; omega⟩
  · have s4' : ing n = true := by simpa using s4
    have hn := ing_iff.1 s4'
    have hmn : G.m (n - 1).toNat = true := by
      by_cases hne : a = G.o
      · simp [alw, hne, isM, s4'] at ha
        simpa using ha.1
      · simp [alw, hne] at ha
    have hmn' : G.m (n.toNat - 1) = true := by simpa using hmn
    refine ⟨by simpa [behF, hs] using keep_same _ _ _ hap, by simp [behF, hs, isM, s4', hmn'], .inr ⟨by simp [behF, hs]; omega, by simp [behF, hs]; omega, by simp [behF, hs, hmn'], by simpa [behF, hs] using hap⟩, by simp [behF, hs], by simp [behF, hs]; omega⟩

theorem has_follows6 : Try.prog.follows .mixedOrders = true := by kernel_rfl

set_option maxRecDepth 100000 in
set_option maxHeartbeats 1600000 in
theorem keeps_long (a : Option Addr) (len cap : Nat) (w : World) (hm : len ≤ maxLen) (h : 60 < len) : Calls Try.prog 9 #[.slice a len cap] w fun e w' => e = .returned (.bool true) ∧ Below w.heap.size w w' := by
  unfold maxLen at hm
  have e1 : decide (60 < len) = true := by simpa using h
  go_enter Try.func9, Try.ntmps9
  go_wp2_with fail
  refine (awake17 _).mono ?_
  rintro e w1 ⟨rfl, hb1⟩
  go_wp2_with fail
  refine (awake17 _).mono ?_
  rintro e w2 ⟨rfl, hb2⟩
  go_wp2_with fail
  go_ret
  exact ⟨rfl, hb1.trans (hb2.mono hb1.size)⟩

set_option maxRecDepth 100000 in
set_option maxHeartbeats 16000000 in
theorem keeps_short (a : Option Addr) (len cap : Nat) (sw so sm sc : Nat → Int) (w : World) (hS : Steps w a len sw so sm sc) (h : len ≤ 60) : Calls Try.prog 9 #[.slice a len cap] w fun e w' => e = .returned (.bool true) ∧ Below w.heap.size w w' := by
  have e1 : decide (60 < len) = false := by simp; omega
  have HS := Lib.hid hS
  clear hS
  go_enter Try.func9, Try.ntmps9
  go_wp2_with fail
  refine (awake17 _).mono ?_
  rintro e w1 ⟨rfl, hb1⟩
  have HB1 := Lib.hid hb1
  have hB1 := hb1.size
  clear hb1
  go_wp2_with fail
  obtain ⟨B, hB⟩ : ∃ B, B = w1.heap.size := ⟨_, rfl⟩
  obtain ⟨W0, hW⟩ : ∃ W0 : World, W0 = w1.alloc (.cells #[.int .i64 0, .int .i64 0, .bool false, .bool false, .bool false, .bool false, .bool false, .bool false, .bool false, .bool false, .bool false, .bool false, .bool false, .bool false, .int .u64 0, .int .u64 0, .int .u64 0, .int .u64 0, .int .u64 0, .int .u64 0, .int .i64 0] 54) := ⟨_, rfl⟩
  rw [← hW, ← hB]
  have g0 : W0.heap[B]? = some (.cells #[.int .i64 (⟨0, 0, fun _ => false, fun _ => false, fun _ => 0, 0⟩ : Gp).o, .int .i64 (⟨0, 0, fun _ => false, fun _ => false, fun _ => 0, 0⟩ : Gp).e, .bool ((⟨0, 0, fun _ => false, fun _ => false, fun _ => 0, 0⟩ : Gp).m 0), .bool ((⟨0, 0, fun _ => false, fun _ => false, fun _ => 0, 0⟩ : Gp).m 1), .bool ((⟨0, 0, fun _ => false, fun _ => false, fun _ => 0, 0⟩ : Gp).m 2), .bool ((⟨0, 0, fun _ => false, fun _ => false, fun _ => 0, 0⟩ : Gp).m 3), .bool ((⟨0, 0, fun _ => false, fun _ => false, fun _ => 0, 0⟩ : Gp).m 4), .bool ((⟨0, 0, fun _ => false, fun _ => false, fun _ => 0, 0⟩ : Gp).m 5), .bool ((⟨0, 0, fun _ => false, fun _ => false, fun _ => 0, 0⟩ : Gp).g 0), .bool ((⟨0, 0, fun _ => false, fun _ => false, fun _ => 0, 0⟩ : Gp).g 1), .bool ((⟨0, 0, fun _ => false, fun _ => false, fun _ => 0, 0⟩ : Gp).g 2), .bool ((⟨0, 0, fun _ => false, fun _ => false, fun _ => 0, 0⟩ : Gp).g 3), .bool ((⟨0, 0, fun _ => false, fun _ => false, fun _ => 0, 0⟩ : Gp).g 4), .bool ((⟨0, 0, fun _ => false, fun _ => false, fun _ => 0, 0⟩ : Gp).g 5), .int .u64 ((⟨0, 0, fun _ => false, fun _ => false, fun _ => 0, 0⟩ : Gp).c 0), .int .u64 ((⟨0, 0, fun _ => false, fun _ => false, fun _ => 0, 0⟩ : Gp).c 1), .int .u64 ((⟨0, 0, fun _ => false, fun _ => false, fun _ => 0, 0⟩ : Gp).c 2), .int .u64 ((⟨0, 0, fun _ => false, fun _ => false, fun _ => 0, 0⟩ : Gp).c 3), .int .u64 ((⟨0, 0, fun _ => false, fun _ => false, fun _ => 0, 0⟩ : Gp).c 4), .int .u64 ((⟨0, 0, fun _ => false, fun _ => false, fun _ => 0, 0⟩ : Gp).c 5), .int .i64 (⟨0, 0, fun _ => false, fun _ => false, fun _ => 0, 0⟩ : Gp).s] 54 (0, 0)) := by rw [hW, hB]; exact heap_alloc_new _ _
  have hbW : Below w.heap.size w W0 := by rw [hW]; exact HB1.out.alloc hB1 _
  have hBw : w.heap.size ≤ B := by rw [hB]; exact hB1
  have G0 := Lib.hid g0
  have HW := Lib.hid hbW
  clear hW hB g0 hbW hB1 HB1
  go_loopw [4] (fun i wz => ∃ (k : Nat) (G : Gp) (wr : World), k ≤ len ∧ i = .int .i64 k ∧ wr = wz ∧ Hid (Below w.heap.size w wr) ∧ Hid (wr.heap[B]? = some (.cells #[.int .i64 G.o, .int .i64 G.e, .bool (G.m 0), .bool (G.m 1), .bool (G.m 2), .bool (G.m 3), .bool (G.m 4), .bool (G.m 5), .bool (G.g 0), .bool (G.g 1), .bool (G.g 2), .bool (G.g 3), .bool (G.g 4), .bool (G.g 5), .int .u64 (G.c 0), .int .u64 (G.c 1), .int .u64 (G.c 2), .int .u64 (G.c 3), .int .u64 (G.c 4), .int .u64 (G.c 5), .int .i64 G.s] 54 (0, 0))) ∧ Hid (GK G) ∧ Hid (0 ≤ G.e ∧ G.e ≤ 255 ∧ 0 ≤ G.s ∧ G.s ≤ k)) (fun i _ => len - (intOf i).toNat)
  case atStart => exact ⟨0, _, _, Nat.zero_le _, rfl, rfl, HW, G0, Lib.hid (.inl ⟨rfl, fun _ => ⟨rfl, rfl⟩⟩), Lib.hid (by decide)⟩
  case round =>
    obtain ⟨k, G, wr, hk, rfl, rfl, hbr, hgr, hI, hbd⟩ := hrel
    clear HW G0
    by_cases hlt : k < len
    · obtain ⟨bb, off, rfl, hlb, hcc⟩ := HS.out.cells (by omega)
      obtain ⟨x0, x1, x2, x3, f0, f1, f2, f3⟩ := hcc k hlt
      have y0 := (hbr.out.cell (p := ⟨bb, off + k * 4, none⟩) hlb).trans x0
      have y1 := (hbr.out.cell (p := ⟨bb, off + k * 4 + 1, none⟩) hlb).trans x1
      have y2 := (hbr.out.cell (p := ⟨bb, off + k * 4 + 2, none⟩) hlb).trans x2
      have y3 := (hbr.out.cell (p := ⟨bb, off + k * 4 + 3, none⟩) hlb).trans x3
      have hra : wr.rangeAt bb (off + k * 4) [.int .i64 (sw k), .int .i64 (so k), .int .i64 (sm k), .int .u64 (sc k)] := fun j v hj => by
        match j, hj with
        | 0, hj => simp at hj; subst hj; exact y0
        | 1, hj => simp at hj; subst hj; exact y1
        | 2, hj => simp at hj; subst hj; exact y2
        | 3, hj => simp at hj; subst hj; exact y3
      have HRA := Lib.hid hra
      clear hra y0 y1 y2 y3 x0 x1 x2 x3 hcc
      have k0 : (0 : Int) ≤ (k : Int) := by omega
      have k1 : (k : Int) < (len : Int) := by omega
      obtain ⟨a, ha⟩ : ∃ a, a = sw k := ⟨_, rfl⟩
      obtain ⟨b, hb⟩ : ∃ b, b = so k := ⟨_, rfl⟩
      obtain ⟨n, hn⟩ : ∃ n, n = sm k := ⟨_, rfl⟩
      obtain ⟨cut, hcut⟩ : ∃ cut, cut = sc k := ⟨_, rfl⟩
      rw [← ha, ← hb, ← hn, ← hcut] at HRA
      clear ha hb hn hcut f0 f1 f2 f3
      have lB : B < wr.heap.size := lt_of_blk hgr.out
      by_cases hmay : mayF G a b n = 0
      · have hm0 : (mayF G a b n != 0) = false := by rw [hmay]; rfl
        obtain ⟨e3, e2, e4, e5, e6⟩ := keep_step cut hI.out (by have := hbd.out; omega) hmay
        have HK := Lib.hid e3
        have EIS := Lib.hid e2
        have HI' := Lib.hid e4
        have HE := Lib.hid e6
        have t1 : decide ((behF G a b n cut).e < G.e) = false := by simpa using e5
        have t2 : decide (255 < (behF G a b n cut).e) = false := by simpa using e6
        clear hmay e3 e2 e4 e5 e6
        go_upto_region 12 with (first | (refine wpList_load_mid (by rfl) 56 _ (by rfl) bb (off + k * 4) (by rfl) _ _ HRA.out Try.underlying56 (by rfl) (by kernel_rfl) ?_) | (refine wpList_store_blk (by rfl) 56 (.tmp 5) _ (by rfl) wr.heap.size (by rfl) _ (by rfl) _ 56 (heap_alloc_new wr _) (by rfl) (by kernel_rfl) (by simp [Value.oneCell']) B wr ((Below.refl _ _).alloc (by have := lt_of_blk hgr.out; omega) _) (by have := lt_of_blk hgr.out; omega) ?_; intro w2 H2 hb2 hs2 ho2; have hg2 : w2.heap[B]? = some (.cells #[.int .i64 G.o, .int .i64 G.e, .bool (G.m 0), .bool (G.m 1), .bool (G.m 2), .bool (G.m 3), .bool (G.m 4), .bool (G.m 5), .bool (G.g 0), .bool (G.g 1), .bool (G.g 2), .bool (G.g 3), .bool (G.g 4), .bool (G.g 5), .int .u64 (G.c 0), .int .u64 (G.c 1), .int .u64 (G.c 2), .int .u64 (G.c 3), .int .u64 (G.c 4), .int .u64 (G.c 5), .int .i64 G.s] 54 (0, 0)) := (by rw [ho2.out B (by omega), Below.heap_alloc _ _ _ lB]; exact hgr.out); have q0 : w2.cell? ⟨wr.heap.size, 0, none⟩ = some (.int .i64 a) := (by rw [cell_blk H2.out]; rfl); have q1 : w2.cell? ⟨wr.heap.size, 1, none⟩ = some (.int .i64 b) := (by rw [cell_blk H2.out]; rfl); have q2 : w2.cell? ⟨wr.heap.size, 2, none⟩ = some (.int .i64 n) := (by rw [cell_blk H2.out]; rfl); have q3 : w2.cell? ⟨wr.heap.size, 3, none⟩ = some (.int .u64 cut) := (by rw [cell_blk H2.out]; rfl); have HS2 := Lib.hid (show wr.heap.size + 1 = w2.heap.size by rw [hs2]; simp); have HB2 := Lib.hid hb2; have HG2 := Lib.hid hg2; clear hs2 hb2 hg2 ho2 H2) | (refine wpList_load_row (by rfl) 54 (.tmp 3) (by rfl) B (by rfl) 54 _ (0, 0) _ HG2.out Try.underlying54 (by rfl) (by kernel_rfl) ?_) | (go_at_call 30; refine (may_any G a b n _).mono ?_; rintro e w3 ⟨rfl, hb3⟩; have HS2o := HS2.out; have z0 := (hb3.cell (p := ⟨wr.heap.size, 0, none⟩) (by simp; omega)).trans q0; have z1 := (hb3.cell (p := ⟨wr.heap.size, 1, none⟩) (by simp; omega)).trans q1; have z2 := (hb3.cell (p := ⟨wr.heap.size, 2, none⟩) (by simp; omega)).trans q2; have z3 := (hb3.cell (p := ⟨wr.heap.size, 3, none⟩) (by simp; omega)).trans q3; have HG3 := Lib.hid ((hb3.block B (by omega)).trans HG2.out); have HBr3 := Lib.hid (hbr.out.trans ((HB2.out.trans (hb3.mono (by omega))).mono hBw)); have HZ3 := Lib.hid (show wr.heap.size + 1 ≤ w3.heap.size by have := hb3.size; omega); clear hb3 q0 q1 q2 q3 HS2o) | (refine wpList_load_row (by rfl) 54 (.tmp 3) (by rfl) B (by rfl) 54 _ (0, 0) _ HG3.out Try.underlying54 (by rfl) (by kernel_rfl) ?_) | (go_at_call 31; refine (beh_any G a b n cut (by have := hbd.out; omega) (by have := hbd.out; omega) (by have := hbd.out; omega) (by have := hbd.out; omega) _).mono ?_; rintro e w4 ⟨rfl, hb4⟩; have hz3 := HZ3.out; have y0 := (hb4.cell (p := ⟨wr.heap.size, 0, none⟩) (by simp; omega)).trans z0; have y1 := (hb4.cell (p := ⟨wr.heap.size, 1, none⟩) (by simp; omega)).trans z1; have y2 := (hb4.cell (p := ⟨wr.heap.size, 2, none⟩) (by simp; omega)).trans z2; have y3 := (hb4.cell (p := ⟨wr.heap.size, 3, none⟩) (by simp; omega)).trans z3; have HG4 := Lib.hid ((hb4.block B (by omega)).trans HG3.out); have HBr4 := Lib.hid (HBr3.out.trans (hb4.mono HBr3.out.size)); have HZ4 := Lib.hid (show wr.heap.size + 1 ≤ w4.heap.size by have := hb4.size; omega); clear hb4 z0 z1 z2 z3 hz3; go_loud (dsimp only; rename_i hK; refine hK _ _ ?_); go_loud (refine Go.Great.wpList_allocTo (by rfl) (some 6) (by rfl) (.pointer (some ⟨w4.heap.size, 0, none⟩)) (.cells #[.int .i64 0, .int .i64 0, .bool false, .bool false, .bool false, .bool false, .bool false, .bool false, .bool false, .bool false, .bool false, .bool false, .bool false, .bool false, .int .u64 0, .int .u64 0, .int .u64 0, .int .u64 0, .int .u64 0, .int .u64 0, .int .i64 0] 54) (by first | rfl | kernel_rfl | go_simp) ?_); go_loud (refine wpList_store_blk (by rfl) 54 (.tmp 6) _ (by rfl) w4.heap.size (by rfl) _ (by rfl) _ 54 (heap_alloc_new w4 _) (by rfl) (by kernel_rfl) (by simp [Value.oneCell']) w.heap.size w (HBr4.out.alloc (by have := HZ4.out; omega) _) (by have := HZ4.out; omega) ?_); intro w5 H5 hb5 hs5 ho5; go_loud (have lB4 := lt_of_blk HG4.out); go_loud (have HG5 := Lib.hid ((ho5.out B (by omega)).trans ((Below.heap_alloc _ _ _ (by omega)).trans HG4.out))); go_loud (have p0 : w5.cell? ⟨w4.heap.size, 0, none⟩ = some (.int .i64 (behF G a b n cut).o) := ((cell_blk H5.out).trans rfl)); go_loud (have HB5 := Lib.hid hb5); go_loud (have HS5 := Lib.hid (show w4.heap.size + 1 = w5.heap.size by have := hs5; simp at this; omega)); go_loud (clear hb5 hs5 ho5 y0 y1 y2 y3)) | (refine wpList_load_row (by rfl) 54 (.tmp 6) (by rfl) w4.heap.size (by rfl) 54 _ (0, 0) _ H5.out Try.underlying54 (by rfl) (by kernel_rfl) ?_) | (go_at_call 32; refine (is_any' (behF G a b n cut).o (behF G a b n cut).e (behF G a b n cut).m (behF G a b n cut).g (behF G a b n cut).c (behF G a b n cut).s _ _).mono ?_; rintro e w6 ⟨he, hb6⟩; rw [EIS.out] at he; subst he; have H6 := Lib.hid ((hb6.block w4.heap.size (by have := HS5.out; omega)).trans H5.out); have HG6 := Lib.hid ((hb6.block B (by have := HS5.out; omega)).trans HG5.out); have HB6 := Lib.hid (HB5.out.trans (hb6.mono HB5.out.size)); have HNB := Lib.hid (show w4.heap.size ≠ B by omega); have r1 : w6.cell? ⟨w4.heap.size, 1, none⟩ = some (.int .i64 (behF G a b n cut).e) := ((cell_blk H6.out).trans rfl); have r2 : w6.cell? ⟨B, 1, none⟩ = some (.int .i64 G.e) := ((cell_blk HG6.out).trans rfl); clear hb6 p0))
        go_cut [6, 7] (fun s6 s7 wz => ∃ (M : Nat), s6 = .pointer (some ⟨M, 0, none⟩) ∧ s7 = .int .i64 1 ∧ M ≠ B ∧ Hid (wz.heap[M]? = some (.cells #[.int .i64 (behF G a b n cut).o, .int .i64 (behF G a b n cut).e, .bool ((behF G a b n cut).m 0), .bool ((behF G a b n cut).m 1), .bool ((behF G a b n cut).m 2), .bool ((behF G a b n cut).m 3), .bool ((behF G a b n cut).m 4), .bool ((behF G a b n cut).m 5), .bool ((behF G a b n cut).g 0), .bool ((behF G a b n cut).g 1), .bool ((behF G a b n cut).g 2), .bool ((behF G a b n cut).g 3), .bool ((behF G a b n cut).g 4), .bool ((behF G a b n cut).g 5), .int .u64 ((behF G a b n cut).c 0), .int .u64 ((behF G a b n cut).c 1), .int .u64 ((behF G a b n cut).c 2), .int .u64 ((behF G a b n cut).c 3), .int .u64 ((behF G a b n cut).c 4), .int .u64 ((behF G a b n cut).c 5), .int .i64 (behF G a b n cut).s] 54 (0, 0))) ∧ Hid (wz.heap[B]? = some (.cells #[.int .i64 G.o, .int .i64 G.e, .bool (G.m 0), .bool (G.m 1), .bool (G.m 2), .bool (G.m 3), .bool (G.m 4), .bool (G.m 5), .bool (G.g 0), .bool (G.g 1), .bool (G.g 2), .bool (G.g 3), .bool (G.g 4), .bool (G.g 5), .int .u64 (G.c 0), .int .u64 (G.c 1), .int .u64 (G.c 2), .int .u64 (G.c 3), .int .u64 (G.c 4), .int .u64 (G.c 5), .int .i64 G.s] 54 (0, 0))) ∧ Hid (Below w.heap.size w wz))
        case first =>
          go_wp2_with fail
          go_meet
          exact ⟨_, rfl, rfl, HNB.out, H6, HG6, HB6⟩
        case rest =>
         obtain ⟨M, rfl, rfl, hMB, HW, HGW, HBW⟩ := hcut
         clear hbr hgr HRA lB EIS t1 t2 hm0
         go_wp2_with fail
         go_loopw [7] (fun i wz => ∃ (j : Int) (nn : Nat), (j = 1 ∨ j = 2 ∨ j = 3 ∨ j = 4 ∨ j = 5 ∨ j = 6 ∨ j = 7) ∧ i = .int .i64 j ∧ wz = wc.drewN nn) (fun i _ => 7 - (intOf i).toNat)
         case atStart => exact ⟨1, 0, .inl rfl, rfl, rfl⟩
         case round =>
           obtain ⟨j, nn, hj, rfl, rfl⟩ := hrel
           rcases hj with rfl | rfl | rfl | rfl | rfl | rfl | rfl
           · have hk6 := HK.out 0 (by omega)
             have s1 : IntKind.i64.wrap (1 - 1) = 0 := by rfl
             have s2 : IntKind.i64.wrap 0 = 0 := by rfl
             have b0 : wc.cell? ⟨B, 8, none⟩ = some (.bool (G.g 0)) := by rw [cell_blk HGW.out]; rfl
             have b1 : wc.cell? ⟨B, 14, none⟩ = some (.int .u64 (G.c 0)) := by rw [cell_blk HGW.out]; rfl
             have a0 : wc.cell? ⟨M, 2, none⟩ = some (.bool ((behF G a b n cut).m 0)) := by rw [cell_blk HW.out]; rfl
             have a1 : wc.cell? ⟨M, 8, none⟩ = some (.bool ((behF G a b n cut).g 0)) := by rw [cell_blk HW.out]; rfl
             have a2 : wc.cell? ⟨M, 14, none⟩ = some (.int .u64 ((behF G a b n cut).c 0)) := by rw [cell_blk HW.out]; rfl
             rcases hk6 with ⟨h1, h2, h3⟩ | ⟨h1, h3⟩ | ⟨h1, h2, h3, h4⟩
             · rw [h1] at a0; rw [h2] at a1; rw [h3] at b0
               clear h1 h2 h3 a2 b1
               go_wp2
               go_quiet (fail)
               go_wp2
               exact ⟨⟨2, _, by simp, rfl, rfl⟩, by simp [intOf]⟩
             · rw [h1] at a0; rw [h3] at b0
               clear h1 h3 a1 a2 b1
               go_wp2
               go_quiet (fail)
               go_wp2
               exact ⟨⟨2, _, by simp, rfl, rfl⟩, by simp [intOf]⟩
             · rw [h1] at a0; rw [h2] at a1; rw [h3] at b0; rw [h4] at a2
               clear h1 h2 h3 h4
               go_wp2
               go_quiet (fail)
               go_wp2
               exact ⟨⟨2, _, by simp, rfl, rfl⟩, by simp [intOf]⟩
           · have hk6 := HK.out 1 (by omega)
             have s1 : IntKind.i64.wrap (2 - 1) = 1 := by rfl
             have s2 : IntKind.i64.wrap 1 = 1 := by rfl
             have b0 : wc.cell? ⟨B, 9, none⟩ = some (.bool (G.g 1)) := by rw [cell_blk HGW.out]; rfl
             have b1 : wc.cell? ⟨B, 15, none⟩ = some (.int .u64 (G.c 1)) := by rw [cell_blk HGW.out]; rfl
             have a0 : wc.cell? ⟨M, 3, none⟩ = some (.bool ((behF G a b n cut).m 1)) := by rw [cell_blk HW.out]; rfl
             have a1 : wc.cell? ⟨M, 9, none⟩ = some (.bool ((behF G a b n cut).g 1)) := by rw [cell_blk HW.out]; rfl
             have a2 : wc.cell? ⟨M, 15, none⟩ = some (.int .u64 ((behF G a b n cut).c 1)) := by rw [cell_blk HW.out]; rfl
             rcases hk6 with ⟨h1, h2, h3⟩ | ⟨h1, h3⟩ | ⟨h1, h2, h3, h4⟩
             · rw [h1] at a0; rw [h2] at a1; rw [h3] at b0
               clear h1 h2 h3 a2 b1
               go_wp2
               go_quiet (fail)
               go_wp2
               exact ⟨⟨3, _, by simp, rfl, rfl⟩, by simp [intOf]⟩
             · rw [h1] at a0; rw [h3] at b0
               clear h1 h3 a1 a2 b1
               go_wp2
               go_quiet (fail)
               go_wp2
               exact ⟨⟨3, _, by simp, rfl, rfl⟩, by simp [intOf]⟩
             · rw [h1] at a0; rw [h2] at a1; rw [h3] at b0; rw [h4] at a2
               clear h1 h2 h3 h4
               go_wp2
               go_quiet (fail)
               go_wp2
               exact ⟨⟨3, _, by simp, rfl, rfl⟩, by simp [intOf]⟩
           · have hk6 := HK.out 2 (by omega)
             have s1 : IntKind.i64.wrap (3 - 1) = 2 := by rfl
             have s2 : IntKind.i64.wrap 2 = 2 := by rfl
             have b0 : wc.cell? ⟨B, 10, none⟩ = some (.bool (G.g 2)) := by rw [cell_blk HGW.out]; rfl
             have b1 : wc.cell? ⟨B, 16, none⟩ = some (.int .u64 (G.c 2)) := by rw [cell_blk HGW.out]; rfl
             have a0 : wc.cell? ⟨M, 4, none⟩ = some (.bool ((behF G a b n cut).m 2)) := by rw [cell_blk HW.out]; rfl
             have a1 : wc.cell? ⟨M, 10, none⟩ = some (.bool ((behF G a b n cut).g 2)) := by rw [cell_blk HW.out]; rfl
             have a2 : wc.cell? ⟨M, 16, none⟩ = some (.int .u64 ((behF G a b n cut).c 2)) := by rw [cell_blk HW.out]; rfl
             rcases hk6 with ⟨h1, h2, h3⟩ | ⟨h1, h3⟩ | ⟨h1, h2, h3, h4⟩
             · rw [h1] at a0; rw [h2] at a1; rw [h3] at b0
               clear h1 h2 h3 a2 b1
               go_wp2
               go_quiet (fail)
               go_wp2
               exact ⟨⟨4, _, by simp, rfl, rfl⟩, by simp [intOf]⟩
             · rw [h1] at a0; rw [h3] at b0
               clear h1 h3 a1 a2 b1
               go_wp2
               go_quiet (fail)
               go_wp2
               exact ⟨⟨4, _, by simp, rfl, rfl⟩, by simp [intOf]⟩
             · rw [h1] at a0; rw [h2] at a1; rw [h3] at b0; rw [h4] at a2
               clear h1 h2 h3 h4
               go_wp2
               go_quiet (fail)
               go_wp2
               exact ⟨⟨4, _, by simp, rfl, rfl⟩, by simp [intOf]⟩
           · have hk6 := HK.out 3 (by omega)
             have s1 : IntKind.i64.wrap (4 - 1) = 3 := by rfl
             have s2 : IntKind.i64.wrap 3 = 3 := by rfl
             have b0 : wc.cell? ⟨B, 11, none⟩ = some (.bool (G.g 3)) := by rw [cell_blk HGW.out]; rfl
             have b1 : wc.cell? ⟨B, 17, none⟩ = some (.int .u64 (G.c 3)) := by rw [cell_blk HGW.out]; rfl
             have a0 : wc.cell? ⟨M, 5, none⟩ = some (.bool ((behF G a b n cut).m 3)) := by rw [cell_blk HW.out]; rfl
             have a1 : wc.cell? ⟨M, 11, none⟩ = some (.bool ((behF G a b n cut).g 3)) := by rw [cell_blk HW.out]; rfl
             have a2 : wc.cell? ⟨M, 17, none⟩ = some (.int .u64 ((behF G a b n cut).c 3)) := by rw [cell_blk HW.out]; rfl
             rcases hk6 with ⟨h1, h2, h3⟩ | ⟨h1, h3⟩ | ⟨h1, h2, h3, h4⟩
             · rw [h1] at a0; rw [h2] at a1; rw [h3] at b0
               clear h1 h2 h3 a2 b1
               go_wp2
               go_quiet (fail)
               go_wp2
               exact ⟨⟨5, _, by simp, rfl, rfl⟩, by simp [intOf]⟩
             · rw [h1] at a0; rw [h3] at b0
               clear h1 h3 a1 a2 b1
               go_wp2
               go_quiet (fail)
               go_wp2
               exact ⟨⟨5, _, by simp, rfl, rfl⟩, by simp [intOf]⟩
             · rw [h1] at a0; rw [h2] at a1; rw [h3] at b0; rw [h4] at a2
               clear h1 h2 h3 h4
               go_wp2
               go_quiet (fail)
               go_wp2
               exact ⟨⟨5, _, by simp, rfl, rfl⟩, by simp [intOf]⟩
           · have hk6 := HK.out 4 (by omega)
             have s1 : IntKind.i64.wrap (5 - 1) = 4 := by rfl
             have s2 : IntKind.i64.wrap 4 = 4 := by rfl
             have b0 : wc.cell? ⟨B, 12, none⟩ = some (.bool (G.g 4)) := by rw [cell_blk HGW.out]; rfl
             have b1 : wc.cell? ⟨B, 18, none⟩ = some (.int .u64 (G.c 4)) := by rw [cell_blk HGW.out]; rfl
             have a0 : wc.cell? ⟨M, 6, none⟩ = some (.bool ((behF G a b n cut).m 4)) := by rw [cell_blk HW.out]; rfl
             have a1 : wc.cell? ⟨M, 12, none⟩ = some (.bool ((behF G a b n cut).g 4)) := by rw [cell_blk HW.out]; rfl
             have a2 : wc.cell? ⟨M, 18, none⟩ = some (.int .u64 ((behF G a b n cut).c 4)) := by rw [cell_blk HW.out]; rfl
             rcases hk6 with ⟨h1, h2, h3⟩ | ⟨h1, h3⟩ | ⟨h1, h2, h3, h4⟩
             · rw [h1] at a0; rw [h2] at a1; rw [h3] at b0
               clear h1 h2 h3 a2 b1
               go_wp2
               go_quiet (fail)
               go_wp2
               exact ⟨⟨6, _, by simp, rfl, rfl⟩, by simp [intOf]⟩
             · rw [h1] at a0; rw [h3] at b0
               clear h1 h3 a1 a2 b1
               go_wp2
               go_quiet (fail)
               go_wp2
               exact ⟨⟨6, _, by simp, rfl, rfl⟩, by simp [intOf]⟩
             · rw [h1] at a0; rw [h2] at a1; rw [h3] at b0; rw [h4] at a2
               clear h1 h2 h3 h4
               go_wp2
               go_quiet (fail)
               go_wp2
               exact ⟨⟨6, _, by simp, rfl, rfl⟩, by simp [intOf]⟩
           · have hk6 := HK.out 5 (by omega)
             have s1 : IntKind.i64.wrap (6 - 1) = 5 := by rfl
             have s2 : IntKind.i64.wrap 5 = 5 := by rfl
             have b0 : wc.cell? ⟨B, 13, none⟩ = some (.bool (G.g 5)) := by rw [cell_blk HGW.out]; rfl
             have b1 : wc.cell? ⟨B, 19, none⟩ = some (.int .u64 (G.c 5)) := by rw [cell_blk HGW.out]; rfl
             have a0 : wc.cell? ⟨M, 7, none⟩ = some (.bool ((behF G a b n cut).m 5)) := by rw [cell_blk HW.out]; rfl
             have a1 : wc.cell? ⟨M, 13, none⟩ = some (.bool ((behF G a b n cut).g 5)) := by rw [cell_blk HW.out]; rfl
             have a2 : wc.cell? ⟨M, 19, none⟩ = some (.int .u64 ((behF G a b n cut).c 5)) := by rw [cell_blk HW.out]; rfl
             rcases hk6 with ⟨h1, h2, h3⟩ | ⟨h1, h3⟩ | ⟨h1, h2, h3, h4⟩
             · rw [h1] at a0; rw [h2] at a1; rw [h3] at b0
               clear h1 h2 h3 a2 b1
               go_wp2
               go_quiet (fail)
               go_wp2
               exact ⟨⟨7, _, by simp, rfl, rfl⟩, by simp [intOf]⟩
             · rw [h1] at a0; rw [h3] at b0
               clear h1 h3 a1 a2 b1
               go_wp2
               go_quiet (fail)
               go_wp2
               exact ⟨⟨7, _, by simp, rfl, rfl⟩, by simp [intOf]⟩
             · rw [h1] at a0; rw [h2] at a1; rw [h3] at b0; rw [h4] at a2
               clear h1 h2 h3 h4
               go_wp2
               go_quiet (fail)
               go_wp2
               exact ⟨⟨7, _, by simp, rfl, rfl⟩, by simp [intOf]⟩
           · have HX := Lib.hid ((show (wc.drewN nn).heap[M]? = wc.heap[M]? from by simp).trans HW.out)
             have HXG := Lib.hid ((show (wc.drewN nn).heap[B]? = wc.heap[B]? from by simp).trans HGW.out)
             have HXB := Lib.hid (Go.below_drewN HBW.out nn)
             go_wp2_with (first | (refine wpList_load_row (by rfl) 54 (.tmp 6) (by rfl) M (by rfl) 54 _ (0, 0) _ HX.out Try.underlying54 (by rfl) (by kernel_rfl) ?_) | (refine wpList_store_blk (by rfl) 54 (.tmp 3) _ (by rfl) B (by rfl) _ (by rfl) _ 54 HXG.out (by rfl) (by kernel_rfl) (by simp [Value.oneCell']) w.heap.size w HXB.out hBw ?_; intro w7 H7 hb7 hs7 ho7))
             go_roundw
             case rel => first | exact ⟨k + 1, behF G a b n cut, _, by omega, by go_num, rfl, Lib.hid hb7, H7, HI', Lib.hid (by have := hbd.out; have := beh_bounds G a b n cut; have := HE.out; omega)⟩ | (refine ⟨_, k + 1, behF G a b n cut, _, by omega, by go_num, rfl, Lib.hid hb7, H7, HI', Lib.hid (by have := hbd.out; have := beh_bounds G a b n cut; have := HE.out; omega)⟩) | ((repeat apply Exists.intro); exact ⟨⟨k + 1, behF G a b n cut, _, by omega, by go_num, rfl, Lib.hid hb7, H7, HI', Lib.hid (by have := hbd.out; have := beh_bounds G a b n cut; have := HE.out; omega)⟩, rfl⟩)
             case measure => simp [intOf]; omega
      · have hm0 : (mayF G a b n != 0) = true := by simpa using hmay
        clear hmay
        go_wp2_with (first | (refine wpList_load_mid (by rfl) 56 _ (by rfl) bb (off + k * 4) (by rfl) _ _ HRA.out Try.underlying56 (by rfl) (by kernel_rfl) ?_) | (refine wpList_store_blk (by rfl) 56 (.tmp 5) _ (by rfl) wr.heap.size (by rfl) _ (by rfl) _ 56 (heap_alloc_new wr _) (by rfl) (by kernel_rfl) (by simp [Value.oneCell']) B wr ((Below.refl _ _).alloc (by have := lt_of_blk hgr.out; omega) _) (by have := lt_of_blk hgr.out; omega) ?_; intro w2 H2 hb2 hs2 ho2; have hg2 : w2.heap[B]? = some (.cells #[.int .i64 G.o, .int .i64 G.e, .bool (G.m 0), .bool (G.m 1), .bool (G.m 2), .bool (G.m 3), .bool (G.m 4), .bool (G.m 5), .bool (G.g 0), .bool (G.g 1), .bool (G.g 2), .bool (G.g 3), .bool (G.g 4), .bool (G.g 5), .int .u64 (G.c 0), .int .u64 (G.c 1), .int .u64 (G.c 2), .int .u64 (G.c 3), .int .u64 (G.c 4), .int .u64 (G.c 5), .int .i64 G.s] 54 (0, 0)) := (by rw [ho2.out B (by omega), Below.heap_alloc _ _ _ lB]; exact hgr.out); have q0 : w2.cell? ⟨wr.heap.size, 0, none⟩ = some (.int .i64 a) := (by rw [cell_blk H2.out]; rfl); have q1 : w2.cell? ⟨wr.heap.size, 1, none⟩ = some (.int .i64 b) := (by rw [cell_blk H2.out]; rfl); have q2 : w2.cell? ⟨wr.heap.size, 2, none⟩ = some (.int .i64 n) := (by rw [cell_blk H2.out]; rfl); have q3 : w2.cell? ⟨wr.heap.size, 3, none⟩ = some (.int .u64 cut) := (by rw [cell_blk H2.out]; rfl); have HS2 := Lib.hid (show wr.heap.size + 1 = w2.heap.size by rw [hs2]; simp); have HB2 := Lib.hid hb2; have HG2 := Lib.hid hg2; clear hs2 hb2 hg2 ho2 H2) | (refine wpList_load_row (by rfl) 54 (.tmp 3) (by rfl) B (by rfl) 54 _ (0, 0) _ HG2.out Try.underlying54 (by rfl) (by kernel_rfl) ?_) | (go_at_call 30; refine (may_any G a b n _).mono ?_; rintro e w3 ⟨rfl, hb3⟩; have HS2o := HS2.out; have z0 := (hb3.cell (p := ⟨wr.heap.size, 0, none⟩) (by simp; omega)).trans q0; have z1 := (hb3.cell (p := ⟨wr.heap.size, 1, none⟩) (by simp; omega)).trans q1; have z2 := (hb3.cell (p := ⟨wr.heap.size, 2, none⟩) (by simp; omega)).trans q2; have z3 := (hb3.cell (p := ⟨wr.heap.size, 3, none⟩) (by simp; omega)).trans q3; have HG3 := Lib.hid ((hb3.block B (by omega)).trans HG2.out); have HBr3 := Lib.hid (hbr.out.trans ((HB2.out.trans (hb3.mono (by omega))).mono hBw)); have HZ3 := Lib.hid (show wr.heap.size + 1 ≤ w3.heap.size by have := hb3.size; omega); clear hb3 q0 q1 q2 q3 HS2o))
        go_roundw
        case rel => exact ⟨k + 1, G, _, by omega, by go_num, rfl, HBr3, HG3, hI, Lib.hid (by have := hbd.out; omega)⟩
        case measure => simp [intOf]; omega
    · go_wp2_with fail
      go_ret
      exact ⟨rfl, hbr.out⟩
end Go.Proofs.Ytmmaiohnfphcjaa
