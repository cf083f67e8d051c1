/- SHA-256 of 'abc', reckoned. -/
import Derived.Test.YtaeiknpiofnmeaaDoorHa8
import Derived.KernelRfl
namespace Go.Proofs.YtaeiknpiofnmeaaDoor
open Go Go.RowKit
set_option linter.unusedVariables false
set_option linter.unusedSimpArgs false
set_option maxRecDepth 100000
def KTab : List Nat := [1116352408, 1899447441, 3049323471, 3921009573, 961987163, 1508970993, 2453635748, 2870763221, 3624381080, 310598401, 607225278, 1426881987, 1925078388, 2162078206, 2614888103, 3248222580, 3835390401, 4022224774, 264347078, 604807628, 770255983, 1249150122, 1555081692, 1996064986, 2554220882, 2821834349, 2952996808, 3210313671, 3336571891, 3584528711, 113926993, 338241895, 666307205, 773529912, 1294757372, 1396182291, 1695183700, 1986661051, 2177026350, 2456956037, 2730485921, 2820302411, 3259730800, 3345764771, 3516065817, 3600352804, 4094571909, 275423344, 430227734, 506948616, 659060556, 883997877, 958139571, 1322822218, 1537002063, 1747873779, 1955562222, 2024104815, 2227730452, 2361852424, 2428436474, 2756734187, 3204031479, 3329325298]
theorem wS_step (B : Nat → Nat) (i j1 j2 j3 j4 : Nat) {a b c d v : Nat} (hi : 16 ≤ i) (e1 : i - 16 = j1) (e2 : i - 15 = j2) (e3 : i - 7 = j3) (e4 : i - 2 = j4) (h1 : wS B j1 = a) (h2 : wS B j2 = b) (h3 : wS B j3 = c) (h4 : wS B j4 = d) (hv : (a + sg0 b + c + sg1 d) % 4294967296 = v) : wS B i = v := by
  subst e1; subst e2; subst e3; subst e4
  rw [wS_hi B hi, h1, h2, h3, h4, hv]
def abcX : List Int := [97, 98, 99] ++ padL 3
theorem ab_w0 : wS (w4 abcX 0) 0 = 1633837952 := by rw [wS_lo _ (by omega)]; kernel_rfl
theorem ab_w1 : wS (w4 abcX 0) 1 = 0 := by rw [wS_lo _ (by omega)]; kernel_rfl
theorem ab_w2 : wS (w4 abcX 0) 2 = 0 := by rw [wS_lo _ (by omega)]; kernel_rfl
theorem ab_w3 : wS (w4 abcX 0) 3 = 0 := by rw [wS_lo _ (by omega)]; kernel_rfl
theorem ab_w4 : wS (w4 abcX 0) 4 = 0 := by rw [wS_lo _ (by omega)]; kernel_rfl
theorem ab_w5 : wS (w4 abcX 0) 5 = 0 := by rw [wS_lo _ (by omega)]; kernel_rfl
theorem ab_w6 : wS (w4 abcX 0) 6 = 0 := by rw [wS_lo _ (by omega)]; kernel_rfl
theorem ab_w7 : wS (w4 abcX 0) 7 = 0 := by rw [wS_lo _ (by omega)]; kernel_rfl
theorem ab_w8 : wS (w4 abcX 0) 8 = 0 := by rw [wS_lo _ (by omega)]; kernel_rfl
theorem ab_w9 : wS (w4 abcX 0) 9 = 0 := by rw [wS_lo _ (by omega)]; kernel_rfl
theorem ab_w10 : wS (w4 abcX 0) 10 = 0 := by rw [wS_lo _ (by omega)]; kernel_rfl
theorem ab_w11 : wS (w4 abcX 0) 11 = 0 := by rw [wS_lo _ (by omega)]; kernel_rfl
theorem ab_w12 : wS (w4 abcX 0) 12 = 0 := by rw [wS_lo _ (by omega)]; kernel_rfl
theorem ab_w13 : wS (w4 abcX 0) 13 = 0 := by rw [wS_lo _ (by omega)]; kernel_rfl
theorem ab_w14 : wS (w4 abcX 0) 14 = 0 := by rw [wS_lo _ (by omega)]; kernel_rfl
theorem ab_w15 : wS (w4 abcX 0) 15 = 24 := by rw [wS_lo _ (by omega)]; kernel_rfl
theorem ab_w16 : wS (w4 abcX 0) 16 = 1633837952 := wS_step (w4 abcX 0) 16 0 1 9 14 (by omega) rfl rfl rfl rfl ab_w0 ab_w1 ab_w9 ab_w14 (by kernel_rfl)
theorem ab_w17 : wS (w4 abcX 0) 17 = 983040 := wS_step (w4 abcX 0) 17 1 2 10 15 (by omega) rfl rfl rfl rfl ab_w1 ab_w2 ab_w10 ab_w15 (by kernel_rfl)
theorem ab_w18 : wS (w4 abcX 0) 18 = 2108187653 := wS_step (w4 abcX 0) 18 2 3 11 16 (by omega) rfl rfl rfl rfl ab_w2 ab_w3 ab_w11 ab_w16 (by kernel_rfl)
theorem ab_w19 : wS (w4 abcX 0) 19 = 1610613702 := wS_step (w4 abcX 0) 19 3 4 12 17 (by omega) rfl rfl rfl rfl ab_w3 ab_w4 ab_w12 ab_w17 (by kernel_rfl)
theorem ab_w20 : wS (w4 abcX 0) 20 = 1050508152 := wS_step (w4 abcX 0) 20 4 5 13 18 (by omega) rfl rfl rfl rfl ab_w4 ab_w5 ab_w13 ab_w18 (by kernel_rfl)
theorem ab_w21 : wS (w4 abcX 0) 21 = 25426944 := wS_step (w4 abcX 0) 21 5 6 14 19 (by omega) rfl rfl rfl rfl ab_w5 ab_w6 ab_w14 ab_w19 (by kernel_rfl)
theorem ab_w22 : wS (w4 abcX 0) 22 = 316456923 := wS_step (w4 abcX 0) 22 6 7 15 20 (by omega) rfl rfl rfl rfl ab_w6 ab_w7 ab_w15 ab_w20 (by kernel_rfl)
theorem ab_w23 : wS (w4 abcX 0) 23 = 3806512014 := wS_step (w4 abcX 0) 23 7 8 16 21 (by omega) rfl rfl rfl rfl ab_w7 ab_w8 ab_w16 ab_w21 (by kernel_rfl)
theorem ab_w24 : wS (w4 abcX 0) 24 = 3357629466 := wS_step (w4 abcX 0) 24 8 9 17 22 (by omega) rfl rfl rfl rfl ab_w8 ab_w9 ab_w17 ab_w22 (by kernel_rfl)
theorem ab_w25 : wS (w4 abcX 0) 25 = 3073800610 := wS_step (w4 abcX 0) 25 9 10 18 23 (by omega) rfl rfl rfl rfl ab_w9 ab_w10 ab_w18 ab_w23 (by kernel_rfl)
theorem ab_w26 : wS (w4 abcX 0) 26 = 3854317833 := wS_step (w4 abcX 0) 26 10 11 19 24 (by omega) rfl rfl rfl rfl ab_w10 ab_w11 ab_w19 ab_w24 (by kernel_rfl)
theorem ab_w27 : wS (w4 abcX 0) 27 = 845560923 := wS_step (w4 abcX 0) 27 11 12 20 25 (by omega) rfl rfl rfl rfl ab_w11 ab_w12 ab_w20 ab_w25 (by kernel_rfl)
theorem ab_w28 : wS (w4 abcX 0) 28 = 2636160359 := wS_step (w4 abcX 0) 28 12 13 21 26 (by omega) rfl rfl rfl rfl ab_w12 ab_w13 ab_w21 ab_w26 (by kernel_rfl)
theorem ab_w29 : wS (w4 abcX 0) 29 = 3968280267 := wS_step (w4 abcX 0) 29 13 14 22 27 (by omega) rfl rfl rfl rfl ab_w13 ab_w14 ab_w22 ab_w27 (by kernel_rfl)
theorem ab_w30 : wS (w4 abcX 0) 30 = 1881225380 := wS_step (w4 abcX 0) 30 14 15 23 28 (by omega) rfl rfl rfl rfl ab_w14 ab_w15 ab_w23 ab_w28 (by kernel_rfl)
theorem ab_w31 : wS (w4 abcX 0) 31 = 3552024379 := wS_step (w4 abcX 0) 31 15 16 24 29 (by omega) rfl rfl rfl rfl ab_w15 ab_w16 ab_w24 ab_w29 (by kernel_rfl)
theorem ab_w32 : wS (w4 abcX 0) 32 = 2482346367 := wS_step (w4 abcX 0) 32 16 17 25 30 (by omega) rfl rfl rfl rfl ab_w16 ab_w17 ab_w25 ab_w30 (by kernel_rfl)
theorem ab_w33 : wS (w4 abcX 0) 33 = 996719219 := wS_step (w4 abcX 0) 33 17 18 26 31 (by omega) rfl rfl rfl rfl ab_w17 ab_w18 ab_w26 ab_w31 (by kernel_rfl)
theorem ab_w34 : wS (w4 abcX 0) 34 = 2952069057 := wS_step (w4 abcX 0) 34 18 19 27 32 (by omega) rfl rfl rfl rfl ab_w18 ab_w19 ab_w27 ab_w32 (by kernel_rfl)
theorem ab_w35 : wS (w4 abcX 0) 35 = 4043988066 := wS_step (w4 abcX 0) 35 19 20 28 33 (by omega) rfl rfl rfl rfl ab_w19 ab_w20 ab_w28 ab_w33 (by kernel_rfl)
theorem ab_w36 : wS (w4 abcX 0) 36 = 176896406 := wS_step (w4 abcX 0) 36 20 21 29 34 (by omega) rfl rfl rfl rfl ab_w20 ab_w21 ab_w29 ab_w34 (by kernel_rfl)
theorem ab_w37 : wS (w4 abcX 0) 37 = 1924104970 := wS_step (w4 abcX 0) 37 21 22 30 35 (by omega) rfl rfl rfl rfl ab_w21 ab_w22 ab_w30 ab_w35 (by kernel_rfl)
theorem ab_w38 : wS (w4 abcX 0) 38 = 2483675966 := wS_step (w4 abcX 0) 38 22 23 31 36 (by omega) rfl rfl rfl rfl ab_w22 ab_w23 ab_w31 ab_w36 (by kernel_rfl)
theorem ab_w39 : wS (w4 abcX 0) 39 = 610538786 := wS_step (w4 abcX 0) 39 23 24 32 37 (by omega) rfl rfl rfl rfl ab_w23 ab_w24 ab_w32 ab_w37 (by kernel_rfl)
theorem ab_w40 : wS (w4 abcX 0) 40 = 2672279444 := wS_step (w4 abcX 0) 40 24 25 33 38 (by omega) rfl rfl rfl rfl ab_w24 ab_w25 ab_w33 ab_w38 (by kernel_rfl)
theorem ab_w41 : wS (w4 abcX 0) 41 = 4037431130 := wS_step (w4 abcX 0) 41 25 26 34 39 (by omega) rfl rfl rfl rfl ab_w25 ab_w26 ab_w34 ab_w39 (by kernel_rfl)
theorem ab_w42 : wS (w4 abcX 0) 42 = 1042573945 := wS_step (w4 abcX 0) 42 26 27 35 40 (by omega) rfl rfl rfl rfl ab_w26 ab_w27 ab_w35 ab_w40 (by kernel_rfl)
theorem ab_w43 : wS (w4 abcX 0) 43 = 657669027 := wS_step (w4 abcX 0) 43 27 28 36 41 (by omega) rfl rfl rfl rfl ab_w27 ab_w28 ab_w36 ab_w41 (by kernel_rfl)
theorem ab_w44 : wS (w4 abcX 0) 44 = 206005234 := wS_step (w4 abcX 0) 44 28 29 37 42 (by omega) rfl rfl rfl rfl ab_w28 ab_w29 ab_w37 ab_w42 (by kernel_rfl)
theorem ab_w45 : wS (w4 abcX 0) 45 = 2215296807 := wS_step (w4 abcX 0) 45 29 30 38 43 (by omega) rfl rfl rfl rfl ab_w29 ab_w30 ab_w38 ab_w43 (by kernel_rfl)
theorem ab_w46 : wS (w4 abcX 0) 46 = 2049510749 := wS_step (w4 abcX 0) 46 30 31 39 44 (by omega) rfl rfl rfl rfl ab_w30 ab_w31 ab_w39 ab_w44 (by kernel_rfl)
theorem ab_w47 : wS (w4 abcX 0) 47 = 106709978 := wS_step (w4 abcX 0) 47 31 32 40 45 (by omega) rfl rfl rfl rfl ab_w31 ab_w32 ab_w40 ab_w45 (by kernel_rfl)
theorem ab_w48 : wS (w4 abcX 0) 48 = 4215179723 := wS_step (w4 abcX 0) 48 32 33 41 46 (by omega) rfl rfl rfl rfl ab_w32 ab_w33 ab_w41 ab_w46 (by kernel_rfl)
theorem ab_w49 : wS (w4 abcX 0) 49 = 3430291419 := wS_step (w4 abcX 0) 49 33 34 42 47 (by omega) rfl rfl rfl rfl ab_w33 ab_w34 ab_w42 ab_w47 (by kernel_rfl)
theorem ab_w50 : wS (w4 abcX 0) 50 = 3118885940 := wS_step (w4 abcX 0) 50 34 35 43 48 (by omega) rfl rfl rfl rfl ab_w34 ab_w35 ab_w43 ab_w48 (by kernel_rfl)
theorem ab_w51 : wS (w4 abcX 0) 51 = 2845390439 := wS_step (w4 abcX 0) 51 35 36 44 49 (by omega) rfl rfl rfl rfl ab_w35 ab_w36 ab_w44 ab_w49 (by kernel_rfl)
theorem ab_w52 : wS (w4 abcX 0) 52 = 2226839261 := wS_step (w4 abcX 0) 52 36 37 45 50 (by omega) rfl rfl rfl rfl ab_w36 ab_w37 ab_w45 ab_w50 (by kernel_rfl)
theorem ab_w53 : wS (w4 abcX 0) 53 = 3256115900 := wS_step (w4 abcX 0) 53 37 38 46 51 (by omega) rfl rfl rfl rfl ab_w37 ab_w38 ab_w46 ab_w51 (by kernel_rfl)
theorem ab_w54 : wS (w4 abcX 0) 54 = 344409900 := wS_step (w4 abcX 0) 54 38 39 47 52 (by omega) rfl rfl rfl rfl ab_w38 ab_w39 ab_w47 ab_w52 (by kernel_rfl)
theorem ab_w55 : wS (w4 abcX 0) 55 = 2987358873 := wS_step (w4 abcX 0) 55 39 40 48 53 (by omega) rfl rfl rfl rfl ab_w39 ab_w40 ab_w48 ab_w53 (by kernel_rfl)
theorem ab_w56 : wS (w4 abcX 0) 56 = 4015503821 := wS_step (w4 abcX 0) 56 40 41 49 54 (by omega) rfl rfl rfl rfl ab_w40 ab_w41 ab_w49 ab_w54 (by kernel_rfl)
theorem ab_w57 : wS (w4 abcX 0) 57 = 3957764664 := wS_step (w4 abcX 0) 57 41 42 50 55 (by omega) rfl rfl rfl rfl ab_w41 ab_w42 ab_w50 ab_w55 (by kernel_rfl)
theorem ab_w58 : wS (w4 abcX 0) 58 = 2682456414 := wS_step (w4 abcX 0) 58 42 43 51 56 (by omega) rfl rfl rfl rfl ab_w42 ab_w43 ab_w51 ab_w56 (by kernel_rfl)
theorem ab_w59 : wS (w4 abcX 0) 59 = 2025622859 := wS_step (w4 abcX 0) 59 43 44 52 57 (by omega) rfl rfl rfl rfl ab_w43 ab_w44 ab_w52 ab_w57 (by kernel_rfl)
theorem ab_w60 : wS (w4 abcX 0) 60 = 2755645205 := wS_step (w4 abcX 0) 60 44 45 53 58 (by omega) rfl rfl rfl rfl ab_w44 ab_w45 ab_w53 ab_w58 (by kernel_rfl)
theorem ab_w61 : wS (w4 abcX 0) 61 = 1720397816 := wS_step (w4 abcX 0) 61 45 46 54 59 (by omega) rfl rfl rfl rfl ab_w45 ab_w46 ab_w54 ab_w59 (by kernel_rfl)
theorem ab_w62 : wS (w4 abcX 0) 62 = 4004225740 := wS_step (w4 abcX 0) 62 46 47 55 60 (by omega) rfl rfl rfl rfl ab_w46 ab_w47 ab_w55 ab_w60 (by kernel_rfl)
theorem ab_w63 : wS (w4 abcX 0) 63 = 313650667 := wS_step (w4 abcX 0) 63 47 48 56 61 (by omega) rfl rfl rfl rfl ab_w47 ab_w48 ab_w56 ab_w61 (by kernel_rfl)
theorem ab_r0 : rndS (kF KTab) (wS (w4 abcX 0)) H0 0 = ⟨1779033703, 3144134277, 1013904242, 2773480762, 1359893119, 2600822924, 528734635, 1541459225⟩ := rfl
theorem ab_r1 : rndS (kF KTab) (wS (w4 abcX 0)) H0 1 = ⟨1567288269, 1779033703, 3144134277, 1013904242, 4197074466, 1359893119, 2600822924, 528734635⟩ := by
  show stp (rndS (kF KTab) (wS (w4 abcX 0)) H0 0) (kF KTab 0) (wS (w4 abcX 0) 0) = _
  rw [ab_r0, ab_w0]
  kernel_rfl
theorem ab_r2 : rndS (kF KTab) (wS (w4 abcX 0)) H0 2 = ⟨1516951981, 1567288269, 1779033703, 3144134277, 2026797449, 4197074466, 1359893119, 2600822924⟩ := by
  show stp (rndS (kF KTab) (wS (w4 abcX 0)) H0 1) (kF KTab 1) (wS (w4 abcX 0) 1) = _
  rw [ab_r1, ab_w1]
  kernel_rfl
theorem ab_r3 : rndS (kF KTab) (wS (w4 abcX 0)) H0 3 = ⟨3368241063, 1516951981, 1567288269, 1779033703, 4180228587, 2026797449, 4197074466, 1359893119⟩ := by
  show stp (rndS (kF KTab) (wS (w4 abcX 0)) H0 2) (kF KTab 2) (wS (w4 abcX 0) 2) = _
  rw [ab_r2, ab_w2]
  kernel_rfl
theorem ab_r4 : rndS (kF KTab) (wS (w4 abcX 0)) H0 4 = ⟨3578852966, 3368241063, 1516951981, 1567288269, 618661968, 4180228587, 2026797449, 4197074466⟩ := by
  show stp (rndS (kF KTab) (wS (w4 abcX 0)) H0 3) (kF KTab 3) (wS (w4 abcX 0) 3) = _
  rw [ab_r3, ab_w3]
  kernel_rfl
theorem ab_r5 : rndS (kF KTab) (wS (w4 abcX 0)) H0 5 = ⟨71342698, 3578852966, 3368241063, 1516951981, 1135452741, 618661968, 4180228587, 2026797449⟩ := by
  show stp (rndS (kF KTab) (wS (w4 abcX 0)) H0 4) (kF KTab 4) (wS (w4 abcX 0) 4) = _
  rw [ab_r4, ab_w4]
  kernel_rfl
theorem ab_r6 : rndS (kF KTab) (wS (w4 abcX 0)) H0 6 = ⟨725748213, 71342698, 3578852966, 3368241063, 1900175533, 1135452741, 618661968, 4180228587⟩ := by
  show stp (rndS (kF KTab) (wS (w4 abcX 0)) H0 5) (kF KTab 5) (wS (w4 abcX 0) 5) = _
  rw [ab_r5, ab_w5]
  kernel_rfl
theorem ab_r7 : rndS (kF KTab) (wS (w4 abcX 0)) H0 7 = ⟨3842179968, 725748213, 71342698, 3578852966, 2603066369, 1900175533, 1135452741, 618661968⟩ := by
  show stp (rndS (kF KTab) (wS (w4 abcX 0)) H0 6) (kF KTab 6) (wS (w4 abcX 0) 6) = _
  rw [ab_r6, ab_w6]
  kernel_rfl
theorem ab_r8 : rndS (kF KTab) (wS (w4 abcX 0)) H0 8 = ⟨2241887071, 3842179968, 725748213, 71342698, 207977081, 2603066369, 1900175533, 1135452741⟩ := by
  show stp (rndS (kF KTab) (wS (w4 abcX 0)) H0 7) (kF KTab 7) (wS (w4 abcX 0) 7) = _
  rw [ab_r7, ab_w7]
  kernel_rfl
theorem ab_r9 : rndS (kF KTab) (wS (w4 abcX 0)) H0 9 = ⟨2382687417, 2241887071, 3842179968, 725748213, 852110732, 207977081, 2603066369, 1900175533⟩ := by
  show stp (rndS (kF KTab) (wS (w4 abcX 0)) H0 8) (kF KTab 8) (wS (w4 abcX 0) 8) = _
  rw [ab_r8, ab_w8]
  kernel_rfl
theorem ab_r10 : rndS (kF KTab) (wS (w4 abcX 0)) H0 10 = ⟨2357671019, 2382687417, 2241887071, 3842179968, 482944406, 852110732, 207977081, 2603066369⟩ := by
  show stp (rndS (kF KTab) (wS (w4 abcX 0)) H0 9) (kF KTab 9) (wS (w4 abcX 0) 9) = _
  rw [ab_r9, ab_w9]
  kernel_rfl
theorem ab_r11 : rndS (kF KTab) (wS (w4 abcX 0)) H0 11 = ⟨1201185780, 2357671019, 2382687417, 2241887071, 1131095016, 482944406, 852110732, 207977081⟩ := by
  show stp (rndS (kF KTab) (wS (w4 abcX 0)) H0 10) (kF KTab 10) (wS (w4 abcX 0) 10) = _
  rw [ab_r10, ab_w10]
  kernel_rfl
theorem ab_r12 : rndS (kF KTab) (wS (w4 abcX 0)) H0 12 = ⟨4146054569, 1201185780, 2357671019, 2382687417, 2171590377, 1131095016, 482944406, 852110732⟩ := by
  show stp (rndS (kF KTab) (wS (w4 abcX 0)) H0 11) (kF KTab 11) (wS (w4 abcX 0) 11) = _
  rw [ab_r11, ab_w11]
  kernel_rfl
theorem ab_r13 : rndS (kF KTab) (wS (w4 abcX 0)) H0 13 = ⟨2274437520, 4146054569, 1201185780, 2357671019, 509051416, 2171590377, 1131095016, 482944406⟩ := by
  show stp (rndS (kF KTab) (wS (w4 abcX 0)) H0 12) (kF KTab 12) (wS (w4 abcX 0) 12) = _
  rw [ab_r12, ab_w12]
  kernel_rfl
theorem ab_r14 : rndS (kF KTab) (wS (w4 abcX 0)) H0 14 = ⟨3643992854, 2274437520, 4146054569, 1201185780, 1952073950, 509051416, 2171590377, 1131095016⟩ := by
  show stp (rndS (kF KTab) (wS (w4 abcX 0)) H0 13) (kF KTab 13) (wS (w4 abcX 0) 13) = _
  rw [ab_r13, ab_w13]
  kernel_rfl
theorem ab_r15 : rndS (kF KTab) (wS (w4 abcX 0)) H0 15 = ⟨3227803614, 3643992854, 2274437520, 4146054569, 194179596, 1952073950, 509051416, 2171590377⟩ := by
  show stp (rndS (kF KTab) (wS (w4 abcX 0)) H0 14) (kF KTab 14) (wS (w4 abcX 0) 14) = _
  rw [ab_r14, ab_w14]
  kernel_rfl
theorem ab_r16 : rndS (kF KTab) (wS (w4 abcX 0)) H0 16 = ⟨2969183118, 3227803614, 3643992854, 2274437520, 123276749, 194179596, 1952073950, 509051416⟩ := by
  show stp (rndS (kF KTab) (wS (w4 abcX 0)) H0 15) (kF KTab 15) (wS (w4 abcX 0) 15) = _
  rw [ab_r15, ab_w15]
  kernel_rfl
theorem ab_r17 : rndS (kF KTab) (wS (w4 abcX 0)) H0 17 = ⟨567974555, 2969183118, 3227803614, 3643992854, 2150900380, 123276749, 194179596, 1952073950⟩ := by
  show stp (rndS (kF KTab) (wS (w4 abcX 0)) H0 16) (kF KTab 16) (wS (w4 abcX 0) 16) = _
  rw [ab_r16, ab_w16]
  kernel_rfl
theorem ab_r18 : rndS (kF KTab) (wS (w4 abcX 0)) H0 18 = ⟨3271285201, 567974555, 2969183118, 3227803614, 2221859924, 2150900380, 123276749, 194179596⟩ := by
  show stp (rndS (kF KTab) (wS (w4 abcX 0)) H0 17) (kF KTab 17) (wS (w4 abcX 0) 17) = _
  rw [ab_r17, ab_w17]
  kernel_rfl
theorem ab_r19 : rndS (kF KTab) (wS (w4 abcX 0)) H0 19 = ⟨4269243327, 3271285201, 567974555, 2969183118, 3431569761, 2221859924, 2150900380, 123276749⟩ := by
  show stp (rndS (kF KTab) (wS (w4 abcX 0)) H0 18) (kF KTab 18) (wS (w4 abcX 0) 18) = _
  rw [ab_r18, ab_w18]
  kernel_rfl
theorem ab_r20 : rndS (kF KTab) (wS (w4 abcX 0)) H0 20 = ⟨3790736435, 4269243327, 3271285201, 567974555, 2959311225, 3431569761, 2221859924, 2150900380⟩ := by
  show stp (rndS (kF KTab) (wS (w4 abcX 0)) H0 19) (kF KTab 19) (wS (w4 abcX 0) 19) = _
  rw [ab_r19, ab_w19]
  kernel_rfl
theorem ab_r21 : rndS (kF KTab) (wS (w4 abcX 0)) H0 21 = ⟨2647034723, 3790736435, 4269243327, 3271285201, 2329577776, 2959311225, 3431569761, 2221859924⟩ := by
  show stp (rndS (kF KTab) (wS (w4 abcX 0)) H0 20) (kF KTab 20) (wS (w4 abcX 0) 20) = _
  rw [ab_r20, ab_w20]
  kernel_rfl
theorem ab_r22 : rndS (kF KTab) (wS (w4 abcX 0)) H0 22 = ⟨3261099373, 2647034723, 3790736435, 4269243327, 3777329520, 2329577776, 2959311225, 3431569761⟩ := by
  show stp (rndS (kF KTab) (wS (w4 abcX 0)) H0 21) (kF KTab 21) (wS (w4 abcX 0) 21) = _
  rw [ab_r21, ab_w21]
  kernel_rfl
theorem ab_r23 : rndS (kF KTab) (wS (w4 abcX 0)) H0 23 = ⟨2812502591, 3261099373, 2647034723, 3790736435, 1240797514, 3777329520, 2329577776, 2959311225⟩ := by
  show stp (rndS (kF KTab) (wS (w4 abcX 0)) H0 22) (kF KTab 22) (wS (w4 abcX 0) 22) = _
  rw [ab_r22, ab_w22]
  kernel_rfl
theorem ab_r24 : rndS (kF KTab) (wS (w4 abcX 0)) H0 24 = ⟨3319086477, 2812502591, 3261099373, 2647034723, 2856829767, 1240797514, 3777329520, 2329577776⟩ := by
  show stp (rndS (kF KTab) (wS (w4 abcX 0)) H0 23) (kF KTab 23) (wS (w4 abcX 0) 23) = _
  rw [ab_r23, ab_w23]
  kernel_rfl
theorem ab_r25 : rndS (kF KTab) (wS (w4 abcX 0)) H0 25 = ⟨472655928, 3319086477, 2812502591, 3261099373, 673443729, 2856829767, 1240797514, 3777329520⟩ := by
  show stp (rndS (kF KTab) (wS (w4 abcX 0)) H0 24) (kF KTab 24) (wS (w4 abcX 0) 24) = _
  rw [ab_r24, ab_w24]
  kernel_rfl
theorem ab_r26 : rndS (kF KTab) (wS (w4 abcX 0)) H0 26 = ⟨3454534525, 472655928, 3319086477, 2812502591, 339230094, 673443729, 2856829767, 1240797514⟩ := by
  show stp (rndS (kF KTab) (wS (w4 abcX 0)) H0 25) (kF KTab 25) (wS (w4 abcX 0) 25) = _
  rw [ab_r25, ab_w25]
  kernel_rfl
theorem ab_r27 : rndS (kF KTab) (wS (w4 abcX 0)) H0 27 = ⟨3056518332, 3454534525, 472655928, 3319086477, 3343672598, 339230094, 673443729, 2856829767⟩ := by
  show stp (rndS (kF KTab) (wS (w4 abcX 0)) H0 26) (kF KTab 26) (wS (w4 abcX 0) 26) = _
  rw [ab_r26, ab_w26]
  kernel_rfl
theorem ab_r28 : rndS (kF KTab) (wS (w4 abcX 0)) H0 28 = ⟨2010346792, 3056518332, 3454534525, 472655928, 3992961016, 3343672598, 339230094, 673443729⟩ := by
  show stp (rndS (kF KTab) (wS (w4 abcX 0)) H0 27) (kF KTab 27) (wS (w4 abcX 0) 27) = _
  rw [ab_r27, ab_w27]
  kernel_rfl
theorem ab_r29 : rndS (kF KTab) (wS (w4 abcX 0)) H0 29 = ⟨909411017, 2010346792, 3056518332, 3454534525, 1628611511, 3992961016, 3343672598, 339230094⟩ := by
  show stp (rndS (kF KTab) (wS (w4 abcX 0)) H0 28) (kF KTab 28) (wS (w4 abcX 0) 28) = _
  rw [ab_r28, ab_w28]
  kernel_rfl
theorem ab_r30 : rndS (kF KTab) (wS (w4 abcX 0)) H0 30 = ⟨2684750640, 909411017, 2010346792, 3056518332, 2917635127, 1628611511, 3992961016, 3343672598⟩ := by
  show stp (rndS (kF KTab) (wS (w4 abcX 0)) H0 29) (kF KTab 29) (wS (w4 abcX 0) 29) = _
  rw [ab_r29, ab_w29]
  kernel_rfl
theorem ab_r31 : rndS (kF KTab) (wS (w4 abcX 0)) H0 31 = ⟨3935906338, 2684750640, 909411017, 2010346792, 17410874, 2917635127, 1628611511, 3992961016⟩ := by
  show stp (rndS (kF KTab) (wS (w4 abcX 0)) H0 30) (kF KTab 30) (wS (w4 abcX 0) 30) = _
  rw [ab_r30, ab_w30]
  kernel_rfl
theorem ab_r32 : rndS (kF KTab) (wS (w4 abcX 0)) H0 32 = ⟨1941126133, 3935906338, 2684750640, 909411017, 3126399250, 17410874, 2917635127, 1628611511⟩ := by
  show stp (rndS (kF KTab) (wS (w4 abcX 0)) H0 31) (kF KTab 31) (wS (w4 abcX 0) 31) = _
  rw [ab_r31, ab_w31]
  kernel_rfl
theorem ab_r33 : rndS (kF KTab) (wS (w4 abcX 0)) H0 33 = ⟨2564891911, 1941126133, 3935906338, 2684750640, 2631529974, 3126399250, 17410874, 2917635127⟩ := by
  show stp (rndS (kF KTab) (wS (w4 abcX 0)) H0 32) (kF KTab 32) (wS (w4 abcX 0) 32) = _
  rw [ab_r32, ab_w32]
  kernel_rfl
theorem ab_r34 : rndS (kF KTab) (wS (w4 abcX 0)) H0 34 = ⟨4267724277, 2564891911, 1941126133, 3935906338, 1495571923, 2631529974, 3126399250, 17410874⟩ := by
  show stp (rndS (kF KTab) (wS (w4 abcX 0)) H0 33) (kF KTab 33) (wS (w4 abcX 0) 33) = _
  rw [ab_r33, ab_w33]
  kernel_rfl
theorem ab_r35 : rndS (kF KTab) (wS (w4 abcX 0)) H0 35 = ⟨2846323596, 4267724277, 2564891911, 1941126133, 140458035, 1495571923, 2631529974, 3126399250⟩ := by
  show stp (rndS (kF KTab) (wS (w4 abcX 0)) H0 34) (kF KTab 34) (wS (w4 abcX 0) 34) = _
  rw [ab_r34, ab_w34]
  kernel_rfl
theorem ab_r36 : rndS (kF KTab) (wS (w4 abcX 0)) H0 36 = ⟨1705037796, 2846323596, 4267724277, 2564891911, 4105175766, 140458035, 1495571923, 2631529974⟩ := by
  show stp (rndS (kF KTab) (wS (w4 abcX 0)) H0 35) (kF KTab 35) (wS (w4 abcX 0) 35) = _
  rw [ab_r35, ab_w35]
  kernel_rfl
theorem ab_r37 : rndS (kF KTab) (wS (w4 abcX 0)) H0 37 = ⟨1101421745, 1705037796, 2846323596, 4267724277, 124953195, 4105175766, 140458035, 1495571923⟩ := by
  show stp (rndS (kF KTab) (wS (w4 abcX 0)) H0 36) (kF KTab 36) (wS (w4 abcX 0) 36) = _
  rw [ab_r36, ab_w36]
  kernel_rfl
theorem ab_r38 : rndS (kF KTab) (wS (w4 abcX 0)) H0 38 = ⟨887035396, 1101421745, 1705037796, 2846323596, 2768741693, 124953195, 4105175766, 140458035⟩ := by
  show stp (rndS (kF KTab) (wS (w4 abcX 0)) H0 37) (kF KTab 37) (wS (w4 abcX 0) 37) = _
  rw [ab_r37, ab_w37]
  kernel_rfl
theorem ab_r39 : rndS (kF KTab) (wS (w4 abcX 0)) H0 39 = ⟨1841658506, 887035396, 1101421745, 1705037796, 4034403272, 2768741693, 124953195, 4105175766⟩ := by
  show stp (rndS (kF KTab) (wS (w4 abcX 0)) H0 38) (kF KTab 38) (wS (w4 abcX 0) 38) = _
  rw [ab_r38, ab_w38]
  kernel_rfl
theorem ab_r40 : rndS (kF KTab) (wS (w4 abcX 0)) H0 40 = ⟨2045405306, 1841658506, 887035396, 1101421745, 519815328, 4034403272, 2768741693, 124953195⟩ := by
  show stp (rndS (kF KTab) (wS (w4 abcX 0)) H0 39) (kF KTab 39) (wS (w4 abcX 0) 39) = _
  rw [ab_r39, ab_w39]
  kernel_rfl
theorem ab_r41 : rndS (kF KTab) (wS (w4 abcX 0)) H0 41 = ⟨3597076326, 2045405306, 1841658506, 887035396, 641019235, 519815328, 4034403272, 2768741693⟩ := by
  show stp (rndS (kF KTab) (wS (w4 abcX 0)) H0 40) (kF KTab 40) (wS (w4 abcX 0) 40) = _
  rw [ab_r40, ab_w40]
  kernel_rfl
theorem ab_r42 : rndS (kF KTab) (wS (w4 abcX 0)) H0 42 = ⟨3745932591, 3597076326, 2045405306, 1841658506, 2206934801, 641019235, 519815328, 4034403272⟩ := by
  show stp (rndS (kF KTab) (wS (w4 abcX 0)) H0 41) (kF KTab 41) (wS (w4 abcX 0) 41) = _
  rw [ab_r41, ab_w41]
  kernel_rfl
theorem ab_r43 : rndS (kF KTab) (wS (w4 abcX 0)) H0 43 = ⟨397020670, 3745932591, 3597076326, 2045405306, 3737995029, 2206934801, 641019235, 519815328⟩ := by
  show stp (rndS (kF KTab) (wS (w4 abcX 0)) H0 42) (kF KTab 42) (wS (w4 abcX 0) 42) = _
  rw [ab_r42, ab_w42]
  kernel_rfl
theorem ab_r44 : rndS (kF KTab) (wS (w4 abcX 0)) H0 44 = ⟨2638983059, 397020670, 3745932591, 3597076326, 4255271982, 3737995029, 2206934801, 641019235⟩ := by
  show stp (rndS (kF KTab) (wS (w4 abcX 0)) H0 43) (kF KTab 43) (wS (w4 abcX 0) 43) = _
  rw [ab_r43, ab_w43]
  kernel_rfl
theorem ab_r45 : rndS (kF KTab) (wS (w4 abcX 0)) H0 45 = ⟨643991573, 2638983059, 397020670, 3745932591, 2819559920, 4255271982, 3737995029, 2206934801⟩ := by
  show stp (rndS (kF KTab) (wS (w4 abcX 0)) H0 44) (kF KTab 44) (wS (w4 abcX 0) 44) = _
  rw [ab_r44, ab_w44]
  kernel_rfl
theorem ab_r46 : rndS (kF KTab) (wS (w4 abcX 0)) H0 46 = ⟨1923828625, 643991573, 2638983059, 397020670, 3077922209, 2819559920, 4255271982, 3737995029⟩ := by
  show stp (rndS (kF KTab) (wS (w4 abcX 0)) H0 45) (kF KTab 45) (wS (w4 abcX 0) 45) = _
  rw [ab_r45, ab_w45]
  kernel_rfl
theorem ab_r47 : rndS (kF KTab) (wS (w4 abcX 0)) H0 47 = ⟨2706117808, 1923828625, 643991573, 2638983059, 3581645993, 3077922209, 2819559920, 4255271982⟩ := by
  show stp (rndS (kF KTab) (wS (w4 abcX 0)) H0 46) (kF KTab 46) (wS (w4 abcX 0) 46) = _
  rw [ab_r46, ab_w46]
  kernel_rfl
theorem ab_r48 : rndS (kF KTab) (wS (w4 abcX 0)) H0 48 = ⟨1098003085, 2706117808, 1923828625, 643991573, 4274981830, 3581645993, 3077922209, 2819559920⟩ := by
  show stp (rndS (kF KTab) (wS (w4 abcX 0)) H0 47) (kF KTab 47) (wS (w4 abcX 0) 47) = _
  rw [ab_r47, ab_w47]
  kernel_rfl
theorem ab_r49 : rndS (kF KTab) (wS (w4 abcX 0)) H0 49 = ⟨91585771, 1098003085, 2706117808, 1923828625, 3178315832, 4274981830, 3581645993, 3077922209⟩ := by
  show stp (rndS (kF KTab) (wS (w4 abcX 0)) H0 48) (kF KTab 48) (wS (w4 abcX 0) 48) = _
  rw [ab_r48, ab_w48]
  kernel_rfl
theorem ab_r50 : rndS (kF KTab) (wS (w4 abcX 0)) H0 50 = ⟨4045142696, 91585771, 1098003085, 2706117808, 1851537676, 3178315832, 4274981830, 3581645993⟩ := by
  show stp (rndS (kF KTab) (wS (w4 abcX 0)) H0 49) (kF KTab 49) (wS (w4 abcX 0) 49) = _
  rw [ab_r49, ab_w49]
  kernel_rfl
theorem ab_r51 : rndS (kF KTab) (wS (w4 abcX 0)) H0 51 = ⟨2047150241, 4045142696, 91585771, 1098003085, 1391578359, 1851537676, 3178315832, 4274981830⟩ := by
  show stp (rndS (kF KTab) (wS (w4 abcX 0)) H0 50) (kF KTab 50) (wS (w4 abcX 0) 50) = _
  rw [ab_r50, ab_w50]
  kernel_rfl
theorem ab_r52 : rndS (kF KTab) (wS (w4 abcX 0)) H0 52 = ⟨2288941602, 2047150241, 4045142696, 91585771, 1227037726, 1391578359, 1851537676, 3178315832⟩ := by
  show stp (rndS (kF KTab) (wS (w4 abcX 0)) H0 51) (kF KTab 51) (wS (w4 abcX 0) 51) = _
  rw [ab_r51, ab_w51]
  kernel_rfl
theorem ab_r53 : rndS (kF KTab) (wS (w4 abcX 0)) H0 53 = ⟨270520975, 2288941602, 2047150241, 4045142696, 1386118400, 1227037726, 1391578359, 1851537676⟩ := by
  show stp (rndS (kF KTab) (wS (w4 abcX 0)) H0 52) (kF KTab 52) (wS (w4 abcX 0) 52) = _
  rw [ab_r52, ab_w52]
  kernel_rfl
theorem ab_r54 : rndS (kF KTab) (wS (w4 abcX 0)) H0 54 = ⟨4117770203, 270520975, 2288941602, 2047150241, 2672265155, 1386118400, 1227037726, 1391578359⟩ := by
  show stp (rndS (kF KTab) (wS (w4 abcX 0)) H0 53) (kF KTab 53) (wS (w4 abcX 0) 53) = _
  rw [ab_r53, ab_w53]
  kernel_rfl
theorem ab_r55 : rndS (kF KTab) (wS (w4 abcX 0)) H0 55 = ⟨1053056219, 4117770203, 270520975, 2288941602, 3842906959, 2672265155, 1386118400, 1227037726⟩ := by
  show stp (rndS (kF KTab) (wS (w4 abcX 0)) H0 54) (kF KTab 54) (wS (w4 abcX 0) 54) = _
  rw [ab_r54, ab_w54]
  kernel_rfl
theorem ab_r56 : rndS (kF KTab) (wS (w4 abcX 0)) H0 56 = ⟨952932627, 1053056219, 4117770203, 270520975, 1422599787, 3842906959, 2672265155, 1386118400⟩ := by
  show stp (rndS (kF KTab) (wS (w4 abcX 0)) H0 55) (kF KTab 55) (wS (w4 abcX 0) 55) = _
  rw [ab_r55, ab_w55]
  kernel_rfl
theorem ab_r57 : rndS (kF KTab) (wS (w4 abcX 0)) H0 57 = ⟨4241590395, 952932627, 1053056219, 4117770203, 2606665836, 1422599787, 3842906959, 2672265155⟩ := by
  show stp (rndS (kF KTab) (wS (w4 abcX 0)) H0 56) (kF KTab 56) (wS (w4 abcX 0) 56) = _
  rw [ab_r56, ab_w56]
  kernel_rfl
theorem ab_r58 : rndS (kF KTab) (wS (w4 abcX 0)) H0 58 = ⟨3227702383, 4241590395, 952932627, 1053056219, 2118385806, 2606665836, 1422599787, 3842906959⟩ := by
  show stp (rndS (kF KTab) (wS (w4 abcX 0)) H0 57) (kF KTab 57) (wS (w4 abcX 0) 57) = _
  rw [ab_r57, ab_w57]
  kernel_rfl
theorem ab_r59 : rndS (kF KTab) (wS (w4 abcX 0)) H0 59 = ⟨4290184306, 3227702383, 4241590395, 952932627, 1837350854, 2118385806, 2606665836, 1422599787⟩ := by
  show stp (rndS (kF KTab) (wS (w4 abcX 0)) H0 58) (kF KTab 58) (wS (w4 abcX 0) 58) = _
  rw [ab_r58, ab_w58]
  kernel_rfl
theorem ab_r60 : rndS (kF KTab) (wS (w4 abcX 0)) H0 60 = ⟨3064893439, 4290184306, 3227702383, 4241590395, 2988158269, 1837350854, 2118385806, 2606665836⟩ := by
  show stp (rndS (kF KTab) (wS (w4 abcX 0)) H0 59) (kF KTab 59) (wS (w4 abcX 0) 59) = _
  rw [ab_r59, ab_w59]
  kernel_rfl
theorem ab_r61 : rndS (kF KTab) (wS (w4 abcX 0)) H0 61 = ⟨3093179625, 3064893439, 4290184306, 3227702383, 2518632596, 2988158269, 1837350854, 2118385806⟩ := by
  show stp (rndS (kF KTab) (wS (w4 abcX 0)) H0 60) (kF KTab 60) (wS (w4 abcX 0) 60) = _
  rw [ab_r60, ab_w60]
  kernel_rfl
theorem ab_r62 : rndS (kF KTab) (wS (w4 abcX 0)) H0 62 = ⟨80891244, 3093179625, 3064893439, 4290184306, 2492278198, 2518632596, 2988158269, 1837350854⟩ := by
  show stp (rndS (kF KTab) (wS (w4 abcX 0)) H0 61) (kF KTab 61) (wS (w4 abcX 0) 61) = _
  rw [ab_r61, ab_w61]
  kernel_rfl
theorem ab_r63 : rndS (kF KTab) (wS (w4 abcX 0)) H0 63 = ⟨3550093669, 80891244, 3093179625, 3064893439, 4212265488, 2492278198, 2518632596, 2988158269⟩ := by
  show stp (rndS (kF KTab) (wS (w4 abcX 0)) H0 62) (kF KTab 62) (wS (w4 abcX 0) 62) = _
  rw [ab_r62, ab_w62]
  kernel_rfl
theorem ab_r64 : rndS (kF KTab) (wS (w4 abcX 0)) H0 64 = ⟨1349398616, 3550093669, 80891244, 3093179625, 1593118500, 4212265488, 2492278198, 2518632596⟩ := by
  show stp (rndS (kF KTab) (wS (w4 abcX 0)) H0 63) (kF KTab 63) (wS (w4 abcX 0) 63) = _
  rw [ab_r63, ab_w63]
  kernel_rfl
theorem abc_hs : HS (kF KTab) abcX 1 = ⟨3128432319, 2399260650, 1094795486, 1571693091, 2953011619, 2518121116, 3021012833, 4060091821⟩ := by
  show cmp (kF KTab) H0 (w4 abcX (64 * 0)) = _
  unfold cmp
  rw [show 64 * 0 = 0 from rfl, ab_r64]
  kernel_rfl
theorem abc_sha : ∃ l : List Int, shaX KTab [97, 98, 99] = l ∧ l[0]? = some 186 ∧ l[31]? = some 173 := by
  refine ⟨_, rfl, ?_, ?_⟩
  · show (sumL (HS (kF KTab) abcX 1))[0]? = _
    rw [abc_hs]; kernel_rfl
  · show (sumL (HS (kF KTab) abcX 1))[31]? = _
    rw [abc_hs]; kernel_rfl
set_option maxRecDepth 100000 in
set_option maxHeartbeats 4000000 in
theorem awake_c (w : World) (hgw : 1 < w.heap.size) (hKT : KT w 1 KTab) : CA Tryd.prog 10 [] w (RV (.bool true) w) := by
  obtain ⟨l, hl, h0, h31⟩ := abc_sha
  have hll : l.length = 32 := by rw [← hl, shaX_len]
  have n0 : nth (l.map (Value.int .u8)).toArray.toList 0 = some (.int .u8 186) := nth_map h0
  have n31 : nth (l.map (Value.int .u8)).toArray.toList 31 = some (.int .u8 173) := nth_map h31
  obtain ⟨hz, hhz⟩ : ∃ hz, hz = w.heap.size := ⟨_, rfl⟩
  refine enter (L := []) (X := []) Tryd.func10 rfl Tryd.ntmps10 rfl rfl (Has.nil _) ?_
  rw [← hhz]
  repeat (first | refine c_seq ?_ | (refine c_region (id := 0) ?_; refine st_q (by exact q_assign rfl) rfl ?_; refine l_nil ?_) | (refine c_region (id := 1) ?_; refine st_e ?_; refine e_buildSlice_of rfl rfl rfl rfl (by first | (simp only [fillC, placeA, nthP, plOff, setLs, setL, Value.cells, List.replicate, Nat.mul_one, Nat.one_mul, Nat.zero_mul]; try exact rfl) | exact rfl) (by rfl) ?_; refine st_e ?_; refine e_conv_const rfl rfl (by (repeat (first | exact Pl.here | apply Pl.there))) (by first | (left; simp; done) | (right; omega)) ?_; refine st_e ?_; refine e_buildSlice_of rfl rfl rfl rfl (by first | (simp only [fillC, placeA, nthP, plOff, setLs, setL, Value.cells, List.replicate, Nat.mul_one, Nat.one_mul, Nat.zero_mul]; try exact rfl) | exact rfl) (by rfl) ?_; refine st_e ?_; refine e_callp rfl rfl (by kernel_rfl) rfl (fun w hC hm hL => by exact sum_c KTab [⟨some ⟨hz, 0, none⟩, 3, 3, [97, 98, 99]⟩] (some ⟨hz + 1, 0, none⟩) 1 (by simp) [97, 98, 99] (by simp [joined]) (by simp) w (by omega) (hKT.ch hC (by simp)) (fun p hp => by simp only [List.mem_singleton] at hp; subst hp; exact ⟨SlE.blk (enc := Value.int .u8) hL (by (repeat (first | exact List.Mem.head _ | apply List.Mem.tail))) 0 3 (by rfl), rfl, Nat.le_refl _, by simp⟩) (SlE.blk (enc := Prt.v) hL (by (repeat (first | exact List.Mem.head _ | apply List.Mem.tail))) 0 1 (by rfl))) ?_; intro m' hm'; refine st_e ?_; refine e_alloc rfl ?_; refine st_e0 ?_; rw [hl]; refine e_store_all rfl rfl (by simp [hll]) (allOne_u8' _) (by (repeat (first | exact Pl.here | apply Pl.there))) (by rfl) (by first | (left; simp; done) | (right; omega)) ?_; refine l_nil ?_) | (refine c_region (id := 2) ?_; refine st_q (by exact q_indexAddr_arr rfl rfl (by omega) (by omega) (by first | (simp only [Nat.zero_add, Nat.add_zero, Nat.mul_one, Nat.one_mul, Int.toNat_natCast, Int.reduceToNat, Nat.reduceMul, Nat.reduceAdd, Nat.reduceSub, Int.reduceAdd, Int.reduceSub, Int.reduceMul, Nat.sub_zero, Int.toNat_zero, Int.zero_add, Int.add_zero, Int.sub_zero, Int.mul_one, Int.one_mul]; try exact rfl) | exact rfl)) rfl ?_; refine st_q (by exact q_load rfl (by (first | exact Rd.blkn (by (repeat (first | exact List.Mem.head _ | apply List.Mem.tail))) (by first | rfl | assumption) | exact Rd.sln (by (repeat (first | exact List.Mem.head _ | apply List.Mem.tail))) (by first | rfl | assumption) | exact Rd.oldn (by assumption) (by first | rfl | assumption) (by simp) | exact Rd.old0 (by assumption) (by simp)))) rfl ?_; refine st_q (by exact q_eql rfl rfl) rfl ?_; refine st_q (by exact q_move rfl) rfl ?_; (first | refine st_skip rfl rfl rfl ?_ | refine st_skipv rfl (by rfl) rfl ?_ | (refine st_want rfl rfl ?_; refine st_q (by exact q_indexAddr_arr rfl rfl (by omega) (by omega) (by first | (simp only [Nat.zero_add, Nat.add_zero, Nat.mul_one, Nat.one_mul, Int.toNat_natCast, Int.reduceToNat, Nat.reduceMul, Nat.reduceAdd, Nat.reduceSub, Int.reduceAdd, Int.reduceSub, Int.reduceMul, Nat.sub_zero, Int.toNat_zero, Int.zero_add, Int.add_zero, Int.sub_zero, Int.mul_one, Int.one_mul]; try exact rfl) | exact rfl)) rfl ?_)); (first | refine st_skip rfl rfl rfl ?_ | refine st_skipv rfl (by rfl) rfl ?_ | (refine st_want rfl rfl ?_; refine st_q (by exact q_load rfl (by (first | exact Rd.blkn (by (repeat (first | exact List.Mem.head _ | apply List.Mem.tail))) (by first | rfl | assumption) | exact Rd.sln (by (repeat (first | exact List.Mem.head _ | apply List.Mem.tail))) (by first | rfl | assumption) | exact Rd.oldn (by assumption) (by first | rfl | assumption) (by simp) | exact Rd.old0 (by assumption) (by simp)))) rfl ?_)); (first | refine st_skip rfl rfl rfl ?_ | refine st_skipv rfl (by rfl) rfl ?_ | (refine st_want rfl rfl ?_; refine st_q (by exact q_eql rfl rfl) rfl ?_)); refine st_q (by (first | exact q_pick_t rfl rfl | exact q_pick_f rfl rfl)) rfl ?_; refine st_q (by exact q_assign rfl) rfl ?_; refine l_nil ?_) | refine n_then ?_ | refine c_block ?_ | refine c_skip ?_ | refine n_block ?_ | refine c_exit ?_ | refine n_then_exit ?_ | refine n_block_eq ?_ | refine n_block_ne rfl ?_ | refine c_ret ?_ | refine n_then_ret ?_ | refine n_block_ret ?_ | refine c_cond_t rfl ?_ | refine c_cond_f rfl ?_ | refine r_succ ?_ )
  (first | apply r_ret () | apply r_end ()); exact rfl; exact rfl; exact (.tmp rfl .nil); exact rfl; exact (List.nil_sublist _); exact new_nil; exact trivial
end Go.Proofs.YtaeiknpiofnmeaaDoor
