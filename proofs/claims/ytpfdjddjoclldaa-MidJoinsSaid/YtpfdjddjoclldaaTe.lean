/-
  Plain facts of layer 10: waves and the way back, on lists of 32 numbers; that each undoes the other, how their squares' sums stay, how great they are. No program is named here. No conditions but those that each fact names.
-/
import Derived.Test.YtpfdjddjoclldaaTd
import Derived.KernelRfl
namespace Go.Proofs.Ytpfdjddjoclldaa.M

theorem peta (p : Int × Int) : (p.1, p.2) = p := rfl
/-- Two points crossed and turned; and back. -/
def bfz (z w : Int × Int) : Int × Int := ((lft (z.1, w.1) 64).2, (lft (z.2, w.2) 64).2)
def bfw (z w : Int × Int) (k : Int) : Int × Int := lft ((lft (z.1, w.1) 64).1, (lft (z.2, w.2) 64).1) k
def ubz (z w : Int × Int) (k : Int) : Int × Int := ((lfb ((lfb w k).1, z.1) 64).1, (lfb ((lfb w k).2, z.2) 64).1)
def ubw (z w : Int × Int) (k : Int) : Int × Int := ((lfb ((lfb w k).1, z.1) 64).2, (lfb ((lfb w k).2, z.2) 64).2)
theorem ubz_bf (z w : Int × Int) (k : Int) : ubz (bfz z w) (bfw z w k) k = z := by
  unfold ubz bfz bfw
  rw [lfb_lft]
  show ((lfb ((lft (z.1, w.1) 64).1, (lft (z.1, w.1) 64).2) 64).1, (lfb ((lft (z.2, w.2) 64).1, (lft (z.2, w.2) 64).2) 64).1) = z
  rw [peta, peta, lfb_lft, lfb_lft]
theorem ubw_bf (z w : Int × Int) (k : Int) : ubw (bfz z w) (bfw z w k) k = w := by
  unfold ubw bfz bfw
  rw [lfb_lft]
  show ((lfb ((lft (z.1, w.1) 64).1, (lft (z.1, w.1) 64).2) 64).2, (lfb ((lft (z.2, w.2) 64).1, (lft (z.2, w.2) 64).2) 64).2) = w
  rw [peta, peta, lfb_lft, lfb_lft]
theorem bfz_ub (z w : Int × Int) (k : Int) : bfz (ubz z w k) (ubw z w k) = z := by
  unfold ubz ubw bfz
  show ((lft ((lfb ((lfb w k).1, z.1) 64).1, (lfb ((lfb w k).1, z.1) 64).2) 64).2, (lft ((lfb ((lfb w k).2, z.2) 64).1, (lfb ((lfb w k).2, z.2) 64).2) 64).2) = z
  rw [peta, peta, lft_lfb, lft_lfb]
theorem bfw_ub (z w : Int × Int) (k : Int) : bfw (ubz z w k) (ubw z w k) k = w := by
  unfold ubz ubw bfw
  show lft ((lft ((lfb ((lfb w k).1, z.1) 64).1, (lfb ((lfb w k).1, z.1) 64).2) 64).1, (lft ((lfb ((lfb w k).2, z.2) 64).1, (lfb ((lfb w k).2, z.2) 64).2) 64).1) k = w
  rw [peta, peta, lft_lfb, lft_lfb]
  show lft ((lfb w k).1, (lfb w k).2) k = w
  rw [peta, lft_lfb]

/-- The pairs of a size: the points' numbers, and the turn. -/
def prs16 : List (Nat × Nat × Int) := [(0, 8, 0), (1, 9, -32), (2, 10, -64), (3, 11, -96), (4, 12, -128), (5, 13, -160), (6, 14, -192), (7, 15, -224)]
def prs8 : List (Nat × Nat × Int) := [(0, 4, 0), (1, 5, -64), (2, 6, -128), (3, 7, -192), (8, 12, 0), (9, 13, -64), (10, 14, -128), (11, 15, -192)]
def prs4 : List (Nat × Nat × Int) := [(0, 2, 0), (1, 3, -128), (4, 6, 0), (5, 7, -128), (8, 10, 0), (9, 11, -128), (12, 14, 0), (13, 15, -128)]
def prs2 : List (Nat × Nat × Int) := [(0, 1, 0), (2, 3, 0), (4, 5, 0), (6, 7, 0), (8, 9, 0), (10, 11, 0), (12, 13, 0), (14, 15, 0)]
/-- A size's round, point by point; and back. -/
def rnd (F G : Int × Int → Int × Int → Int → Int × Int) (l : List (Int × Int)) : List (Nat × Nat × Int) → List (Int × Int)
  | [] => l
  | (p, q, k) :: r => rnd F G ((l.set p (F (l.getD p (0, 0)) (l.getD q (0, 0)) k)).set q (G (l.getD p (0, 0)) (l.getD q (0, 0)) k)) r
def bfs (l : List (Int × Int)) (ps : List (Nat × Nat × Int)) : List (Int × Int) := rnd (fun z w _ => bfz z w) bfw l ps
def ubs (l : List (Int × Int)) (ps : List (Nat × Nat × Int)) : List (Int × Int) := rnd ubz ubw l ps
theorem len16 (l : List (Int × Int)) (h : l.length = 16) : ∃ z0 z1 z2 z3 z4 z5 z6 z7 z8 z9 z10 z11 z12 z13 z14 z15, l = [z0, z1, z2, z3, z4, z5, z6, z7, z8, z9, z10, z11, z12, z13, z14, z15] := by
  match l, h with
  | [z0, z1, z2, z3, z4, z5, z6, z7, z8, z9, z10, z11, z12, z13, z14, z15], _ => exact ⟨z0, z1, z2, z3, z4, z5, z6, z7, z8, z9, z10, z11, z12, z13, z14, z15, rfl⟩
theorem len32 (l : List Int) (h : l.length = 32) : ∃ f0 f1 f2 f3 f4 f5 f6 f7 f8 f9 f10 f11 f12 f13 f14 f15 f16 f17 f18 f19 f20 f21 f22 f23 f24 f25 f26 f27 f28 f29 f30 f31, l = [f0, f1, f2, f3, f4, f5, f6, f7, f8, f9, f10, f11, f12, f13, f14, f15, f16, f17, f18, f19, f20, f21, f22, f23, f24, f25, f26, f27, f28, f29, f30, f31] := by
  match l, h with
  | [f0, f1, f2, f3, f4, f5, f6, f7, f8, f9, f10, f11, f12, f13, f14, f15, f16, f17, f18, f19, f20, f21, f22, f23, f24, f25, f26, f27, f28, f29, f30, f31], _ => exact ⟨f0, f1, f2, f3, f4, f5, f6, f7, f8, f9, f10, f11, f12, f13, f14, f15, f16, f17, f18, f19, f20, f21, f22, f23, f24, f25, f26, f27, f28, f29, f30, f31, rfl⟩
set_option maxRecDepth 100000 in
theorem rnd16 (F G : Int × Int → Int × Int → Int → Int × Int) (z0 z1 z2 z3 z4 z5 z6 z7 z8 z9 z10 z11 z12 z13 z14 z15 : Int × Int) : rnd F G [z0, z1, z2, z3, z4, z5, z6, z7, z8, z9, z10, z11, z12, z13, z14, z15] prs16 = [F z0 z8 (0), F z1 z9 (-32), F z2 z10 (-64), F z3 z11 (-96), F z4 z12 (-128), F z5 z13 (-160), F z6 z14 (-192), F z7 z15 (-224), G z0 z8 (0), G z1 z9 (-32), G z2 z10 (-64), G z3 z11 (-96), G z4 z12 (-128), G z5 z13 (-160), G z6 z14 (-192), G z7 z15 (-224)] := by kernel_rfl
theorem bfs16 (z0 z1 z2 z3 z4 z5 z6 z7 z8 z9 z10 z11 z12 z13 z14 z15 : Int × Int) : bfs [z0, z1, z2, z3, z4, z5, z6, z7, z8, z9, z10, z11, z12, z13, z14, z15] prs16 = [bfz z0 z8, bfz z1 z9, bfz z2 z10, bfz z3 z11, bfz z4 z12, bfz z5 z13, bfz z6 z14, bfz z7 z15, bfw z0 z8 (0), bfw z1 z9 (-32), bfw z2 z10 (-64), bfw z3 z11 (-96), bfw z4 z12 (-128), bfw z5 z13 (-160), bfw z6 z14 (-192), bfw z7 z15 (-224)] := rnd16 (fun z w _ => bfz z w) bfw z0 z1 z2 z3 z4 z5 z6 z7 z8 z9 z10 z11 z12 z13 z14 z15
theorem ubs16 (z0 z1 z2 z3 z4 z5 z6 z7 z8 z9 z10 z11 z12 z13 z14 z15 : Int × Int) : ubs [z0, z1, z2, z3, z4, z5, z6, z7, z8, z9, z10, z11, z12, z13, z14, z15] prs16 = [ubz z0 z8 (0), ubz z1 z9 (-32), ubz z2 z10 (-64), ubz z3 z11 (-96), ubz z4 z12 (-128), ubz z5 z13 (-160), ubz z6 z14 (-192), ubz z7 z15 (-224), ubw z0 z8 (0), ubw z1 z9 (-32), ubw z2 z10 (-64), ubw z3 z11 (-96), ubw z4 z12 (-128), ubw z5 z13 (-160), ubw z6 z14 (-192), ubw z7 z15 (-224)] := rnd16 ubz ubw z0 z1 z2 z3 z4 z5 z6 z7 z8 z9 z10 z11 z12 z13 z14 z15
theorem ubs_bfs16 (l : List (Int × Int)) (h : l.length = 16) : ubs (bfs l prs16) prs16 = l := by
  obtain ⟨z0, z1, z2, z3, z4, z5, z6, z7, z8, z9, z10, z11, z12, z13, z14, z15, rfl⟩ := len16 l h
  rw [bfs16, ubs16]
  simp only [ubz_bf, ubw_bf]
theorem bfs_ubs16 (l : List (Int × Int)) (h : l.length = 16) : bfs (ubs l prs16) prs16 = l := by
  obtain ⟨z0, z1, z2, z3, z4, z5, z6, z7, z8, z9, z10, z11, z12, z13, z14, z15, rfl⟩ := len16 l h
  rw [ubs16, bfs16]
  simp only [bfz_ub, bfw_ub]
theorem bfs16_len (l : List (Int × Int)) (h : l.length = 16) : (bfs l prs16).length = 16 := by
  obtain ⟨z0, z1, z2, z3, z4, z5, z6, z7, z8, z9, z10, z11, z12, z13, z14, z15, rfl⟩ := len16 l h
  rw [bfs16]; rfl
theorem ubs16_len (l : List (Int × Int)) (h : l.length = 16) : (ubs l prs16).length = 16 := by
  obtain ⟨z0, z1, z2, z3, z4, z5, z6, z7, z8, z9, z10, z11, z12, z13, z14, z15, rfl⟩ := len16 l h
  rw [ubs16]; rfl
theorem step16 (l : List (Int × Int)) (h : l.length = 16) : ∃ S, Step (tot l) S ∧ Step S (tot (bfs l prs16)) := by
  obtain ⟨z0, z1, z2, z3, z4, z5, z6, z7, z8, z9, z10, z11, z12, z13, z14, z15, rfl⟩ := len16 l h
  rw [bfs16]
  have h1 := lay_step [((z0.1, z8.1), lft (z0.1, z8.1) 64), ((z0.2, z8.2), lft (z0.2, z8.2) 64), ((z1.1, z9.1), lft (z1.1, z9.1) 64), ((z1.2, z9.2), lft (z1.2, z9.2) 64), ((z2.1, z10.1), lft (z2.1, z10.1) 64), ((z2.2, z10.2), lft (z2.2, z10.2) 64), ((z3.1, z11.1), lft (z3.1, z11.1) 64), ((z3.2, z11.2), lft (z3.2, z11.2) 64), ((z4.1, z12.1), lft (z4.1, z12.1) 64), ((z4.2, z12.2), lft (z4.2, z12.2) 64), ((z5.1, z13.1), lft (z5.1, z13.1) 64), ((z5.2, z13.2), lft (z5.2, z13.2) 64), ((z6.1, z14.1), lft (z6.1, z14.1) 64), ((z6.2, z14.2), lft (z6.2, z14.2) 64), ((z7.1, z15.1), lft (z7.1, z15.1) 64), ((z7.2, z15.2), lft (z7.2, z15.2) 64)] (by
    intro p hp
    simp only [List.mem_cons, List.not_mem_nil, or_false] at hp
    rcases hp with rfl | rfl | rfl | rfl | rfl | rfl | rfl | rfl | rfl | rfl | rfl | rfl | rfl | rfl | rfl | rfl <;> dsimp only <;> exact near2_lft _ _) rfl
  have h2 := lay_step [(bfz z0 z8, bfz z0 z8), (((lft (z0.1, z8.1) 64).1, (lft (z0.2, z8.2) 64).1), bfw z0 z8 (0)), (bfz z1 z9, bfz z1 z9), (((lft (z1.1, z9.1) 64).1, (lft (z1.2, z9.2) 64).1), bfw z1 z9 (-32)), (bfz z2 z10, bfz z2 z10), (((lft (z2.1, z10.1) 64).1, (lft (z2.2, z10.2) 64).1), bfw z2 z10 (-64)), (bfz z3 z11, bfz z3 z11), (((lft (z3.1, z11.1) 64).1, (lft (z3.2, z11.2) 64).1), bfw z3 z11 (-96)), (bfz z4 z12, bfz z4 z12), (((lft (z4.1, z12.1) 64).1, (lft (z4.2, z12.2) 64).1), bfw z4 z12 (-128)), (bfz z5 z13, bfz z5 z13), (((lft (z5.1, z13.1) 64).1, (lft (z5.2, z13.2) 64).1), bfw z5 z13 (-160)), (bfz z6 z14, bfz z6 z14), (((lft (z6.1, z14.1) 64).1, (lft (z6.2, z14.2) 64).1), bfw z6 z14 (-192)), (bfz z7 z15, bfz z7 z15), (((lft (z7.1, z15.1) 64).1, (lft (z7.2, z15.2) 64).1), bfw z7 z15 (-224))] (by
    intro p hp
    simp only [List.mem_cons, List.not_mem_nil, or_false] at hp
    rcases hp with rfl | rfl | rfl | rfl | rfl | rfl | rfl | rfl | rfl | rfl | rfl | rfl | rfl | rfl | rfl | rfl <;> dsimp only [bfw] <;> first | exact near2_self _ | exact near2_lft _ _) rfl
  have e1 : tot [z0, z1, z2, z3, z4, z5, z6, z7, z8, z9, z10, z11, z12, z13, z14, z15] = tot (bef [((z0.1, z8.1), lft (z0.1, z8.1) 64), ((z0.2, z8.2), lft (z0.2, z8.2) 64), ((z1.1, z9.1), lft (z1.1, z9.1) 64), ((z1.2, z9.2), lft (z1.2, z9.2) 64), ((z2.1, z10.1), lft (z2.1, z10.1) 64), ((z2.2, z10.2), lft (z2.2, z10.2) 64), ((z3.1, z11.1), lft (z3.1, z11.1) 64), ((z3.2, z11.2), lft (z3.2, z11.2) 64), ((z4.1, z12.1), lft (z4.1, z12.1) 64), ((z4.2, z12.2), lft (z4.2, z12.2) 64), ((z5.1, z13.1), lft (z5.1, z13.1) 64), ((z5.2, z13.2), lft (z5.2, z13.2) 64), ((z6.1, z14.1), lft (z6.1, z14.1) 64), ((z6.2, z14.2), lft (z6.2, z14.2) 64), ((z7.1, z15.1), lft (z7.1, z15.1) 64), ((z7.2, z15.2), lft (z7.2, z15.2) 64)]) := by
    simp only [bef, tot, sq2, List.map_cons, List.map_nil] <;> omega
  have e2 : tot (beh [((z0.1, z8.1), lft (z0.1, z8.1) 64), ((z0.2, z8.2), lft (z0.2, z8.2) 64), ((z1.1, z9.1), lft (z1.1, z9.1) 64), ((z1.2, z9.2), lft (z1.2, z9.2) 64), ((z2.1, z10.1), lft (z2.1, z10.1) 64), ((z2.2, z10.2), lft (z2.2, z10.2) 64), ((z3.1, z11.1), lft (z3.1, z11.1) 64), ((z3.2, z11.2), lft (z3.2, z11.2) 64), ((z4.1, z12.1), lft (z4.1, z12.1) 64), ((z4.2, z12.2), lft (z4.2, z12.2) 64), ((z5.1, z13.1), lft (z5.1, z13.1) 64), ((z5.2, z13.2), lft (z5.2, z13.2) 64), ((z6.1, z14.1), lft (z6.1, z14.1) 64), ((z6.2, z14.2), lft (z6.2, z14.2) 64), ((z7.1, z15.1), lft (z7.1, z15.1) 64), ((z7.2, z15.2), lft (z7.2, z15.2) 64)]) = tot (bef [(bfz z0 z8, bfz z0 z8), (((lft (z0.1, z8.1) 64).1, (lft (z0.2, z8.2) 64).1), bfw z0 z8 (0)), (bfz z1 z9, bfz z1 z9), (((lft (z1.1, z9.1) 64).1, (lft (z1.2, z9.2) 64).1), bfw z1 z9 (-32)), (bfz z2 z10, bfz z2 z10), (((lft (z2.1, z10.1) 64).1, (lft (z2.2, z10.2) 64).1), bfw z2 z10 (-64)), (bfz z3 z11, bfz z3 z11), (((lft (z3.1, z11.1) 64).1, (lft (z3.2, z11.2) 64).1), bfw z3 z11 (-96)), (bfz z4 z12, bfz z4 z12), (((lft (z4.1, z12.1) 64).1, (lft (z4.2, z12.2) 64).1), bfw z4 z12 (-128)), (bfz z5 z13, bfz z5 z13), (((lft (z5.1, z13.1) 64).1, (lft (z5.2, z13.2) 64).1), bfw z5 z13 (-160)), (bfz z6 z14, bfz z6 z14), (((lft (z6.1, z14.1) 64).1, (lft (z6.2, z14.2) 64).1), bfw z6 z14 (-192)), (bfz z7 z15, bfz z7 z15), (((lft (z7.1, z15.1) 64).1, (lft (z7.2, z15.2) 64).1), bfw z7 z15 (-224))]) := by
    simp only [bef, beh, tot, sq2, bfz, List.map_cons, List.map_nil] <;> omega
  have e3 : tot (beh [(bfz z0 z8, bfz z0 z8), (((lft (z0.1, z8.1) 64).1, (lft (z0.2, z8.2) 64).1), bfw z0 z8 (0)), (bfz z1 z9, bfz z1 z9), (((lft (z1.1, z9.1) 64).1, (lft (z1.2, z9.2) 64).1), bfw z1 z9 (-32)), (bfz z2 z10, bfz z2 z10), (((lft (z2.1, z10.1) 64).1, (lft (z2.2, z10.2) 64).1), bfw z2 z10 (-64)), (bfz z3 z11, bfz z3 z11), (((lft (z3.1, z11.1) 64).1, (lft (z3.2, z11.2) 64).1), bfw z3 z11 (-96)), (bfz z4 z12, bfz z4 z12), (((lft (z4.1, z12.1) 64).1, (lft (z4.2, z12.2) 64).1), bfw z4 z12 (-128)), (bfz z5 z13, bfz z5 z13), (((lft (z5.1, z13.1) 64).1, (lft (z5.2, z13.2) 64).1), bfw z5 z13 (-160)), (bfz z6 z14, bfz z6 z14), (((lft (z6.1, z14.1) 64).1, (lft (z6.2, z14.2) 64).1), bfw z6 z14 (-192)), (bfz z7 z15, bfz z7 z15), (((lft (z7.1, z15.1) 64).1, (lft (z7.2, z15.2) 64).1), bfw z7 z15 (-224))]) = tot [bfz z0 z8, bfz z1 z9, bfz z2 z10, bfz z3 z11, bfz z4 z12, bfz z5 z13, bfz z6 z14, bfz z7 z15, bfw z0 z8 (0), bfw z1 z9 (-32), bfw z2 z10 (-64), bfw z3 z11 (-96), bfw z4 z12 (-128), bfw z5 z13 (-160), bfw z6 z14 (-192), bfw z7 z15 (-224)] := by
    simp only [beh, tot, List.map_cons, List.map_nil] <;> omega
  rw [e1, ← e3]
  rw [← e2] at h2
  exact ⟨_, h1, h2⟩
theorem stepU16 (l : List (Int × Int)) (h : l.length = 16) : ∃ S, Step (tot l) S ∧ Step S (tot (ubs l prs16)) := by
  obtain ⟨z0, z1, z2, z3, z4, z5, z6, z7, z8, z9, z10, z11, z12, z13, z14, z15, rfl⟩ := len16 l h
  rw [ubs16]
  have h1 := lay_step [(z0, z0), (z8, lfb z8 (0)), (z1, z1), (z9, lfb z9 (-32)), (z2, z2), (z10, lfb z10 (-64)), (z3, z3), (z11, lfb z11 (-96)), (z4, z4), (z12, lfb z12 (-128)), (z5, z5), (z13, lfb z13 (-160)), (z6, z6), (z14, lfb z14 (-192)), (z7, z7), (z15, lfb z15 (-224))] (by
    intro p hp
    simp only [List.mem_cons, List.not_mem_nil, or_false] at hp
    rcases hp with rfl | rfl | rfl | rfl | rfl | rfl | rfl | rfl | rfl | rfl | rfl | rfl | rfl | rfl | rfl | rfl <;> dsimp only <;> first | exact near2_self _ | exact near2_lfb _ _) rfl
  have h2 := lay_step [(((lfb z8 (0)).1, z0.1), lfb ((lfb z8 (0)).1, z0.1) 64), (((lfb z8 (0)).2, z0.2), lfb ((lfb z8 (0)).2, z0.2) 64), (((lfb z9 (-32)).1, z1.1), lfb ((lfb z9 (-32)).1, z1.1) 64), (((lfb z9 (-32)).2, z1.2), lfb ((lfb z9 (-32)).2, z1.2) 64), (((lfb z10 (-64)).1, z2.1), lfb ((lfb z10 (-64)).1, z2.1) 64), (((lfb z10 (-64)).2, z2.2), lfb ((lfb z10 (-64)).2, z2.2) 64), (((lfb z11 (-96)).1, z3.1), lfb ((lfb z11 (-96)).1, z3.1) 64), (((lfb z11 (-96)).2, z3.2), lfb ((lfb z11 (-96)).2, z3.2) 64), (((lfb z12 (-128)).1, z4.1), lfb ((lfb z12 (-128)).1, z4.1) 64), (((lfb z12 (-128)).2, z4.2), lfb ((lfb z12 (-128)).2, z4.2) 64), (((lfb z13 (-160)).1, z5.1), lfb ((lfb z13 (-160)).1, z5.1) 64), (((lfb z13 (-160)).2, z5.2), lfb ((lfb z13 (-160)).2, z5.2) 64), (((lfb z14 (-192)).1, z6.1), lfb ((lfb z14 (-192)).1, z6.1) 64), (((lfb z14 (-192)).2, z6.2), lfb ((lfb z14 (-192)).2, z6.2) 64), (((lfb z15 (-224)).1, z7.1), lfb ((lfb z15 (-224)).1, z7.1) 64), (((lfb z15 (-224)).2, z7.2), lfb ((lfb z15 (-224)).2, z7.2) 64)] (by
    intro p hp
    simp only [List.mem_cons, List.not_mem_nil, or_false] at hp
    rcases hp with rfl | rfl | rfl | rfl | rfl | rfl | rfl | rfl | rfl | rfl | rfl | rfl | rfl | rfl | rfl | rfl <;> dsimp only <;> exact near2_lfb _ _) rfl
  have e1 : tot [z0, z1, z2, z3, z4, z5, z6, z7, z8, z9, z10, z11, z12, z13, z14, z15] = tot (bef [(z0, z0), (z8, lfb z8 (0)), (z1, z1), (z9, lfb z9 (-32)), (z2, z2), (z10, lfb z10 (-64)), (z3, z3), (z11, lfb z11 (-96)), (z4, z4), (z12, lfb z12 (-128)), (z5, z5), (z13, lfb z13 (-160)), (z6, z6), (z14, lfb z14 (-192)), (z7, z7), (z15, lfb z15 (-224))]) := by
    simp only [bef, tot, List.map_cons, List.map_nil] <;> omega
  have e2 : tot (beh [(z0, z0), (z8, lfb z8 (0)), (z1, z1), (z9, lfb z9 (-32)), (z2, z2), (z10, lfb z10 (-64)), (z3, z3), (z11, lfb z11 (-96)), (z4, z4), (z12, lfb z12 (-128)), (z5, z5), (z13, lfb z13 (-160)), (z6, z6), (z14, lfb z14 (-192)), (z7, z7), (z15, lfb z15 (-224))]) = tot (bef [(((lfb z8 (0)).1, z0.1), lfb ((lfb z8 (0)).1, z0.1) 64), (((lfb z8 (0)).2, z0.2), lfb ((lfb z8 (0)).2, z0.2) 64), (((lfb z9 (-32)).1, z1.1), lfb ((lfb z9 (-32)).1, z1.1) 64), (((lfb z9 (-32)).2, z1.2), lfb ((lfb z9 (-32)).2, z1.2) 64), (((lfb z10 (-64)).1, z2.1), lfb ((lfb z10 (-64)).1, z2.1) 64), (((lfb z10 (-64)).2, z2.2), lfb ((lfb z10 (-64)).2, z2.2) 64), (((lfb z11 (-96)).1, z3.1), lfb ((lfb z11 (-96)).1, z3.1) 64), (((lfb z11 (-96)).2, z3.2), lfb ((lfb z11 (-96)).2, z3.2) 64), (((lfb z12 (-128)).1, z4.1), lfb ((lfb z12 (-128)).1, z4.1) 64), (((lfb z12 (-128)).2, z4.2), lfb ((lfb z12 (-128)).2, z4.2) 64), (((lfb z13 (-160)).1, z5.1), lfb ((lfb z13 (-160)).1, z5.1) 64), (((lfb z13 (-160)).2, z5.2), lfb ((lfb z13 (-160)).2, z5.2) 64), (((lfb z14 (-192)).1, z6.1), lfb ((lfb z14 (-192)).1, z6.1) 64), (((lfb z14 (-192)).2, z6.2), lfb ((lfb z14 (-192)).2, z6.2) 64), (((lfb z15 (-224)).1, z7.1), lfb ((lfb z15 (-224)).1, z7.1) 64), (((lfb z15 (-224)).2, z7.2), lfb ((lfb z15 (-224)).2, z7.2) 64)]) := by
    simp only [bef, beh, tot, sq2, List.map_cons, List.map_nil] <;> omega
  have e3 : tot (beh [(((lfb z8 (0)).1, z0.1), lfb ((lfb z8 (0)).1, z0.1) 64), (((lfb z8 (0)).2, z0.2), lfb ((lfb z8 (0)).2, z0.2) 64), (((lfb z9 (-32)).1, z1.1), lfb ((lfb z9 (-32)).1, z1.1) 64), (((lfb z9 (-32)).2, z1.2), lfb ((lfb z9 (-32)).2, z1.2) 64), (((lfb z10 (-64)).1, z2.1), lfb ((lfb z10 (-64)).1, z2.1) 64), (((lfb z10 (-64)).2, z2.2), lfb ((lfb z10 (-64)).2, z2.2) 64), (((lfb z11 (-96)).1, z3.1), lfb ((lfb z11 (-96)).1, z3.1) 64), (((lfb z11 (-96)).2, z3.2), lfb ((lfb z11 (-96)).2, z3.2) 64), (((lfb z12 (-128)).1, z4.1), lfb ((lfb z12 (-128)).1, z4.1) 64), (((lfb z12 (-128)).2, z4.2), lfb ((lfb z12 (-128)).2, z4.2) 64), (((lfb z13 (-160)).1, z5.1), lfb ((lfb z13 (-160)).1, z5.1) 64), (((lfb z13 (-160)).2, z5.2), lfb ((lfb z13 (-160)).2, z5.2) 64), (((lfb z14 (-192)).1, z6.1), lfb ((lfb z14 (-192)).1, z6.1) 64), (((lfb z14 (-192)).2, z6.2), lfb ((lfb z14 (-192)).2, z6.2) 64), (((lfb z15 (-224)).1, z7.1), lfb ((lfb z15 (-224)).1, z7.1) 64), (((lfb z15 (-224)).2, z7.2), lfb ((lfb z15 (-224)).2, z7.2) 64)]) = tot [ubz z0 z8 (0), ubz z1 z9 (-32), ubz z2 z10 (-64), ubz z3 z11 (-96), ubz z4 z12 (-128), ubz z5 z13 (-160), ubz z6 z14 (-192), ubz z7 z15 (-224), ubw z0 z8 (0), ubw z1 z9 (-32), ubw z2 z10 (-64), ubw z3 z11 (-96), ubw z4 z12 (-128), ubw z5 z13 (-160), ubw z6 z14 (-192), ubw z7 z15 (-224)] := by
    simp only [beh, tot, sq2, ubz, ubw, List.map_cons, List.map_nil] <;> omega
  rw [e1, ← e3]
  rw [← e2] at h2
  exact ⟨_, h1, h2⟩
set_option maxRecDepth 100000 in
theorem rnd8 (F G : Int × Int → Int × Int → Int → Int × Int) (z0 z1 z2 z3 z4 z5 z6 z7 z8 z9 z10 z11 z12 z13 z14 z15 : Int × Int) : rnd F G [z0, z1, z2, z3, z4, z5, z6, z7, z8, z9, z10, z11, z12, z13, z14, z15] prs8 = [F z0 z4 (0), F z1 z5 (-64), F z2 z6 (-128), F z3 z7 (-192), G z0 z4 (0), G z1 z5 (-64), G z2 z6 (-128), G z3 z7 (-192), F z8 z12 (0), F z9 z13 (-64), F z10 z14 (-128), F z11 z15 (-192), G z8 z12 (0), G z9 z13 (-64), G z10 z14 (-128), G z11 z15 (-192)] := by kernel_rfl
theorem bfs8 (z0 z1 z2 z3 z4 z5 z6 z7 z8 z9 z10 z11 z12 z13 z14 z15 : Int × Int) : bfs [z0, z1, z2, z3, z4, z5, z6, z7, z8, z9, z10, z11, z12, z13, z14, z15] prs8 = [bfz z0 z4, bfz z1 z5, bfz z2 z6, bfz z3 z7, bfw z0 z4 (0), bfw z1 z5 (-64), bfw z2 z6 (-128), bfw z3 z7 (-192), bfz z8 z12, bfz z9 z13, bfz z10 z14, bfz z11 z15, bfw z8 z12 (0), bfw z9 z13 (-64), bfw z10 z14 (-128), bfw z11 z15 (-192)] := rnd8 (fun z w _ => bfz z w) bfw z0 z1 z2 z3 z4 z5 z6 z7 z8 z9 z10 z11 z12 z13 z14 z15
theorem ubs8 (z0 z1 z2 z3 z4 z5 z6 z7 z8 z9 z10 z11 z12 z13 z14 z15 : Int × Int) : ubs [z0, z1, z2, z3, z4, z5, z6, z7, z8, z9, z10, z11, z12, z13, z14, z15] prs8 = [ubz z0 z4 (0), ubz z1 z5 (-64), ubz z2 z6 (-128), ubz z3 z7 (-192), ubw z0 z4 (0), ubw z1 z5 (-64), ubw z2 z6 (-128), ubw z3 z7 (-192), ubz z8 z12 (0), ubz z9 z13 (-64), ubz z10 z14 (-128), ubz z11 z15 (-192), ubw z8 z12 (0), ubw z9 z13 (-64), ubw z10 z14 (-128), ubw z11 z15 (-192)] := rnd8 ubz ubw z0 z1 z2 z3 z4 z5 z6 z7 z8 z9 z10 z11 z12 z13 z14 z15
theorem ubs_bfs8 (l : List (Int × Int)) (h : l.length = 16) : ubs (bfs l prs8) prs8 = l := by
  obtain ⟨z0, z1, z2, z3, z4, z5, z6, z7, z8, z9, z10, z11, z12, z13, z14, z15, rfl⟩ := len16 l h
  rw [bfs8, ubs8]
  simp only [ubz_bf, ubw_bf]
theorem bfs_ubs8 (l : List (Int × Int)) (h : l.length = 16) : bfs (ubs l prs8) prs8 = l := by
  obtain ⟨z0, z1, z2, z3, z4, z5, z6, z7, z8, z9, z10, z11, z12, z13, z14, z15, rfl⟩ := len16 l h
  rw [ubs8, bfs8]
  simp only [bfz_ub, bfw_ub]
theorem bfs8_len (l : List (Int × Int)) (h : l.length = 16) : (bfs l prs8).length = 16 := by
  obtain ⟨z0, z1, z2, z3, z4, z5, z6, z7, z8, z9, z10, z11, z12, z13, z14, z15, rfl⟩ := len16 l h
  rw [bfs8]; rfl
theorem ubs8_len (l : List (Int × Int)) (h : l.length = 16) : (ubs l prs8).length = 16 := by
  obtain ⟨z0, z1, z2, z3, z4, z5, z6, z7, z8, z9, z10, z11, z12, z13, z14, z15, rfl⟩ := len16 l h
  rw [ubs8]; rfl
theorem step8 (l : List (Int × Int)) (h : l.length = 16) : ∃ S, Step (tot l) S ∧ Step S (tot (bfs l prs8)) := by
  obtain ⟨z0, z1, z2, z3, z4, z5, z6, z7, z8, z9, z10, z11, z12, z13, z14, z15, rfl⟩ := len16 l h
  rw [bfs8]
  have h1 := lay_step [((z0.1, z4.1), lft (z0.1, z4.1) 64), ((z0.2, z4.2), lft (z0.2, z4.2) 64), ((z1.1, z5.1), lft (z1.1, z5.1) 64), ((z1.2, z5.2), lft (z1.2, z5.2) 64), ((z2.1, z6.1), lft (z2.1, z6.1) 64), ((z2.2, z6.2), lft (z2.2, z6.2) 64), ((z3.1, z7.1), lft (z3.1, z7.1) 64), ((z3.2, z7.2), lft (z3.2, z7.2) 64), ((z8.1, z12.1), lft (z8.1, z12.1) 64), ((z8.2, z12.2), lft (z8.2, z12.2) 64), ((z9.1, z13.1), lft (z9.1, z13.1) 64), ((z9.2, z13.2), lft (z9.2, z13.2) 64), ((z10.1, z14.1), lft (z10.1, z14.1) 64), ((z10.2, z14.2), lft (z10.2, z14.2) 64), ((z11.1, z15.1), lft (z11.1, z15.1) 64), ((z11.2, z15.2), lft (z11.2, z15.2) 64)] (by
    intro p hp
    simp only [List.mem_cons, List.not_mem_nil, or_false] at hp
    rcases hp with rfl | rfl | rfl | rfl | rfl | rfl | rfl | rfl | rfl | rfl | rfl | rfl | rfl | rfl | rfl | rfl <;> dsimp only <;> exact near2_lft _ _) rfl
  have h2 := lay_step [(bfz z0 z4, bfz z0 z4), (((lft (z0.1, z4.1) 64).1, (lft (z0.2, z4.2) 64).1), bfw z0 z4 (0)), (bfz z1 z5, bfz z1 z5), (((lft (z1.1, z5.1) 64).1, (lft (z1.2, z5.2) 64).1), bfw z1 z5 (-64)), (bfz z2 z6, bfz z2 z6), (((lft (z2.1, z6.1) 64).1, (lft (z2.2, z6.2) 64).1), bfw z2 z6 (-128)), (bfz z3 z7, bfz z3 z7), (((lft (z3.1, z7.1) 64).1, (lft (z3.2, z7.2) 64).1), bfw z3 z7 (-192)), (bfz z8 z12, bfz z8 z12), (((lft (z8.1, z12.1) 64).1, (lft (z8.2, z12.2) 64).1), bfw z8 z12 (0)), (bfz z9 z13, bfz z9 z13), (((lft (z9.1, z13.1) 64).1, (lft (z9.2, z13.2) 64).1), bfw z9 z13 (-64)), (bfz z10 z14, bfz z10 z14), (((lft (z10.1, z14.1) 64).1, (lft (z10.2, z14.2) 64).1), bfw z10 z14 (-128)), (bfz z11 z15, bfz z11 z15), (((lft (z11.1, z15.1) 64).1, (lft (z11.2, z15.2) 64).1), bfw z11 z15 (-192))] (by
    intro p hp
    simp only [List.mem_cons, List.not_mem_nil, or_false] at hp
    rcases hp with rfl | rfl | rfl | rfl | rfl | rfl | rfl | rfl | rfl | rfl | rfl | rfl | rfl | rfl | rfl | rfl <;> dsimp only [bfw] <;> first | exact near2_self _ | exact near2_lft _ _) rfl
  have e1 : tot [z0, z1, z2, z3, z4, z5, z6, z7, z8, z9, z10, z11, z12, z13, z14, z15] = tot (bef [((z0.1, z4.1), lft (z0.1, z4.1) 64), ((z0.2, z4.2), lft (z0.2, z4.2) 64), ((z1.1, z5.1), lft (z1.1, z5.1) 64), ((z1.2, z5.2), lft (z1.2, z5.2) 64), ((z2.1, z6.1), lft (z2.1, z6.1) 64), ((z2.2, z6.2), lft (z2.2, z6.2) 64), ((z3.1, z7.1), lft (z3.1, z7.1) 64), ((z3.2, z7.2), lft (z3.2, z7.2) 64), ((z8.1, z12.1), lft (z8.1, z12.1) 64), ((z8.2, z12.2), lft (z8.2, z12.2) 64), ((z9.1, z13.1), lft (z9.1, z13.1) 64), ((z9.2, z13.2), lft (z9.2, z13.2) 64), ((z10.1, z14.1), lft (z10.1, z14.1) 64), ((z10.2, z14.2), lft (z10.2, z14.2) 64), ((z11.1, z15.1), lft (z11.1, z15.1) 64), ((z11.2, z15.2), lft (z11.2, z15.2) 64)]) := by
    simp only [bef, tot, sq2, List.map_cons, List.map_nil] <;> omega
  have e2 : tot (beh [((z0.1, z4.1), lft (z0.1, z4.1) 64), ((z0.2, z4.2), lft (z0.2, z4.2) 64), ((z1.1, z5.1), lft (z1.1, z5.1) 64), ((z1.2, z5.2), lft (z1.2, z5.2) 64), ((z2.1, z6.1), lft (z2.1, z6.1) 64), ((z2.2, z6.2), lft (z2.2, z6.2) 64), ((z3.1, z7.1), lft (z3.1, z7.1) 64), ((z3.2, z7.2), lft (z3.2, z7.2) 64), ((z8.1, z12.1), lft (z8.1, z12.1) 64), ((z8.2, z12.2), lft (z8.2, z12.2) 64), ((z9.1, z13.1), lft (z9.1, z13.1) 64), ((z9.2, z13.2), lft (z9.2, z13.2) 64), ((z10.1, z14.1), lft (z10.1, z14.1) 64), ((z10.2, z14.2), lft (z10.2, z14.2) 64), ((z11.1, z15.1), lft (z11.1, z15.1) 64), ((z11.2, z15.2), lft (z11.2, z15.2) 64)]) = tot (bef [(bfz z0 z4, bfz z0 z4), (((lft (z0.1, z4.1) 64).1, (lft (z0.2, z4.2) 64).1), bfw z0 z4 (0)), (bfz z1 z5, bfz z1 z5), (((lft (z1.1, z5.1) 64).1, (lft (z1.2, z5.2) 64).1), bfw z1 z5 (-64)), (bfz z2 z6, bfz z2 z6), (((lft (z2.1, z6.1) 64).1, (lft (z2.2, z6.2) 64).1), bfw z2 z6 (-128)), (bfz z3 z7, bfz z3 z7), (((lft (z3.1, z7.1) 64).1, (lft (z3.2, z7.2) 64).1), bfw z3 z7 (-192)), (bfz z8 z12, bfz z8 z12), (((lft (z8.1, z12.1) 64).1, (lft (z8.2, z12.2) 64).1), bfw z8 z12 (0)), (bfz z9 z13, bfz z9 z13), (((lft (z9.1, z13.1) 64).1, (lft (z9.2, z13.2) 64).1), bfw z9 z13 (-64)), (bfz z10 z14, bfz z10 z14), (((lft (z10.1, z14.1) 64).1, (lft (z10.2, z14.2) 64).1), bfw z10 z14 (-128)), (bfz z11 z15, bfz z11 z15), (((lft (z11.1, z15.1) 64).1, (lft (z11.2, z15.2) 64).1), bfw z11 z15 (-192))]) := by
    simp only [bef, beh, tot, sq2, bfz, List.map_cons, List.map_nil] <;> omega
  have e3 : tot (beh [(bfz z0 z4, bfz z0 z4), (((lft (z0.1, z4.1) 64).1, (lft (z0.2, z4.2) 64).1), bfw z0 z4 (0)), (bfz z1 z5, bfz z1 z5), (((lft (z1.1, z5.1) 64).1, (lft (z1.2, z5.2) 64).1), bfw z1 z5 (-64)), (bfz z2 z6, bfz z2 z6), (((lft (z2.1, z6.1) 64).1, (lft (z2.2, z6.2) 64).1), bfw z2 z6 (-128)), (bfz z3 z7, bfz z3 z7), (((lft (z3.1, z7.1) 64).1, (lft (z3.2, z7.2) 64).1), bfw z3 z7 (-192)), (bfz z8 z12, bfz z8 z12), (((lft (z8.1, z12.1) 64).1, (lft (z8.2, z12.2) 64).1), bfw z8 z12 (0)), (bfz z9 z13, bfz z9 z13), (((lft (z9.1, z13.1) 64).1, (lft (z9.2, z13.2) 64).1), bfw z9 z13 (-64)), (bfz z10 z14, bfz z10 z14), (((lft (z10.1, z14.1) 64).1, (lft (z10.2, z14.2) 64).1), bfw z10 z14 (-128)), (bfz z11 z15, bfz z11 z15), (((lft (z11.1, z15.1) 64).1, (lft (z11.2, z15.2) 64).1), bfw z11 z15 (-192))]) = tot [bfz z0 z4, bfz z1 z5, bfz z2 z6, bfz z3 z7, bfw z0 z4 (0), bfw z1 z5 (-64), bfw z2 z6 (-128), bfw z3 z7 (-192), bfz z8 z12, bfz z9 z13, bfz z10 z14, bfz z11 z15, bfw z8 z12 (0), bfw z9 z13 (-64), bfw z10 z14 (-128), bfw z11 z15 (-192)] := by
    simp only [beh, tot, List.map_cons, List.map_nil] <;> omega
  rw [e1, ← e3]
  rw [← e2] at h2
  exact ⟨_, h1, h2⟩
theorem stepU8 (l : List (Int × Int)) (h : l.length = 16) : ∃ S, Step (tot l) S ∧ Step S (tot (ubs l prs8)) := by
  obtain ⟨z0, z1, z2, z3, z4, z5, z6, z7, z8, z9, z10, z11, z12, z13, z14, z15, rfl⟩ := len16 l h
  rw [ubs8]
  have h1 := lay_step [(z0, z0), (z4, lfb z4 (0)), (z1, z1), (z5, lfb z5 (-64)), (z2, z2), (z6, lfb z6 (-128)), (z3, z3), (z7, lfb z7 (-192)), (z8, z8), (z12, lfb z12 (0)), (z9, z9), (z13, lfb z13 (-64)), (z10, z10), (z14, lfb z14 (-128)), (z11, z11), (z15, lfb z15 (-192))] (by
    intro p hp
    simp only [List.mem_cons, List.not_mem_nil, or_false] at hp
    rcases hp with rfl | rfl | rfl | rfl | rfl | rfl | rfl | rfl | rfl | rfl | rfl | rfl | rfl | rfl | rfl | rfl <;> dsimp only <;> first | exact near2_self _ | exact near2_lfb _ _) rfl
  have h2 := lay_step [(((lfb z4 (0)).1, z0.1), lfb ((lfb z4 (0)).1, z0.1) 64), (((lfb z4 (0)).2, z0.2), lfb ((lfb z4 (0)).2, z0.2) 64), (((lfb z5 (-64)).1, z1.1), lfb ((lfb z5 (-64)).1, z1.1) 64), (((lfb z5 (-64)).2, z1.2), lfb ((lfb z5 (-64)).2, z1.2) 64), (((lfb z6 (-128)).1, z2.1), lfb ((lfb z6 (-128)).1, z2.1) 64), (((lfb z6 (-128)).2, z2.2), lfb ((lfb z6 (-128)).2, z2.2) 64), (((lfb z7 (-192)).1, z3.1), lfb ((lfb z7 (-192)).1, z3.1) 64), (((lfb z7 (-192)).2, z3.2), lfb ((lfb z7 (-192)).2, z3.2) 64), (((lfb z12 (0)).1, z8.1), lfb ((lfb z12 (0)).1, z8.1) 64), (((lfb z12 (0)).2, z8.2), lfb ((lfb z12 (0)).2, z8.2) 64), (((lfb z13 (-64)).1, z9.1), lfb ((lfb z13 (-64)).1, z9.1) 64), (((lfb z13 (-64)).2, z9.2), lfb ((lfb z13 (-64)).2, z9.2) 64), (((lfb z14 (-128)).1, z10.1), lfb ((lfb z14 (-128)).1, z10.1) 64), (((lfb z14 (-128)).2, z10.2), lfb ((lfb z14 (-128)).2, z10.2) 64), (((lfb z15 (-192)).1, z11.1), lfb ((lfb z15 (-192)).1, z11.1) 64), (((lfb z15 (-192)).2, z11.2), lfb ((lfb z15 (-192)).2, z11.2) 64)] (by
    intro p hp
    simp only [List.mem_cons, List.not_mem_nil, or_false] at hp
    rcases hp with rfl | rfl | rfl | rfl | rfl | rfl | rfl | rfl | rfl | rfl | rfl | rfl | rfl | rfl | rfl | rfl <;> dsimp only <;> exact near2_lfb _ _) rfl
  have e1 : tot [z0, z1, z2, z3, z4, z5, z6, z7, z8, z9, z10, z11, z12, z13, z14, z15] = tot (bef [(z0, z0), (z4, lfb z4 (0)), (z1, z1), (z5, lfb z5 (-64)), (z2, z2), (z6, lfb z6 (-128)), (z3, z3), (z7, lfb z7 (-192)), (z8, z8), (z12, lfb z12 (0)), (z9, z9), (z13, lfb z13 (-64)), (z10, z10), (z14, lfb z14 (-128)), (z11, z11), (z15, lfb z15 (-192))]) := by
    simp only [bef, tot, List.map_cons, List.map_nil] <;> omega
  have e2 : tot (beh [(z0, z0), (z4, lfb z4 (0)), (z1, z1), (z5, lfb z5 (-64)), (z2, z2), (z6, lfb z6 (-128)), (z3, z3), (z7, lfb z7 (-192)), (z8, z8), (z12, lfb z12 (0)), (z9, z9), (z13, lfb z13 (-64)), (z10, z10), (z14, lfb z14 (-128)), (z11, z11), (z15, lfb z15 (-192))]) = tot (bef [(((lfb z4 (0)).1, z0.1), lfb ((lfb z4 (0)).1, z0.1) 64), (((lfb z4 (0)).2, z0.2), lfb ((lfb z4 (0)).2, z0.2) 64), (((lfb z5 (-64)).1, z1.1), lfb ((lfb z5 (-64)).1, z1.1) 64), (((lfb z5 (-64)).2, z1.2), lfb ((lfb z5 (-64)).2, z1.2) 64), (((lfb z6 (-128)).1, z2.1), lfb ((lfb z6 (-128)).1, z2.1) 64), (((lfb z6 (-128)).2, z2.2), lfb ((lfb z6 (-128)).2, z2.2) 64), (((lfb z7 (-192)).1, z3.1), lfb ((lfb z7 (-192)).1, z3.1) 64), (((lfb z7 (-192)).2, z3.2), lfb ((lfb z7 (-192)).2, z3.2) 64), (((lfb z12 (0)).1, z8.1), lfb ((lfb z12 (0)).1, z8.1) 64), (((lfb z12 (0)).2, z8.2), lfb ((lfb z12 (0)).2, z8.2) 64), (((lfb z13 (-64)).1, z9.1), lfb ((lfb z13 (-64)).1, z9.1) 64), (((lfb z13 (-64)).2, z9.2), lfb ((lfb z13 (-64)).2, z9.2) 64), (((lfb z14 (-128)).1, z10.1), lfb ((lfb z14 (-128)).1, z10.1) 64), (((lfb z14 (-128)).2, z10.2), lfb ((lfb z14 (-128)).2, z10.2) 64), (((lfb z15 (-192)).1, z11.1), lfb ((lfb z15 (-192)).1, z11.1) 64), (((lfb z15 (-192)).2, z11.2), lfb ((lfb z15 (-192)).2, z11.2) 64)]) := by
    simp only [bef, beh, tot, sq2, List.map_cons, List.map_nil] <;> omega
  have e3 : tot (beh [(((lfb z4 (0)).1, z0.1), lfb ((lfb z4 (0)).1, z0.1) 64), (((lfb z4 (0)).2, z0.2), lfb ((lfb z4 (0)).2, z0.2) 64), (((lfb z5 (-64)).1, z1.1), lfb ((lfb z5 (-64)).1, z1.1) 64), (((lfb z5 (-64)).2, z1.2), lfb ((lfb z5 (-64)).2, z1.2) 64), (((lfb z6 (-128)).1, z2.1), lfb ((lfb z6 (-128)).1, z2.1) 64), (((lfb z6 (-128)).2, z2.2), lfb ((lfb z6 (-128)).2, z2.2) 64), (((lfb z7 (-192)).1, z3.1), lfb ((lfb z7 (-192)).1, z3.1) 64), (((lfb z7 (-192)).2, z3.2), lfb ((lfb z7 (-192)).2, z3.2) 64), (((lfb z12 (0)).1, z8.1), lfb ((lfb z12 (0)).1, z8.1) 64), (((lfb z12 (0)).2, z8.2), lfb ((lfb z12 (0)).2, z8.2) 64), (((lfb z13 (-64)).1, z9.1), lfb ((lfb z13 (-64)).1, z9.1) 64), (((lfb z13 (-64)).2, z9.2), lfb ((lfb z13 (-64)).2, z9.2) 64), (((lfb z14 (-128)).1, z10.1), lfb ((lfb z14 (-128)).1, z10.1) 64), (((lfb z14 (-128)).2, z10.2), lfb ((lfb z14 (-128)).2, z10.2) 64), (((lfb z15 (-192)).1, z11.1), lfb ((lfb z15 (-192)).1, z11.1) 64), (((lfb z15 (-192)).2, z11.2), lfb ((lfb z15 (-192)).2, z11.2) 64)]) = tot [ubz z0 z4 (0), ubz z1 z5 (-64), ubz z2 z6 (-128), ubz z3 z7 (-192), ubw z0 z4 (0), ubw z1 z5 (-64), ubw z2 z6 (-128), ubw z3 z7 (-192), ubz z8 z12 (0), ubz z9 z13 (-64), ubz z10 z14 (-128), ubz z11 z15 (-192), ubw z8 z12 (0), ubw z9 z13 (-64), ubw z10 z14 (-128), ubw z11 z15 (-192)] := by
    simp only [beh, tot, sq2, ubz, ubw, List.map_cons, List.map_nil] <;> omega
  rw [e1, ← e3]
  rw [← e2] at h2
  exact ⟨_, h1, h2⟩
set_option maxRecDepth 100000 in
theorem rnd4 (F G : Int × Int → Int × Int → Int → Int × Int) (z0 z1 z2 z3 z4 z5 z6 z7 z8 z9 z10 z11 z12 z13 z14 z15 : Int × Int) : rnd F G [z0, z1, z2, z3, z4, z5, z6, z7, z8, z9, z10, z11, z12, z13, z14, z15] prs4 = [F z0 z2 (0), F z1 z3 (-128), G z0 z2 (0), G z1 z3 (-128), F z4 z6 (0), F z5 z7 (-128), G z4 z6 (0), G z5 z7 (-128), F z8 z10 (0), F z9 z11 (-128), G z8 z10 (0), G z9 z11 (-128), F z12 z14 (0), F z13 z15 (-128), G z12 z14 (0), G z13 z15 (-128)] := by kernel_rfl
theorem bfs4 (z0 z1 z2 z3 z4 z5 z6 z7 z8 z9 z10 z11 z12 z13 z14 z15 : Int × Int) : bfs [z0, z1, z2, z3, z4, z5, z6, z7, z8, z9, z10, z11, z12, z13, z14, z15] prs4 = [bfz z0 z2, bfz z1 z3, bfw z0 z2 (0), bfw z1 z3 (-128), bfz z4 z6, bfz z5 z7, bfw z4 z6 (0), bfw z5 z7 (-128), bfz z8 z10, bfz z9 z11, bfw z8 z10 (0), bfw z9 z11 (-128), bfz z12 z14, bfz z13 z15, bfw z12 z14 (0), bfw z13 z15 (-128)] := rnd4 (fun z w _ => bfz z w) bfw z0 z1 z2 z3 z4 z5 z6 z7 z8 z9 z10 z11 z12 z13 z14 z15
theorem ubs4 (z0 z1 z2 z3 z4 z5 z6 z7 z8 z9 z10 z11 z12 z13 z14 z15 : Int × Int) : ubs [z0, z1, z2, z3, z4, z5, z6, z7, z8, z9, z10, z11, z12, z13, z14, z15] prs4 = [ubz z0 z2 (0), ubz z1 z3 (-128), ubw z0 z2 (0), ubw z1 z3 (-128), ubz z4 z6 (0), ubz z5 z7 (-128), ubw z4 z6 (0), ubw z5 z7 (-128), ubz z8 z10 (0), ubz z9 z11 (-128), ubw z8 z10 (0), ubw z9 z11 (-128), ubz z12 z14 (0), ubz z13 z15 (-128), ubw z12 z14 (0), ubw z13 z15 (-128)] := rnd4 ubz ubw z0 z1 z2 z3 z4 z5 z6 z7 z8 z9 z10 z11 z12 z13 z14 z15
theorem ubs_bfs4 (l : List (Int × Int)) (h : l.length = 16) : ubs (bfs l prs4) prs4 = l := by
  obtain ⟨z0, z1, z2, z3, z4, z5, z6, z7, z8, z9, z10, z11, z12, z13, z14, z15, rfl⟩ := len16 l h
  rw [bfs4, ubs4]
  simp only [ubz_bf, ubw_bf]
theorem bfs_ubs4 (l : List (Int × Int)) (h : l.length = 16) : bfs (ubs l prs4) prs4 = l := by
  obtain ⟨z0, z1, z2, z3, z4, z5, z6, z7, z8, z9, z10, z11, z12, z13, z14, z15, rfl⟩ := len16 l h
  rw [ubs4, bfs4]
  simp only [bfz_ub, bfw_ub]
theorem bfs4_len (l : List (Int × Int)) (h : l.length = 16) : (bfs l prs4).length = 16 := by
  obtain ⟨z0, z1, z2, z3, z4, z5, z6, z7, z8, z9, z10, z11, z12, z13, z14, z15, rfl⟩ := len16 l h
  rw [bfs4]; rfl
theorem ubs4_len (l : List (Int × Int)) (h : l.length = 16) : (ubs l prs4).length = 16 := by
  obtain ⟨z0, z1, z2, z3, z4, z5, z6, z7, z8, z9, z10, z11, z12, z13, z14, z15, rfl⟩ := len16 l h
  rw [ubs4]; rfl
theorem step4 (l : List (Int × Int)) (h : l.length = 16) : ∃ S, Step (tot l) S ∧ Step S (tot (bfs l prs4)) := by
  obtain ⟨z0, z1, z2, z3, z4, z5, z6, z7, z8, z9, z10, z11, z12, z13, z14, z15, rfl⟩ := len16 l h
  rw [bfs4]
  have h1 := lay_step [((z0.1, z2.1), lft (z0.1, z2.1) 64), ((z0.2, z2.2), lft (z0.2, z2.2) 64), ((z1.1, z3.1), lft (z1.1, z3.1) 64), ((z1.2, z3.2), lft (z1.2, z3.2) 64), ((z4.1, z6.1), lft (z4.1, z6.1) 64), ((z4.2, z6.2), lft (z4.2, z6.2) 64), ((z5.1, z7.1), lft (z5.1, z7.1) 64), ((z5.2, z7.2), lft (z5.2, z7.2) 64), ((z8.1, z10.1), lft (z8.1, z10.1) 64), ((z8.2, z10.2), lft (z8.2, z10.2) 64), ((z9.1, z11.1), lft (z9.1, z11.1) 64), ((z9.2, z11.2), lft (z9.2, z11.2) 64), ((z12.1, z14.1), lft (z12.1, z14.1) 64), ((z12.2, z14.2), lft (z12.2, z14.2) 64), ((z13.1, z15.1), lft (z13.1, z15.1) 64), ((z13.2, z15.2), lft (z13.2, z15.2) 64)] (by
    intro p hp
    simp only [List.mem_cons, List.not_mem_nil, or_false] at hp
    rcases hp with rfl | rfl | rfl | rfl | rfl | rfl | rfl | rfl | rfl | rfl | rfl | rfl | rfl | rfl | rfl | rfl <;> dsimp only <;> exact near2_lft _ _) rfl
  have h2 := lay_step [(bfz z0 z2, bfz z0 z2), (((lft (z0.1, z2.1) 64).1, (lft (z0.2, z2.2) 64).1), bfw z0 z2 (0)), (bfz z1 z3, bfz z1 z3), (((lft (z1.1, z3.1) 64).1, (lft (z1.2, z3.2) 64).1), bfw z1 z3 (-128)), (bfz z4 z6, bfz z4 z6), (((lft (z4.1, z6.1) 64).1, (lft (z4.2, z6.2) 64).1), bfw z4 z6 (0)), (bfz z5 z7, bfz z5 z7), (((lft (z5.1, z7.1) 64).1, (lft (z5.2, z7.2) 64).1), bfw z5 z7 (-128)), (bfz z8 z10, bfz z8 z10), (((lft (z8.1, z10.1) 64).1, (lft (z8.2, z10.2) 64).1), bfw z8 z10 (0)), (bfz z9 z11, bfz z9 z11), (((lft (z9.1, z11.1) 64).1, (lft (z9.2, z11.2) 64).1), bfw z9 z11 (-128)), (bfz z12 z14, bfz z12 z14), (((lft (z12.1, z14.1) 64).1, (lft (z12.2, z14.2) 64).1), bfw z12 z14 (0)), (bfz z13 z15, bfz z13 z15), (((lft (z13.1, z15.1) 64).1, (lft (z13.2, z15.2) 64).1), bfw z13 z15 (-128))] (by
    intro p hp
    simp only [List.mem_cons, List.not_mem_nil, or_false] at hp
    rcases hp with rfl | rfl | rfl | rfl | rfl | rfl | rfl | rfl | rfl | rfl | rfl | rfl | rfl | rfl | rfl | rfl <;> dsimp only [bfw] <;> first | exact near2_self _ | exact near2_lft _ _) rfl
  have e1 : tot [z0, z1, z2, z3, z4, z5, z6, z7, z8, z9, z10, z11, z12, z13, z14, z15] = tot (bef [((z0.1, z2.1), lft (z0.1, z2.1) 64), ((z0.2, z2.2), lft (z0.2, z2.2) 64), ((z1.1, z3.1), lft (z1.1, z3.1) 64), ((z1.2, z3.2), lft (z1.2, z3.2) 64), ((z4.1, z6.1), lft (z4.1, z6.1) 64), ((z4.2, z6.2), lft (z4.2, z6.2) 64), ((z5.1, z7.1), lft (z5.1, z7.1) 64), ((z5.2, z7.2), lft (z5.2, z7.2) 64), ((z8.1, z10.1), lft (z8.1, z10.1) 64), ((z8.2, z10.2), lft (z8.2, z10.2) 64), ((z9.1, z11.1), lft (z9.1, z11.1) 64), ((z9.2, z11.2), lft (z9.2, z11.2) 64), ((z12.1, z14.1), lft (z12.1, z14.1) 64), ((z12.2, z14.2), lft (z12.2, z14.2) 64), ((z13.1, z15.1), lft (z13.1, z15.1) 64), ((z13.2, z15.2), lft (z13.2, z15.2) 64)]) := by
    simp only [bef, tot, sq2, List.map_cons, List.map_nil] <;> omega
  have e2 : tot (beh [((z0.1, z2.1), lft (z0.1, z2.1) 64), ((z0.2, z2.2), lft (z0.2, z2.2) 64), ((z1.1, z3.1), lft (z1.1, z3.1) 64), ((z1.2, z3.2), lft (z1.2, z3.2) 64), ((z4.1, z6.1), lft (z4.1, z6.1) 64), ((z4.2, z6.2), lft (z4.2, z6.2) 64), ((z5.1, z7.1), lft (z5.1, z7.1) 64), ((z5.2, z7.2), lft (z5.2, z7.2) 64), ((z8.1, z10.1), lft (z8.1, z10.1) 64), ((z8.2, z10.2), lft (z8.2, z10.2) 64), ((z9.1, z11.1), lft (z9.1, z11.1) 64), ((z9.2, z11.2), lft (z9.2, z11.2) 64), ((z12.1, z14.1), lft (z12.1, z14.1) 64), ((z12.2, z14.2), lft (z12.2, z14.2) 64), ((z13.1, z15.1), lft (z13.1, z15.1) 64), ((z13.2, z15.2), lft (z13.2, z15.2) 64)]) = tot (bef [(bfz z0 z2, bfz z0 z2), (((lft (z0.1, z2.1) 64).1, (lft (z0.2, z2.2) 64).1), bfw z0 z2 (0)), (bfz z1 z3, bfz z1 z3), (((lft (z1.1, z3.1) 64).1, (lft (z1.2, z3.2) 64).1), bfw z1 z3 (-128)), (bfz z4 z6, bfz z4 z6), (((lft (z4.1, z6.1) 64).1, (lft (z4.2, z6.2) 64).1), bfw z4 z6 (0)), (bfz z5 z7, bfz z5 z7), (((lft (z5.1, z7.1) 64).1, (lft (z5.2, z7.2) 64).1), bfw z5 z7 (-128)), (bfz z8 z10, bfz z8 z10), (((lft (z8.1, z10.1) 64).1, (lft (z8.2, z10.2) 64).1), bfw z8 z10 (0)), (bfz z9 z11, bfz z9 z11), (((lft (z9.1, z11.1) 64).1, (lft (z9.2, z11.2) 64).1), bfw z9 z11 (-128)), (bfz z12 z14, bfz z12 z14), (((lft (z12.1, z14.1) 64).1, (lft (z12.2, z14.2) 64).1), bfw z12 z14 (0)), (bfz z13 z15, bfz z13 z15), (((lft (z13.1, z15.1) 64).1, (lft (z13.2, z15.2) 64).1), bfw z13 z15 (-128))]) := by
    simp only [bef, beh, tot, sq2, bfz, List.map_cons, List.map_nil] <;> omega
  have e3 : tot (beh [(bfz z0 z2, bfz z0 z2), (((lft (z0.1, z2.1) 64).1, (lft (z0.2, z2.2) 64).1), bfw z0 z2 (0)), (bfz z1 z3, bfz z1 z3), (((lft (z1.1, z3.1) 64).1, (lft (z1.2, z3.2) 64).1), bfw z1 z3 (-128)), (bfz z4 z6, bfz z4 z6), (((lft (z4.1, z6.1) 64).1, (lft (z4.2, z6.2) 64).1), bfw z4 z6 (0)), (bfz z5 z7, bfz z5 z7), (((lft (z5.1, z7.1) 64).1, (lft (z5.2, z7.2) 64).1), bfw z5 z7 (-128)), (bfz z8 z10, bfz z8 z10), (((lft (z8.1, z10.1) 64).1, (lft (z8.2, z10.2) 64).1), bfw z8 z10 (0)), (bfz z9 z11, bfz z9 z11), (((lft (z9.1, z11.1) 64).1, (lft (z9.2, z11.2) 64).1), bfw z9 z11 (-128)), (bfz z12 z14, bfz z12 z14), (((lft (z12.1, z14.1) 64).1, (lft (z12.2, z14.2) 64).1), bfw z12 z14 (0)), (bfz z13 z15, bfz z13 z15), (((lft (z13.1, z15.1) 64).1, (lft (z13.2, z15.2) 64).1), bfw z13 z15 (-128))]) = tot [bfz z0 z2, bfz z1 z3, bfw z0 z2 (0), bfw z1 z3 (-128), bfz z4 z6, bfz z5 z7, bfw z4 z6 (0), bfw z5 z7 (-128), bfz z8 z10, bfz z9 z11, bfw z8 z10 (0), bfw z9 z11 (-128), bfz z12 z14, bfz z13 z15, bfw z12 z14 (0), bfw z13 z15 (-128)] := by
    simp only [beh, tot, List.map_cons, List.map_nil] <;> omega
  rw [e1, ← e3]
  rw [← e2] at h2
  exact ⟨_, h1, h2⟩
theorem stepU4 (l : List (Int × Int)) (h : l.length = 16) : ∃ S, Step (tot l) S ∧ Step S (tot (ubs l prs4)) := by
  obtain ⟨z0, z1, z2, z3, z4, z5, z6, z7, z8, z9, z10, z11, z12, z13, z14, z15, rfl⟩ := len16 l h
  rw [ubs4]
  have h1 := lay_step [(z0, z0), (z2, lfb z2 (0)), (z1, z1), (z3, lfb z3 (-128)), (z4, z4), (z6, lfb z6 (0)), (z5, z5), (z7, lfb z7 (-128)), (z8, z8), (z10, lfb z10 (0)), (z9, z9), (z11, lfb z11 (-128)), (z12, z12), (z14, lfb z14 (0)), (z13, z13), (z15, lfb z15 (-128))] (by
    intro p hp
    simp only [List.mem_cons, List.not_mem_nil, or_false] at hp
    rcases hp with rfl | rfl | rfl | rfl | rfl | rfl | rfl | rfl | rfl | rfl | rfl | rfl | rfl | rfl | rfl | rfl <;> dsimp only <;> first | exact near2_self _ | exact near2_lfb _ _) rfl
  have h2 := lay_step [(((lfb z2 (0)).1, z0.1), lfb ((lfb z2 (0)).1, z0.1) 64), (((lfb z2 (0)).2, z0.2), lfb ((lfb z2 (0)).2, z0.2) 64), (((lfb z3 (-128)).1, z1.1), lfb ((lfb z3 (-128)).1, z1.1) 64), (((lfb z3 (-128)).2, z1.2), lfb ((lfb z3 (-128)).2, z1.2) 64), (((lfb z6 (0)).1, z4.1), lfb ((lfb z6 (0)).1, z4.1) 64), (((lfb z6 (0)).2, z4.2), lfb ((lfb z6 (0)).2, z4.2) 64), (((lfb z7 (-128)).1, z5.1), lfb ((lfb z7 (-128)).1, z5.1) 64), (((lfb z7 (-128)).2, z5.2), lfb ((lfb z7 (-128)).2, z5.2) 64), (((lfb z10 (0)).1, z8.1), lfb ((lfb z10 (0)).1, z8.1) 64), (((lfb z10 (0)).2, z8.2), lfb ((lfb z10 (0)).2, z8.2) 64), (((lfb z11 (-128)).1, z9.1), lfb ((lfb z11 (-128)).1, z9.1) 64), (((lfb z11 (-128)).2, z9.2), lfb ((lfb z11 (-128)).2, z9.2) 64), (((lfb z14 (0)).1, z12.1), lfb ((lfb z14 (0)).1, z12.1) 64), (((lfb z14 (0)).2, z12.2), lfb ((lfb z14 (0)).2, z12.2) 64), (((lfb z15 (-128)).1, z13.1), lfb ((lfb z15 (-128)).1, z13.1) 64), (((lfb z15 (-128)).2, z13.2), lfb ((lfb z15 (-128)).2, z13.2) 64)] (by
    intro p hp
    simp only [List.mem_cons, List.not_mem_nil, or_false] at hp
    rcases hp with rfl | rfl | rfl | rfl | rfl | rfl | rfl | rfl | rfl | rfl | rfl | rfl | rfl | rfl | rfl | rfl <;> dsimp only <;> exact near2_lfb _ _) rfl
  have e1 : tot [z0, z1, z2, z3, z4, z5, z6, z7, z8, z9, z10, z11, z12, z13, z14, z15] = tot (bef [(z0, z0), (z2, lfb z2 (0)), (z1, z1), (z3, lfb z3 (-128)), (z4, z4), (z6, lfb z6 (0)), (z5, z5), (z7, lfb z7 (-128)), (z8, z8), (z10, lfb z10 (0)), (z9, z9), (z11, lfb z11 (-128)), (z12, z12), (z14, lfb z14 (0)), (z13, z13), (z15, lfb z15 (-128))]) := by
    simp only [bef, tot, List.map_cons, List.map_nil] <;> omega
  have e2 : tot (beh [(z0, z0), (z2, lfb z2 (0)), (z1, z1), (z3, lfb z3 (-128)), (z4, z4), (z6, lfb z6 (0)), (z5, z5), (z7, lfb z7 (-128)), (z8, z8), (z10, lfb z10 (0)), (z9, z9), (z11, lfb z11 (-128)), (z12, z12), (z14, lfb z14 (0)), (z13, z13), (z15, lfb z15 (-128))]) = tot (bef [(((lfb z2 (0)).1, z0.1), lfb ((lfb z2 (0)).1, z0.1) 64), (((lfb z2 (0)).2, z0.2), lfb ((lfb z2 (0)).2, z0.2) 64), (((lfb z3 (-128)).1, z1.1), lfb ((lfb z3 (-128)).1, z1.1) 64), (((lfb z3 (-128)).2, z1.2), lfb ((lfb z3 (-128)).2, z1.2) 64), (((lfb z6 (0)).1, z4.1), lfb ((lfb z6 (0)).1, z4.1) 64), (((lfb z6 (0)).2, z4.2), lfb ((lfb z6 (0)).2, z4.2) 64), (((lfb z7 (-128)).1, z5.1), lfb ((lfb z7 (-128)).1, z5.1) 64), (((lfb z7 (-128)).2, z5.2), lfb ((lfb z7 (-128)).2, z5.2) 64), (((lfb z10 (0)).1, z8.1), lfb ((lfb z10 (0)).1, z8.1) 64), (((lfb z10 (0)).2, z8.2), lfb ((lfb z10 (0)).2, z8.2) 64), (((lfb z11 (-128)).1, z9.1), lfb ((lfb z11 (-128)).1, z9.1) 64), (((lfb z11 (-128)).2, z9.2), lfb ((lfb z11 (-128)).2, z9.2) 64), (((lfb z14 (0)).1, z12.1), lfb ((lfb z14 (0)).1, z12.1) 64), (((lfb z14 (0)).2, z12.2), lfb ((lfb z14 (0)).2, z12.2) 64), (((lfb z15 (-128)).1, z13.1), lfb ((lfb z15 (-128)).1, z13.1) 64), (((lfb z15 (-128)).2, z13.2), lfb ((lfb z15 (-128)).2, z13.2) 64)]) := by
    simp only [bef, beh, tot, sq2, List.map_cons, List.map_nil] <;> omega
  have e3 : tot (beh [(((lfb z2 (0)).1, z0.1), lfb ((lfb z2 (0)).1, z0.1) 64), (((lfb z2 (0)).2, z0.2), lfb ((lfb z2 (0)).2, z0.2) 64), (((lfb z3 (-128)).1, z1.1), lfb ((lfb z3 (-128)).1, z1.1) 64), (((lfb z3 (-128)).2, z1.2), lfb ((lfb z3 (-128)).2, z1.2) 64), (((lfb z6 (0)).1, z4.1), lfb ((lfb z6 (0)).1, z4.1) 64), (((lfb z6 (0)).2, z4.2), lfb ((lfb z6 (0)).2, z4.2) 64), (((lfb z7 (-128)).1, z5.1), lfb ((lfb z7 (-128)).1, z5.1) 64), (((lfb z7 (-128)).2, z5.2), lfb ((lfb z7 (-128)).2, z5.2) 64), (((lfb z10 (0)).1, z8.1), lfb ((lfb z10 (0)).1, z8.1) 64), (((lfb z10 (0)).2, z8.2), lfb ((lfb z10 (0)).2, z8.2) 64), (((lfb z11 (-128)).1, z9.1), lfb ((lfb z11 (-128)).1, z9.1) 64), (((lfb z11 (-128)).2, z9.2), lfb ((lfb z11 (-128)).2, z9.2) 64), (((lfb z14 (0)).1, z12.1), lfb ((lfb z14 (0)).1, z12.1) 64), (((lfb z14 (0)).2, z12.2), lfb ((lfb z14 (0)).2, z12.2) 64), (((lfb z15 (-128)).1, z13.1), lfb ((lfb z15 (-128)).1, z13.1) 64), (((lfb z15 (-128)).2, z13.2), lfb ((lfb z15 (-128)).2, z13.2) 64)]) = tot [ubz z0 z2 (0), ubz z1 z3 (-128), ubw z0 z2 (0), ubw z1 z3 (-128), ubz z4 z6 (0), ubz z5 z7 (-128), ubw z4 z6 (0), ubw z5 z7 (-128), ubz z8 z10 (0), ubz z9 z11 (-128), ubw z8 z10 (0), ubw z9 z11 (-128), ubz z12 z14 (0), ubz z13 z15 (-128), ubw z12 z14 (0), ubw z13 z15 (-128)] := by
    simp only [beh, tot, sq2, ubz, ubw, List.map_cons, List.map_nil] <;> omega
  rw [e1, ← e3]
  rw [← e2] at h2
  exact ⟨_, h1, h2⟩
set_option maxRecDepth 100000 in
theorem rnd2 (F G : Int × Int → Int × Int → Int → Int × Int) (z0 z1 z2 z3 z4 z5 z6 z7 z8 z9 z10 z11 z12 z13 z14 z15 : Int × Int) : rnd F G [z0, z1, z2, z3, z4, z5, z6, z7, z8, z9, z10, z11, z12, z13, z14, z15] prs2 = [F z0 z1 (0), G z0 z1 (0), F z2 z3 (0), G z2 z3 (0), F z4 z5 (0), G z4 z5 (0), F z6 z7 (0), G z6 z7 (0), F z8 z9 (0), G z8 z9 (0), F z10 z11 (0), G z10 z11 (0), F z12 z13 (0), G z12 z13 (0), F z14 z15 (0), G z14 z15 (0)] := by kernel_rfl
theorem bfs2 (z0 z1 z2 z3 z4 z5 z6 z7 z8 z9 z10 z11 z12 z13 z14 z15 : Int × Int) : bfs [z0, z1, z2, z3, z4, z5, z6, z7, z8, z9, z10, z11, z12, z13, z14, z15] prs2 = [bfz z0 z1, bfw z0 z1 (0), bfz z2 z3, bfw z2 z3 (0), bfz z4 z5, bfw z4 z5 (0), bfz z6 z7, bfw z6 z7 (0), bfz z8 z9, bfw z8 z9 (0), bfz z10 z11, bfw z10 z11 (0), bfz z12 z13, bfw z12 z13 (0), bfz z14 z15, bfw z14 z15 (0)] := rnd2 (fun z w _ => bfz z w) bfw z0 z1 z2 z3 z4 z5 z6 z7 z8 z9 z10 z11 z12 z13 z14 z15
theorem ubs2 (z0 z1 z2 z3 z4 z5 z6 z7 z8 z9 z10 z11 z12 z13 z14 z15 : Int × Int) : ubs [z0, z1, z2, z3, z4, z5, z6, z7, z8, z9, z10, z11, z12, z13, z14, z15] prs2 = [ubz z0 z1 (0), ubw z0 z1 (0), ubz z2 z3 (0), ubw z2 z3 (0), ubz z4 z5 (0), ubw z4 z5 (0), ubz z6 z7 (0), ubw z6 z7 (0), ubz z8 z9 (0), ubw z8 z9 (0), ubz z10 z11 (0), ubw z10 z11 (0), ubz z12 z13 (0), ubw z12 z13 (0), ubz z14 z15 (0), ubw z14 z15 (0)] := rnd2 ubz ubw z0 z1 z2 z3 z4 z5 z6 z7 z8 z9 z10 z11 z12 z13 z14 z15
theorem ubs_bfs2 (l : List (Int × Int)) (h : l.length = 16) : ubs (bfs l prs2) prs2 = l := by
  obtain ⟨z0, z1, z2, z3, z4, z5, z6, z7, z8, z9, z10, z11, z12, z13, z14, z15, rfl⟩ := len16 l h
  rw [bfs2, ubs2]
  simp only [ubz_bf, ubw_bf]
theorem bfs_ubs2 (l : List (Int × Int)) (h : l.length = 16) : bfs (ubs l prs2) prs2 = l := by
  obtain ⟨z0, z1, z2, z3, z4, z5, z6, z7, z8, z9, z10, z11, z12, z13, z14, z15, rfl⟩ := len16 l h
  rw [ubs2, bfs2]
  simp only [bfz_ub, bfw_ub]
theorem bfs2_len (l : List (Int × Int)) (h : l.length = 16) : (bfs l prs2).length = 16 := by
  obtain ⟨z0, z1, z2, z3, z4, z5, z6, z7, z8, z9, z10, z11, z12, z13, z14, z15, rfl⟩ := len16 l h
  rw [bfs2]; rfl
theorem ubs2_len (l : List (Int × Int)) (h : l.length = 16) : (ubs l prs2).length = 16 := by
  obtain ⟨z0, z1, z2, z3, z4, z5, z6, z7, z8, z9, z10, z11, z12, z13, z14, z15, rfl⟩ := len16 l h
  rw [ubs2]; rfl
theorem step2 (l : List (Int × Int)) (h : l.length = 16) : ∃ S, Step (tot l) S ∧ Step S (tot (bfs l prs2)) := by
  obtain ⟨z0, z1, z2, z3, z4, z5, z6, z7, z8, z9, z10, z11, z12, z13, z14, z15, rfl⟩ := len16 l h
  rw [bfs2]
  have h1 := lay_step [((z0.1, z1.1), lft (z0.1, z1.1) 64), ((z0.2, z1.2), lft (z0.2, z1.2) 64), ((z2.1, z3.1), lft (z2.1, z3.1) 64), ((z2.2, z3.2), lft (z2.2, z3.2) 64), ((z4.1, z5.1), lft (z4.1, z5.1) 64), ((z4.2, z5.2), lft (z4.2, z5.2) 64), ((z6.1, z7.1), lft (z6.1, z7.1) 64), ((z6.2, z7.2), lft (z6.2, z7.2) 64), ((z8.1, z9.1), lft (z8.1, z9.1) 64), ((z8.2, z9.2), lft (z8.2, z9.2) 64), ((z10.1, z11.1), lft (z10.1, z11.1) 64), ((z10.2, z11.2), lft (z10.2, z11.2) 64), ((z12.1, z13.1), lft (z12.1, z13.1) 64), ((z12.2, z13.2), lft (z12.2, z13.2) 64), ((z14.1, z15.1), lft (z14.1, z15.1) 64), ((z14.2, z15.2), lft (z14.2, z15.2) 64)] (by
    intro p hp
    simp only [List.mem_cons, List.not_mem_nil, or_false] at hp
    rcases hp with rfl | rfl | rfl | rfl | rfl | rfl | rfl | rfl | rfl | rfl | rfl | rfl | rfl | rfl | rfl | rfl <;> dsimp only <;> exact near2_lft _ _) rfl
  have h2 := lay_step [(bfz z0 z1, bfz z0 z1), (((lft (z0.1, z1.1) 64).1, (lft (z0.2, z1.2) 64).1), bfw z0 z1 (0)), (bfz z2 z3, bfz z2 z3), (((lft (z2.1, z3.1) 64).1, (lft (z2.2, z3.2) 64).1), bfw z2 z3 (0)), (bfz z4 z5, bfz z4 z5), (((lft (z4.1, z5.1) 64).1, (lft (z4.2, z5.2) 64).1), bfw z4 z5 (0)), (bfz z6 z7, bfz z6 z7), (((lft (z6.1, z7.1) 64).1, (lft (z6.2, z7.2) 64).1), bfw z6 z7 (0)), (bfz z8 z9, bfz z8 z9), (((lft (z8.1, z9.1) 64).1, (lft (z8.2, z9.2) 64).1), bfw z8 z9 (0)), (bfz z10 z11, bfz z10 z11), (((lft (z10.1, z11.1) 64).1, (lft (z10.2, z11.2) 64).1), bfw z10 z11 (0)), (bfz z12 z13, bfz z12 z13), (((lft (z12.1, z13.1) 64).1, (lft (z12.2, z13.2) 64).1), bfw z12 z13 (0)), (bfz z14 z15, bfz z14 z15), (((lft (z14.1, z15.1) 64).1, (lft (z14.2, z15.2) 64).1), bfw z14 z15 (0))] (by
    intro p hp
    simp only [List.mem_cons, List.not_mem_nil, or_false] at hp
    rcases hp with rfl | rfl | rfl | rfl | rfl | rfl | rfl | rfl | rfl | rfl | rfl | rfl | rfl | rfl | rfl | rfl <;> dsimp only [bfw] <;> first | exact near2_self _ | exact near2_lft _ _) rfl
  have e1 : tot [z0, z1, z2, z3, z4, z5, z6, z7, z8, z9, z10, z11, z12, z13, z14, z15] = tot (bef [((z0.1, z1.1), lft (z0.1, z1.1) 64), ((z0.2, z1.2), lft (z0.2, z1.2) 64), ((z2.1, z3.1), lft (z2.1, z3.1) 64), ((z2.2, z3.2), lft (z2.2, z3.2) 64), ((z4.1, z5.1), lft (z4.1, z5.1) 64), ((z4.2, z5.2), lft (z4.2, z5.2) 64), ((z6.1, z7.1), lft (z6.1, z7.1) 64), ((z6.2, z7.2), lft (z6.2, z7.2) 64), ((z8.1, z9.1), lft (z8.1, z9.1) 64), ((z8.2, z9.2), lft (z8.2, z9.2) 64), ((z10.1, z11.1), lft (z10.1, z11.1) 64), ((z10.2, z11.2), lft (z10.2, z11.2) 64), ((z12.1, z13.1), lft (z12.1, z13.1) 64), ((z12.2, z13.2), lft (z12.2, z13.2) 64), ((z14.1, z15.1), lft (z14.1, z15.1) 64), ((z14.2, z15.2), lft (z14.2, z15.2) 64)]) := by
    simp only [bef, tot, sq2, List.map_cons, List.map_nil] <;> omega
  have e2 : tot (beh [((z0.1, z1.1), lft (z0.1, z1.1) 64), ((z0.2, z1.2), lft (z0.2, z1.2) 64), ((z2.1, z3.1), lft (z2.1, z3.1) 64), ((z2.2, z3.2), lft (z2.2, z3.2) 64), ((z4.1, z5.1), lft (z4.1, z5.1) 64), ((z4.2, z5.2), lft (z4.2, z5.2) 64), ((z6.1, z7.1), lft (z6.1, z7.1) 64), ((z6.2, z7.2), lft (z6.2, z7.2) 64), ((z8.1, z9.1), lft (z8.1, z9.1) 64), ((z8.2, z9.2), lft (z8.2, z9.2) 64), ((z10.1, z11.1), lft (z10.1, z11.1) 64), ((z10.2, z11.2), lft (z10.2, z11.2) 64), ((z12.1, z13.1), lft (z12.1, z13.1) 64), ((z12.2, z13.2), lft (z12.2, z13.2) 64), ((z14.1, z15.1), lft (z14.1, z15.1) 64), ((z14.2, z15.2), lft (z14.2, z15.2) 64)]) = tot (bef [(bfz z0 z1, bfz z0 z1), (((lft (z0.1, z1.1) 64).1, (lft (z0.2, z1.2) 64).1), bfw z0 z1 (0)), (bfz z2 z3, bfz z2 z3), (((lft (z2.1, z3.1) 64).1, (lft (z2.2, z3.2) 64).1), bfw z2 z3 (0)), (bfz z4 z5, bfz z4 z5), (((lft (z4.1, z5.1) 64).1, (lft (z4.2, z5.2) 64).1), bfw z4 z5 (0)), (bfz z6 z7, bfz z6 z7), (((lft (z6.1, z7.1) 64).1, (lft (z6.2, z7.2) 64).1), bfw z6 z7 (0)), (bfz z8 z9, bfz z8 z9), (((lft (z8.1, z9.1) 64).1, (lft (z8.2, z9.2) 64).1), bfw z8 z9 (0)), (bfz z10 z11, bfz z10 z11), (((lft (z10.1, z11.1) 64).1, (lft (z10.2, z11.2) 64).1), bfw z10 z11 (0)), (bfz z12 z13, bfz z12 z13), (((lft (z12.1, z13.1) 64).1, (lft (z12.2, z13.2) 64).1), bfw z12 z13 (0)), (bfz z14 z15, bfz z14 z15), (((lft (z14.1, z15.1) 64).1, (lft (z14.2, z15.2) 64).1), bfw z14 z15 (0))]) := by
    simp only [bef, beh, tot, sq2, bfz, List.map_cons, List.map_nil] <;> omega
  have e3 : tot (beh [(bfz z0 z1, bfz z0 z1), (((lft (z0.1, z1.1) 64).1, (lft (z0.2, z1.2) 64).1), bfw z0 z1 (0)), (bfz z2 z3, bfz z2 z3), (((lft (z2.1, z3.1) 64).1, (lft (z2.2, z3.2) 64).1), bfw z2 z3 (0)), (bfz z4 z5, bfz z4 z5), (((lft (z4.1, z5.1) 64).1, (lft (z4.2, z5.2) 64).1), bfw z4 z5 (0)), (bfz z6 z7, bfz z6 z7), (((lft (z6.1, z7.1) 64).1, (lft (z6.2, z7.2) 64).1), bfw z6 z7 (0)), (bfz z8 z9, bfz z8 z9), (((lft (z8.1, z9.1) 64).1, (lft (z8.2, z9.2) 64).1), bfw z8 z9 (0)), (bfz z10 z11, bfz z10 z11), (((lft (z10.1, z11.1) 64).1, (lft (z10.2, z11.2) 64).1), bfw z10 z11 (0)), (bfz z12 z13, bfz z12 z13), (((lft (z12.1, z13.1) 64).1, (lft (z12.2, z13.2) 64).1), bfw z12 z13 (0)), (bfz z14 z15, bfz z14 z15), (((lft (z14.1, z15.1) 64).1, (lft (z14.2, z15.2) 64).1), bfw z14 z15 (0))]) = tot [bfz z0 z1, bfw z0 z1 (0), bfz z2 z3, bfw z2 z3 (0), bfz z4 z5, bfw z4 z5 (0), bfz z6 z7, bfw z6 z7 (0), bfz z8 z9, bfw z8 z9 (0), bfz z10 z11, bfw z10 z11 (0), bfz z12 z13, bfw z12 z13 (0), bfz z14 z15, bfw z14 z15 (0)] := by
    simp only [beh, tot, List.map_cons, List.map_nil] <;> omega
  rw [e1, ← e3]
  rw [← e2] at h2
  exact ⟨_, h1, h2⟩
theorem stepU2 (l : List (Int × Int)) (h : l.length = 16) : ∃ S, Step (tot l) S ∧ Step S (tot (ubs l prs2)) := by
  obtain ⟨z0, z1, z2, z3, z4, z5, z6, z7, z8, z9, z10, z11, z12, z13, z14, z15, rfl⟩ := len16 l h
  rw [ubs2]
  have h1 := lay_step [(z0, z0), (z1, lfb z1 (0)), (z2, z2), (z3, lfb z3 (0)), (z4, z4), (z5, lfb z5 (0)), (z6, z6), (z7, lfb z7 (0)), (z8, z8), (z9, lfb z9 (0)), (z10, z10), (z11, lfb z11 (0)), (z12, z12), (z13, lfb z13 (0)), (z14, z14), (z15, lfb z15 (0))] (by
    intro p hp
    simp only [List.mem_cons, List.not_mem_nil, or_false] at hp
    rcases hp with rfl | rfl | rfl | rfl | rfl | rfl | rfl | rfl | rfl | rfl | rfl | rfl | rfl | rfl | rfl | rfl <;> dsimp only <;> first | exact near2_self _ | exact near2_lfb _ _) rfl
  have h2 := lay_step [(((lfb z1 (0)).1, z0.1), lfb ((lfb z1 (0)).1, z0.1) 64), (((lfb z1 (0)).2, z0.2), lfb ((lfb z1 (0)).2, z0.2) 64), (((lfb z3 (0)).1, z2.1), lfb ((lfb z3 (0)).1, z2.1) 64), (((lfb z3 (0)).2, z2.2), lfb ((lfb z3 (0)).2, z2.2) 64), (((lfb z5 (0)).1, z4.1), lfb ((lfb z5 (0)).1, z4.1) 64), (((lfb z5 (0)).2, z4.2), lfb ((lfb z5 (0)).2, z4.2) 64), (((lfb z7 (0)).1, z6.1), lfb ((lfb z7 (0)).1, z6.1) 64), (((lfb z7 (0)).2, z6.2), lfb ((lfb z7 (0)).2, z6.2) 64), (((lfb z9 (0)).1, z8.1), lfb ((lfb z9 (0)).1, z8.1) 64), (((lfb z9 (0)).2, z8.2), lfb ((lfb z9 (0)).2, z8.2) 64), (((lfb z11 (0)).1, z10.1), lfb ((lfb z11 (0)).1, z10.1) 64), (((lfb z11 (0)).2, z10.2), lfb ((lfb z11 (0)).2, z10.2) 64), (((lfb z13 (0)).1, z12.1), lfb ((lfb z13 (0)).1, z12.1) 64), (((lfb z13 (0)).2, z12.2), lfb ((lfb z13 (0)).2, z12.2) 64), (((lfb z15 (0)).1, z14.1), lfb ((lfb z15 (0)).1, z14.1) 64), (((lfb z15 (0)).2, z14.2), lfb ((lfb z15 (0)).2, z14.2) 64)] (by
    intro p hp
    simp only [List.mem_cons, List.not_mem_nil, or_false] at hp
    rcases hp with rfl | rfl | rfl | rfl | rfl | rfl | rfl | rfl | rfl | rfl | rfl | rfl | rfl | rfl | rfl | rfl <;> dsimp only <;> exact near2_lfb _ _) rfl
  have e1 : tot [z0, z1, z2, z3, z4, z5, z6, z7, z8, z9, z10, z11, z12, z13, z14, z15] = tot (bef [(z0, z0), (z1, lfb z1 (0)), (z2, z2), (z3, lfb z3 (0)), (z4, z4), (z5, lfb z5 (0)), (z6, z6), (z7, lfb z7 (0)), (z8, z8), (z9, lfb z9 (0)), (z10, z10), (z11, lfb z11 (0)), (z12, z12), (z13, lfb z13 (0)), (z14, z14), (z15, lfb z15 (0))]) := by
    simp only [bef, tot, List.map_cons, List.map_nil] <;> omega
  have e2 : tot (beh [(z0, z0), (z1, lfb z1 (0)), (z2, z2), (z3, lfb z3 (0)), (z4, z4), (z5, lfb z5 (0)), (z6, z6), (z7, lfb z7 (0)), (z8, z8), (z9, lfb z9 (0)), (z10, z10), (z11, lfb z11 (0)), (z12, z12), (z13, lfb z13 (0)), (z14, z14), (z15, lfb z15 (0))]) = tot (bef [(((lfb z1 (0)).1, z0.1), lfb ((lfb z1 (0)).1, z0.1) 64), (((lfb z1 (0)).2, z0.2), lfb ((lfb z1 (0)).2, z0.2) 64), (((lfb z3 (0)).1, z2.1), lfb ((lfb z3 (0)).1, z2.1) 64), (((lfb z3 (0)).2, z2.2), lfb ((lfb z3 (0)).2, z2.2) 64), (((lfb z5 (0)).1, z4.1), lfb ((lfb z5 (0)).1, z4.1) 64), (((lfb z5 (0)).2, z4.2), lfb ((lfb z5 (0)).2, z4.2) 64), (((lfb z7 (0)).1, z6.1), lfb ((lfb z7 (0)).1, z6.1) 64), (((lfb z7 (0)).2, z6.2), lfb ((lfb z7 (0)).2, z6.2) 64), (((lfb z9 (0)).1, z8.1), lfb ((lfb z9 (0)).1, z8.1) 64), (((lfb z9 (0)).2, z8.2), lfb ((lfb z9 (0)).2, z8.2) 64), (((lfb z11 (0)).1, z10.1), lfb ((lfb z11 (0)).1, z10.1) 64), (((lfb z11 (0)).2, z10.2), lfb ((lfb z11 (0)).2, z10.2) 64), (((lfb z13 (0)).1, z12.1), lfb ((lfb z13 (0)).1, z12.1) 64), (((lfb z13 (0)).2, z12.2), lfb ((lfb z13 (0)).2, z12.2) 64), (((lfb z15 (0)).1, z14.1), lfb ((lfb z15 (0)).1, z14.1) 64), (((lfb z15 (0)).2, z14.2), lfb ((lfb z15 (0)).2, z14.2) 64)]) := by
    simp only [bef, beh, tot, sq2, List.map_cons, List.map_nil] <;> omega
  have e3 : tot (beh [(((lfb z1 (0)).1, z0.1), lfb ((lfb z1 (0)).1, z0.1) 64), (((lfb z1 (0)).2, z0.2), lfb ((lfb z1 (0)).2, z0.2) 64), (((lfb z3 (0)).1, z2.1), lfb ((lfb z3 (0)).1, z2.1) 64), (((lfb z3 (0)).2, z2.2), lfb ((lfb z3 (0)).2, z2.2) 64), (((lfb z5 (0)).1, z4.1), lfb ((lfb z5 (0)).1, z4.1) 64), (((lfb z5 (0)).2, z4.2), lfb ((lfb z5 (0)).2, z4.2) 64), (((lfb z7 (0)).1, z6.1), lfb ((lfb z7 (0)).1, z6.1) 64), (((lfb z7 (0)).2, z6.2), lfb ((lfb z7 (0)).2, z6.2) 64), (((lfb z9 (0)).1, z8.1), lfb ((lfb z9 (0)).1, z8.1) 64), (((lfb z9 (0)).2, z8.2), lfb ((lfb z9 (0)).2, z8.2) 64), (((lfb z11 (0)).1, z10.1), lfb ((lfb z11 (0)).1, z10.1) 64), (((lfb z11 (0)).2, z10.2), lfb ((lfb z11 (0)).2, z10.2) 64), (((lfb z13 (0)).1, z12.1), lfb ((lfb z13 (0)).1, z12.1) 64), (((lfb z13 (0)).2, z12.2), lfb ((lfb z13 (0)).2, z12.2) 64), (((lfb z15 (0)).1, z14.1), lfb ((lfb z15 (0)).1, z14.1) 64), (((lfb z15 (0)).2, z14.2), lfb ((lfb z15 (0)).2, z14.2) 64)]) = tot [ubz z0 z1 (0), ubw z0 z1 (0), ubz z2 z3 (0), ubw z2 z3 (0), ubz z4 z5 (0), ubw z4 z5 (0), ubz z6 z7 (0), ubw z6 z7 (0), ubz z8 z9 (0), ubw z8 z9 (0), ubz z10 z11 (0), ubw z10 z11 (0), ubz z12 z13 (0), ubw z12 z13 (0), ubz z14 z15 (0), ubw z14 z15 (0)] := by
    simp only [beh, tot, sq2, ubz, ubw, List.map_cons, List.map_nil] <;> omega
  rw [e1, ← e3]
  rw [← e2] at h2
  exact ⟨_, h1, h2⟩
/-- From a frame to a wheel, and from the wheel to waves. -/
def ptsH (H : Int × Int → Int → Int × Int) (f : List Int) : List (Int × Int) := (List.range 16).map fun n => H (f.getD (2 * n) 0, f.getD (31 - 2 * n) 0) (-(8 * (n : Int) + 2))
def pts (f : List Int) : List (Int × Int) := ptsH lft f
def flp (k : Nat) : Nat := k % 2 * 8 + k / 2 % 2 * 4 + k / 4 % 2 * 2 + k / 8 % 2
def outpH (H : Int × Int → Int → Int × Int) (l : List (Int × Int)) : List Int := (List.range 32).map fun i =>
  if i % 2 = 0 then (H (l.getD (flp (i / 2)) (0, 0)) (-(8 * ((i / 2 : Nat) : Int) + 2))).1 else -(H (l.getD (flp ((31 - i) / 2)) (0, 0)) (-(8 * (((31 - i) / 2 : Nat) : Int) + 2))).2
def outp (l : List (Int × Int)) : List Int := outpH lft l
/-- .. and back. -/
def ptsBH (H : Int × Int → Int → Int × Int) (f : List Int) : List (Int × Int) := (List.range 16).map fun n => H (f.getD (2 * flp n) 0, -(f.getD (31 - 2 * flp n) 0)) (-(8 * (flp n : Int) + 2))
def ptsB (f : List Int) : List (Int × Int) := ptsBH lfb f
def outBH (H : Int × Int → Int → Int × Int) (l : List (Int × Int)) : List Int := (List.range 32).map fun i =>
  if i % 2 = 0 then (H (l.getD (i / 2) (0, 0)) (-(8 * ((i / 2 : Nat) : Int) + 2))).1 else (H (l.getD ((31 - i) / 2) (0, 0)) (-(8 * (((31 - i) / 2 : Nat) : Int) + 2))).2
def outB (l : List (Int × Int)) : List Int := outBH lfb l
/-- Waves, and the way back. -/
def wav (f : List Int) : List Int := outp (bfs (bfs (bfs (bfs (pts f) prs16) prs8) prs4) prs2)
def wbk (f : List Int) : List Int := outB (ubs (ubs (ubs (ubs (ptsB f) prs2) prs4) prs8) prs16)
set_option maxRecDepth 100000 in
theorem pts_h (H : Int × Int → Int → Int × Int) (f0 f1 f2 f3 f4 f5 f6 f7 f8 f9 f10 f11 f12 f13 f14 f15 f16 f17 f18 f19 f20 f21 f22 f23 f24 f25 f26 f27 f28 f29 f30 f31 : Int) : ptsH H [f0, f1, f2, f3, f4, f5, f6, f7, f8, f9, f10, f11, f12, f13, f14, f15, f16, f17, f18, f19, f20, f21, f22, f23, f24, f25, f26, f27, f28, f29, f30, f31] = [H (f0, f31) (-2), H (f2, f29) (-10), H (f4, f27) (-18), H (f6, f25) (-26), H (f8, f23) (-34), H (f10, f21) (-42), H (f12, f19) (-50), H (f14, f17) (-58), H (f16, f15) (-66), H (f18, f13) (-74), H (f20, f11) (-82), H (f22, f9) (-90), H (f24, f7) (-98), H (f26, f5) (-106), H (f28, f3) (-114), H (f30, f1) (-122)] := rfl
theorem pts_l (f0 f1 f2 f3 f4 f5 f6 f7 f8 f9 f10 f11 f12 f13 f14 f15 f16 f17 f18 f19 f20 f21 f22 f23 f24 f25 f26 f27 f28 f29 f30 f31 : Int) : pts [f0, f1, f2, f3, f4, f5, f6, f7, f8, f9, f10, f11, f12, f13, f14, f15, f16, f17, f18, f19, f20, f21, f22, f23, f24, f25, f26, f27, f28, f29, f30, f31] = [lft (f0, f31) (-2), lft (f2, f29) (-10), lft (f4, f27) (-18), lft (f6, f25) (-26), lft (f8, f23) (-34), lft (f10, f21) (-42), lft (f12, f19) (-50), lft (f14, f17) (-58), lft (f16, f15) (-66), lft (f18, f13) (-74), lft (f20, f11) (-82), lft (f22, f9) (-90), lft (f24, f7) (-98), lft (f26, f5) (-106), lft (f28, f3) (-114), lft (f30, f1) (-122)] := pts_h lft f0 f1 f2 f3 f4 f5 f6 f7 f8 f9 f10 f11 f12 f13 f14 f15 f16 f17 f18 f19 f20 f21 f22 f23 f24 f25 f26 f27 f28 f29 f30 f31
set_option maxRecDepth 100000 in
theorem outp_h (H : Int × Int → Int → Int × Int) (z0 z1 z2 z3 z4 z5 z6 z7 z8 z9 z10 z11 z12 z13 z14 z15 : Int × Int) : outpH H [z0, z1, z2, z3, z4, z5, z6, z7, z8, z9, z10, z11, z12, z13, z14, z15] = [(H z0 (-2)).1, -(H z15 (-122)).2, (H z8 (-10)).1, -(H z7 (-114)).2, (H z4 (-18)).1, -(H z11 (-106)).2, (H z12 (-26)).1, -(H z3 (-98)).2, (H z2 (-34)).1, -(H z13 (-90)).2, (H z10 (-42)).1, -(H z5 (-82)).2, (H z6 (-50)).1, -(H z9 (-74)).2, (H z14 (-58)).1, -(H z1 (-66)).2, (H z1 (-66)).1, -(H z14 (-58)).2, (H z9 (-74)).1, -(H z6 (-50)).2, (H z5 (-82)).1, -(H z10 (-42)).2, (H z13 (-90)).1, -(H z2 (-34)).2, (H z3 (-98)).1, -(H z12 (-26)).2, (H z11 (-106)).1, -(H z4 (-18)).2, (H z7 (-114)).1, -(H z8 (-10)).2, (H z15 (-122)).1, -(H z0 (-2)).2] := rfl
theorem outp_l (z0 z1 z2 z3 z4 z5 z6 z7 z8 z9 z10 z11 z12 z13 z14 z15 : Int × Int) : outp [z0, z1, z2, z3, z4, z5, z6, z7, z8, z9, z10, z11, z12, z13, z14, z15] = [(lft z0 (-2)).1, -(lft z15 (-122)).2, (lft z8 (-10)).1, -(lft z7 (-114)).2, (lft z4 (-18)).1, -(lft z11 (-106)).2, (lft z12 (-26)).1, -(lft z3 (-98)).2, (lft z2 (-34)).1, -(lft z13 (-90)).2, (lft z10 (-42)).1, -(lft z5 (-82)).2, (lft z6 (-50)).1, -(lft z9 (-74)).2, (lft z14 (-58)).1, -(lft z1 (-66)).2, (lft z1 (-66)).1, -(lft z14 (-58)).2, (lft z9 (-74)).1, -(lft z6 (-50)).2, (lft z5 (-82)).1, -(lft z10 (-42)).2, (lft z13 (-90)).1, -(lft z2 (-34)).2, (lft z3 (-98)).1, -(lft z12 (-26)).2, (lft z11 (-106)).1, -(lft z4 (-18)).2, (lft z7 (-114)).1, -(lft z8 (-10)).2, (lft z15 (-122)).1, -(lft z0 (-2)).2] := outp_h lft z0 z1 z2 z3 z4 z5 z6 z7 z8 z9 z10 z11 z12 z13 z14 z15
set_option maxRecDepth 100000 in
theorem ptsB_h (H : Int × Int → Int → Int × Int) (f0 f1 f2 f3 f4 f5 f6 f7 f8 f9 f10 f11 f12 f13 f14 f15 f16 f17 f18 f19 f20 f21 f22 f23 f24 f25 f26 f27 f28 f29 f30 f31 : Int) : ptsBH H [f0, f1, f2, f3, f4, f5, f6, f7, f8, f9, f10, f11, f12, f13, f14, f15, f16, f17, f18, f19, f20, f21, f22, f23, f24, f25, f26, f27, f28, f29, f30, f31] = [H (f0, -f31) (-2), H (f16, -f15) (-66), H (f8, -f23) (-34), H (f24, -f7) (-98), H (f4, -f27) (-18), H (f20, -f11) (-82), H (f12, -f19) (-50), H (f28, -f3) (-114), H (f2, -f29) (-10), H (f18, -f13) (-74), H (f10, -f21) (-42), H (f26, -f5) (-106), H (f6, -f25) (-26), H (f22, -f9) (-90), H (f14, -f17) (-58), H (f30, -f1) (-122)] := rfl
theorem ptsB_l (f0 f1 f2 f3 f4 f5 f6 f7 f8 f9 f10 f11 f12 f13 f14 f15 f16 f17 f18 f19 f20 f21 f22 f23 f24 f25 f26 f27 f28 f29 f30 f31 : Int) : ptsB [f0, f1, f2, f3, f4, f5, f6, f7, f8, f9, f10, f11, f12, f13, f14, f15, f16, f17, f18, f19, f20, f21, f22, f23, f24, f25, f26, f27, f28, f29, f30, f31] = [lfb (f0, -f31) (-2), lfb (f16, -f15) (-66), lfb (f8, -f23) (-34), lfb (f24, -f7) (-98), lfb (f4, -f27) (-18), lfb (f20, -f11) (-82), lfb (f12, -f19) (-50), lfb (f28, -f3) (-114), lfb (f2, -f29) (-10), lfb (f18, -f13) (-74), lfb (f10, -f21) (-42), lfb (f26, -f5) (-106), lfb (f6, -f25) (-26), lfb (f22, -f9) (-90), lfb (f14, -f17) (-58), lfb (f30, -f1) (-122)] := ptsB_h lfb f0 f1 f2 f3 f4 f5 f6 f7 f8 f9 f10 f11 f12 f13 f14 f15 f16 f17 f18 f19 f20 f21 f22 f23 f24 f25 f26 f27 f28 f29 f30 f31
set_option maxRecDepth 100000 in
theorem outB_h (H : Int × Int → Int → Int × Int) (z0 z1 z2 z3 z4 z5 z6 z7 z8 z9 z10 z11 z12 z13 z14 z15 : Int × Int) : outBH H [z0, z1, z2, z3, z4, z5, z6, z7, z8, z9, z10, z11, z12, z13, z14, z15] = [(H z0 (-2)).1, (H z15 (-122)).2, (H z1 (-10)).1, (H z14 (-114)).2, (H z2 (-18)).1, (H z13 (-106)).2, (H z3 (-26)).1, (H z12 (-98)).2, (H z4 (-34)).1, (H z11 (-90)).2, (H z5 (-42)).1, (H z10 (-82)).2, (H z6 (-50)).1, (H z9 (-74)).2, (H z7 (-58)).1, (H z8 (-66)).2, (H z8 (-66)).1, (H z7 (-58)).2, (H z9 (-74)).1, (H z6 (-50)).2, (H z10 (-82)).1, (H z5 (-42)).2, (H z11 (-90)).1, (H z4 (-34)).2, (H z12 (-98)).1, (H z3 (-26)).2, (H z13 (-106)).1, (H z2 (-18)).2, (H z14 (-114)).1, (H z1 (-10)).2, (H z15 (-122)).1, (H z0 (-2)).2] := rfl
theorem outB_l (z0 z1 z2 z3 z4 z5 z6 z7 z8 z9 z10 z11 z12 z13 z14 z15 : Int × Int) : outB [z0, z1, z2, z3, z4, z5, z6, z7, z8, z9, z10, z11, z12, z13, z14, z15] = [(lfb z0 (-2)).1, (lfb z15 (-122)).2, (lfb z1 (-10)).1, (lfb z14 (-114)).2, (lfb z2 (-18)).1, (lfb z13 (-106)).2, (lfb z3 (-26)).1, (lfb z12 (-98)).2, (lfb z4 (-34)).1, (lfb z11 (-90)).2, (lfb z5 (-42)).1, (lfb z10 (-82)).2, (lfb z6 (-50)).1, (lfb z9 (-74)).2, (lfb z7 (-58)).1, (lfb z8 (-66)).2, (lfb z8 (-66)).1, (lfb z7 (-58)).2, (lfb z9 (-74)).1, (lfb z6 (-50)).2, (lfb z10 (-82)).1, (lfb z5 (-42)).2, (lfb z11 (-90)).1, (lfb z4 (-34)).2, (lfb z12 (-98)).1, (lfb z3 (-26)).2, (lfb z13 (-106)).1, (lfb z2 (-18)).2, (lfb z14 (-114)).1, (lfb z1 (-10)).2, (lfb z15 (-122)).1, (lfb z0 (-2)).2] := outB_h lfb z0 z1 z2 z3 z4 z5 z6 z7 z8 z9 z10 z11 z12 z13 z14 z15
theorem outB_pts (f : List Int) (h : f.length = 32) : outB (pts f) = f := by
  obtain ⟨f0, f1, f2, f3, f4, f5, f6, f7, f8, f9, f10, f11, f12, f13, f14, f15, f16, f17, f18, f19, f20, f21, f22, f23, f24, f25, f26, f27, f28, f29, f30, f31, rfl⟩ := len32 f h
  rw [pts_l, outB_l]
  simp only [lfb_lft]
theorem pts_outB (l : List (Int × Int)) (h : l.length = 16) : pts (outB l) = l := by
  obtain ⟨z0, z1, z2, z3, z4, z5, z6, z7, z8, z9, z10, z11, z12, z13, z14, z15, rfl⟩ := len16 l h
  rw [outB_l, pts_l]
  simp only [peta, lft_lfb]
theorem ptsB_outp (l : List (Int × Int)) (h : l.length = 16) : ptsB (outp l) = l := by
  obtain ⟨z0, z1, z2, z3, z4, z5, z6, z7, z8, z9, z10, z11, z12, z13, z14, z15, rfl⟩ := len16 l h
  rw [outp_l, ptsB_l]
  simp only [Int.neg_neg, peta, lfb_lft]
theorem outp_ptsB (f : List Int) (h : f.length = 32) : outp (ptsB f) = f := by
  obtain ⟨f0, f1, f2, f3, f4, f5, f6, f7, f8, f9, f10, f11, f12, f13, f14, f15, f16, f17, f18, f19, f20, f21, f22, f23, f24, f25, f26, f27, f28, f29, f30, f31, rfl⟩ := len32 f h
  rw [ptsB_l, outp_l]
  simp only [lft_lfb, Int.neg_neg]
theorem pts_len (f : List Int) : (pts f).length = 16 := by simp [pts, ptsH]
theorem ptsB_len (f : List Int) : (ptsB f).length = 16 := by simp [ptsB, ptsBH]
theorem wav_len (f : List Int) : (wav f).length = 32 := by simp [wav, outp, outpH]
theorem wbk_len (f : List Int) : (wbk f).length = 32 := by simp [wbk, outB, outBH]
/-- Each undoes the other. -/
theorem wbk_wav (f : List Int) (h : f.length = 32) : wbk (wav f) = f := by
  unfold wbk wav
  have a1 := pts_len f
  have a2 := bfs16_len _ a1
  have a3 := bfs8_len _ a2
  have a4 := bfs4_len _ a3
  have a5 := bfs2_len _ a4
  rw [ptsB_outp _ a5, ubs_bfs2 _ a4, ubs_bfs4 _ a3, ubs_bfs8 _ a2, ubs_bfs16 _ a1, outB_pts f h]
theorem wav_wbk (f : List Int) (h : f.length = 32) : wav (wbk f) = f := by
  unfold wbk wav
  have a1 := ptsB_len f
  have a2 := ubs2_len _ a1
  have a3 := ubs4_len _ a2
  have a4 := ubs8_len _ a3
  have a5 := ubs16_len _ a4
  rw [pts_outB _ a5, bfs_ubs16 _ a4, bfs_ubs8 _ a3, bfs_ubs4 _ a2, bfs_ubs2 _ a1, outp_ptsB f h]
/-- The squares' sum of numbers. -/
def sqs : List Int → Int
  | [] => 0
  | x :: l => x * x + sqs l
theorem step_pts (f : List Int) (h : f.length = 32) : Step (sqs f) (tot (pts f)) := by
  obtain ⟨f0, f1, f2, f3, f4, f5, f6, f7, f8, f9, f10, f11, f12, f13, f14, f15, f16, f17, f18, f19, f20, f21, f22, f23, f24, f25, f26, f27, f28, f29, f30, f31, rfl⟩ := len32 f h
  rw [pts_l]
  have h1 := lay_step [((f0, f31), lft (f0, f31) (-2)), ((f2, f29), lft (f2, f29) (-10)), ((f4, f27), lft (f4, f27) (-18)), ((f6, f25), lft (f6, f25) (-26)), ((f8, f23), lft (f8, f23) (-34)), ((f10, f21), lft (f10, f21) (-42)), ((f12, f19), lft (f12, f19) (-50)), ((f14, f17), lft (f14, f17) (-58)), ((f16, f15), lft (f16, f15) (-66)), ((f18, f13), lft (f18, f13) (-74)), ((f20, f11), lft (f20, f11) (-82)), ((f22, f9), lft (f22, f9) (-90)), ((f24, f7), lft (f24, f7) (-98)), ((f26, f5), lft (f26, f5) (-106)), ((f28, f3), lft (f28, f3) (-114)), ((f30, f1), lft (f30, f1) (-122))] (by
    intro p hp
    simp only [List.mem_cons, List.not_mem_nil, or_false] at hp
    rcases hp with rfl | rfl | rfl | rfl | rfl | rfl | rfl | rfl | rfl | rfl | rfl | rfl | rfl | rfl | rfl | rfl <;> dsimp only <;> exact near2_lft _ _) rfl
  refine cast ?_ h1
  congr 1
  simp only [bef, tot, sq2, sqs, List.map_cons, List.map_nil]
  omega
theorem step_outp (l : List (Int × Int)) (h : l.length = 16) : Step (tot l) (sqs (outp l)) := by
  obtain ⟨z0, z1, z2, z3, z4, z5, z6, z7, z8, z9, z10, z11, z12, z13, z14, z15, rfl⟩ := len16 l h
  rw [outp_l]
  have h1 := lay_step [(z0, lft z0 (-2)), (z8, lft z8 (-10)), (z4, lft z4 (-18)), (z12, lft z12 (-26)), (z2, lft z2 (-34)), (z10, lft z10 (-42)), (z6, lft z6 (-50)), (z14, lft z14 (-58)), (z1, lft z1 (-66)), (z9, lft z9 (-74)), (z5, lft z5 (-82)), (z13, lft z13 (-90)), (z3, lft z3 (-98)), (z11, lft z11 (-106)), (z7, lft z7 (-114)), (z15, lft z15 (-122))] (by
    intro p hp
    simp only [List.mem_cons, List.not_mem_nil, or_false] at hp
    rcases hp with rfl | rfl | rfl | rfl | rfl | rfl | rfl | rfl | rfl | rfl | rfl | rfl | rfl | rfl | rfl | rfl <;> dsimp only <;> exact near2_lft _ _) rfl
  refine cast ?_ h1
  congr 1
  · simp only [bef, tot, List.map_cons, List.map_nil] <;> omega
  · simp only [beh, tot, sq2, sqs, List.map_cons, List.map_nil, Int.neg_mul_neg]
    omega
theorem step_ptsB (f : List Int) (h : f.length = 32) : Step (sqs f) (tot (ptsB f)) := by
  obtain ⟨f0, f1, f2, f3, f4, f5, f6, f7, f8, f9, f10, f11, f12, f13, f14, f15, f16, f17, f18, f19, f20, f21, f22, f23, f24, f25, f26, f27, f28, f29, f30, f31, rfl⟩ := len32 f h
  rw [ptsB_l]
  have h1 := lay_step [((f0, -f31), lfb (f0, -f31) (-2)), ((f16, -f15), lfb (f16, -f15) (-66)), ((f8, -f23), lfb (f8, -f23) (-34)), ((f24, -f7), lfb (f24, -f7) (-98)), ((f4, -f27), lfb (f4, -f27) (-18)), ((f20, -f11), lfb (f20, -f11) (-82)), ((f12, -f19), lfb (f12, -f19) (-50)), ((f28, -f3), lfb (f28, -f3) (-114)), ((f2, -f29), lfb (f2, -f29) (-10)), ((f18, -f13), lfb (f18, -f13) (-74)), ((f10, -f21), lfb (f10, -f21) (-42)), ((f26, -f5), lfb (f26, -f5) (-106)), ((f6, -f25), lfb (f6, -f25) (-26)), ((f22, -f9), lfb (f22, -f9) (-90)), ((f14, -f17), lfb (f14, -f17) (-58)), ((f30, -f1), lfb (f30, -f1) (-122))] (by
    intro p hp
    simp only [List.mem_cons, List.not_mem_nil, or_false] at hp
    rcases hp with rfl | rfl | rfl | rfl | rfl | rfl | rfl | rfl | rfl | rfl | rfl | rfl | rfl | rfl | rfl | rfl <;> dsimp only <;> exact near2_lfb _ _) rfl
  refine cast ?_ h1
  congr 1
  simp only [bef, tot, sq2, sqs, List.map_cons, List.map_nil, Int.neg_mul_neg]
  omega
theorem step_outB (l : List (Int × Int)) (h : l.length = 16) : Step (tot l) (sqs (outB l)) := by
  obtain ⟨z0, z1, z2, z3, z4, z5, z6, z7, z8, z9, z10, z11, z12, z13, z14, z15, rfl⟩ := len16 l h
  rw [outB_l]
  have h1 := lay_step [(z0, lfb z0 (-2)), (z1, lfb z1 (-10)), (z2, lfb z2 (-18)), (z3, lfb z3 (-26)), (z4, lfb z4 (-34)), (z5, lfb z5 (-42)), (z6, lfb z6 (-50)), (z7, lfb z7 (-58)), (z8, lfb z8 (-66)), (z9, lfb z9 (-74)), (z10, lfb z10 (-82)), (z11, lfb z11 (-90)), (z12, lfb z12 (-98)), (z13, lfb z13 (-106)), (z14, lfb z14 (-114)), (z15, lfb z15 (-122))] (by
    intro p hp
    simp only [List.mem_cons, List.not_mem_nil, or_false] at hp
    rcases hp with rfl | rfl | rfl | rfl | rfl | rfl | rfl | rfl | rfl | rfl | rfl | rfl | rfl | rfl | rfl | rfl <;> dsimp only <;> exact near2_lfb _ _) rfl
  refine cast ?_ h1
  congr 1
  simp only [beh, tot, sq2, sqs, List.map_cons, List.map_nil]
  omega
/-- Waves' squares' sum, and how great they are. -/
theorem wav_steps (f : List Int) (h : f.length = 32) (P : Int → Int → Prop) (hP : ∀ a b c d e f g h i j k, Step a b → Step b c → Step c d → Step d e → Step e f → Step f g → Step g h → Step h i → Step i j → Step j k → P a k) : P (sqs f) (sqs (wav f)) := by
  have a1 := pts_len f
  have a2 := bfs16_len _ a1
  have a3 := bfs8_len _ a2
  have a4 := bfs4_len _ a3
  have a5 := bfs2_len _ a4
  obtain ⟨s1, p1, q1⟩ := step16 _ a1
  obtain ⟨s2, p2, q2⟩ := step8 _ a2
  obtain ⟨s3, p3, q3⟩ := step4 _ a3
  obtain ⟨s4, p4, q4⟩ := step2 _ a4
  exact hP _ _ _ _ _ _ _ _ _ _ _ (step_pts f h) p1 q1 p2 q2 p3 q3 p4 q4 (step_outp _ a5)
theorem wbk_steps (f : List Int) (h : f.length = 32) (P : Int → Int → Prop) (hP : ∀ a b c d e f g h i j k, Step a b → Step b c → Step c d → Step d e → Step e f → Step f g → Step g h → Step h i → Step i j → Step j k → P a k) : P (sqs f) (sqs (wbk f)) := by
  have a1 := ptsB_len f
  have a2 := ubs2_len _ a1
  have a3 := ubs4_len _ a2
  have a4 := ubs8_len _ a3
  have a5 := ubs16_len _ a4
  obtain ⟨s1, p1, q1⟩ := stepU2 _ a1
  obtain ⟨s2, p2, q2⟩ := stepU4 _ a2
  obtain ⟨s3, p3, q3⟩ := stepU8 _ a3
  obtain ⟨s4, p4, q4⟩ := stepU16 _ a4
  exact hP _ _ _ _ _ _ _ _ _ _ _ (step_ptsB f h) p1 q1 p2 q2 p3 q3 p4 q4 (step_outB _ a5)
theorem wav_size (f : List Int) (h : f.length = 32) : 8 * (sqs (wav f) - sqs f) ≤ sqs f + 134217720 ∧ 8 * (sqs f - sqs (wav f)) ≤ sqs f + 134217720 :=
  wav_steps f h (fun a k => 8 * (k - a) ≤ a + 134217720 ∧ 8 * (a - k) ≤ a + 134217720) steps_size
theorem sqs_nn : ∀ f, 0 ≤ sqs f
  | [] => Int.le_refl 0
  | x :: l => by
    have := sqnn x
    have := sqs_nn l
    show 0 ≤ x * x + sqs l
    omega
theorem sqs_mem (x : Int) : ∀ f : List Int, x ∈ f → x * x ≤ sqs f
  | [], h => by cases h
  | y :: l, h => by
    have e : sqs (y :: l) = y * y + sqs l := rfl
    rcases List.mem_cons.1 h with rfl | h
    · have := sqs_nn l
      omega
    · have := sqs_mem x l h
      have := sqnn y
      omega
theorem sqs_le (m : Int) : ∀ f : List Int, (∀ x ∈ f, -m ≤ x ∧ x ≤ m) → sqs f ≤ f.length * (m * m)
  | [], _ => by simp [sqs]
  | y :: l, h => by
    have ih := sqs_le m l fun x hx => h x (List.mem_cons_of_mem _ hx)
    obtain ⟨h1, h2⟩ := h y (List.mem_cons_self ..)
    have := mulb y y m m h1 h2 h1 h2
    have e : sqs (y :: l) = y * y + sqs l := rfl
    rw [e, List.length_cons]
    have e5 : ((l.length + 1 : Nat) : Int) * (m * m) = (l.length : Int) * (m * m) + m * m := by rw [Int.natCast_add]; grind
    rw [e5]
    omega
theorem wav_small (f : List Int) (h : f.length = 32) (m : Int) (hm : 0 ≤ m) (hf : ∀ x ∈ f, -m ≤ x ∧ x ≤ m) : ∀ x ∈ wav f, -(8 * m + 256) ≤ x ∧ x ≤ 8 * m + 256 := by
  intro x hx
  have h1 := sqs_mem x _ hx
  have h2 := sqs_le m f hf
  rw [h] at h2
  have h3 := wav_steps f h (fun a k => ∀ m, 0 ≤ m → a ≤ 32 * (m * m) → k ≤ (8 * m + 256) * (8 * m + 256)) (fun a b c d e f g h i j k p1 p2 p3 p4 p5 p6 p7 p8 p9 p10 m hm ha => steps_small a b c d e f g h i j k p1 p2 p3 p4 p5 p6 p7 p8 p9 p10 m hm ha) m hm h2
  exact sq_le x _ (by omega) (Int.le_trans h1 h3)
theorem wbk_small (f : List Int) (h : f.length = 32) (m : Int) (hm : 0 ≤ m) (hf : ∀ x ∈ f, -m ≤ x ∧ x ≤ m) : ∀ x ∈ wbk f, -(8 * m + 256) ≤ x ∧ x ≤ 8 * m + 256 := by
  intro x hx
  have h1 := sqs_mem x _ hx
  have h2 := sqs_le m f hf
  rw [h] at h2
  have h3 := wbk_steps f h (fun a k => ∀ m, 0 ≤ m → a ≤ 32 * (m * m) → k ≤ (8 * m + 256) * (8 * m + 256)) (fun a b c d e f g h i j k p1 p2 p3 p4 p5 p6 p7 p8 p9 p10 m hm ha => steps_small a b c d e f g h i j k p1 p2 p3 p4 p5 p6 p7 p8 p9 p10 m hm ha) m hm h2
  exact sq_le x _ (by omega) (Int.le_trans h1 h3)
end Go.Proofs.Ytpfdjddjoclldaa.M
