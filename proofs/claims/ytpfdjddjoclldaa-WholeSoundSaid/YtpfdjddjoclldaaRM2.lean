/-
  Contracts and plain facts that the laws share; each piece is headed by what it holds and its conditions.
-/
import Derived.Test.YtpfdjddjoclldaaRM1
import Derived.KernelRfl

/- Plain facts of layer 10: layers of turns and how they keep squares' sums; waves and the way back on lists; that each undoes the other, and how great they are. No program is named here. No conditions but those that each fact names. -/
namespace Go.Proofs.Ytpfdjddjoclldaa.M

/-- The squares' sum of two numbers, and of points. -/
def sq2 (v : Int × Int) : Int := v.1 * v.1 + v.2 * v.2
def tot : List (Int × Int) → Int
  | [] => 0
  | v :: l => sq2 v + tot l
theorem sq2_nn (v : Int × Int) : 0 ≤ sq2 v := by
  have := sqnn v.1
  have := sqnn v.2
  unfold sq2; omega
theorem tot_nn : ∀ l, 0 ≤ tot l
  | [] => Int.le_refl 0
  | v :: l => by
    have := sq2_nn v
    have := tot_nn l
    show 0 ≤ sq2 v + tot l
    omega
/-- w has nearly the squares' sum of v. -/
structure Near2 (v w : Int × Int) (m : Int) : Prop where
  nn : 0 ≤ m
  le : m * m ≤ sq2 v
  up : 2500 * (sq2 w - sq2 v) ≤ sq2 v + 21500 * m + 15000
  dn : 2500 * (sq2 v - sq2 w) ≤ sq2 v + 21500 * m + 15000
/-- The greater of two numbers, without its sign. -/
def mx2 (v : Int × Int) : Int := max (max v.1 (-v.1)) (max v.2 (-v.2))
theorem mx2_bd (v : Int × Int) : -mx2 v ≤ v.1 ∧ v.1 ≤ mx2 v ∧ -mx2 v ≤ v.2 ∧ v.2 ≤ mx2 v ∧ 0 ≤ mx2 v := by
  unfold mx2; omega
theorem mx2_sq (v : Int × Int) : mx2 v * mx2 v ≤ v.1 * v.1 + v.2 * v.2 := by
  have q1 := sqnn v.1
  have q2 := sqnn v.2
  have h : mx2 v = v.1 ∨ mx2 v = -v.1 ∨ mx2 v = v.2 ∨ mx2 v = -v.2 := by unfold mx2; omega
  rcases h with h | h | h | h
  · rw [h]; omega
  · rw [h, Int.neg_mul_neg]; omega
  · rw [h]; omega
  · rw [h, Int.neg_mul_neg]; omega
theorem near2_rot (v w : Int × Int) (h : ∃ z, Unit8 z ∧ Rot z v w (mx2 v) (65536 * mx2 v + 1610612736)) : Near2 v w (mx2 v) := by
  obtain ⟨z, hz, hr⟩ := h
  obtain ⟨h1, h2, h3, h4, h5⟩ := mx2_bd v
  obtain ⟨k1, k2⟩ := rot_size z v w (mx2 v) hz hr h1 h2 h3 h4 (mx2_sq v)
  exact ⟨h5, mx2_sq v, k1, k2⟩
theorem near2_lft (v : Int × Int) (k : Int) : Near2 v (lft v k) (mx2 v) := by
  obtain ⟨h1, h2, h3, h4, _⟩ := mx2_bd v
  exact near2_rot v _ (lft_rot' v k _ h1 h2 h3 h4)
theorem near2_lfb (v : Int × Int) (k : Int) : Near2 v (lfb v k) (mx2 v) := by
  obtain ⟨h1, h2, h3, h4, _⟩ := mx2_bd v
  exact near2_rot v _ (lfb_rot v k _ h1 h2 h3 h4)
theorem near2_self (v : Int × Int) : Near2 v v (mx2 v) := by
  have h1 := (mx2_bd v).2.2.2.2
  have h2 := mx2_sq v
  have h3 := sq2_nn v
  exact ⟨h1, h2, by omega, by omega⟩

/-- A layer: pairs ahead and behind. -/
def bef (l : List ((Int × Int) × (Int × Int))) : List (Int × Int) := l.map Prod.fst
def beh (l : List ((Int × Int) × (Int × Int))) : List (Int × Int) := l.map Prod.snd
def ms (l : List ((Int × Int) × (Int × Int))) : Int := (l.map fun p => mx2 p.1).sum
def Lay (l : List ((Int × Int) × (Int × Int))) : Prop := ∀ p ∈ l, Near2 p.1 p.2 (mx2 p.1)
theorem lay_sum : ∀ l : List ((Int × Int) × (Int × Int)), Lay l → 2500 * (tot (beh l) - tot (bef l)) ≤ tot (bef l) + 21500 * ms l + 15000 * l.length ∧ 2500 * (tot (bef l) - tot (beh l)) ≤ tot (bef l) + 21500 * ms l + 15000 * l.length
  | [], _ => by simp [beh, bef, ms, tot]
  | p :: l, h => by
    have ih := lay_sum l fun q hq => h q (List.mem_cons_of_mem _ hq)
    have hp := h p (List.mem_cons_self ..)
    obtain ⟨_, _, up, dn⟩ := hp
    have e1 : tot (beh (p :: l)) = sq2 p.2 + tot (beh l) := rfl
    have e2 : tot (bef (p :: l)) = sq2 p.1 + tot (bef l) := rfl
    have e3 : ms (p :: l) = mx2 p.1 + ms l := by unfold ms; rw [List.map_cons, List.sum_cons]
    rw [e1, e2, e3, List.length_cons]
    omega
theorem ms_nn : ∀ l : List ((Int × Int) × (Int × Int)), 0 ≤ ms l
  | [] => by simp [ms]
  | p :: l => by
    have := ms_nn l
    have := (mx2_bd p.1).2.2.2.2
    have e3 : ms (p :: l) = mx2 p.1 + ms l := by unfold ms; rw [List.map_cons, List.sum_cons]
    omega
theorem ms_lin (x : Int) : ∀ l : List ((Int × Int) × (Int × Int)), 2 * (x * ms l) ≤ l.length * (x * x) + tot (bef l)
  | [] => by simp [ms, bef, tot]
  | p :: l => by
    have ih := ms_lin x l
    have e1 : tot (bef (p :: l)) = sq2 p.1 + tot (bef l) := rfl
    have e3 : ms (p :: l) = mx2 p.1 + ms l := by unfold ms; rw [List.map_cons, List.sum_cons]
    have h1 := mx2_sq p.1
    have h2 := sqnn (x - mx2 p.1)
    have e4 : (x - mx2 p.1) * (x - mx2 p.1) = x * x - 2 * (x * mx2 p.1) + mx2 p.1 * mx2 p.1 := by grind
    rw [e1, e3, List.length_cons, Int.mul_add]
    have e5 : ((l.length + 1 : Nat) : Int) * (x * x) = (l.length : Int) * (x * x) + x * x := by rw [Int.natCast_add]; grind
    rw [e5]
    have h3 : sq2 p.1 = p.1.1 * p.1.1 + p.1.2 * p.1.2 := rfl
    omega
theorem ms_cs (l : List ((Int × Int) × (Int × Int))) : ms l * ms l ≤ l.length * tot (bef l) := by
  induction l with
  | nil => simp [ms, bef, tot]
  | cons p l ih =>
    have e1 : tot (bef (p :: l)) = sq2 p.1 + tot (bef l) := rfl
    have e3 : ms (p :: l) = mx2 p.1 + ms l := by unfold ms; rw [List.map_cons, List.sum_cons]
    have h1 := ms_lin (mx2 p.1) l
    have h2 := mx2_sq p.1
    have h3 : sq2 p.1 = p.1.1 * p.1.1 + p.1.2 * p.1.2 := rfl
    have e4 : (mx2 p.1 + ms l) * (mx2 p.1 + ms l) = mx2 p.1 * mx2 p.1 + 2 * (mx2 p.1 * ms l) + ms l * ms l := by grind
    have e5 : ((l.length + 1 : Nat) : Int) * (sq2 p.1 + tot (bef l)) = (l.length : Int) * sq2 p.1 + sq2 p.1 + (l.length : Int) * tot (bef l) + tot (bef l) := by rw [Int.natCast_add]; grind
    have h4 : (l.length : Int) * (mx2 p.1 * mx2 p.1) ≤ (l.length : Int) * sq2 p.1 := Int.mul_le_mul_of_nonneg_left (by omega) (by omega)
    rw [e1, e3, List.length_cons, e4, e5]
    omega
/-- What a layer does with the squares' sum. -/
structure Step (S S' : Int) : Prop where
  nn : 0 ≤ S
  up : 140 * (S' - S) ≤ S + 6272000
  dn : 140 * (S - S') ≤ S + 6272000
  no : ∀ N, 1 ≤ N → S ≤ N * N → S' ≤ (N + N / 4000 + 19) * (N + N / 4000 + 19)
theorem lay_step (l : List ((Int × Int) × (Int × Int))) (h : Lay l) (hl : l.length = 16) : Step (tot (bef l)) (tot (beh l)) := by
  obtain ⟨s1, s2⟩ := lay_sum l h
  have hn := tot_nn (bef l)
  have hm := ms_nn l
  have hc := ms_cs l
  have hlin := ms_lin 640 l
  rw [hl] at s1 s2 hc hlin
  generalize tot (bef l) = S at *
  generalize tot (beh l) = S' at *
  generalize ms l = m at *
  refine ⟨hn, by omega, by omega, fun N h1 h2 => ?_⟩
  have k1 := sq_le m (4 * N) (by omega) (by
    have e : 4 * N * (4 * N) = 16 * (N * N) := by grind
    rw [e]; omega)
  obtain ⟨d, hd⟩ : ∃ d, N / 4000 = d := ⟨_, rfl⟩
  have hd1 : 0 ≤ d := by omega
  have hd2 : N ≤ 4000 * d + 3999 := by omega
  rw [hd]
  have e2 : (N + d + 19) * (N + d + 19) = N * N + 2 * (N * d) + 38 * N + d * d + 38 * d + 361 := by grind
  have h3 := Int.mul_le_mul_of_nonneg_left hd2 (show 0 ≤ N by omega)
  have e3 : N * (4000 * d + 3999) = 4000 * (N * d) + 3999 * N := by grind
  have h4 := sqnn d
  rw [e3] at h3
  rw [e2]
  generalize N * N = Q at *
  generalize N * d = R at *
  generalize d * d = T at *
  omega
/-- Ten layers. -/
theorem step_up (a s t al be : Int) (h : Step s t) (ha : 0 ≤ a) (k : 1000000 * s ≤ al * a + be) (al' be' : Int) (h1 : 141 * al ≤ 140 * al') (h2 : 141 * be + 6272000000000 ≤ 140 * be') : 1000000 * t ≤ al' * a + be' := by
  have u := h.up
  have e := Int.mul_le_mul_of_nonneg_right h1 ha
  have e1 : 141 * al * a = 141 * (al * a) := by grind
  have e2 : 140 * al' * a = 140 * (al' * a) := by grind
  rw [e1, e2] at e
  generalize al * a = x at *
  generalize al' * a = y at *
  omega
theorem step_dn (a s t al be : Int) (h : Step s t) (ha : 0 ≤ a) (k : al * a - be ≤ 1000000 * s) (al' be' : Int) (h1 : 140 * al' ≤ 139 * al) (h2 : 139 * be + 6272000000000 ≤ 140 * be') : al' * a - be' ≤ 1000000 * t := by
  have u := h.dn
  have e := Int.mul_le_mul_of_nonneg_right h1 ha
  have e1 : 139 * al * a = 139 * (al * a) := by grind
  have e2 : 140 * al' * a = 140 * (al' * a) := by grind
  rw [e1, e2] at e
  generalize al * a = x at *
  generalize al' * a = y at *
  omega
theorem step_no (m s t N p q : Int) (h : Step s t) (hm : 0 ≤ m) (hN : 1 ≤ N) (k : s ≤ N * N) (kN : 1000000 * N ≤ p * m + q) (p' q' : Int) (h1 : 4001 * p ≤ 4000 * p') (h2 : 4001 * q + 76000000000 ≤ 4000 * q') : ∃ N', 1 ≤ N' ∧ t ≤ N' * N' ∧ 1000000 * N' ≤ p' * m + q' := by
  refine ⟨N + N / 4000 + 19, by omega, h.no N hN k, ?_⟩
  have e := Int.mul_le_mul_of_nonneg_right h1 hm
  have e1 : 4001 * p * m = 4001 * (p * m) := by grind
  have e2 : 4000 * p' * m = 4000 * (p' * m) := by grind
  rw [e1, e2] at e
  generalize p * m = x at *
  generalize p' * m = y at *
  omega
theorem steps_size (a b c d e f g h i j k : Int) (h1 : Step a b) (h2 : Step b c) (h3 : Step c d) (h4 : Step d e) (h5 : Step e f) (h6 : Step f g) (h7 : Step g h) (h8 : Step h i) (h9 : Step i j) (h10 : Step j k) :
    8 * (k - a) ≤ a + 134217720 ∧ 8 * (a - k) ≤ a + 134217720 := by
  have n0 := h1.nn
  have u1 := step_up a a b 1000000 0 h1 n0 (by omega) 1007143 44800000000 (by omega) (by omega)
  have d1 := step_dn a a b 1000000 0 h1 n0 (by omega) 992857 44800000000 (by omega) (by omega)
  have u2 := step_up a b c 1007143 44800000000 h2 n0 u1 1014337 89920000000 (by omega) (by omega)
  have d2 := step_dn a b c 992857 44800000000 h2 n0 d1 985765 89280000000 (by omega) (by omega)
  have u3 := step_up a c d 1014337 89920000000 h3 n0 u2 1021583 135362285715 (by omega) (by omega)
  have d3 := step_dn a c d 985765 89280000000 h3 n0 d2 978723 133442285715 (by omega) (by omega)
  have u4 := step_up a d e 1021583 135362285715 h4 n0 u3 1028881 181129159185 (by omega) (by omega)
  have d4 := step_dn a d e 978723 133442285715 h4 n0 d3 971732 177289126532 (by omega) (by omega)
  have u5 := step_up a e f 1028881 181129159185 h5 n0 u4 1036231 227222938894 (by omega) (by omega)
  have d5 := step_dn a e f 971732 177289126532 h5 n0 d4 964791 220822775629 (by omega) (by omega)
  have u6 := step_up a f g 1036231 227222938894 h6 n0 u5 1043633 273645959887 (by omega) (by omega)
  have d6 := step_dn a f g 964791 220822775629 h6 n0 d5 957899 264045470089 (by omega) (by omega)
  have u7 := step_up a g h 1043633 273645959887 h7 n0 u6 1051088 320400573887 (by omega) (by omega)
  have d7 := step_dn a g h 957899 264045470089 h7 n0 d6 951056 306959431017 (by omega) (by omega)
  have u8 := step_up a h i 1051088 320400573887 h8 n0 u7 1058596 367489149415 (by omega) (by omega)
  have d8 := step_dn a h i 951056 306959431017 h8 n0 d7 944262 349566863653 (by omega) (by omega)
  have u9 := step_up a i j 1058596 367489149415 h9 n0 u8 1066158 414914071911 (by omega) (by omega)
  have d9 := step_dn a i j 944262 349566863653 h9 n0 d8 937517 391869957485 (by omega) (by omega)
  have u10 := step_up a j k 1066158 414914071911 h10 n0 u9 1073774 462677743854 (by omega) (by omega)
  have d10 := step_dn a j k 937517 391869957485 h10 n0 d9 930820 433870886361 (by omega) (by omega)
  clear h1 h2 h3 h4 h5 h6 h7 h8 h9 h10 u1 u2 u3 u4 u5 u6 u7 u8 u9 d1 d2 d3 d4 d5 d6 d7 d8 d9
  constructor <;> omega
theorem steps_small (a b c d e f g h i j k : Int) (h1 : Step a b) (h2 : Step b c) (h3 : Step c d) (h4 : Step d e) (h5 : Step e f) (h6 : Step f g) (h7 : Step g h) (h8 : Step h i) (h9 : Step i j) (h10 : Step j k) (m : Int) (hm : 0 ≤ m) (ha : a ≤ 32 * (m * m)) :
    k ≤ (8 * m + 256) * (8 * m + 256) := by
  have q := sqnn m
  have e0 : (6 * m + 1) * (6 * m + 1) = 36 * (m * m) + 12 * m + 1 := by grind
  have k0 : a ≤ (6 * m + 1) * (6 * m + 1) := by rw [e0]; omega
  obtain ⟨n1, l1, k1, b1⟩ := step_no m a b (6 * m + 1) 6000000 1000000 h1 hm (by omega) k0 (by omega) 6001500 20000250 (by omega) (by omega)
  obtain ⟨n2, l2, k2, b2⟩ := step_no m b c n1 6001500 20000250 h2 hm l1 k1 b1 6003001 39005251 (by omega) (by omega)
  obtain ⟨n3, l3, k3, b3⟩ := step_no m c d n2 6003001 39005251 h3 hm l2 k2 b2 6004502 58015003 (by omega) (by omega)
  obtain ⟨n4, l4, k4, b4⟩ := step_no m d e n3 6004502 58015003 h4 hm l3 k3 b3 6006004 77029507 (by omega) (by omega)
  obtain ⟨n5, l5, k5, b5⟩ := step_no m e f n4 6006004 77029507 h5 hm l4 k4 b4 6007506 96048765 (by omega) (by omega)
  obtain ⟨n6, l6, k6, b6⟩ := step_no m f g n5 6007506 96048765 h6 hm l5 k5 b5 6009008 115072778 (by omega) (by omega)
  obtain ⟨n7, l7, k7, b7⟩ := step_no m g h n6 6009008 115072778 h7 hm l6 k6 b6 6010511 134101547 (by omega) (by omega)
  obtain ⟨n8, l8, k8, b8⟩ := step_no m h i n7 6010511 134101547 h8 hm l7 k7 b7 6012014 153135073 (by omega) (by omega)
  obtain ⟨n9, l9, k9, b9⟩ := step_no m i j n8 6012014 153135073 h9 hm l8 k8 b8 6013518 172173357 (by omega) (by omega)
  obtain ⟨n10, l10, k10, b10⟩ := step_no m j k n9 6013518 172173357 h10 hm l9 k9 b9 6015022 191216401 (by omega) (by omega)
  have hb : n10 ≤ 8 * m + 256 := by clear h1 h2 h3 h4 h5 h6 h7 h8 h9 h10 b1 b2 b3 b4 b5 b6 b7 b8 b9 k0 k1 k2 k3 k4 k5 k6 k7 k8 k9 k10 q e0 ha; omega
  exact Int.le_trans k10 (Int.mul_le_mul hb hb (by omega) (by omega))
end Go.Proofs.Ytpfdjddjoclldaa.M

/- Plain facts of layer 10: waves and the way back, on lists of 32 numbers; that each undoes the other, how their squares' sums stay, how great they are. No program is named here. No conditions but those that each fact names. -/
namespace Go.Proofs.Ytpfdjddjoclldaa.M

theorem peta (p : Int × Int) : (p.1, p.2) = p := rfl
/-- Two points crossed and turned; and back. -/
def bfz (z w : Int × Int) : Int × Int := ((lft (z.1, w.1) 64).2, (lft (z.2, w.2) 64).2)
def bfw (z w : Int × Int) (k : Int) : Int × Int := lft ((lft (z.1, w.1) 64).1, (lft (z.2, w.2) 64).1) k
def ubz (z w : Int × Int) (k : Int) : Int × Int := ((lfb ((lfb w k).1, z.1) 64).1, (lfb ((lfb w k).2, z.2) 64).1)
def ubw (z w : Int × Int) (k : Int) : Int × Int := ((lfb ((lfb w k).1, z.1) 64).2, (lfb ((lfb w k).2, z.2) 64).2)
theorem ubz_bf (z w : Int × Int) (k : Int) : ubz (bfz z w) (bfw z w k) k = z := by
  unfold ubz bfz bfw
  rw [lfb_lft]
  show ((lfb ((lft (z.1, w.1) 64).1, (lft (z.1, w.1) 64).2) 64).1, (lfb ((lft (z.2, w.2) 64).1, (lft (z.2, w.2) 64).2) 64).1) = z
  rw [peta, peta, lfb_lft, lfb_lft]
theorem ubw_bf (z w : Int × Int) (k : Int) : ubw (bfz z w) (bfw z w k) k = w := by
  unfold ubw bfz bfw
  rw [lfb_lft]
  show ((lfb ((lft (z.1, w.1) 64).1, (lft (z.1, w.1) 64).2) 64).2, (lfb ((lft (z.2, w.2) 64).1, (lft (z.2, w.2) 64).2) 64).2) = w
  rw [peta, peta, lfb_lft, lfb_lft]
theorem bfz_ub (z w : Int × Int) (k : Int) : bfz (ubz z w k) (ubw z w k) = z := by
  unfold ubz ubw bfz
  show ((lft ((lfb ((lfb w k).1, z.1) 64).1, (lfb ((lfb w k).1, z.1) 64).2) 64).2, (lft ((lfb ((lfb w k).2, z.2) 64).1, (lfb ((lfb w k).2, z.2) 64).2) 64).2) = z
  rw [peta, peta, lft_lfb, lft_lfb]
theorem bfw_ub (z w : Int × Int) (k : Int) : bfw (ubz z w k) (ubw z w k) k = w := by
  unfold ubz ubw bfw
  show lft ((lft ((lfb ((lfb w k).1, z.1) 64).1, (lfb ((lfb w k).1, z.1) 64).2) 64).1, (lft ((lfb ((lfb w k).2, z.2) 64).1, (lfb ((lfb w k).2, z.2) 64).2) 64).1) k = w
  rw [peta, peta, lft_lfb, lft_lfb]
  show lft ((lfb w k).1, (lfb w k).2) k = w
  rw [peta, lft_lfb]

/-- The pairs of a size: the points' numbers, and the turn. -/
def prs16 : List (Nat × Nat × Int) := [(0, 8, 0), (1, 9, -32), (2, 10, -64), (3, 11, -96), (4, 12, -128), (5, 13, -160), (6, 14, -192), (7, 15, -224)]
def prs8 : List (Nat × Nat × Int) := [(0, 4, 0), (1, 5, -64), (2, 6, -128), (3, 7, -192), (8, 12, 0), (9, 13, -64), (10, 14, -128), (11, 15, -192)]
def prs4 : List (Nat × Nat × Int) := [(0, 2, 0), (1, 3, -128), (4, 6, 0), (5, 7, -128), (8, 10, 0), (9, 11, -128), (12, 14, 0), (13, 15, -128)]
def prs2 : List (Nat × Nat × Int) := [(0, 1, 0), (2, 3, 0), (4, 5, 0), (6, 7, 0), (8, 9, 0), (10, 11, 0), (12, 13, 0), (14, 15, 0)]
/-- A size's round, point by point; and back. -/
def rnd (F G : Int × Int → Int × Int → Int → Int × Int) (l : List (Int × Int)) : List (Nat × Nat × Int) → List (Int × Int)
  | [] => l
  | (p, q, k) :: r => rnd F G ((l.set p (F (l.getD p (0, 0)) (l.getD q (0, 0)) k)).set q (G (l.getD p (0, 0)) (l.getD q (0, 0)) k)) r
def bfs (l : List (Int × Int)) (ps : List (Nat × Nat × Int)) : List (Int × Int) := rnd (fun z w _ => bfz z w) bfw l ps
def ubs (l : List (Int × Int)) (ps : List (Nat × Nat × Int)) : List (Int × Int) := rnd ubz ubw l ps
theorem len16 (l : List (Int × Int)) (h : l.length = 16) : ∃ z0 z1 z2 z3 z4 z5 z6 z7 z8 z9 z10 z11 z12 z13 z14 z15, l = [z0, z1, z2, z3, z4, z5, z6, z7, z8, z9, z10, z11, z12, z13, z14, z15] := by
  match l, h with
  | [z0, z1, z2, z3, z4, z5, z6, z7, z8, z9, z10, z11, z12, z13, z14, z15], _ => exact ⟨z0, z1, z2, z3, z4, z5, z6, z7, z8, z9, z10, z11, z12, z13, z14, z15, rfl⟩
theorem len32 (l : List Int) (h : l.length = 32) : ∃ f0 f1 f2 f3 f4 f5 f6 f7 f8 f9 f10 f11 f12 f13 f14 f15 f16 f17 f18 f19 f20 f21 f22 f23 f24 f25 f26 f27 f28 f29 f30 f31, l = [f0, f1, f2, f3, f4, f5, f6, f7, f8, f9, f10, f11, f12, f13, f14, f15, f16, f17, f18, f19, f20, f21, f22, f23, f24, f25, f26, f27, f28, f29, f30, f31] := by
  match l, h with
  | [f0, f1, f2, f3, f4, f5, f6, f7, f8, f9, f10, f11, f12, f13, f14, f15, f16, f17, f18, f19, f20, f21, f22, f23, f24, f25, f26, f27, f28, f29, f30, f31], _ => exact ⟨f0, f1, f2, f3, f4, f5, f6, f7, f8, f9, f10, f11, f12, f13, f14, f15, f16, f17, f18, f19, f20, f21, f22, f23, f24, f25, f26, f27, f28, f29, f30, f31, rfl⟩
set_option maxRecDepth 100000 in
theorem rnd16 (F G : Int × Int → Int × Int → Int → Int × Int) (z0 z1 z2 z3 z4 z5 z6 z7 z8 z9 z10 z11 z12 z13 z14 z15 : Int × Int) : rnd F G [z0, z1, z2, z3, z4, z5, z6, z7, z8, z9, z10, z11, z12, z13, z14, z15] prs16 = [F z0 z8 (0), F z1 z9 (-32), F z2 z10 (-64), F z3 z11 (-96), F z4 z12 (-128), F z5 z13 (-160), F z6 z14 (-192), F z7 z15 (-224), G z0 z8 (0), G z1 z9 (-32), G z2 z10 (-64), G z3 z11 (-96), G z4 z12 (-128), G z5 z13 (-160), G z6 z14 (-192), G z7 z15 (-224)] := by kernel_rfl
theorem bfs16 (z0 z1 z2 z3 z4 z5 z6 z7 z8 z9 z10 z11 z12 z13 z14 z15 : Int × Int) : bfs [z0, z1, z2, z3, z4, z5, z6, z7, z8, z9, z10, z11, z12, z13, z14, z15] prs16 = [bfz z0 z8, bfz z1 z9, bfz z2 z10, bfz z3 z11, bfz z4 z12, bfz z5 z13, bfz z6 z14, bfz z7 z15, bfw z0 z8 (0), bfw z1 z9 (-32), bfw z2 z10 (-64), bfw z3 z11 (-96), bfw z4 z12 (-128), bfw z5 z13 (-160), bfw z6 z14 (-192), bfw z7 z15 (-224)] := rnd16 (fun z w _ => bfz z w) bfw z0 z1 z2 z3 z4 z5 z6 z7 z8 z9 z10 z11 z12 z13 z14 z15
theorem ubs16 (z0 z1 z2 z3 z4 z5 z6 z7 z8 z9 z10 z11 z12 z13 z14 z15 : Int × Int) : ubs [z0, z1, z2, z3, z4, z5, z6, z7, z8, z9, z10, z11, z12, z13, z14, z15] prs16 = [ubz z0 z8 (0), ubz z1 z9 (-32), ubz z2 z10 (-64), ubz z3 z11 (-96), ubz z4 z12 (-128), ubz z5 z13 (-160), ubz z6 z14 (-192), ubz z7 z15 (-224), ubw z0 z8 (0), ubw z1 z9 (-32), ubw z2 z10 (-64), ubw z3 z11 (-96), ubw z4 z12 (-128), ubw z5 z13 (-160), ubw z6 z14 (-192), ubw z7 z15 (-224)] := rnd16 ubz ubw z0 z1 z2 z3 z4 z5 z6 z7 z8 z9 z10 z11 z12 z13 z14 z15
theorem ubs_bfs16 (l : List (Int × Int)) (h : l.length = 16) : ubs (bfs l prs16) prs16 = l := by
  obtain ⟨z0, z1, z2, z3, z4, z5, z6, z7, z8, z9, z10, z11, z12, z13, z14, z15, rfl⟩ := len16 l h
  rw [bfs16, ubs16]
  simp only [ubz_bf, ubw_bf]
theorem bfs_ubs16 (l : List (Int × Int)) (h : l.length = 16) : bfs (ubs l prs16) prs16 = l := by
  obtain ⟨z0, z1, z2, z3, z4, z5, z6, z7, z8, z9, z10, z11, z12, z13, z14, z15, rfl⟩ := len16 l h
  rw [ubs16, bfs16]
  simp only [bfz_ub, bfw_ub]
theorem bfs16_len (l : List (Int × Int)) (h : l.length = 16) : (bfs l prs16).length = 16 := by
  obtain ⟨z0, z1, z2, z3, z4, z5, z6, z7, z8, z9, z10, z11, z12, z13, z14, z15, rfl⟩ := len16 l h
  rw [bfs16]; rfl
theorem ubs16_len (l : List (Int × Int)) (h : l.length = 16) : (ubs l prs16).length = 16 := by
  obtain ⟨z0, z1, z2, z3, z4, z5, z6, z7, z8, z9, z10, z11, z12, z13, z14, z15, rfl⟩ := len16 l h
  rw [ubs16]; rfl
theorem step16 (l : List (Int × Int)) (h : l.length = 16) : ∃ S, Step (tot l) S ∧ Step S (tot (bfs l prs16)) := by
  obtain ⟨z0, z1, z2, z3, z4, z5, z6, z7, z8, z9, z10, z11, z12, z13, z14, z15, rfl⟩ := len16 l h
  rw [bfs16]
  have h1 := lay_step [((z0.1, z8.1), lft (z0.1, z8.1) 64), ((z0.2, z8.2), lft (z0.2, z8.2) 64), ((z1.1, z9.1), lft (z1.1, z9.1) 64), ((z1.2, z9.2), lft (z1.2, z9.2) 64), ((z2.1, z10.1), lft (z2.1, z10.1) 64), ((z2.2, z10.2), lft (z2.2, z10.2) 64), ((z3.1, z11.1), lft (z3.1, z11.1) 64), ((z3.2, z11.2), lft (z3.2, z11.2) 64), ((z4.1, z12.1), lft (z4.1, z12.1) 64), ((z4.2, z12.2), lft (z4.2, z12.2) 64), ((z5.1, z13.1), lft (z5.1, z13.1) 64), ((z5.2, z13.2), lft (z5.2, z13.2) 64), ((z6.1, z14.1), lft (z6.1, z14.1) 64), ((z6.2, z14.2), lft (z6.2, z14.2) 64), ((z7.1, z15.1), lft (z7.1, z15.1) 64), ((z7.2, z15.2), lft (z7.2, z15.2) 64)] (by
    intro p hp
    simp only [List.mem_cons, List.not_mem_nil, or_false] at hp
    rcases hp with rfl | rfl | rfl | rfl | rfl | rfl | rfl | rfl | rfl | rfl | rfl | rfl | rfl | rfl | rfl | rfl <;> dsimp only <;> exact near2_lft _ _) rfl
  have h2 := lay_step [(bfz z0 z8, bfz z0 z8), (((lft (z0.1, z8.1) 64).1, (lft (z0.2, z8.2) 64).1), bfw z0 z8 (0)), (bfz z1 z9, bfz z1 z9), (((lft (z1.1, z9.1) 64).1, (lft (z1.2, z9.2) 64).1), bfw z1 z9 (-32)), (bfz z2 z10, bfz z2 z10), (((lft (z2.1, z10.1) 64).1, (lft (z2.2, z10.2) 64).1), bfw z2 z10 (-64)), (bfz z3 z11, bfz z3 z11), (((lft (z3.1, z11.1) 64).1, (lft (z3.2, z11.2) 64).1), bfw z3 z11 (-96)), (bfz z4 z12, bfz z4 z12), (((lft (z4.1, z12.1) 64).1, (lft (z4.2, z12.2) 64).1), bfw z4 z12 (-128)), (bfz z5 z13, bfz z5 z13), (((lft (z5.1, z13.1) 64).1, (lft (z5.2, z13.2) 64).1), bfw z5 z13 (-160)), (bfz z6 z14, bfz z6 z14), (((lft (z6.1, z14.1) 64).1, (lft (z6.2, z14.2) 64).1), bfw z6 z14 (-192)), (bfz z7 z15, bfz z7 z15), (((lft (z7.1, z15.1) 64).1, (lft (z7.2, z15.2) 64).1), bfw z7 z15 (-224))] (by
    intro p hp
    simp only [List.mem_cons, List.not_mem_nil, or_false] at hp
    rcases hp with rfl | rfl | rfl | rfl | rfl | rfl | rfl | rfl | rfl | rfl | rfl | rfl | rfl | rfl | rfl | rfl <;> dsimp only [bfw] <;> first | exact near2_self _ | exact near2_lft _ _) rfl
  have e1 : tot [z0, z1, z2, z3, z4, z5, z6, z7, z8, z9, z10, z11, z12, z13, z14, z15] = tot (bef [((z0.1, z8.1), lft (z0.1, z8.1) 64), ((z0.2, z8.2), lft (z0.2, z8.2) 64), ((z1.1, z9.1), lft (z1.1, z9.1) 64), ((z1.2, z9.2), lft (z1.2, z9.2) 64), ((z2.1, z10.1), lft (z2.1, z10.1) 64), ((z2.2, z10.2), lft (z2.2, z10.2) 64), ((z3.1, z11.1), lft (z3.1, z11.1) 64), ((z3.2, z11.2), lft (z3.2, z11.2) 64), ((z4.1, z12.1), lft (z4.1, z12.1) 64), ((z4.2, z12.2), lft (z4.2, z12.2) 64), ((z5.1, z13.1), lft (z5.1, z13.1) 64), ((z5.2, z13.2), lft (z5.2, z13.2) 64), ((z6.1, z14.1), lft (z6.1, z14.1) 64), ((z6.2, z14.2), lft (z6.2, z14.2) 64), ((z7.1, z15.1), lft (z7.1, z15.1) 64), ((z7.2, z15.2), lft (z7.2, z15.2) 64)]) := by
    simp only [bef, tot, sq2, List.map_cons, List.map_nil] <;> omega
  have e2 : tot (beh [((z0.1, z8.1), lft (z0.1, z8.1) 64), ((z0.2, z8.2), lft (z0.2, z8.2) 64), ((z1.1, z9.1), lft (z1.1, z9.1) 64), ((z1.2, z9.2), lft (z1.2, z9.2) 64), ((z2.1, z10.1), lft (z2.1, z10.1) 64), ((z2.2, z10.2), lft (z2.2, z10.2) 64), ((z3.1, z11.1), lft (z3.1, z11.1) 64), ((z3.2, z11.2), lft (z3.2, z11.2) 64), ((z4.1, z12.1), lft (z4.1, z12.1) 64), ((z4.2, z12.2), lft (z4.2, z12.2) 64), ((z5.1, z13.1), lft (z5.1, z13.1) 64), ((z5.2, z13.2), lft (z5.2, z13.2) 64), ((z6.1, z14.1), lft (z6.1, z14.1) 64), ((z6.2, z14.2), lft (z6.2, z14.2) 64), ((z7.1, z15.1), lft (z7.1, z15.1) 64), ((z7.2, z15.2), lft (z7.2, z15.2) 64)]) = tot (bef [(bfz z0 z8, bfz z0 z8), (((lft (z0.1, z8.1) 64).1, (lft (z0.2, z8.2) 64).1), bfw z0 z8 (0)), (bfz z1 z9, bfz z1 z9), (((lft (z1.1, z9.1) 64).1, (lft (z1.2, z9.2) 64).1), bfw z1 z9 (-32)), (bfz z2 z10, bfz z2 z10), (((lft (z2.1, z10.1) 64).1, (lft (z2.2, z10.2) 64).1), bfw z2 z10 (-64)), (bfz z3 z11, bfz z3 z11), (((lft (z3.1, z11.1) 64).1, (lft (z3.2, z11.2) 64).1), bfw z3 z11 (-96)), (bfz z4 z12, bfz z4 z12), (((lft (z4.1, z12.1) 64).1, (lft (z4.2, z12.2) 64).1), bfw z4 z12 (-128)), (bfz z5 z13, bfz z5 z13), (((lft (z5.1, z13.1) 64).1, (lft (z5.2, z13.2) 64).1), bfw z5 z13 (-160)), (bfz z6 z14, bfz z6 z14), (((lft (z6.1, z14.1) 64).1, (lft (z6.2, z14.2) 64).1), bfw z6 z14 (-192)), (bfz z7 z15, bfz z7 z15), (((lft (z7.1, z15.1) 64).1, (lft (z7.2, z15.2) 64).1), bfw z7 z15 (-224))]) := by
    simp only [bef, beh, tot, sq2, bfz, List.map_cons, List.map_nil] <;> omega
  have e3 : tot (beh [(bfz z0 z8, bfz z0 z8), (((lft (z0.1, z8.1) 64).1, (lft (z0.2, z8.2) 64).1), bfw z0 z8 (0)), (bfz z1 z9, bfz z1 z9), (((lft (z1.1, z9.1) 64).1, (lft (z1.2, z9.2) 64).1), bfw z1 z9 (-32)), (bfz z2 z10, bfz z2 z10), (((lft (z2.1, z10.1) 64).1, (lft (z2.2, z10.2) 64).1), bfw z2 z10 (-64)), (bfz z3 z11, bfz z3 z11), (((lft (z3.1, z11.1) 64).1, (lft (z3.2, z11.2) 64).1), bfw z3 z11 (-96)), (bfz z4 z12, bfz z4 z12), (((lft (z4.1, z12.1) 64).1, (lft (z4.2, z12.2) 64).1), bfw z4 z12 (-128)), (bfz z5 z13, bfz z5 z13), (((lft (z5.1, z13.1) 64).1, (lft (z5.2, z13.2) 64).1), bfw z5 z13 (-160)), (bfz z6 z14, bfz z6 z14), (((lft (z6.1, z14.1) 64).1, (lft (z6.2, z14.2) 64).1), bfw z6 z14 (-192)), (bfz z7 z15, bfz z7 z15), (((lft (z7.1, z15.1) 64).1, (lft (z7.2, z15.2) 64).1), bfw z7 z15 (-224))]) = tot [bfz z0 z8, bfz z1 z9, bfz z2 z10, bfz z3 z11, bfz z4 z12, bfz z5 z13, bfz z6 z14, bfz z7 z15, bfw z0 z8 (0), bfw z1 z9 (-32), bfw z2 z10 (-64), bfw z3 z11 (-96), bfw z4 z12 (-128), bfw z5 z13 (-160), bfw z6 z14 (-192), bfw z7 z15 (-224)] := by
    simp only [beh, tot, List.map_cons, List.map_nil] <;> omega
  rw [e1, ← e3]
  rw [← e2] at h2
  exact ⟨_, h1, h2⟩
theorem stepU16 (l : List (Int × Int)) (h : l.length = 16) : ∃ S, Step (tot l) S ∧ Step S (tot (ubs l prs16)) := by
  obtain ⟨z0, z1, z2, z3, z4, z5, z6, z7, z8, z9, z10, z11, z12, z13, z14, z15, rfl⟩ := len16 l h
  rw [ubs16]
  have h1 := lay_step [(z0, z0), (z8, lfb z8 (0)), (z1, z1), (z9, lfb z9 (-32)), (z2, z2), (z10, lfb z10 (-64)), (z3, z3), (z11, lfb z11 (-96)), (z4, z4), (z12, lfb z12 (-128)), (z5, z5), (z13, lfb z13 (-160)), (z6, z6), (z14, lfb z14 (-192)), (z7, z7), (z15, lfb z15 (-224))] (by
    intro p hp
    simp only [List.mem_cons, List.not_mem_nil, or_false] at hp
    rcases hp with rfl | rfl | rfl | rfl | rfl | rfl | rfl | rfl | rfl | rfl | rfl | rfl | rfl | rfl | rfl | rfl <;> dsimp only <;> first | exact near2_self _ | exact near2_lfb _ _) rfl
  have h2 := lay_step [(((lfb z8 (0)).1, z0.1), lfb ((lfb z8 (0)).1, z0.1) 64), (((lfb z8 (0)).2, z0.2), lfb ((lfb z8 (0)).2, z0.2) 64), (((lfb z9 (-32)).1, z1.1), lfb ((lfb z9 (-32)).1, z1.1) 64), (((lfb z9 (-32)).2, z1.2), lfb ((lfb z9 (-32)).2, z1.2) 64), (((lfb z10 (-64)).1, z2.1), lfb ((lfb z10 (-64)).1, z2.1) 64), (((lfb z10 (-64)).2, z2.2), lfb ((lfb z10 (-64)).2, z2.2) 64), (((lfb z11 (-96)).1, z3.1), lfb ((lfb z11 (-96)).1, z3.1) 64), (((lfb z11 (-96)).2, z3.2), lfb ((lfb z11 (-96)).2, z3.2) 64), (((lfb z12 (-128)).1, z4.1), lfb ((lfb z12 (-128)).1, z4.1) 64), (((lfb z12 (-128)).2, z4.2), lfb ((lfb z12 (-128)).2, z4.2) 64), (((lfb z13 (-160)).1, z5.1), lfb ((lfb z13 (-160)).1, z5.1) 64), (((lfb z13 (-160)).2, z5.2), lfb ((lfb z13 (-160)).2, z5.2) 64), (((lfb z14 (-192)).1, z6.1), lfb ((lfb z14 (-192)).1, z6.1) 64), (((lfb z14 (-192)).2, z6.2), lfb ((lfb z14 (-192)).2, z6.2) 64), (((lfb z15 (-224)).1, z7.1), lfb ((lfb z15 (-224)).1, z7.1) 64), (((lfb z15 (-224)).2, z7.2), lfb ((lfb z15 (-224)).2, z7.2) 64)] (by
    intro p hp
    simp only [List.mem_cons, List.not_mem_nil, or_false] at hp
    rcases hp with rfl | rfl | rfl | rfl | rfl | rfl | rfl | rfl | rfl | rfl | rfl | rfl | rfl | rfl | rfl | rfl <;> dsimp only <;> exact near2_lfb _ _) rfl
  have e1 : tot [z0, z1, z2, z3, z4, z5, z6, z7, z8, z9, z10, z11, z12, z13, z14, z15] = tot (bef [(z0, z0), (z8, lfb z8 (0)), (z1, z1), (z9, lfb z9 (-32)), (z2, z2), (z10, lfb z10 (-64)), (z3, z3), (z11, lfb z11 (-96)), (z4, z4), (z12, lfb z12 (-128)), (z5, z5), (z13, lfb z13 (-160)), (z6, z6), (z14, lfb z14 (-192)), (z7, z7), (z15, lfb z15 (-224))]) := by
    simp only [bef, tot, List.map_cons, List.map_nil] <;> omega
  have e2 : tot (beh [(z0, z0), (z8, lfb z8 (0)), (z1, z1), (z9, lfb z9 (-32)), (z2, z2), (z10, lfb z10 (-64)), (z3, z3), (z11, lfb z11 (-96)), (z4, z4), (z12, lfb z12 (-128)), (z5, z5), (z13, lfb z13 (-160)), (z6, z6), (z14, lfb z14 (-192)), (z7, z7), (z15, lfb z15 (-224))]) = tot (bef [(((lfb z8 (0)).1, z0.1), lfb ((lfb z8 (0)).1, z0.1) 64), (((lfb z8 (0)).2, z0.2), lfb ((lfb z8 (0)).2, z0.2) 64), (((lfb z9 (-32)).1, z1.1), lfb ((lfb z9 (-32)).1, z1.1) 64), (((lfb z9 (-32)).2, z1.2), lfb ((lfb z9 (-32)).2, z1.2) 64), (((lfb z10 (-64)).1, z2.1), lfb ((lfb z10 (-64)).1, z2.1) 64), (((lfb z10 (-64)).2, z2.2), lfb ((lfb z10 (-64)).2, z2.2) 64), (((lfb z11 (-96)).1, z3.1), lfb ((lfb z11 (-96)).1, z3.1) 64), (((lfb z11 (-96)).2, z3.2), lfb ((lfb z11 (-96)).2, z3.2) 64), (((lfb z12 (-128)).1, z4.1), lfb ((lfb z12 (-128)).1, z4.1) 64), (((lfb z12 (-128)).2, z4.2), lfb ((lfb z12 (-128)).2, z4.2) 64), (((lfb z13 (-160)).1, z5.1), lfb ((lfb z13 (-160)).1, z5.1) 64), (((lfb z13 (-160)).2, z5.2), lfb ((lfb z13 (-160)).2, z5.2) 64), (((lfb z14 (-192)).1, z6.1), lfb ((lfb z14 (-192)).1, z6.1) 64), (((lfb z14 (-192)).2, z6.2), lfb ((lfb z14 (-192)).2, z6.2) 64), (((lfb z15 (-224)).1, z7.1), lfb ((lfb z15 (-224)).1, z7.1) 64), (((lfb z15 (-224)).2, z7.2), lfb ((lfb z15 (-224)).2, z7.2) 64)]) := by
    simp only [bef, beh, tot, sq2, List.map_cons, List.map_nil] <;> omega
  have e3 : tot (beh [(((lfb z8 (0)).1, z0.1), lfb ((lfb z8 (0)).1, z0.1) 64), (((lfb z8 (0)).2, z0.2), lfb ((lfb z8 (0)).2, z0.2) 64), (((lfb z9 (-32)).1, z1.1), lfb ((lfb z9 (-32)).1, z1.1) 64), (((lfb z9 (-32)).2, z1.2), lfb ((lfb z9 (-32)).2, z1.2) 64), (((lfb z10 (-64)).1, z2.1), lfb ((lfb z10 (-64)).1, z2.1) 64), (((lfb z10 (-64)).2, z2.2), lfb ((lfb z10 (-64)).2, z2.2) 64), (((lfb z11 (-96)).1, z3.1), lfb ((lfb z11 (-96)).1, z3.1) 64), (((lfb z11 (-96)).2, z3.2), lfb ((lfb z11 (-96)).2, z3.2) 64), (((lfb z12 (-128)).1, z4.1), lfb ((lfb z12 (-128)).1, z4.1) 64), (((lfb z12 (-128)).2, z4.2), lfb ((lfb z12 (-128)).2, z4.2) 64), (((lfb z13 (-160)).1, z5.1), lfb ((lfb z13 (-160)).1, z5.1) 64), (((lfb z13 (-160)).2, z5.2), lfb ((lfb z13 (-160)).2, z5.2) 64), (((lfb z14 (-192)).1, z6.1), lfb ((lfb z14 (-192)).1, z6.1) 64), (((lfb z14 (-192)).2, z6.2), lfb ((lfb z14 (-192)).2, z6.2) 64), (((lfb z15 (-224)).1, z7.1), lfb ((lfb z15 (-224)).1, z7.1) 64), (((lfb z15 (-224)).2, z7.2), lfb ((lfb z15 (-224)).2, z7.2) 64)]) = tot [ubz z0 z8 (0), ubz z1 z9 (-32), ubz z2 z10 (-64), ubz z3 z11 (-96), ubz z4 z12 (-128), ubz z5 z13 (-160), ubz z6 z14 (-192), ubz z7 z15 (-224), ubw z0 z8 (0), ubw z1 z9 (-32), ubw z2 z10 (-64), ubw z3 z11 (-96), ubw z4 z12 (-128), ubw z5 z13 (-160), ubw z6 z14 (-192), ubw z7 z15 (-224)] := by
    simp only [beh, tot, sq2, ubz, ubw, List.map_cons, List.map_nil] <;> omega
  rw [e1, ← e3]
  rw [← e2] at h2
  exact ⟨_, h1, h2⟩
set_option maxRecDepth 100000 in
theorem rnd8 (F G : Int × Int → Int × Int → Int → Int × Int) (z0 z1 z2 z3 z4 z5 z6 z7 z8 z9 z10 z11 z12 z13 z14 z15 : Int × Int) : rnd F G [z0, z1, z2, z3, z4, z5, z6, z7, z8, z9, z10, z11, z12, z13, z14, z15] prs8 = [F z0 z4 (0), F z1 z5 (-64), F z2 z6 (-128), F z3 z7 (-192), G z0 z4 (0), G z1 z5 (-64), G z2 z6 (-128), G z3 z7 (-192), F z8 z12 (0), F z9 z13 (-64), F z10 z14 (-128), F z11 z15 (-192), G z8 z12 (0), G z9 z13 (-64), G z10 z14 (-128), G z11 z15 (-192)] := by kernel_rfl
theorem bfs8 (z0 z1 z2 z3 z4 z5 z6 z7 z8 z9 z10 z11 z12 z13 z14 z15 : Int × Int) : bfs [z0, z1, z2, z3, z4, z5, z6, z7, z8, z9, z10, z11, z12, z13, z14, z15] prs8 = [bfz z0 z4, bfz z1 z5, bfz z2 z6, bfz z3 z7, bfw z0 z4 (0), bfw z1 z5 (-64), bfw z2 z6 (-128), bfw z3 z7 (-192), bfz z8 z12, bfz z9 z13, bfz z10 z14, bfz z11 z15, bfw z8 z12 (0), bfw z9 z13 (-64), bfw z10 z14 (-128), bfw z11 z15 (-192)] := rnd8 (fun z w _ => bfz z w) bfw z0 z1 z2 z3 z4 z5 z6 z7 z8 z9 z10 z11 z12 z13 z14 z15
theorem ubs8 (z0 z1 z2 z3 z4 z5 z6 z7 z8 z9 z10 z11 z12 z13 z14 z15 : Int × Int) : ubs [z0, z1, z2, z3, z4, z5, z6, z7, z8, z9, z10, z11, z12, z13, z14, z15] prs8 = [ubz z0 z4 (0), ubz z1 z5 (-64), ubz z2 z6 (-128), ubz z3 z7 (-192), ubw z0 z4 (0), ubw z1 z5 (-64), ubw z2 z6 (-128), ubw z3 z7 (-192), ubz z8 z12 (0), ubz z9 z13 (-64), ubz z10 z14 (-128), ubz z11 z15 (-192), ubw z8 z12 (0), ubw z9 z13 (-64), ubw z10 z14 (-128), ubw z11 z15 (-192)] := rnd8 ubz ubw z0 z1 z2 z3 z4 z5 z6 z7 z8 z9 z10 z11 z12 z13 z14 z15
theorem ubs_bfs8 (l : List (Int × Int)) (h : l.length = 16) : ubs (bfs l prs8) prs8 = l := by
  obtain ⟨z0, z1, z2, z3, z4, z5, z6, z7, z8, z9, z10, z11, z12, z13, z14, z15, rfl⟩ := len16 l h
  rw [bfs8, ubs8]
  simp only [ubz_bf, ubw_bf]
theorem bfs_ubs8 (l : List (Int × Int)) (h : l.length = 16) : bfs (ubs l prs8) prs8 = l := by
  obtain ⟨z0, z1, z2, z3, z4, z5, z6, z7, z8, z9, z10, z11, z12, z13, z14, z15, rfl⟩ := len16 l h
  rw [ubs8, bfs8]
  simp only [bfz_ub, bfw_ub]
theorem bfs8_len (l : List (Int × Int)) (h : l.length = 16) : (bfs l prs8).length = 16 := by
  obtain ⟨z0, z1, z2, z3, z4, z5, z6, z7, z8, z9, z10, z11, z12, z13, z14, z15, rfl⟩ := len16 l h
  rw [bfs8]; rfl
theorem ubs8_len (l : List (Int × Int)) (h : l.length = 16) : (ubs l prs8).length = 16 := by
  obtain ⟨z0, z1, z2, z3, z4, z5, z6, z7, z8, z9, z10, z11, z12, z13, z14, z15, rfl⟩ := len16 l h
  rw [ubs8]; rfl
theorem step8 (l : List (Int × Int)) (h : l.length = 16) : ∃ S, Step (tot l) S ∧ Step S (tot (bfs l prs8)) := by
  obtain ⟨z0, z1, z2, z3, z4, z5, z6, z7, z8, z9, z10, z11, z12, z13, z14, z15, rfl⟩ := len16 l h
  rw [bfs8]
  have h1 := lay_step [((z0.1, z4.1), lft (z0.1, z4.1) 64), ((z0.2, z4.2), lft (z0.2, z4.2) 64), ((z1.1, z5.1), lft (z1.1, z5.1) 64), ((z1.2, z5.2), lft (z1.2, z5.2) 64), ((z2.1, z6.1), lft (z2.1, z6.1) 64), ((z2.2, z6.2), lft (z2.2, z6.2) 64), ((z3.1, z7.1), lft (z3.1, z7.1) 64), ((z3.2, z7.2), lft (z3.2, z7.2) 64), ((z8.1, z12.1), lft (z8.1, z12.1) 64), ((z8.2, z12.2), lft (z8.2, z12.2) 64), ((z9.1, z13.1), lft (z9.1, z13.1) 64), ((z9.2, z13.2), lft (z9.2, z13.2) 64), ((z10.1, z14.1), lft (z10.1, z14.1) 64), ((z10.2, z14.2), lft (z10.2, z14.2) 64), ((z11.1, z15.1), lft (z11.1, z15.1) 64), ((z11.2, z15.2), lft (z11.2, z15.2) 64)] (by
    intro p hp
    simp only [List.mem_cons, List.not_mem_nil, or_false] at hp
    rcases hp with rfl | rfl | rfl | rfl | rfl | rfl | rfl | rfl | rfl | rfl | rfl | rfl | rfl | rfl | rfl | rfl <;> dsimp only <;> exact near2_lft _ _) rfl
  have h2 := lay_step [(bfz z0 z4, bfz z0 z4), (((lft (z0.1, z4.1) 64).1, (lft (z0.2, z4.2) 64).1), bfw z0 z4 (0)), (bfz z1 z5, bfz z1 z5), (((lft (z1.1, z5.1) 64).1, (lft (z1.2, z5.2) 64).1), bfw z1 z5 (-64)), (bfz z2 z6, bfz z2 z6), (((lft (z2.1, z6.1) 64).1, (lft (z2.2, z6.2) 64).1), bfw z2 z6 (-128)), (bfz z3 z7, bfz z3 z7), (((lft (z3.1, z7.1) 64).1, (lft (z3.2, z7.2) 64).1), bfw z3 z7 (-192)), (bfz z8 z12, bfz z8 z12), (((lft (z8.1, z12.1) 64).1, (lft (z8.2, z12.2) 64).1), bfw z8 z12 (0)), (bfz z9 z13, bfz z9 z13), (((lft (z9.1, z13.1) 64).1, (lft (z9.2, z13.2) 64).1), bfw z9 z13 (-64)), (bfz z10 z14, bfz z10 z14), (((lft (z10.1, z14.1) 64).1, (lft (z10.2, z14.2) 64).1), bfw z10 z14 (-128)), (bfz z11 z15, bfz z11 z15), (((lft (z11.1, z15.1) 64).1, (lft (z11.2, z15.2) 64).1), bfw z11 z15 (-192))] (by
    intro p hp
    simp only [List.mem_cons, List.not_mem_nil, or_false] at hp
    rcases hp with rfl | rfl | rfl | rfl | rfl | rfl | rfl | rfl | rfl | rfl | rfl | rfl | rfl | rfl | rfl | rfl <;> dsimp only [bfw] <;> first | exact near2_self _ | exact near2_lft _ _) rfl
  have e1 : tot [z0, z1, z2, z3, z4, z5, z6, z7, z8, z9, z10, z11, z12, z13, z14, z15] = tot (bef [((z0.1, z4.1), lft (z0.1, z4.1) 64), ((z0.2, z4.2), lft (z0.2, z4.2) 64), ((z1.1, z5.1), lft (z1.1, z5.1) 64), ((z1.2, z5.2), lft (z1.2, z5.2) 64), ((z2.1, z6.1), lft (z2.1, z6.1) 64), ((z2.2, z6.2), lft (z2.2, z6.2) 64), ((z3.1, z7.1), lft (z3.1, z7.1) 64), ((z3.2, z7.2), lft (z3.2, z7.2) 64), ((z8.1, z12.1), lft (z8.1, z12.1) 64), ((z8.2, z12.2), lft (z8.2, z12.2) 64), ((z9.1, z13.1), lft (z9.1, z13.1) 64), ((z9.2, z13.2), lft (z9.2, z13.2) 64), ((z10.1, z14.1), lft (z10.1, z14.1) 64), ((z10.2, z14.2), lft (z10.2, z14.2) 64), ((z11.1, z15.1), lft (z11.1, z15.1) 64), ((z11.2, z15.2), lft (z11.2, z15.2) 64)]) := by
    simp only [bef, tot, sq2, List.map_cons, List.map_nil] <;> omega
  have e2 : tot (beh [((z0.1, z4.1), lft (z0.1, z4.1) 64), ((z0.2, z4.2), lft (z0.2, z4.2) 64), ((z1.1, z5.1), lft (z1.1, z5.1) 64), ((z1.2, z5.2), lft (z1.2, z5.2) 64), ((z2.1, z6.1), lft (z2.1, z6.1) 64), ((z2.2, z6.2), lft (z2.2, z6.2) 64), ((z3.1, z7.1), lft (z3.1, z7.1) 64), ((z3.2, z7.2), lft (z3.2, z7.2) 64), ((z8.1, z12.1), lft (z8.1, z12.1) 64), ((z8.2, z12.2), lft (z8.2, z12.2) 64), ((z9.1, z13.1), lft (z9.1, z13.1) 64), ((z9.2, z13.2), lft (z9.2, z13.2) 64), ((z10.1, z14.1), lft (z10.1, z14.1) 64), ((z10.2, z14.2), lft (z10.2, z14.2) 64), ((z11.1, z15.1), lft (z11.1, z15.1) 64), ((z11.2, z15.2), lft (z11.2, z15.2) 64)]) = tot (bef [(bfz z0 z4, bfz z0 z4), (((lft (z0.1, z4.1) 64).1, (lft (z0.2, z4.2) 64).1), bfw z0 z4 (0)), (bfz z1 z5, bfz z1 z5), (((lft (z1.1, z5.1) 64).1, (lft (z1.2, z5.2) 64).1), bfw z1 z5 (-64)), (bfz z2 z6, bfz z2 z6), (((lft (z2.1, z6.1) 64).1, (lft (z2.2, z6.2) 64).1), bfw z2 z6 (-128)), (bfz z3 z7, bfz z3 z7), (((lft (z3.1, z7.1) 64).1, (lft (z3.2, z7.2) 64).1), bfw z3 z7 (-192)), (bfz z8 z12, bfz z8 z12), (((lft (z8.1, z12.1) 64).1, (lft (z8.2, z12.2) 64).1), bfw z8 z12 (0)), (bfz z9 z13, bfz z9 z13), (((lft (z9.1, z13.1) 64).1, (lft (z9.2, z13.2) 64).1), bfw z9 z13 (-64)), (bfz z10 z14, bfz z10 z14), (((lft (z10.1, z14.1) 64).1, (lft (z10.2, z14.2) 64).1), bfw z10 z14 (-128)), (bfz z11 z15, bfz z11 z15), (((lft (z11.1, z15.1) 64).1, (lft (z11.2, z15.2) 64).1), bfw z11 z15 (-192))]) := by
    simp only [bef, beh, tot, sq2, bfz, List.map_cons, List.map_nil] <;> omega
  have e3 : tot (beh [(bfz z0 z4, bfz z0 z4), (((lft (z0.1, z4.1) 64).1, (lft (z0.2, z4.2) 64).1), bfw z0 z4 (0)), (bfz z1 z5, bfz z1 z5), (((lft (z1.1, z5.1) 64).1, (lft (z1.2, z5.2) 64).1), bfw z1 z5 (-64)), (bfz z2 z6, bfz z2 z6), (((lft (z2.1, z6.1) 64).1, (lft (z2.2, z6.2) 64).1), bfw z2 z6 (-128)), (bfz z3 z7, bfz z3 z7), (((lft (z3.1, z7.1) 64).1, (lft (z3.2, z7.2) 64).1), bfw z3 z7 (-192)), (bfz z8 z12, bfz z8 z12), (((lft (z8.1, z12.1) 64).1, (lft (z8.2, z12.2) 64).1), bfw z8 z12 (0)), (bfz z9 z13, bfz z9 z13), (((lft (z9.1, z13.1) 64).1, (lft (z9.2, z13.2) 64).1), bfw z9 z13 (-64)), (bfz z10 z14, bfz z10 z14), (((lft (z10.1, z14.1) 64).1, (lft (z10.2, z14.2) 64).1), bfw z10 z14 (-128)), (bfz z11 z15, bfz z11 z15), (((lft (z11.1, z15.1) 64).1, (lft (z11.2, z15.2) 64).1), bfw z11 z15 (-192))]) = tot [bfz z0 z4, bfz z1 z5, bfz z2 z6, bfz z3 z7, bfw z0 z4 (0), bfw z1 z5 (-64), bfw z2 z6 (-128), bfw z3 z7 (-192), bfz z8 z12, bfz z9 z13, bfz z10 z14, bfz z11 z15, bfw z8 z12 (0), bfw z9 z13 (-64), bfw z10 z14 (-128), bfw z11 z15 (-192)] := by
    simp only [beh, tot, List.map_cons, List.map_nil] <;> omega
  rw [e1, ← e3]
  rw [← e2] at h2
  exact ⟨_, h1, h2⟩
theorem stepU8 (l : List (Int × Int)) (h : l.length = 16) : ∃ S, Step (tot l) S ∧ Step S (tot (ubs l prs8)) := by
  obtain ⟨z0, z1, z2, z3, z4, z5, z6, z7, z8, z9, z10, z11, z12, z13, z14, z15, rfl⟩ := len16 l h
  rw [ubs8]
  have h1 := lay_step [(z0, z0), (z4, lfb z4 (0)), (z1, z1), (z5, lfb z5 (-64)), (z2, z2), (z6, lfb z6 (-128)), (z3, z3), (z7, lfb z7 (-192)), (z8, z8), (z12, lfb z12 (0)), (z9, z9), (z13, lfb z13 (-64)), (z10, z10), (z14, lfb z14 (-128)), (z11, z11), (z15, lfb z15 (-192))] (by
    intro p hp
    simp only [List.mem_cons, List.not_mem_nil, or_false] at hp
    rcases hp with rfl | rfl | rfl | rfl | rfl | rfl | rfl | rfl | rfl | rfl | rfl | rfl | rfl | rfl | rfl | rfl <;> dsimp only <;> first | exact near2_self _ | exact near2_lfb _ _) rfl
  have h2 := lay_step [(((lfb z4 (0)).1, z0.1), lfb ((lfb z4 (0)).1, z0.1) 64), (((lfb z4 (0)).2, z0.2), lfb ((lfb z4 (0)).2, z0.2) 64), (((lfb z5 (-64)).1, z1.1), lfb ((lfb z5 (-64)).1, z1.1) 64), (((lfb z5 (-64)).2, z1.2), lfb ((lfb z5 (-64)).2, z1.2) 64), (((lfb z6 (-128)).1, z2.1), lfb ((lfb z6 (-128)).1, z2.1) 64), (((lfb z6 (-128)).2, z2.2), lfb ((lfb z6 (-128)).2, z2.2) 64), (((lfb z7 (-192)).1, z3.1), lfb ((lfb z7 (-192)).1, z3.1) 64), (((lfb z7 (-192)).2, z3.2), lfb ((lfb z7 (-192)).2, z3.2) 64), (((lfb z12 (0)).1, z8.1), lfb ((lfb z12 (0)).1, z8.1) 64), (((lfb z12 (0)).2, z8.2), lfb ((lfb z12 (0)).2, z8.2) 64), (((lfb z13 (-64)).1, z9.1), lfb ((lfb z13 (-64)).1, z9.1) 64), (((lfb z13 (-64)).2, z9.2), lfb ((lfb z13 (-64)).2, z9.2) 64), (((lfb z14 (-128)).1, z10.1), lfb ((lfb z14 (-128)).1, z10.1) 64), (((lfb z14 (-128)).2, z10.2), lfb ((lfb z14 (-128)).2, z10.2) 64), (((lfb z15 (-192)).1, z11.1), lfb ((lfb z15 (-192)).1, z11.1) 64), (((lfb z15 (-192)).2, z11.2), lfb ((lfb z15 (-192)).2, z11.2) 64)] (by
    intro p hp
    simp only [List.mem_cons, List.not_mem_nil, or_false] at hp
    rcases hp with rfl | rfl | rfl | rfl | rfl | rfl | rfl | rfl | rfl | rfl | rfl | rfl | rfl | rfl | rfl | rfl <;> dsimp only <;> exact near2_lfb _ _) rfl
  have e1 : tot [z0, z1, z2, z3, z4, z5, z6, z7, z8, z9, z10, z11, z12, z13, z14, z15] = tot (bef [(z0, z0), (z4, lfb z4 (0)), (z1, z1), (z5, lfb z5 (-64)), (z2, z2), (z6, lfb z6 (-128)), (z3, z3), (z7, lfb z7 (-192)), (z8, z8), (z12, lfb z12 (0)), (z9, z9), (z13, lfb z13 (-64)), (z10, z10), (z14, lfb z14 (-128)), (z11, z11), (z15, lfb z15 (-192))]) := by
    simp only [bef, tot, List.map_cons, List.map_nil] <;> omega
  have e2 : tot (beh [(z0, z0), (z4, lfb z4 (0)), (z1, z1), (z5, lfb z5 (-64)), (z2, z2), (z6, lfb z6 (-128)), (z3, z3), (z7, lfb z7 (-192)), (z8, z8), (z12, lfb z12 (0)), (z9, z9), (z13, lfb z13 (-64)), (z10, z10), (z14, lfb z14 (-128)), (z11, z11), (z15, lfb z15 (-192))]) = tot (bef [(((lfb z4 (0)).1, z0.1), lfb ((lfb z4 (0)).1, z0.1) 64), (((lfb z4 (0)).2, z0.2), lfb ((lfb z4 (0)).2, z0.2) 64), (((lfb z5 (-64)).1, z1.1), lfb ((lfb z5 (-64)).1, z1.1) 64), (((lfb z5 (-64)).2, z1.2), lfb ((lfb z5 (-64)).2, z1.2) 64), (((lfb z6 (-128)).1, z2.1), lfb ((lfb z6 (-128)).1, z2.1) 64), (((lfb z6 (-128)).2, z2.2), lfb ((lfb z6 (-128)).2, z2.2) 64), (((lfb z7 (-192)).1, z3.1), lfb ((lfb z7 (-192)).1, z3.1) 64), (((lfb z7 (-192)).2, z3.2), lfb ((lfb z7 (-192)).2, z3.2) 64), (((lfb z12 (0)).1, z8.1), lfb ((lfb z12 (0)).1, z8.1) 64), (((lfb z12 (0)).2, z8.2), lfb ((lfb z12 (0)).2, z8.2) 64), (((lfb z13 (-64)).1, z9.1), lfb ((lfb z13 (-64)).1, z9.1) 64), (((lfb z13 (-64)).2, z9.2), lfb ((lfb z13 (-64)).2, z9.2) 64), (((lfb z14 (-128)).1, z10.1), lfb ((lfb z14 (-128)).1, z10.1) 64), (((lfb z14 (-128)).2, z10.2), lfb ((lfb z14 (-128)).2, z10.2) 64), (((lfb z15 (-192)).1, z11.1), lfb ((lfb z15 (-192)).1, z11.1) 64), (((lfb z15 (-192)).2, z11.2), lfb ((lfb z15 (-192)).2, z11.2) 64)]) := by
    simp only [bef, beh, tot, sq2, List.map_cons, List.map_nil] <;> omega
  have e3 : tot (beh [(((lfb z4 (0)).1, z0.1), lfb ((lfb z4 (0)).1, z0.1) 64), (((lfb z4 (0)).2, z0.2), lfb ((lfb z4 (0)).2, z0.2) 64), (((lfb z5 (-64)).1, z1.1), lfb ((lfb z5 (-64)).1, z1.1) 64), (((lfb z5 (-64)).2, z1.2), lfb ((lfb z5 (-64)).2, z1.2) 64), (((lfb z6 (-128)).1, z2.1), lfb ((lfb z6 (-128)).1, z2.1) 64), (((lfb z6 (-128)).2, z2.2), lfb ((lfb z6 (-128)).2, z2.2) 64), (((lfb z7 (-192)).1, z3.1), lfb ((lfb z7 (-192)).1, z3.1) 64), (((lfb z7 (-192)).2, z3.2), lfb ((lfb z7 (-192)).2, z3.2) 64), (((lfb z12 (0)).1, z8.1), lfb ((lfb z12 (0)).1, z8.1) 64), (((lfb z12 (0)).2, z8.2), lfb ((lfb z12 (0)).2, z8.2) 64), (((lfb z13 (-64)).1, z9.1), lfb ((lfb z13 (-64)).1, z9.1) 64), (((lfb z13 (-64)).2, z9.2), lfb ((lfb z13 (-64)).2, z9.2) 64), (((lfb z14 (-128)).1, z10.1), lfb ((lfb z14 (-128)).1, z10.1) 64), (((lfb z14 (-128)).2, z10.2), lfb ((lfb z14 (-128)).2, z10.2) 64), (((lfb z15 (-192)).1, z11.1), lfb ((lfb z15 (-192)).1, z11.1) 64), (((lfb z15 (-192)).2, z11.2), lfb ((lfb z15 (-192)).2, z11.2) 64)]) = tot [ubz z0 z4 (0), ubz z1 z5 (-64), ubz z2 z6 (-128), ubz z3 z7 (-192), ubw z0 z4 (0), ubw z1 z5 (-64), ubw z2 z6 (-128), ubw z3 z7 (-192), ubz z8 z12 (0), ubz z9 z13 (-64), ubz z10 z14 (-128), ubz z11 z15 (-192), ubw z8 z12 (0), ubw z9 z13 (-64), ubw z10 z14 (-128), ubw z11 z15 (-192)] := by
    simp only [beh, tot, sq2, ubz, ubw, List.map_cons, List.map_nil] <;> omega
  rw [e1, ← e3]
  rw [← e2] at h2
  exact ⟨_, h1, h2⟩
set_option maxRecDepth 100000 in
theorem rnd4 (F G : Int × Int → Int × Int → Int → Int × Int) (z0 z1 z2 z3 z4 z5 z6 z7 z8 z9 z10 z11 z12 z13 z14 z15 : Int × Int) : rnd F G [z0, z1, z2, z3, z4, z5, z6, z7, z8, z9, z10, z11, z12, z13, z14, z15] prs4 = [F z0 z2 (0), F z1 z3 (-128), G z0 z2 (0), G z1 z3 (-128), F z4 z6 (0), F z5 z7 (-128), G z4 z6 (0), G z5 z7 (-128), F z8 z10 (0), F z9 z11 (-128), G z8 z10 (0), G z9 z11 (-128), F z12 z14 (0), F z13 z15 (-128), G z12 z14 (0), G z13 z15 (-128)] := by kernel_rfl
theorem bfs4 (z0 z1 z2 z3 z4 z5 z6 z7 z8 z9 z10 z11 z12 z13 z14 z15 : Int × Int) : bfs [z0, z1, z2, z3, z4, z5, z6, z7, z8, z9, z10, z11, z12, z13, z14, z15] prs4 = [bfz z0 z2, bfz z1 z3, bfw z0 z2 (0), bfw z1 z3 (-128), bfz z4 z6, bfz z5 z7, bfw z4 z6 (0), bfw z5 z7 (-128), bfz z8 z10, bfz z9 z11, bfw z8 z10 (0), bfw z9 z11 (-128), bfz z12 z14, bfz z13 z15, bfw z12 z14 (0), bfw z13 z15 (-128)] := rnd4 (fun z w _ => bfz z w) bfw z0 z1 z2 z3 z4 z5 z6 z7 z8 z9 z10 z11 z12 z13 z14 z15
theorem ubs4 (z0 z1 z2 z3 z4 z5 z6 z7 z8 z9 z10 z11 z12 z13 z14 z15 : Int × Int) : ubs [z0, z1, z2, z3, z4, z5, z6, z7, z8, z9, z10, z11, z12, z13, z14, z15] prs4 = [ubz z0 z2 (0), ubz z1 z3 (-128), ubw z0 z2 (0), ubw z1 z3 (-128), ubz z4 z6 (0), ubz z5 z7 (-128), ubw z4 z6 (0), ubw z5 z7 (-128), ubz z8 z10 (0), ubz z9 z11 (-128), ubw z8 z10 (0), ubw z9 z11 (-128), ubz z12 z14 (0), ubz z13 z15 (-128), ubw z12 z14 (0), ubw z13 z15 (-128)] := rnd4 ubz ubw z0 z1 z2 z3 z4 z5 z6 z7 z8 z9 z10 z11 z12 z13 z14 z15
theorem ubs_bfs4 (l : List (Int × Int)) (h : l.length = 16) : ubs (bfs l prs4) prs4 = l := by
  obtain ⟨z0, z1, z2, z3, z4, z5, z6, z7, z8, z9, z10, z11, z12, z13, z14, z15, rfl⟩ := len16 l h
  rw [bfs4, ubs4]
  simp only [ubz_bf, ubw_bf]
theorem bfs_ubs4 (l : List (Int × Int)) (h : l.length = 16) : bfs (ubs l prs4) prs4 = l := by
  obtain ⟨z0, z1, z2, z3, z4, z5, z6, z7, z8, z9, z10, z11, z12, z13, z14, z15, rfl⟩ := len16 l h
  rw [ubs4, bfs4]
  simp only [bfz_ub, bfw_ub]
theorem bfs4_len (l : List (Int × Int)) (h : l.length = 16) : (bfs l prs4).length = 16 := by
  obtain ⟨z0, z1, z2, z3, z4, z5, z6, z7, z8, z9, z10, z11, z12, z13, z14, z15, rfl⟩ := len16 l h
  rw [bfs4]; rfl
theorem ubs4_len (l : List (Int × Int)) (h : l.length = 16) : (ubs l prs4).length = 16 := by
  obtain ⟨z0, z1, z2, z3, z4, z5, z6, z7, z8, z9, z10, z11, z12, z13, z14, z15, rfl⟩ := len16 l h
  rw [ubs4]; rfl
theorem step4 (l : List (Int × Int)) (h : l.length = 16) : ∃ S, Step (tot l) S ∧ Step S (tot (bfs l prs4)) := by
  obtain ⟨z0, z1, z2, z3, z4, z5, z6, z7, z8, z9, z10, z11, z12, z13, z14, z15, rfl⟩ := len16 l h
  rw [bfs4]
  have h1 := lay_step [((z0.1, z2.1), lft (z0.1, z2.1) 64), ((z0.2, z2.2), lft (z0.2, z2.2) 64), ((z1.1, z3.1), lft (z1.1, z3.1) 64), ((z1.2, z3.2), lft (z1.2, z3.2) 64), ((z4.1, z6.1), lft (z4.1, z6.1) 64), ((z4.2, z6.2), lft (z4.2, z6.2) 64), ((z5.1, z7.1), lft (z5.1, z7.1) 64), ((z5.2, z7.2), lft (z5.2, z7.2) 64), ((z8.1, z10.1), lft (z8.1, z10.1) 64), ((z8.2, z10.2), lft (z8.2, z10.2) 64), ((z9.1, z11.1), lft (z9.1, z11.1) 64), ((z9.2, z11.2), lft (z9.2, z11.2) 64), ((z12.1, z14.1), lft (z12.1, z14.1) 64), ((z12.2, z14.2), lft (z12.2, z14.2) 64), ((z13.1, z15.1), lft (z13.1, z15.1) 64), ((z13.2, z15.2), lft (z13.2, z15.2) 64)] (by
    intro p hp
    simp only [List.mem_cons, List.not_mem_nil, or_false] at hp
    rcases hp with rfl | rfl | rfl | rfl | rfl | rfl | rfl | rfl | rfl | rfl | rfl | rfl | rfl | rfl | rfl | rfl <;> dsimp only <;> exact near2_lft _ _) rfl
  have h2 := lay_step [(bfz z0 z2, bfz z0 z2), (((lft (z0.1, z2.1) 64).1, (lft (z0.2, z2.2) 64).1), bfw z0 z2 (0)), (bfz z1 z3, bfz z1 z3), (((lft (z1.1, z3.1) 64).1, (lft (z1.2, z3.2) 64).1), bfw z1 z3 (-128)), (bfz z4 z6, bfz z4 z6), (((lft (z4.1, z6.1) 64).1, (lft (z4.2, z6.2) 64).1), bfw z4 z6 (0)), (bfz z5 z7, bfz z5 z7), (((lft (z5.1, z7.1) 64).1, (lft (z5.2, z7.2) 64).1), bfw z5 z7 (-128)), (bfz z8 z10, bfz z8 z10), (((lft (z8.1, z10.1) 64).1, (lft (z8.2, z10.2) 64).1), bfw z8 z10 (0)), (bfz z9 z11, bfz z9 z11), (((lft (z9.1, z11.1) 64).1, (lft (z9.2, z11.2) 64).1), bfw z9 z11 (-128)), (bfz z12 z14, bfz z12 z14), (((lft (z12.1, z14.1) 64).1, (lft (z12.2, z14.2) 64).1), bfw z12 z14 (0)), (bfz z13 z15, bfz z13 z15), (((lft (z13.1, z15.1) 64).1, (lft (z13.2, z15.2) 64).1), bfw z13 z15 (-128))] (by
    intro p hp
    simp only [List.mem_cons, List.not_mem_nil, or_false] at hp
    rcases hp with rfl | rfl | rfl | rfl | rfl | rfl | rfl | rfl | rfl | rfl | rfl | rfl | rfl | rfl | rfl | rfl <;> dsimp only [bfw] <;> first | exact near2_self _ | exact near2_lft _ _) rfl
  have e1 : tot [z0, z1, z2, z3, z4, z5, z6, z7, z8, z9, z10, z11, z12, z13, z14, z15] = tot (bef [((z0.1, z2.1), lft (z0.1, z2.1) 64), ((z0.2, z2.2), lft (z0.2, z2.2) 64), ((z1.1, z3.1), lft (z1.1, z3.1) 64), ((z1.2, z3.2), lft (z1.2, z3.2) 64), ((z4.1, z6.1), lft (z4.1, z6.1) 64), ((z4.2, z6.2), lft (z4.2, z6.2) 64), ((z5.1, z7.1), lft (z5.1, z7.1) 64), ((z5.2, z7.2), lft (z5.2, z7.2) 64), ((z8.1, z10.1), lft (z8.1, z10.1) 64), ((z8.2, z10.2), lft (z8.2, z10.2) 64), ((z9.1, z11.1), lft (z9.1, z11.1) 64), ((z9.2, z11.2), lft (z9.2, z11.2) 64), ((z12.1, z14.1), lft (z12.1, z14.1) 64), ((z12.2, z14.2), lft (z12.2, z14.2) 64), ((z13.1, z15.1), lft (z13.1, z15.1) 64), ((z13.2, z15.2), lft (z13.2, z15.2) 64)]) := by
    simp only [bef, tot, sq2, List.map_cons, List.map_nil] <;> omega
  have e2 : tot (beh [((z0.1, z2.1), lft (z0.1, z2.1) 64), ((z0.2, z2.2), lft (z0.2, z2.2) 64), ((z1.1, z3.1), lft (z1.1, z3.1) 64), ((z1.2, z3.2), lft (z1.2, z3.2) 64), ((z4.1, z6.1), lft (z4.1, z6.1) 64), ((z4.2, z6.2), lft (z4.2, z6.2) 64), ((z5.1, z7.1), lft (z5.1, z7.1) 64), ((z5.2, z7.2), lft (z5.2, z7.2) 64), ((z8.1, z10.1), lft (z8.1, z10.1) 64), ((z8.2, z10.2), lft (z8.2, z10.2) 64), ((z9.1, z11.1), lft (z9.1, z11.1) 64), ((z9.2, z11.2), lft (z9.2, z11.2) 64), ((z12.1, z14.1), lft (z12.1, z14.1) 64), ((z12.2, z14.2), lft (z12.2, z14.2) 64), ((z13.1, z15.1), lft (z13.1, z15.1) 64), ((z13.2, z15.2), lft (z13.2, z15.2) 64)]) = tot (bef [(bfz z0 z2, bfz z0 z2), (((lft (z0.1, z2.1) 64).1, (lft (z0.2, z2.2) 64).1), bfw z0 z2 (0)), (bfz z1 z3, bfz z1 z3), (((lft (z1.1, z3.1) 64).1, (lft (z1.2, z3.2) 64).1), bfw z1 z3 (-128)), (bfz z4 z6, bfz z4 z6), (((lft (z4.1, z6.1) 64).1, (lft (z4.2, z6.2) 64).1), bfw z4 z6 (0)), (bfz z5 z7, bfz z5 z7), (((lft (z5.1, z7.1) 64).1, (lft (z5.2, z7.2) 64).1), bfw z5 z7 (-128)), (bfz z8 z10, bfz z8 z10), (((lft (z8.1, z10.1) 64).1, (lft (z8.2, z10.2) 64).1), bfw z8 z10 (0)), (bfz z9 z11, bfz z9 z11), (((lft (z9.1, z11.1) 64).1, (lft (z9.2, z11.2) 64).1), bfw z9 z11 (-128)), (bfz z12 z14, bfz z12 z14), (((lft (z12.1, z14.1) 64).1, (lft (z12.2, z14.2) 64).1), bfw z12 z14 (0)), (bfz z13 z15, bfz z13 z15), (((lft (z13.1, z15.1) 64).1, (lft (z13.2, z15.2) 64).1), bfw z13 z15 (-128))]) := by
    simp only [bef, beh, tot, sq2, bfz, List.map_cons, List.map_nil] <;> omega
  have e3 : tot (beh [(bfz z0 z2, bfz z0 z2), (((lft (z0.1, z2.1) 64).1, (lft (z0.2, z2.2) 64).1), bfw z0 z2 (0)), (bfz z1 z3, bfz z1 z3), (((lft (z1.1, z3.1) 64).1, (lft (z1.2, z3.2) 64).1), bfw z1 z3 (-128)), (bfz z4 z6, bfz z4 z6), (((lft (z4.1, z6.1) 64).1, (lft (z4.2, z6.2) 64).1), bfw z4 z6 (0)), (bfz z5 z7, bfz z5 z7), (((lft (z5.1, z7.1) 64).1, (lft (z5.2, z7.2) 64).1), bfw z5 z7 (-128)), (bfz z8 z10, bfz z8 z10), (((lft (z8.1, z10.1) 64).1, (lft (z8.2, z10.2) 64).1), bfw z8 z10 (0)), (bfz z9 z11, bfz z9 z11), (((lft (z9.1, z11.1) 64).1, (lft (z9.2, z11.2) 64).1), bfw z9 z11 (-128)), (bfz z12 z14, bfz z12 z14), (((lft (z12.1, z14.1) 64).1, (lft (z12.2, z14.2) 64).1), bfw z12 z14 (0)), (bfz z13 z15, bfz z13 z15), (((lft (z13.1, z15.1) 64).1, (lft (z13.2, z15.2) 64).1), bfw z13 z15 (-128))]) = tot [bfz z0 z2, bfz z1 z3, bfw z0 z2 (0), bfw z1 z3 (-128), bfz z4 z6, bfz z5 z7, bfw z4 z6 (0), bfw z5 z7 (-128), bfz z8 z10, bfz z9 z11, bfw z8 z10 (0), bfw z9 z11 (-128), bfz z12 z14, bfz z13 z15, bfw z12 z14 (0), bfw z13 z15 (-128)] := by
    simp only [beh, tot, List.map_cons, List.map_nil] <;> omega
  rw [e1, ← e3]
  rw [← e2] at h2
  exact ⟨_, h1, h2⟩
theorem stepU4 (l : List (Int × Int)) (h : l.length = 16) : ∃ S, Step (tot l) S ∧ Step S (tot (ubs l prs4)) := by
  obtain ⟨z0, z1, z2, z3, z4, z5, z6, z7, z8, z9, z10, z11, z12, z13, z14, z15, rfl⟩ := len16 l h
  rw [ubs4]
  have h1 := lay_step [(z0, z0), (z2, lfb z2 (0)), (z1, z1), (z3, lfb z3 (-128)), (z4, z4), (z6, lfb z6 (0)), (z5, z5), (z7, lfb z7 (-128)), (z8, z8), (z10, lfb z10 (0)), (z9, z9), (z11, lfb z11 (-128)), (z12, z12), (z14, lfb z14 (0)), (z13, z13), (z15, lfb z15 (-128))] (by
    intro p hp
    simp only [List.mem_cons, List.not_mem_nil, or_false] at hp
    rcases hp with rfl | rfl | rfl | rfl | rfl | rfl | rfl | rfl | rfl | rfl | rfl | rfl | rfl | rfl | rfl | rfl <;> dsimp only <;> first | exact near2_self _ | exact near2_lfb _ _) rfl
  have h2 := lay_step [(((lfb z2 (0)).1, z0.1), lfb ((lfb z2 (0)).1, z0.1) 64), (((lfb z2 (0)).2, z0.2), lfb ((lfb z2 (0)).2, z0.2) 64), (((lfb z3 (-128)).1, z1.1), lfb ((lfb z3 (-128)).1, z1.1) 64), (((lfb z3 (-128)).2, z1.2), lfb ((lfb z3 (-128)).2, z1.2) 64), (((lfb z6 (0)).1, z4.1), lfb ((lfb z6 (0)).1, z4.1) 64), (((lfb z6 (0)).2, z4.2), lfb ((lfb z6 (0)).2, z4.2) 64), (((lfb z7 (-128)).1, z5.1), lfb ((lfb z7 (-128)).1, z5.1) 64), (((lfb z7 (-128)).2, z5.2), lfb ((lfb z7 (-128)).2, z5.2) 64), (((lfb z10 (0)).1, z8.1), lfb ((lfb z10 (0)).1, z8.1) 64), (((lfb z10 (0)).2, z8.2), lfb ((lfb z10 (0)).2, z8.2) 64), (((lfb z11 (-128)).1, z9.1), lfb ((lfb z11 (-128)).1, z9.1) 64), (((lfb z11 (-128)).2, z9.2), lfb ((lfb z11 (-128)).2, z9.2) 64), (((lfb z14 (0)).1, z12.1), lfb ((lfb z14 (0)).1, z12.1) 64), (((lfb z14 (0)).2, z12.2), lfb ((lfb z14 (0)).2, z12.2) 64), (((lfb z15 (-128)).1, z13.1), lfb ((lfb z15 (-128)).1, z13.1) 64), (((lfb z15 (-128)).2, z13.2), lfb ((lfb z15 (-128)).2, z13.2) 64)] (by
    intro p hp
    simp only [List.mem_cons, List.not_mem_nil, or_false] at hp
    rcases hp with rfl | rfl | rfl | rfl | rfl | rfl | rfl | rfl | rfl | rfl | rfl | rfl | rfl | rfl | rfl | rfl <;> dsimp only <;> exact near2_lfb _ _) rfl
  have e1 : tot [z0, z1, z2, z3, z4, z5, z6, z7, z8, z9, z10, z11, z12, z13, z14, z15] = tot (bef [(z0, z0), (z2, lfb z2 (0)), (z1, z1), (z3, lfb z3 (-128)), (z4, z4), (z6, lfb z6 (0)), (z5, z5), (z7, lfb z7 (-128)), (z8, z8), (z10, lfb z10 (0)), (z9, z9), (z11, lfb z11 (-128)), (z12, z12), (z14, lfb z14 (0)), (z13, z13), (z15, lfb z15 (-128))]) := by
    simp only [bef, tot, List.map_cons, List.map_nil] <;> omega
  have e2 : tot (beh [(z0, z0), (z2, lfb z2 (0)), (z1, z1), (z3, lfb z3 (-128)), (z4, z4), (z6, lfb z6 (0)), (z5, z5), (z7, lfb z7 (-128)), (z8, z8), (z10, lfb z10 (0)), (z9, z9), (z11, lfb z11 (-128)), (z12, z12), (z14, lfb z14 (0)), (z13, z13), (z15, lfb z15 (-128))]) = tot (bef [(((lfb z2 (0)).1, z0.1), lfb ((lfb z2 (0)).1, z0.1) 64), (((lfb z2 (0)).2, z0.2), lfb ((lfb z2 (0)).2, z0.2) 64), (((lfb z3 (-128)).1, z1.1), lfb ((lfb z3 (-128)).1, z1.1) 64), (((lfb z3 (-128)).2, z1.2), lfb ((lfb z3 (-128)).2, z1.2) 64), (((lfb z6 (0)).1, z4.1), lfb ((lfb z6 (0)).1, z4.1) 64), (((lfb z6 (0)).2, z4.2), lfb ((lfb z6 (0)).2, z4.2) 64), (((lfb z7 (-128)).1, z5.1), lfb ((lfb z7 (-128)).1, z5.1) 64), (((lfb z7 (-128)).2, z5.2), lfb ((lfb z7 (-128)).2, z5.2) 64), (((lfb z10 (0)).1, z8.1), lfb ((lfb z10 (0)).1, z8.1) 64), (((lfb z10 (0)).2, z8.2), lfb ((lfb z10 (0)).2, z8.2) 64), (((lfb z11 (-128)).1, z9.1), lfb ((lfb z11 (-128)).1, z9.1) 64), (((lfb z11 (-128)).2, z9.2), lfb ((lfb z11 (-128)).2, z9.2) 64), (((lfb z14 (0)).1, z12.1), lfb ((lfb z14 (0)).1, z12.1) 64), (((lfb z14 (0)).2, z12.2), lfb ((lfb z14 (0)).2, z12.2) 64), (((lfb z15 (-128)).1, z13.1), lfb ((lfb z15 (-128)).1, z13.1) 64), (((lfb z15 (-128)).2, z13.2), lfb ((lfb z15 (-128)).2, z13.2) 64)]) := by
    simp only [bef, beh, tot, sq2, List.map_cons, List.map_nil] <;> omega
  have e3 : tot (beh [(((lfb z2 (0)).1, z0.1), lfb ((lfb z2 (0)).1, z0.1) 64), (((lfb z2 (0)).2, z0.2), lfb ((lfb z2 (0)).2, z0.2) 64), (((lfb z3 (-128)).1, z1.1), lfb ((lfb z3 (-128)).1, z1.1) 64), (((lfb z3 (-128)).2, z1.2), lfb ((lfb z3 (-128)).2, z1.2) 64), (((lfb z6 (0)).1, z4.1), lfb ((lfb z6 (0)).1, z4.1) 64), (((lfb z6 (0)).2, z4.2), lfb ((lfb z6 (0)).2, z4.2) 64), (((lfb z7 (-128)).1, z5.1), lfb ((lfb z7 (-128)).1, z5.1) 64), (((lfb z7 (-128)).2, z5.2), lfb ((lfb z7 (-128)).2, z5.2) 64), (((lfb z10 (0)).1, z8.1), lfb ((lfb z10 (0)).1, z8.1) 64), (((lfb z10 (0)).2, z8.2), lfb ((lfb z10 (0)).2, z8.2) 64), (((lfb z11 (-128)).1, z9.1), lfb ((lfb z11 (-128)).1, z9.1) 64), (((lfb z11 (-128)).2, z9.2), lfb ((lfb z11 (-128)).2, z9.2) 64), (((lfb z14 (0)).1, z12.1), lfb ((lfb z14 (0)).1, z12.1) 64), (((lfb z14 (0)).2, z12.2), lfb ((lfb z14 (0)).2, z12.2) 64), (((lfb z15 (-128)).1, z13.1), lfb ((lfb z15 (-128)).1, z13.1) 64), (((lfb z15 (-128)).2, z13.2), lfb ((lfb z15 (-128)).2, z13.2) 64)]) = tot [ubz z0 z2 (0), ubz z1 z3 (-128), ubw z0 z2 (0), ubw z1 z3 (-128), ubz z4 z6 (0), ubz z5 z7 (-128), ubw z4 z6 (0), ubw z5 z7 (-128), ubz z8 z10 (0), ubz z9 z11 (-128), ubw z8 z10 (0), ubw z9 z11 (-128), ubz z12 z14 (0), ubz z13 z15 (-128), ubw z12 z14 (0), ubw z13 z15 (-128)] := by
    simp only [beh, tot, sq2, ubz, ubw, List.map_cons, List.map_nil] <;> omega
  rw [e1, ← e3]
  rw [← e2] at h2
  exact ⟨_, h1, h2⟩
set_option maxRecDepth 100000 in
theorem rnd2 (F G : Int × Int → Int × Int → Int → Int × Int) (z0 z1 z2 z3 z4 z5 z6 z7 z8 z9 z10 z11 z12 z13 z14 z15 : Int × Int) : rnd F G [z0, z1, z2, z3, z4, z5, z6, z7, z8, z9, z10, z11, z12, z13, z14, z15] prs2 = [F z0 z1 (0), G z0 z1 (0), F z2 z3 (0), G z2 z3 (0), F z4 z5 (0), G z4 z5 (0), F z6 z7 (0), G z6 z7 (0), F z8 z9 (0), G z8 z9 (0), F z10 z11 (0), G z10 z11 (0), F z12 z13 (0), G z12 z13 (0), F z14 z15 (0), G z14 z15 (0)] := by kernel_rfl
theorem bfs2 (z0 z1 z2 z3 z4 z5 z6 z7 z8 z9 z10 z11 z12 z13 z14 z15 : Int × Int) : bfs [z0, z1, z2, z3, z4, z5, z6, z7, z8, z9, z10, z11, z12, z13, z14, z15] prs2 = [bfz z0 z1, bfw z0 z1 (0), bfz z2 z3, bfw z2 z3 (0), bfz z4 z5, bfw z4 z5 (0), bfz z6 z7, bfw z6 z7 (0), bfz z8 z9, bfw z8 z9 (0), bfz z10 z11, bfw z10 z11 (0), bfz z12 z13, bfw z12 z13 (0), bfz z14 z15, bfw z14 z15 (0)] := rnd2 (fun z w _ => bfz z w) bfw z0 z1 z2 z3 z4 z5 z6 z7 z8 z9 z10 z11 z12 z13 z14 z15
theorem ubs2 (z0 z1 z2 z3 z4 z5 z6 z7 z8 z9 z10 z11 z12 z13 z14 z15 : Int × Int) : ubs [z0, z1, z2, z3, z4, z5, z6, z7, z8, z9, z10, z11, z12, z13, z14, z15] prs2 = [ubz z0 z1 (0), ubw z0 z1 (0), ubz z2 z3 (0), ubw z2 z3 (0), ubz z4 z5 (0), ubw z4 z5 (0), ubz z6 z7 (0), ubw z6 z7 (0), ubz z8 z9 (0), ubw z8 z9 (0), ubz z10 z11 (0), ubw z10 z11 (0), ubz z12 z13 (0), ubw z12 z13 (0), ubz z14 z15 (0), ubw z14 z15 (0)] := rnd2 ubz ubw z0 z1 z2 z3 z4 z5 z6 z7 z8 z9 z10 z11 z12 z13 z14 z15
theorem ubs_bfs2 (l : List (Int × Int)) (h : l.length = 16) : ubs (bfs l prs2) prs2 = l := by
  obtain ⟨z0, z1, z2, z3, z4, z5, z6, z7, z8, z9, z10, z11, z12, z13, z14, z15, rfl⟩ := len16 l h
  rw [bfs2, ubs2]
  simp only [ubz_bf, ubw_bf]
theorem bfs_ubs2 (l : List (Int × Int)) (h : l.length = 16) : bfs (ubs l prs2) prs2 = l := by
  obtain ⟨z0, z1, z2, z3, z4, z5, z6, z7, z8, z9, z10, z11, z12, z13, z14, z15, rfl⟩ := len16 l h
  rw [ubs2, bfs2]
  simp only [bfz_ub, bfw_ub]
theorem bfs2_len (l : List (Int × Int)) (h : l.length = 16) : (bfs l prs2).length = 16 := by
  obtain ⟨z0, z1, z2, z3, z4, z5, z6, z7, z8, z9, z10, z11, z12, z13, z14, z15, rfl⟩ := len16 l h
  rw [bfs2]; rfl
theorem ubs2_len (l : List (Int × Int)) (h : l.length = 16) : (ubs l prs2).length = 16 := by
  obtain ⟨z0, z1, z2, z3, z4, z5, z6, z7, z8, z9, z10, z11, z12, z13, z14, z15, rfl⟩ := len16 l h
  rw [ubs2]; rfl
theorem step2 (l : List (Int × Int)) (h : l.length = 16) : ∃ S, Step (tot l) S ∧ Step S (tot (bfs l prs2)) := by
  obtain ⟨z0, z1, z2, z3, z4, z5, z6, z7, z8, z9, z10, z11, z12, z13, z14, z15, rfl⟩ := len16 l h
  rw [bfs2]
  have h1 := lay_step [((z0.1, z1.1), lft (z0.1, z1.1) 64), ((z0.2, z1.2), lft (z0.2, z1.2) 64), ((z2.1, z3.1), lft (z2.1, z3.1) 64), ((z2.2, z3.2), lft (z2.2, z3.2) 64), ((z4.1, z5.1), lft (z4.1, z5.1) 64), ((z4.2, z5.2), lft (z4.2, z5.2) 64), ((z6.1, z7.1), lft (z6.1, z7.1) 64), ((z6.2, z7.2), lft (z6.2, z7.2) 64), ((z8.1, z9.1), lft (z8.1, z9.1) 64), ((z8.2, z9.2), lft (z8.2, z9.2) 64), ((z10.1, z11.1), lft (z10.1, z11.1) 64), ((z10.2, z11.2), lft (z10.2, z11.2) 64), ((z12.1, z13.1), lft (z12.1, z13.1) 64), ((z12.2, z13.2), lft (z12.2, z13.2) 64), ((z14.1, z15.1), lft (z14.1, z15.1) 64), ((z14.2, z15.2), lft (z14.2, z15.2) 64)] (by
    intro p hp
    simp only [List.mem_cons, List.not_mem_nil, or_false] at hp
    rcases hp with rfl | rfl | rfl | rfl | rfl | rfl | rfl | rfl | rfl | rfl | rfl | rfl | rfl | rfl | rfl | rfl <;> dsimp only <;> exact near2_lft _ _) rfl
  have h2 := lay_step [(bfz z0 z1, bfz z0 z1), (((lft (z0.1, z1.1) 64).1, (lft (z0.2, z1.2) 64).1), bfw z0 z1 (0)), (bfz z2 z3, bfz z2 z3), (((lft (z2.1, z3.1) 64).1, (lft (z2.2, z3.2) 64).1), bfw z2 z3 (0)), (bfz z4 z5, bfz z4 z5), (((lft (z4.1, z5.1) 64).1, (lft (z4.2, z5.2) 64).1), bfw z4 z5 (0)), (bfz z6 z7, bfz z6 z7), (((lft (z6.1, z7.1) 64).1, (lft (z6.2, z7.2) 64).1), bfw z6 z7 (0)), (bfz z8 z9, bfz z8 z9), (((lft (z8.1, z9.1) 64).1, (lft (z8.2, z9.2) 64).1), bfw z8 z9 (0)), (bfz z10 z11, bfz z10 z11), (((lft (z10.1, z11.1) 64).1, (lft (z10.2, z11.2) 64).1), bfw z10 z11 (0)), (bfz z12 z13, bfz z12 z13), (((lft (z12.1, z13.1) 64).1, (lft (z12.2, z13.2) 64).1), bfw z12 z13 (0)), (bfz z14 z15, bfz z14 z15), (((lft (z14.1, z15.1) 64).1, (lft (z14.2, z15.2) 64).1), bfw z14 z15 (0))] (by
    intro p hp
    simp only [List.mem_cons, List.not_mem_nil, or_false] at hp
    rcases hp with rfl | rfl | rfl | rfl | rfl | rfl | rfl | rfl | rfl | rfl | rfl | rfl | rfl | rfl | rfl | rfl <;> dsimp only [bfw] <;> first | exact near2_self _ | exact near2_lft _ _) rfl
  have e1 : tot [z0, z1, z2, z3, z4, z5, z6, z7, z8, z9, z10, z11, z12, z13, z14, z15] = tot (bef [((z0.1, z1.1), lft (z0.1, z1.1) 64), ((z0.2, z1.2), lft (z0.2, z1.2) 64), ((z2.1, z3.1), lft (z2.1, z3.1) 64), ((z2.2, z3.2), lft (z2.2, z3.2) 64), ((z4.1, z5.1), lft (z4.1, z5.1) 64), ((z4.2, z5.2), lft (z4.2, z5.2) 64), ((z6.1, z7.1), lft (z6.1, z7.1) 64), ((z6.2, z7.2), lft (z6.2, z7.2) 64), ((z8.1, z9.1), lft (z8.1, z9.1) 64), ((z8.2, z9.2), lft (z8.2, z9.2) 64), ((z10.1, z11.1), lft (z10.1, z11.1) 64), ((z10.2, z11.2), lft (z10.2, z11.2) 64), ((z12.1, z13.1), lft (z12.1, z13.1) 64), ((z12.2, z13.2), lft (z12.2, z13.2) 64), ((z14.1, z15.1), lft (z14.1, z15.1) 64), ((z14.2, z15.2), lft (z14.2, z15.2) 64)]) := by
    simp only [bef, tot, sq2, List.map_cons, List.map_nil] <;> omega
  have e2 : tot (beh [((z0.1, z1.1), lft (z0.1, z1.1) 64), ((z0.2, z1.2), lft (z0.2, z1.2) 64), ((z2.1, z3.1), lft (z2.1, z3.1) 64), ((z2.2, z3.2), lft (z2.2, z3.2) 64), ((z4.1, z5.1), lft (z4.1, z5.1) 64), ((z4.2, z5.2), lft (z4.2, z5.2) 64), ((z6.1, z7.1), lft (z6.1, z7.1) 64), ((z6.2, z7.2), lft (z6.2, z7.2) 64), ((z8.1, z9.1), lft (z8.1, z9.1) 64), ((z8.2, z9.2), lft (z8.2, z9.2) 64), ((z10.1, z11.1), lft (z10.1, z11.1) 64), ((z10.2, z11.2), lft (z10.2, z11.2) 64), ((z12.1, z13.1), lft (z12.1, z13.1) 64), ((z12.2, z13.2), lft (z12.2, z13.2) 64), ((z14.1, z15.1), lft (z14.1, z15.1) 64), ((z14.2, z15.2), lft (z14.2, z15.2) 64)]) = tot (bef [(bfz z0 z1, bfz z0 z1), (((lft (z0.1, z1.1) 64).1, (lft (z0.2, z1.2) 64).1), bfw z0 z1 (0)), (bfz z2 z3, bfz z2 z3), (((lft (z2.1, z3.1) 64).1, (lft (z2.2, z3.2) 64).1), bfw z2 z3 (0)), (bfz z4 z5, bfz z4 z5), (((lft (z4.1, z5.1) 64).1, (lft (z4.2, z5.2) 64).1), bfw z4 z5 (0)), (bfz z6 z7, bfz z6 z7), (((lft (z6.1, z7.1) 64).1, (lft (z6.2, z7.2) 64).1), bfw z6 z7 (0)), (bfz z8 z9, bfz z8 z9), (((lft (z8.1, z9.1) 64).1, (lft (z8.2, z9.2) 64).1), bfw z8 z9 (0)), (bfz z10 z11, bfz z10 z11), (((lft (z10.1, z11.1) 64).1, (lft (z10.2, z11.2) 64).1), bfw z10 z11 (0)), (bfz z12 z13, bfz z12 z13), (((lft (z12.1, z13.1) 64).1, (lft (z12.2, z13.2) 64).1), bfw z12 z13 (0)), (bfz z14 z15, bfz z14 z15), (((lft (z14.1, z15.1) 64).1, (lft (z14.2, z15.2) 64).1), bfw z14 z15 (0))]) := by
    simp only [bef, beh, tot, sq2, bfz, List.map_cons, List.map_nil] <;> omega
  have e3 : tot (beh [(bfz z0 z1, bfz z0 z1), (((lft (z0.1, z1.1) 64).1, (lft (z0.2, z1.2) 64).1), bfw z0 z1 (0)), (bfz z2 z3, bfz z2 z3), (((lft (z2.1, z3.1) 64).1, (lft (z2.2, z3.2) 64).1), bfw z2 z3 (0)), (bfz z4 z5, bfz z4 z5), (((lft (z4.1, z5.1) 64).1, (lft (z4.2, z5.2) 64).1), bfw z4 z5 (0)), (bfz z6 z7, bfz z6 z7), (((lft (z6.1, z7.1) 64).1, (lft (z6.2, z7.2) 64).1), bfw z6 z7 (0)), (bfz z8 z9, bfz z8 z9), (((lft (z8.1, z9.1) 64).1, (lft (z8.2, z9.2) 64).1), bfw z8 z9 (0)), (bfz z10 z11, bfz z10 z11), (((lft (z10.1, z11.1) 64).1, (lft (z10.2, z11.2) 64).1), bfw z10 z11 (0)), (bfz z12 z13, bfz z12 z13), (((lft (z12.1, z13.1) 64).1, (lft (z12.2, z13.2) 64).1), bfw z12 z13 (0)), (bfz z14 z15, bfz z14 z15), (((lft (z14.1, z15.1) 64).1, (lft (z14.2, z15.2) 64).1), bfw z14 z15 (0))]) = tot [bfz z0 z1, bfw z0 z1 (0), bfz z2 z3, bfw z2 z3 (0), bfz z4 z5, bfw z4 z5 (0), bfz z6 z7, bfw z6 z7 (0), bfz z8 z9, bfw z8 z9 (0), bfz z10 z11, bfw z10 z11 (0), bfz z12 z13, bfw z12 z13 (0), bfz z14 z15, bfw z14 z15 (0)] := by
    simp only [beh, tot, List.map_cons, List.map_nil] <;> omega
  rw [e1, ← e3]
  rw [← e2] at h2
  exact ⟨_, h1, h2⟩
theorem stepU2 (l : List (Int × Int)) (h : l.length = 16) : ∃ S, Step (tot l) S ∧ Step S (tot (ubs l prs2)) := by
  obtain ⟨z0, z1, z2, z3, z4, z5, z6, z7, z8, z9, z10, z11, z12, z13, z14, z15, rfl⟩ := len16 l h
  rw [ubs2]
  have h1 := lay_step [(z0, z0), (z1, lfb z1 (0)), (z2, z2), (z3, lfb z3 (0)), (z4, z4), (z5, lfb z5 (0)), (z6, z6), (z7, lfb z7 (0)), (z8, z8), (z9, lfb z9 (0)), (z10, z10), (z11, lfb z11 (0)), (z12, z12), (z13, lfb z13 (0)), (z14, z14), (z15, lfb z15 (0))] (by
    intro p hp
    simp only [List.mem_cons, List.not_mem_nil, or_false] at hp
    rcases hp with rfl | rfl | rfl | rfl | rfl | rfl | rfl | rfl | rfl | rfl | rfl | rfl | rfl | rfl | rfl | rfl <;> dsimp only <;> first | exact near2_self _ | exact near2_lfb _ _) rfl
  have h2 := lay_step [(((lfb z1 (0)).1, z0.1), lfb ((lfb z1 (0)).1, z0.1) 64), (((lfb z1 (0)).2, z0.2), lfb ((lfb z1 (0)).2, z0.2) 64), (((lfb z3 (0)).1, z2.1), lfb ((lfb z3 (0)).1, z2.1) 64), (((lfb z3 (0)).2, z2.2), lfb ((lfb z3 (0)).2, z2.2) 64), (((lfb z5 (0)).1, z4.1), lfb ((lfb z5 (0)).1, z4.1) 64), (((lfb z5 (0)).2, z4.2), lfb ((lfb z5 (0)).2, z4.2) 64), (((lfb z7 (0)).1, z6.1), lfb ((lfb z7 (0)).1, z6.1) 64), (((lfb z7 (0)).2, z6.2), lfb ((lfb z7 (0)).2, z6.2) 64), (((lfb z9 (0)).1, z8.1), lfb ((lfb z9 (0)).1, z8.1) 64), (((lfb z9 (0)).2, z8.2), lfb ((lfb z9 (0)).2, z8.2) 64), (((lfb z11 (0)).1, z10.1), lfb ((lfb z11 (0)).1, z10.1) 64), (((lfb z11 (0)).2, z10.2), lfb ((lfb z11 (0)).2, z10.2) 64), (((lfb z13 (0)).1, z12.1), lfb ((lfb z13 (0)).1, z12.1) 64), (((lfb z13 (0)).2, z12.2), lfb ((lfb z13 (0)).2, z12.2) 64), (((lfb z15 (0)).1, z14.1), lfb ((lfb z15 (0)).1, z14.1) 64), (((lfb z15 (0)).2, z14.2), lfb ((lfb z15 (0)).2, z14.2) 64)] (by
    intro p hp
    simp only [List.mem_cons, List.not_mem_nil, or_false] at hp
    rcases hp with rfl | rfl | rfl | rfl | rfl | rfl | rfl | rfl | rfl | rfl | rfl | rfl | rfl | rfl | rfl | rfl <;> dsimp only <;> exact near2_lfb _ _) rfl
  have e1 : tot [z0, z1, z2, z3, z4, z5, z6, z7, z8, z9, z10, z11, z12, z13, z14, z15] = tot (bef [(z0, z0), (z1, lfb z1 (0)), (z2, z2), (z3, lfb z3 (0)), (z4, z4), (z5, lfb z5 (0)), (z6, z6), (z7, lfb z7 (0)), (z8, z8), (z9, lfb z9 (0)), (z10, z10), (z11, lfb z11 (0)), (z12, z12), (z13, lfb z13 (0)), (z14, z14), (z15, lfb z15 (0))]) := by
    simp only [bef, tot, List.map_cons, List.map_nil] <;> omega
  have e2 : tot (beh [(z0, z0), (z1, lfb z1 (0)), (z2, z2), (z3, lfb z3 (0)), (z4, z4), (z5, lfb z5 (0)), (z6, z6), (z7, lfb z7 (0)), (z8, z8), (z9, lfb z9 (0)), (z10, z10), (z11, lfb z11 (0)), (z12, z12), (z13, lfb z13 (0)), (z14, z14), (z15, lfb z15 (0))]) = tot (bef [(((lfb z1 (0)).1, z0.1), lfb ((lfb z1 (0)).1, z0.1) 64), (((lfb z1 (0)).2, z0.2), lfb ((lfb z1 (0)).2, z0.2) 64), (((lfb z3 (0)).1, z2.1), lfb ((lfb z3 (0)).1, z2.1) 64), (((lfb z3 (0)).2, z2.2), lfb ((lfb z3 (0)).2, z2.2) 64), (((lfb z5 (0)).1, z4.1), lfb ((lfb z5 (0)).1, z4.1) 64), (((lfb z5 (0)).2, z4.2), lfb ((lfb z5 (0)).2, z4.2) 64), (((lfb z7 (0)).1, z6.1), lfb ((lfb z7 (0)).1, z6.1) 64), (((lfb z7 (0)).2, z6.2), lfb ((lfb z7 (0)).2, z6.2) 64), (((lfb z9 (0)).1, z8.1), lfb ((lfb z9 (0)).1, z8.1) 64), (((lfb z9 (0)).2, z8.2), lfb ((lfb z9 (0)).2, z8.2) 64), (((lfb z11 (0)).1, z10.1), lfb ((lfb z11 (0)).1, z10.1) 64), (((lfb z11 (0)).2, z10.2), lfb ((lfb z11 (0)).2, z10.2) 64), (((lfb z13 (0)).1, z12.1), lfb ((lfb z13 (0)).1, z12.1) 64), (((lfb z13 (0)).2, z12.2), lfb ((lfb z13 (0)).2, z12.2) 64), (((lfb z15 (0)).1, z14.1), lfb ((lfb z15 (0)).1, z14.1) 64), (((lfb z15 (0)).2, z14.2), lfb ((lfb z15 (0)).2, z14.2) 64)]) := by
    simp only [bef, beh, tot, sq2, List.map_cons, List.map_nil] <;> omega
  have e3 : tot (beh [(((lfb z1 (0)).1, z0.1), lfb ((lfb z1 (0)).1, z0.1) 64), (((lfb z1 (0)).2, z0.2), lfb ((lfb z1 (0)).2, z0.2) 64), (((lfb z3 (0)).1, z2.1), lfb ((lfb z3 (0)).1, z2.1) 64), (((lfb z3 (0)).2, z2.2), lfb ((lfb z3 (0)).2, z2.2) 64), (((lfb z5 (0)).1, z4.1), lfb ((lfb z5 (0)).1, z4.1) 64), (((lfb z5 (0)).2, z4.2), lfb ((lfb z5 (0)).2, z4.2) 64), (((lfb z7 (0)).1, z6.1), lfb ((lfb z7 (0)).1, z6.1) 64), (((lfb z7 (0)).2, z6.2), lfb ((lfb z7 (0)).2, z6.2) 64), (((lfb z9 (0)).1, z8.1), lfb ((lfb z9 (0)).1, z8.1) 64), (((lfb z9 (0)).2, z8.2), lfb ((lfb z9 (0)).2, z8.2) 64), (((lfb z11 (0)).1, z10.1), lfb ((lfb z11 (0)).1, z10.1) 64), (((lfb z11 (0)).2, z10.2), lfb ((lfb z11 (0)).2, z10.2) 64), (((lfb z13 (0)).1, z12.1), lfb ((lfb z13 (0)).1, z12.1) 64), (((lfb z13 (0)).2, z12.2), lfb ((lfb z13 (0)).2, z12.2) 64), (((lfb z15 (0)).1, z14.1), lfb ((lfb z15 (0)).1, z14.1) 64), (((lfb z15 (0)).2, z14.2), lfb ((lfb z15 (0)).2, z14.2) 64)]) = tot [ubz z0 z1 (0), ubw z0 z1 (0), ubz z2 z3 (0), ubw z2 z3 (0), ubz z4 z5 (0), ubw z4 z5 (0), ubz z6 z7 (0), ubw z6 z7 (0), ubz z8 z9 (0), ubw z8 z9 (0), ubz z10 z11 (0), ubw z10 z11 (0), ubz z12 z13 (0), ubw z12 z13 (0), ubz z14 z15 (0), ubw z14 z15 (0)] := by
    simp only [beh, tot, sq2, ubz, ubw, List.map_cons, List.map_nil] <;> omega
  rw [e1, ← e3]
  rw [← e2] at h2
  exact ⟨_, h1, h2⟩
/-- From a frame to a wheel, and from the wheel to waves. -/
def ptsH (H : Int × Int → Int → Int × Int) (f : List Int) : List (Int × Int) := (List.range 16).map fun n => H (f.getD (2 * n) 0, f.getD (31 - 2 * n) 0) (-(8 * (n : Int) + 2))
def pts (f : List Int) : List (Int × Int) := ptsH lft f
def flp (k : Nat) : Nat := k % 2 * 8 + k / 2 % 2 * 4 + k / 4 % 2 * 2 + k / 8 % 2
def outpH (H : Int × Int → Int → Int × Int) (l : List (Int × Int)) : List Int := (List.range 32).map fun i =>
  if i % 2 = 0 then (H (l.getD (flp (i / 2)) (0, 0)) (-(8 * ((i / 2 : Nat) : Int) + 2))).1 else -(H (l.getD (flp ((31 - i) / 2)) (0, 0)) (-(8 * (((31 - i) / 2 : Nat) : Int) + 2))).2
def outp (l : List (Int × Int)) : List Int := outpH lft l
/-- .. and back. -/
def ptsBH (H : Int × Int → Int → Int × Int) (f : List Int) : List (Int × Int) := (List.range 16).map fun n => H (f.getD (2 * flp n) 0, -(f.getD (31 - 2 * flp n) 0)) (-(8 * (flp n : Int) + 2))
def ptsB (f : List Int) : List (Int × Int) := ptsBH lfb f
def outBH (H : Int × Int → Int → Int × Int) (l : List (Int × Int)) : List Int := (List.range 32).map fun i =>
  if i % 2 = 0 then (H (l.getD (i / 2) (0, 0)) (-(8 * ((i / 2 : Nat) : Int) + 2))).1 else (H (l.getD ((31 - i) / 2) (0, 0)) (-(8 * (((31 - i) / 2 : Nat) : Int) + 2))).2
def outB (l : List (Int × Int)) : List Int := outBH lfb l
/-- Waves, and the way back. -/
def wav (f : List Int) : List Int := outp (bfs (bfs (bfs (bfs (pts f) prs16) prs8) prs4) prs2)
def wbk (f : List Int) : List Int := outB (ubs (ubs (ubs (ubs (ptsB f) prs2) prs4) prs8) prs16)
set_option maxRecDepth 100000 in
theorem pts_h (H : Int × Int → Int → Int × Int) (f0 f1 f2 f3 f4 f5 f6 f7 f8 f9 f10 f11 f12 f13 f14 f15 f16 f17 f18 f19 f20 f21 f22 f23 f24 f25 f26 f27 f28 f29 f30 f31 : Int) : ptsH H [f0, f1, f2, f3, f4, f5, f6, f7, f8, f9, f10, f11, f12, f13, f14, f15, f16, f17, f18, f19, f20, f21, f22, f23, f24, f25, f26, f27, f28, f29, f30, f31] = [H (f0, f31) (-2), H (f2, f29) (-10), H (f4, f27) (-18), H (f6, f25) (-26), H (f8, f23) (-34), H (f10, f21) (-42), H (f12, f19) (-50), H (f14, f17) (-58), H (f16, f15) (-66), H (f18, f13) (-74), H (f20, f11) (-82), H (f22, f9) (-90), H (f24, f7) (-98), H (f26, f5) (-106), H (f28, f3) (-114), H (f30, f1) (-122)] := rfl
theorem pts_l (f0 f1 f2 f3 f4 f5 f6 f7 f8 f9 f10 f11 f12 f13 f14 f15 f16 f17 f18 f19 f20 f21 f22 f23 f24 f25 f26 f27 f28 f29 f30 f31 : Int) : pts [f0, f1, f2, f3, f4, f5, f6, f7, f8, f9, f10, f11, f12, f13, f14, f15, f16, f17, f18, f19, f20, f21, f22, f23, f24, f25, f26, f27, f28, f29, f30, f31] = [lft (f0, f31) (-2), lft (f2, f29) (-10), lft (f4, f27) (-18), lft (f6, f25) (-26), lft (f8, f23) (-34), lft (f10, f21) (-42), lft (f12, f19) (-50), lft (f14, f17) (-58), lft (f16, f15) (-66), lft (f18, f13) (-74), lft (f20, f11) (-82), lft (f22, f9) (-90), lft (f24, f7) (-98), lft (f26, f5) (-106), lft (f28, f3) (-114), lft (f30, f1) (-122)] := pts_h lft f0 f1 f2 f3 f4 f5 f6 f7 f8 f9 f10 f11 f12 f13 f14 f15 f16 f17 f18 f19 f20 f21 f22 f23 f24 f25 f26 f27 f28 f29 f30 f31
set_option maxRecDepth 100000 in
theorem outp_h (H : Int × Int → Int → Int × Int) (z0 z1 z2 z3 z4 z5 z6 z7 z8 z9 z10 z11 z12 z13 z14 z15 : Int × Int) : outpH H [z0, z1, z2, z3, z4, z5, z6, z7, z8, z9, z10, z11, z12, z13, z14, z15] = [(H z0 (-2)).1, -(H z15 (-122)).2, (H z8 (-10)).1, -(H z7 (-114)).2, (H z4 (-18)).1, -(H z11 (-106)).2, (H z12 (-26)).1, -(H z3 (-98)).2, (H z2 (-34)).1, -(H z13 (-90)).2, (H z10 (-42)).1, -(H z5 (-82)).2, (H z6 (-50)).1, -(H z9 (-74)).2, (H z14 (-58)).1, -(H z1 (-66)).2, (H z1 (-66)).1, -(H z14 (-58)).2, (H z9 (-74)).1, -(H z6 (-50)).2, (H z5 (-82)).1, -(H z10 (-42)).2, (H z13 (-90)).1, -(H z2 (-34)).2, (H z3 (-98)).1, -(H z12 (-26)).2, (H z11 (-106)).1, -(H z4 (-18)).2, (H z7 (-114)).1, -(H z8 (-10)).2, (H z15 (-122)).1, -(H z0 (-2)).2] := rfl
theorem outp_l (z0 z1 z2 z3 z4 z5 z6 z7 z8 z9 z10 z11 z12 z13 z14 z15 : Int × Int) : outp [z0, z1, z2, z3, z4, z5, z6, z7, z8, z9, z10, z11, z12, z13, z14, z15] = [(lft z0 (-2)).1, -(lft z15 (-122)).2, (lft z8 (-10)).1, -(lft z7 (-114)).2, (lft z4 (-18)).1, -(lft z11 (-106)).2, (lft z12 (-26)).1, -(lft z3 (-98)).2, (lft z2 (-34)).1, -(lft z13 (-90)).2, (lft z10 (-42)).1, -(lft z5 (-82)).2, (lft z6 (-50)).1, -(lft z9 (-74)).2, (lft z14 (-58)).1, -(lft z1 (-66)).2, (lft z1 (-66)).1, -(lft z14 (-58)).2, (lft z9 (-74)).1, -(lft z6 (-50)).2, (lft z5 (-82)).1, -(lft z10 (-42)).2, (lft z13 (-90)).1, -(lft z2 (-34)).2, (lft z3 (-98)).1, -(lft z12 (-26)).2, (lft z11 (-106)).1, -(lft z4 (-18)).2, (lft z7 (-114)).1, -(lft z8 (-10)).2, (lft z15 (-122)).1, -(lft z0 (-2)).2] := outp_h lft z0 z1 z2 z3 z4 z5 z6 z7 z8 z9 z10 z11 z12 z13 z14 z15
set_option maxRecDepth 100000 in
theorem ptsB_h (H : Int × Int → Int → Int × Int) (f0 f1 f2 f3 f4 f5 f6 f7 f8 f9 f10 f11 f12 f13 f14 f15 f16 f17 f18 f19 f20 f21 f22 f23 f24 f25 f26 f27 f28 f29 f30 f31 : Int) : ptsBH H [f0, f1, f2, f3, f4, f5, f6, f7, f8, f9, f10, f11, f12, f13, f14, f15, f16, f17, f18, f19, f20, f21, f22, f23, f24, f25, f26, f27, f28, f29, f30, f31] = [H (f0, -f31) (-2), H (f16, -f15) (-66), H (f8, -f23) (-34), H (f24, -f7) (-98), H (f4, -f27) (-18), H (f20, -f11) (-82), H (f12, -f19) (-50), H (f28, -f3) (-114), H (f2, -f29) (-10), H (f18, -f13) (-74), H (f10, -f21) (-42), H (f26, -f5) (-106), H (f6, -f25) (-26), H (f22, -f9) (-90), H (f14, -f17) (-58), H (f30, -f1) (-122)] := rfl
theorem ptsB_l (f0 f1 f2 f3 f4 f5 f6 f7 f8 f9 f10 f11 f12 f13 f14 f15 f16 f17 f18 f19 f20 f21 f22 f23 f24 f25 f26 f27 f28 f29 f30 f31 : Int) : ptsB [f0, f1, f2, f3, f4, f5, f6, f7, f8, f9, f10, f11, f12, f13, f14, f15, f16, f17, f18, f19, f20, f21, f22, f23, f24, f25, f26, f27, f28, f29, f30, f31] = [lfb (f0, -f31) (-2), lfb (f16, -f15) (-66), lfb (f8, -f23) (-34), lfb (f24, -f7) (-98), lfb (f4, -f27) (-18), lfb (f20, -f11) (-82), lfb (f12, -f19) (-50), lfb (f28, -f3) (-114), lfb (f2, -f29) (-10), lfb (f18, -f13) (-74), lfb (f10, -f21) (-42), lfb (f26, -f5) (-106), lfb (f6, -f25) (-26), lfb (f22, -f9) (-90), lfb (f14, -f17) (-58), lfb (f30, -f1) (-122)] := ptsB_h lfb f0 f1 f2 f3 f4 f5 f6 f7 f8 f9 f10 f11 f12 f13 f14 f15 f16 f17 f18 f19 f20 f21 f22 f23 f24 f25 f26 f27 f28 f29 f30 f31
set_option maxRecDepth 100000 in
theorem outB_h (H : Int × Int → Int → Int × Int) (z0 z1 z2 z3 z4 z5 z6 z7 z8 z9 z10 z11 z12 z13 z14 z15 : Int × Int) : outBH H [z0, z1, z2, z3, z4, z5, z6, z7, z8, z9, z10, z11, z12, z13, z14, z15] = [(H z0 (-2)).1, (H z15 (-122)).2, (H z1 (-10)).1, (H z14 (-114)).2, (H z2 (-18)).1, (H z13 (-106)).2, (H z3 (-26)).1, (H z12 (-98)).2, (H z4 (-34)).1, (H z11 (-90)).2, (H z5 (-42)).1, (H z10 (-82)).2, (H z6 (-50)).1, (H z9 (-74)).2, (H z7 (-58)).1, (H z8 (-66)).2, (H z8 (-66)).1, (H z7 (-58)).2, (H z9 (-74)).1, (H z6 (-50)).2, (H z10 (-82)).1, (H z5 (-42)).2, (H z11 (-90)).1, (H z4 (-34)).2, (H z12 (-98)).1, (H z3 (-26)).2, (H z13 (-106)).1, (H z2 (-18)).2, (H z14 (-114)).1, (H z1 (-10)).2, (H z15 (-122)).1, (H z0 (-2)).2] := rfl
theorem outB_l (z0 z1 z2 z3 z4 z5 z6 z7 z8 z9 z10 z11 z12 z13 z14 z15 : Int × Int) : outB [z0, z1, z2, z3, z4, z5, z6, z7, z8, z9, z10, z11, z12, z13, z14, z15] = [(lfb z0 (-2)).1, (lfb z15 (-122)).2, (lfb z1 (-10)).1, (lfb z14 (-114)).2, (lfb z2 (-18)).1, (lfb z13 (-106)).2, (lfb z3 (-26)).1, (lfb z12 (-98)).2, (lfb z4 (-34)).1, (lfb z11 (-90)).2, (lfb z5 (-42)).1, (lfb z10 (-82)).2, (lfb z6 (-50)).1, (lfb z9 (-74)).2, (lfb z7 (-58)).1, (lfb z8 (-66)).2, (lfb z8 (-66)).1, (lfb z7 (-58)).2, (lfb z9 (-74)).1, (lfb z6 (-50)).2, (lfb z10 (-82)).1, (lfb z5 (-42)).2, (lfb z11 (-90)).1, (lfb z4 (-34)).2, (lfb z12 (-98)).1, (lfb z3 (-26)).2, (lfb z13 (-106)).1, (lfb z2 (-18)).2, (lfb z14 (-114)).1, (lfb z1 (-10)).2, (lfb z15 (-122)).1, (lfb z0 (-2)).2] := outB_h lfb z0 z1 z2 z3 z4 z5 z6 z7 z8 z9 z10 z11 z12 z13 z14 z15
theorem outB_pts (f : List Int) (h : f.length = 32) : outB (pts f) = f := by
  obtain ⟨f0, f1, f2, f3, f4, f5, f6, f7, f8, f9, f10, f11, f12, f13, f14, f15, f16, f17, f18, f19, f20, f21, f22, f23, f24, f25, f26, f27, f28, f29, f30, f31, rfl⟩ := len32 f h
  rw [pts_l, outB_l]
  simp only [lfb_lft]
theorem pts_outB (l : List (Int × Int)) (h : l.length = 16) : pts (outB l) = l := by
  obtain ⟨z0, z1, z2, z3, z4, z5, z6, z7, z8, z9, z10, z11, z12, z13, z14, z15, rfl⟩ := len16 l h
  rw [outB_l, pts_l]
  simp only [peta, lft_lfb]
theorem ptsB_outp (l : List (Int × Int)) (h : l.length = 16) : ptsB (outp l) = l := by
  obtain ⟨z0, z1, z2, z3, z4, z5, z6, z7, z8, z9, z10, z11, z12, z13, z14, z15, rfl⟩ := len16 l h
  rw [outp_l, ptsB_l]
  simp only [Int.neg_neg, peta, lfb_lft]
theorem outp_ptsB (f : List Int) (h : f.length = 32) : outp (ptsB f) = f := by
  obtain ⟨f0, f1, f2, f3, f4, f5, f6, f7, f8, f9, f10, f11, f12, f13, f14, f15, f16, f17, f18, f19, f20, f21, f22, f23, f24, f25, f26, f27, f28, f29, f30, f31, rfl⟩ := len32 f h
  rw [ptsB_l, outp_l]
  simp only [lft_lfb, Int.neg_neg]
theorem pts_len (f : List Int) : (pts f).length = 16 := by simp [pts, ptsH]
theorem ptsB_len (f : List Int) : (ptsB f).length = 16 := by simp [ptsB, ptsBH]
theorem wav_len (f : List Int) : (wav f).length = 32 := by simp [wav, outp, outpH]
theorem wbk_len (f : List Int) : (wbk f).length = 32 := by simp [wbk, outB, outBH]
/-- Each undoes the other. -/
theorem wbk_wav (f : List Int) (h : f.length = 32) : wbk (wav f) = f := by
  unfold wbk wav
  have a1 := pts_len f
  have a2 := bfs16_len _ a1
  have a3 := bfs8_len _ a2
  have a4 := bfs4_len _ a3
  have a5 := bfs2_len _ a4
  rw [ptsB_outp _ a5, ubs_bfs2 _ a4, ubs_bfs4 _ a3, ubs_bfs8 _ a2, ubs_bfs16 _ a1, outB_pts f h]
theorem wav_wbk (f : List Int) (h : f.length = 32) : wav (wbk f) = f := by
  unfold wbk wav
  have a1 := ptsB_len f
  have a2 := ubs2_len _ a1
  have a3 := ubs4_len _ a2
  have a4 := ubs8_len _ a3
  have a5 := ubs16_len _ a4
  rw [pts_outB _ a5, bfs_ubs16 _ a4, bfs_ubs8 _ a3, bfs_ubs4 _ a2, bfs_ubs2 _ a1, outp_ptsB f h]
/-- The squares' sum of numbers. -/
def sqs : List Int → Int
  | [] => 0
  | x :: l => x * x + sqs l
theorem step_pts (f : List Int) (h : f.length = 32) : Step (sqs f) (tot (pts f)) := by
  obtain ⟨f0, f1, f2, f3, f4, f5, f6, f7, f8, f9, f10, f11, f12, f13, f14, f15, f16, f17, f18, f19, f20, f21, f22, f23, f24, f25, f26, f27, f28, f29, f30, f31, rfl⟩ := len32 f h
  rw [pts_l]
  have h1 := lay_step [((f0, f31), lft (f0, f31) (-2)), ((f2, f29), lft (f2, f29) (-10)), ((f4, f27), lft (f4, f27) (-18)), ((f6, f25), lft (f6, f25) (-26)), ((f8, f23), lft (f8, f23) (-34)), ((f10, f21), lft (f10, f21) (-42)), ((f12, f19), lft (f12, f19) (-50)), ((f14, f17), lft (f14, f17) (-58)), ((f16, f15), lft (f16, f15) (-66)), ((f18, f13), lft (f18, f13) (-74)), ((f20, f11), lft (f20, f11) (-82)), ((f22, f9), lft (f22, f9) (-90)), ((f24, f7), lft (f24, f7) (-98)), ((f26, f5), lft (f26, f5) (-106)), ((f28, f3), lft (f28, f3) (-114)), ((f30, f1), lft (f30, f1) (-122))] (by
    intro p hp
    simp only [List.mem_cons, List.not_mem_nil, or_false] at hp
    rcases hp with rfl | rfl | rfl | rfl | rfl | rfl | rfl | rfl | rfl | rfl | rfl | rfl | rfl | rfl | rfl | rfl <;> dsimp only <;> exact near2_lft _ _) rfl
  refine cast ?_ h1
  congr 1
  simp only [bef, tot, sq2, sqs, List.map_cons, List.map_nil]
  omega
theorem step_outp (l : List (Int × Int)) (h : l.length = 16) : Step (tot l) (sqs (outp l)) := by
  obtain ⟨z0, z1, z2, z3, z4, z5, z6, z7, z8, z9, z10, z11, z12, z13, z14, z15, rfl⟩ := len16 l h
  rw [outp_l]
  have h1 := lay_step [(z0, lft z0 (-2)), (z8, lft z8 (-10)), (z4, lft z4 (-18)), (z12, lft z12 (-26)), (z2, lft z2 (-34)), (z10, lft z10 (-42)), (z6, lft z6 (-50)), (z14, lft z14 (-58)), (z1, lft z1 (-66)), (z9, lft z9 (-74)), (z5, lft z5 (-82)), (z13, lft z13 (-90)), (z3, lft z3 (-98)), (z11, lft z11 (-106)), (z7, lft z7 (-114)), (z15, lft z15 (-122))] (by
    intro p hp
    simp only [List.mem_cons, List.not_mem_nil, or_false] at hp
    rcases hp with rfl | rfl | rfl | rfl | rfl | rfl | rfl | rfl | rfl | rfl | rfl | rfl | rfl | rfl | rfl | rfl <;> dsimp only <;> exact near2_lft _ _) rfl
  refine cast ?_ h1
  congr 1
  · simp only [bef, tot, List.map_cons, List.map_nil] <;> omega
  · simp only [beh, tot, sq2, sqs, List.map_cons, List.map_nil, Int.neg_mul_neg]
    omega
theorem step_ptsB (f : List Int) (h : f.length = 32) : Step (sqs f) (tot (ptsB f)) := by
  obtain ⟨f0, f1, f2, f3, f4, f5, f6, f7, f8, f9, f10, f11, f12, f13, f14, f15, f16, f17, f18, f19, f20, f21, f22, f23, f24, f25, f26, f27, f28, f29, f30, f31, rfl⟩ := len32 f h
  rw [ptsB_l]
  have h1 := lay_step [((f0, -f31), lfb (f0, -f31) (-2)), ((f16, -f15), lfb (f16, -f15) (-66)), ((f8, -f23), lfb (f8, -f23) (-34)), ((f24, -f7), lfb (f24, -f7) (-98)), ((f4, -f27), lfb (f4, -f27) (-18)), ((f20, -f11), lfb (f20, -f11) (-82)), ((f12, -f19), lfb (f12, -f19) (-50)), ((f28, -f3), lfb (f28, -f3) (-114)), ((f2, -f29), lfb (f2, -f29) (-10)), ((f18, -f13), lfb (f18, -f13) (-74)), ((f10, -f21), lfb (f10, -f21) (-42)), ((f26, -f5), lfb (f26, -f5) (-106)), ((f6, -f25), lfb (f6, -f25) (-26)), ((f22, -f9), lfb (f22, -f9) (-90)), ((f14, -f17), lfb (f14, -f17) (-58)), ((f30, -f1), lfb (f30, -f1) (-122))] (by
    intro p hp
    simp only [List.mem_cons, List.not_mem_nil, or_false] at hp
    rcases hp with rfl | rfl | rfl | rfl | rfl | rfl | rfl | rfl | rfl | rfl | rfl | rfl | rfl | rfl | rfl | rfl <;> dsimp only <;> exact near2_lfb _ _) rfl
  refine cast ?_ h1
  congr 1
  simp only [bef, tot, sq2, sqs, List.map_cons, List.map_nil, Int.neg_mul_neg]
  omega
theorem step_outB (l : List (Int × Int)) (h : l.length = 16) : Step (tot l) (sqs (outB l)) := by
  obtain ⟨z0, z1, z2, z3, z4, z5, z6, z7, z8, z9, z10, z11, z12, z13, z14, z15, rfl⟩ := len16 l h
  rw [outB_l]
  have h1 := lay_step [(z0, lfb z0 (-2)), (z1, lfb z1 (-10)), (z2, lfb z2 (-18)), (z3, lfb z3 (-26)), (z4, lfb z4 (-34)), (z5, lfb z5 (-42)), (z6, lfb z6 (-50)), (z7, lfb z7 (-58)), (z8, lfb z8 (-66)), (z9, lfb z9 (-74)), (z10, lfb z10 (-82)), (z11, lfb z11 (-90)), (z12, lfb z12 (-98)), (z13, lfb z13 (-106)), (z14, lfb z14 (-114)), (z15, lfb z15 (-122))] (by
    intro p hp
    simp only [List.mem_cons, List.not_mem_nil, or_false] at hp
    rcases hp with rfl | rfl | rfl | rfl | rfl | rfl | rfl | rfl | rfl | rfl | rfl | rfl | rfl | rfl | rfl | rfl <;> dsimp only <;> exact near2_lfb _ _) rfl
  refine cast ?_ h1
  congr 1
  simp only [beh, tot, sq2, sqs, List.map_cons, List.map_nil]
  omega
/-- Waves' squares' sum, and how great they are. -/
theorem wav_steps (f : List Int) (h : f.length = 32) (P : Int → Int → Prop) (hP : ∀ a b c d e f g h i j k, Step a b → Step b c → Step c d → Step d e → Step e f → Step f g → Step g h → Step h i → Step i j → Step j k → P a k) : P (sqs f) (sqs (wav f)) := by
  have a1 := pts_len f
  have a2 := bfs16_len _ a1
  have a3 := bfs8_len _ a2
  have a4 := bfs4_len _ a3
  have a5 := bfs2_len _ a4
  obtain ⟨s1, p1, q1⟩ := step16 _ a1
  obtain ⟨s2, p2, q2⟩ := step8 _ a2
  obtain ⟨s3, p3, q3⟩ := step4 _ a3
  obtain ⟨s4, p4, q4⟩ := step2 _ a4
  exact hP _ _ _ _ _ _ _ _ _ _ _ (step_pts f h) p1 q1 p2 q2 p3 q3 p4 q4 (step_outp _ a5)
theorem wbk_steps (f : List Int) (h : f.length = 32) (P : Int → Int → Prop) (hP : ∀ a b c d e f g h i j k, Step a b → Step b c → Step c d → Step d e → Step e f → Step f g → Step g h → Step h i → Step i j → Step j k → P a k) : P (sqs f) (sqs (wbk f)) := by
  have a1 := ptsB_len f
  have a2 := ubs2_len _ a1
  have a3 := ubs4_len _ a2
  have a4 := ubs8_len _ a3
  have a5 := ubs16_len _ a4
  obtain ⟨s1, p1, q1⟩ := stepU2 _ a1
  obtain ⟨s2, p2, q2⟩ := stepU4 _ a2
  obtain ⟨s3, p3, q3⟩ := stepU8 _ a3
  obtain ⟨s4, p4, q4⟩ := stepU16 _ a4
  exact hP _ _ _ _ _ _ _ _ _ _ _ (step_ptsB f h) p1 q1 p2 q2 p3 q3 p4 q4 (step_outB _ a5)
theorem wav_size (f : List Int) (h : f.length = 32) : 8 * (sqs (wav f) - sqs f) ≤ sqs f + 134217720 ∧ 8 * (sqs f - sqs (wav f)) ≤ sqs f + 134217720 :=
  wav_steps f h (fun a k => 8 * (k - a) ≤ a + 134217720 ∧ 8 * (a - k) ≤ a + 134217720) steps_size
theorem sqs_nn : ∀ f, 0 ≤ sqs f
  | [] => Int.le_refl 0
  | x :: l => by
    have := sqnn x
    have := sqs_nn l
    show 0 ≤ x * x + sqs l
    omega
theorem sqs_mem (x : Int) : ∀ f : List Int, x ∈ f → x * x ≤ sqs f
  | [], h => by cases h
  | y :: l, h => by
    have e : sqs (y :: l) = y * y + sqs l := rfl
    rcases List.mem_cons.1 h with rfl | h
    · have := sqs_nn l
      omega
    · have := sqs_mem x l h
      have := sqnn y
      omega
theorem sqs_le (m : Int) : ∀ f : List Int, (∀ x ∈ f, -m ≤ x ∧ x ≤ m) → sqs f ≤ f.length * (m * m)
  | [], _ => by simp [sqs]
  | y :: l, h => by
    have ih := sqs_le m l fun x hx => h x (List.mem_cons_of_mem _ hx)
    obtain ⟨h1, h2⟩ := h y (List.mem_cons_self ..)
    have := mulb y y m m h1 h2 h1 h2
    have e : sqs (y :: l) = y * y + sqs l := rfl
    rw [e, List.length_cons]
    have e5 : ((l.length + 1 : Nat) : Int) * (m * m) = (l.length : Int) * (m * m) + m * m := by rw [Int.natCast_add]; grind
    rw [e5]
    omega
theorem wav_small (f : List Int) (h : f.length = 32) (m : Int) (hm : 0 ≤ m) (hf : ∀ x ∈ f, -m ≤ x ∧ x ≤ m) : ∀ x ∈ wav f, -(8 * m + 256) ≤ x ∧ x ≤ 8 * m + 256 := by
  intro x hx
  have h1 := sqs_mem x _ hx
  have h2 := sqs_le m f hf
  rw [h] at h2
  have h3 := wav_steps f h (fun a k => ∀ m, 0 ≤ m → a ≤ 32 * (m * m) → k ≤ (8 * m + 256) * (8 * m + 256)) (fun a b c d e f g h i j k p1 p2 p3 p4 p5 p6 p7 p8 p9 p10 m hm ha => steps_small a b c d e f g h i j k p1 p2 p3 p4 p5 p6 p7 p8 p9 p10 m hm ha) m hm h2
  exact sq_le x _ (by omega) (Int.le_trans h1 h3)
theorem wbk_small (f : List Int) (h : f.length = 32) (m : Int) (hm : 0 ≤ m) (hf : ∀ x ∈ f, -m ≤ x ∧ x ≤ m) : ∀ x ∈ wbk f, -(8 * m + 256) ≤ x ∧ x ≤ 8 * m + 256 := by
  intro x hx
  have h1 := sqs_mem x _ hx
  have h2 := sqs_le m f hf
  rw [h] at h2
  have h3 := wbk_steps f h (fun a k => ∀ m, 0 ≤ m → a ≤ 32 * (m * m) → k ≤ (8 * m + 256) * (8 * m + 256)) (fun a b c d e f g h i j k p1 p2 p3 p4 p5 p6 p7 p8 p9 p10 m hm ha => steps_small a b c d e f g h i j k p1 p2 p3 p4 p5 p6 p7 p8 p9 p10 m hm ha) m hm h2
  exact sq_le x _ (by omega) (Int.le_trans h1 h3)
end Go.Proofs.Ytpfdjddjoclldaa.M

/- Plain facts of layer 11: seams between blocks of 32 numbers, turned in whatever order, and their undoing; frames of samples, and the way back. No program is named here. No conditions but those that each fact names. -/
namespace Go.Proofs.Ytpfdjddjoclldaa.M

theorem tb_getD {α : Type} (d : α) (n : Nat) (f : Nat → α) (i : Nat) (h : i < n) : ((List.range n).map f).getD i d = f i := by
  simp [List.getD_eq_getElem?_getD, h]
theorem tb_len {α : Type} (n : Nat) (f : Nat → α) : ((List.range n).map f).length = n := by simp
theorem tb_ext {α : Type} (d : α) (l : List α) (n : Nat) (f : Nat → α) (h : l.length = n) (k : ∀ i, i < n → l.getD i d = f i) : l = (List.range n).map f := by
  apply List.ext_getElem (by simp [h])
  intro i h1 h2
  have := k i (by omega)
  rw [List.getD_eq_getElem?_getD, List.getElem?_eq_getElem h1] at this
  simpa using this
theorem tb_congr {α : Type} (n : Nat) (f g : Nat → α) (h : ∀ i, i < n → f i = g i) : (List.range n).map f = (List.range n).map g := by
  apply List.map_congr_left
  intro i hi
  exact h i (List.mem_range.1 hi)
theorem set_getD {α : Type} (l : List α) (d : α) (i k : Nat) (v : α) (h : i < l.length) : (l.set i v).getD k d = if i = k then v else l.getD k d := by
  rw [List.getD_eq_getElem?_getD, List.getElem?_set]
  by_cases e : i = k
  · rw [if_pos e, if_pos e, if_pos (by omega)]; rfl
  · rw [if_neg e, if_neg e, List.getD_eq_getElem?_getD]

/-- A number behind its seam has been turned, where d tells so of the seam and the place: what stands at place p of n blocks. -/
def smv (H : Int × Int → Int → Int × Int) (d : Nat → Nat → Bool) (n : Nat) (x : List Int) (p : Nat) : Int :=
  if p % 32 < 16 then
    if 1 ≤ p / 32 ∧ d (p / 32) (p % 32) = true then (H (x.getD (32 * (p / 32) - 1 - p % 32) 0, x.getD p 0) (62 - 4 * ((p % 32 : Nat) : Int))).2 else x.getD p 0
  else
    if p / 32 + 1 < n ∧ d (p / 32 + 1) (31 - p % 32) = true then (H (x.getD p 0, x.getD (32 * (p / 32 + 1) + (31 - p % 32)) 0) (62 - 4 * ((31 - p % 32 : Nat) : Int))).1 else x.getD p 0
def sms (H : Int × Int → Int → Int × Int) (d : Nat → Nat → Bool) (n : Nat) (x : List Int) : List Int := (List.range (32 * n)).map (smv H d n x)
theorem sms_len (H : Int × Int → Int → Int × Int) (d : Nat → Nat → Bool) (n : Nat) (x : List Int) : (sms H d n x).length = 32 * n := tb_len _ _
theorem sms_getD (H : Int × Int → Int → Int × Int) (d : Nat → Nat → Bool) (n : Nat) (x : List Int) (p : Nat) (h : p < 32 * n) : (sms H d n x).getD p 0 = smv H d n x p := tb_getD _ _ _ _ h
/-- The two places of a seam's pair. -/
theorem smv_lo (H : Int × Int → Int → Int × Int) (d : Nat → Nat → Bool) (n : Nat) (x : List Int) (s i : Nat) (hs : 1 ≤ s) (hn : s < n) (hi : i < 16) :
    smv H d n x (32 * s - 1 - i) = if d s i = true then (H (x.getD (32 * s - 1 - i) 0, x.getD (32 * s + i) 0) (62 - 4 * (i : Int))).1 else x.getD (32 * s - 1 - i) 0 := by
  unfold smv
  have e1 : (32 * s - 1 - i) % 32 = 31 - i := by omega
  have e2 : (32 * s - 1 - i) / 32 + 1 = s := by omega
  have e3 : 31 - (31 - i) = i := by omega
  rw [e1, e2, e3, if_neg (by omega)]
  by_cases hd : d s i = true
  · rw [if_pos hd, if_pos ⟨hn, hd⟩]
  · rw [if_neg hd, if_neg (fun h => hd h.2)]
theorem smv_hi (H : Int × Int → Int → Int × Int) (d : Nat → Nat → Bool) (n : Nat) (x : List Int) (s i : Nat) (hs : 1 ≤ s) (hi : i < 16) :
    smv H d n x (32 * s + i) = if d s i = true then (H (x.getD (32 * s - 1 - i) 0, x.getD (32 * s + i) 0) (62 - 4 * (i : Int))).2 else x.getD (32 * s + i) 0 := by
  unfold smv
  have e1 : (32 * s + i) % 32 = i := by omega
  have e2 : (32 * s + i) / 32 = s := by omega
  rw [e1, e2, if_pos hi]
  by_cases hd : d s i = true
  · rw [if_pos hd, if_pos ⟨hs, hd⟩]
  · rw [if_neg hd, if_neg (fun h => hd h.2)]
/-- Each place is of a pair, or at an end. -/
theorem place_of (n p : Nat) (hp : p < 32 * n) : (∃ s i, 1 ≤ s ∧ s < n ∧ i < 16 ∧ p = 32 * s - 1 - i) ∨ (∃ s i, 1 ≤ s ∧ s < n ∧ i < 16 ∧ p = 32 * s + i) ∨ (p < 16 ∨ 32 * n - 16 ≤ p) := by
  by_cases h1 : p % 32 < 16
  · by_cases h2 : 1 ≤ p / 32
    · exact Or.inr (Or.inl ⟨p / 32, p % 32, h2, by omega, h1, by omega⟩)
    · exact Or.inr (Or.inr (Or.inl (by omega)))
  · by_cases h2 : p / 32 + 1 < n
    · exact Or.inl ⟨p / 32 + 1, 31 - p % 32, by omega, h2, by omega, by omega⟩
    · exact Or.inr (Or.inr (Or.inr (by omega)))
theorem smv_end (H : Int × Int → Int → Int × Int) (d : Nat → Nat → Bool) (n : Nat) (x : List Int) (p : Nat) (hp : p < 32 * n) (h : p < 16 ∨ 32 * n - 16 ≤ p) (hn : 1 ≤ n) : smv H d n x p = x.getD p 0 := by
  unfold smv
  rcases h with h | h
  · rw [if_pos (by omega), if_neg (by omega)]
  · by_cases h1 : p % 32 < 16
    · omega
    · rw [if_neg h1, if_neg (by omega)]
/-- No pair turned: as it was. -/
theorem sms_none (H : Int × Int → Int → Int × Int) (n : Nat) (x : List Int) (h : x.length = 32 * n) : sms H (fun _ _ => false) n x = x := by
  symm
  apply tb_ext 0 x _ _ h
  intro p _
  unfold smv
  by_cases h1 : p % 32 < 16
  · rw [if_pos h1, if_neg (by simp)]
  · rw [if_neg h1, if_neg (by simp)]
/-- One pair more. -/
theorem sms_step (H : Int × Int → Int → Int × Int) (d d' : Nat → Nat → Bool) (n : Nat) (x : List Int) (s i : Nat) (hs : 1 ≤ s) (hn : s < n) (hi : i < 16) (hd : ∀ t j, d' t j = (d t j || (decide (t = s) && decide (j = i)))) :
    ((sms H d n x).set (32 * s - 1 - i) (H (x.getD (32 * s - 1 - i) 0, x.getD (32 * s + i) 0) (62 - 4 * (i : Int))).1).set (32 * s + i) (H (x.getD (32 * s - 1 - i) 0, x.getD (32 * s + i) 0) (62 - 4 * (i : Int))).2 = sms H d' n x := by
  apply tb_ext 0 _ _ _ (by rw [List.length_set, List.length_set, sms_len])
  intro p hp
  rw [set_getD _ _ _ _ _ (by rw [List.length_set, sms_len]; omega), set_getD _ _ _ _ _ (by rw [sms_len]; omega)]
  have hself : d' s i = true := by rw [hd]; simp
  by_cases e1 : 32 * s + i = p
  · rw [if_pos e1, ← e1, smv_hi H d' n x s i hs hi, if_pos hself]
  · rw [if_neg e1]
    by_cases e2 : 32 * s - 1 - i = p
    · rw [if_pos e2, ← e2, smv_lo H d' n x s i hs hn hi, if_pos hself]
    · rw [if_neg e2, sms_getD _ _ _ _ _ hp]
      have hne : ∀ t j, ¬ (t = s ∧ j = i) → d' t j = d t j := by
        intro t j h
        rw [hd]
        by_cases ht : t = s
        · by_cases hj : j = i
          · exact absurd ⟨ht, hj⟩ h
          · simp [hj]
        · simp [ht]
      unfold smv
      by_cases h1 : p % 32 < 16
      · rw [if_pos h1, if_pos h1, hne (p / 32) (p % 32) (by omega)]
      · rw [if_neg h1, if_neg h1, hne (p / 32 + 1) (31 - p % 32) (by omega)]
/-- All pairs turned, and all turned back. -/
def allT : Nat → Nat → Bool := fun _ _ => true
theorem sms_undo (F G : Int × Int → Int → Int × Int) (hFG : ∀ v k, G (F v k) k = v) (n : Nat) (x : List Int) (h : x.length = 32 * n) : sms G allT n (sms F allT n x) = x := by
  symm
  apply tb_ext 0 x _ _ h
  intro p hp
  have hn : 1 ≤ n := by omega
  rcases place_of n p hp with ⟨s, i, hs, hsn, hi, rfl⟩ | ⟨s, i, hs, hsn, hi, rfl⟩ | he
  · rw [smv_lo G allT n _ s i hs hsn hi, if_pos (show allT s i = true from rfl), sms_getD _ _ _ _ _ (by omega), sms_getD _ _ _ _ _ (by omega), smv_lo F allT n x s i hs hsn hi, smv_hi F allT n x s i hs hi, if_pos (show allT s i = true from rfl), if_pos (show allT s i = true from rfl), peta, hFG]
  · rw [smv_hi G allT n _ s i hs hi, if_pos (show allT s i = true from rfl), sms_getD _ _ _ _ _ (by omega), sms_getD _ _ _ _ _ (by omega), smv_lo F allT n x s i hs hsn hi, smv_hi F allT n x s i hs hi, if_pos (show allT s i = true from rfl), if_pos (show allT s i = true from rfl), peta, hFG]
  · rw [smv_end G allT n _ p hp he hn, sms_getD _ _ _ _ _ hp, smv_end F allT n x p hp he hn]
/-- What stands at a place hangs on its own pair alone. -/
theorem smv_local (H : Int × Int → Int → Int × Int) (d : Nat → Nat → Bool) (n : Nat) (x y : List Int) (p : Nat) (hp : p < 32 * n) (h1 : x.getD p 0 = y.getD p 0)
    (h2 : ∀ s i, 1 ≤ s → i < 16 → (p = 32 * s - 1 - i → x.getD (32 * s + i) 0 = y.getD (32 * s + i) 0) ∧ (p = 32 * s + i → x.getD (32 * s - 1 - i) 0 = y.getD (32 * s - 1 - i) 0)) : smv H d n x p = smv H d n y p := by
  have hn : 1 ≤ n := by omega
  rcases place_of n p hp with ⟨s, i, hs, hsn, hi, rfl⟩ | ⟨s, i, hs, hsn, hi, rfl⟩ | he
  · rw [smv_lo H d n x s i hs hsn hi, smv_lo H d n y s i hs hsn hi, h1, (h2 s i hs hi).1 rfl]
  · rw [smv_hi H d n x s i hs hi, smv_hi H d n y s i hs hi, h1, (h2 s i hs hi).2 rfl]
  · rw [smv_end H d n x p hp he hn, smv_end H d n y p hp he hn, h1]
end Go.Proofs.Ytpfdjddjoclldaa.M

/- Plain facts of layer 11: blocks, the seam of two blocks and its undoing, frames of samples and the way back; what hangs on what; how great frames are. No program is named here. No conditions but those that each fact names. -/
namespace Go.Proofs.Ytpfdjddjoclldaa.M

/-- A block of a list; blocks one behind the other. -/
def blk (x : List Int) (b : Nat) : List Int := (List.range 32).map fun i => x.getD (32 * b + i) 0
def jnb (l : List (List Int)) : List Int := (List.range (32 * l.length)).map fun p => (l.getD (p / 32) []).getD (p % 32) 0
theorem blk_len (x : List Int) (b : Nat) : (blk x b).length = 32 := tb_len _ _
theorem blk_getD (x : List Int) (b i : Nat) (h : i < 32) : (blk x b).getD i 0 = x.getD (32 * b + i) 0 := tb_getD _ _ _ _ h
theorem jnb_len (l : List (List Int)) : (jnb l).length = 32 * l.length := tb_len _ _
theorem jnb_getD (l : List (List Int)) (p : Nat) (h : p < 32 * l.length) : (jnb l).getD p 0 = (l.getD (p / 32) []).getD (p % 32) 0 := tb_getD _ _ _ _ h
theorem blk_jnb (l : List (List Int)) (b : Nat) (hb : b < l.length) (h : (l.getD b []).length = 32) : blk (jnb l) b = l.getD b [] := by
  symm
  apply tb_ext 0 _ _ _ h
  intro i hi
  rw [jnb_getD l _ (by omega), show (32 * b + i) / 32 = b by omega, show (32 * b + i) % 32 = i by omega]
theorem jnb_blk (x : List Int) (n : Nat) (h : x.length = 32 * n) : jnb ((List.range n).map (blk x)) = x := by
  symm
  have hl : ((List.range n).map (blk x)).length = n := tb_len _ _
  unfold jnb
  rw [hl]
  apply tb_ext 0 x _ _ h
  intro p hp
  rw [tb_getD _ _ _ _ (by omega), blk_getD _ _ _ (by omega), show 32 * (p / 32) + p % 32 = p by omega]
/-- The seam of two blocks. -/
def seaA (H : Int × Int → Int → Int × Int) (a b : List Int) : List Int := (List.range 32).map fun j => if j < 16 then a.getD j 0 else (H (a.getD j 0, b.getD (31 - j) 0) (62 - 4 * ((31 - j : Nat) : Int))).1
def seaB (H : Int × Int → Int → Int × Int) (a b : List Int) : List Int := (List.range 32).map fun j => if j < 16 then (H (a.getD (31 - j) 0, b.getD j 0) (62 - 4 * (j : Int))).2 else b.getD j 0
theorem seaA_len (H : Int × Int → Int → Int × Int) (a b : List Int) : (seaA H a b).length = 32 := tb_len _ _
theorem seaB_len (H : Int × Int → Int → Int × Int) (a b : List Int) : (seaB H a b).length = 32 := tb_len _ _
theorem seaA_getD (H : Int × Int → Int → Int × Int) (a b : List Int) (j : Nat) (h : j < 32) : (seaA H a b).getD j 0 = if j < 16 then a.getD j 0 else (H (a.getD j 0, b.getD (31 - j) 0) (62 - 4 * ((31 - j : Nat) : Int))).1 := tb_getD _ _ _ _ h
theorem seaB_getD (H : Int × Int → Int → Int × Int) (a b : List Int) (j : Nat) (h : j < 32) : (seaB H a b).getD j 0 = if j < 16 then (H (a.getD (31 - j) 0, b.getD j 0) (62 - 4 * (j : Int))).2 else b.getD j 0 := tb_getD _ _ _ _ h
theorem sea_undo (F G : Int × Int → Int → Int × Int) (hFG : ∀ v k, G (F v k) k = v) (a b : List Int) (ha : a.length = 32) (hb : b.length = 32) :
    seaA G (seaA F a b) (seaB F a b) = a ∧ seaB G (seaA F a b) (seaB F a b) = b := by
  constructor
  · symm
    apply tb_ext 0 a _ _ ha
    intro j hj
    by_cases h : j < 16
    · rw [if_pos h, seaA_getD _ _ _ _ hj, if_pos h]
    · rw [if_neg h, seaA_getD _ _ _ _ hj, if_neg h, seaB_getD _ _ _ _ (by omega), if_pos (by omega), show 31 - (31 - j) = j by omega, peta, hFG]
  · symm
    apply tb_ext 0 b _ _ hb
    intro j hj
    by_cases h : j < 16
    · rw [if_pos h, seaA_getD _ _ _ _ (by omega), if_neg (by omega), seaB_getD _ _ _ _ hj, if_pos h, show 31 - (31 - j) = j by omega, peta, hFG]
    · rw [if_neg h, seaB_getD _ _ _ _ hj, if_neg h]
/-- A whole seam more, block by block. -/
theorem sea_step (H : Int × Int → Int → Int × Int) (d d' : Nat → Nat → Bool) (n : Nat) (x : List Int) (s : Nat) (hs : 1 ≤ s) (hn : s < n) (h0 : ∀ i, d s i = false) (hd : ∀ t j, d' t j = (d t j || decide (t = s))) (b : Nat) (hb : b < n) :
    blk (sms H d' n x) b = if b + 1 = s then seaA H (blk (sms H d n x) (s - 1)) (blk (sms H d n x) s) else if b = s then seaB H (blk (sms H d n x) (s - 1)) (blk (sms H d n x) s) else blk (sms H d n x) b := by
  have hdo : ∀ t j, t ≠ s → d' t j = d t j := by
    intro t j h
    rw [hd]; simp [h]
  have hds : ∀ j, d' s j = true := by intro j; rw [hd]; simp
  by_cases e1 : b + 1 = s
  · rw [if_pos e1]
    unfold seaA
    apply tb_congr
    intro j hj
    rw [blk_getD _ _ _ hj, sms_getD _ _ _ _ _ (by omega), sms_getD _ _ _ _ _ (by omega)]
    by_cases h : j < 16
    · rw [if_pos h, show 32 * (s - 1) + j = 32 * b + j by omega]
      unfold smv
      rw [show (32 * b + j) % 32 = j by omega, show (32 * b + j) / 32 = b by omega, if_pos h, if_pos h, hdo b j (by omega)]
    · rw [if_neg h, blk_getD _ _ _ (by omega), sms_getD _ _ _ _ _ (by omega)]
      have e2 : 32 * b + j = 32 * s - 1 - (31 - j) := by omega
      rw [e2, smv_lo H d' n x s (31 - j) hs hn (by omega), if_pos (hds _), show 32 * (s - 1) + j = 32 * s - 1 - (31 - j) by omega, smv_lo H d n x s (31 - j) hs hn (by omega), smv_hi H d n x s (31 - j) hs (by omega), h0, if_neg (by simp), if_neg (by simp)]
  · rw [if_neg e1]
    by_cases e2 : b = s
    · subst e2
      rw [if_pos rfl]
      unfold seaB
      apply tb_congr
      intro j hj
      rw [blk_getD _ _ _ hj, sms_getD _ _ _ _ _ (by omega), sms_getD _ _ _ _ _ (by omega)]
      by_cases h : j < 16
      · rw [if_pos h, blk_getD _ _ _ (by omega), sms_getD _ _ _ _ _ (by omega), smv_hi H d' n x b j hs h, if_pos (hds _), smv_hi H d n x b j hs h, show 32 * (b - 1) + (31 - j) = 32 * b - 1 - j by omega, smv_lo H d n x b j hs hn h, h0, if_neg (by simp), if_neg (by simp)]
      · rw [if_neg h]
        unfold smv
        rw [show (32 * b + j) % 32 = j by omega, show (32 * b + j) / 32 = b by omega, if_neg h, if_neg h, hdo (b + 1) (31 - j) (by omega)]
    · rw [if_neg e2]
      unfold blk
      apply tb_congr
      intro j hj
      rw [sms_getD _ _ _ _ _ (by omega), sms_getD _ _ _ _ _ (by omega)]
      unfold smv
      rw [show (32 * b + j) % 32 = j by omega, show (32 * b + j) / 32 = b by omega, hdo b j (by omega), hdo (b + 1) (31 - j) (by omega)]

/-- How many frames; samples with what fills their blocks; the frames; whether a frame is held; the way back. -/
def cnt (k : Nat) : Nat := (k + 31) / 32 + 1
def padd (l : List Int) : List Int := (List.range (32 * cnt l.length)).map fun p => l.getD p 0
def frm (l : List Int) : List (List Int) := (List.range (cnt l.length)).map fun b => wav (blk (sms lft allT (cnt l.length) (padd l)) b)
def hld (f : List Int) : Bool := f.all fun x => decide (-16777216 ≤ x ∧ x ≤ 16777216)
def unw (f : List Int) : List Int := if hld f = true then wbk f else List.replicate 32 0
def smp (fs : List (List Int)) : List Int := sms lfb allT fs.length (jnb (fs.map unw))
theorem padd_len (l : List Int) : (padd l).length = 32 * cnt l.length := tb_len _ _
theorem padd_getD (l : List Int) (p : Nat) (h : p < 32 * cnt l.length) : (padd l).getD p 0 = l.getD p 0 := tb_getD _ _ _ _ h
theorem frm_len (l : List Int) : (frm l).length = cnt l.length := tb_len _ _
theorem smp_len (fs : List (List Int)) : (smp fs).length = 32 * fs.length := sms_len _ _ _ _
theorem unw_len (f : List Int) : (unw f).length = 32 := by
  unfold unw
  split
  · exact wbk_len f
  · simp
/-- A turned pair is not much greater. -/
theorem lft_small (v : Int × Int) (k : Int) (h1 : -1048576 ≤ v.1) (h2 : v.1 ≤ 1048576) (h3 : -1048576 ≤ v.2) (h4 : v.2 ≤ 1048576) :
    -1483300 ≤ (lft v k).1 ∧ (lft v k).1 ≤ 1483300 ∧ -1483300 ≤ (lft v k).2 ∧ (lft v k).2 ≤ 1483300 := by
  obtain ⟨m, hm0, hm1, b1, b2, b3, b4, hmm⟩ : ∃ m : Int, 0 ≤ m ∧ m ≤ 1048576 ∧ -m ≤ v.1 ∧ v.1 ≤ m ∧ -m ≤ v.2 ∧ v.2 ≤ m ∧ m * m ≤ v.1 * v.1 + v.2 * v.2 := by
    have q1 := sqnn v.1
    have q2 := sqnn v.2
    rcases Int.le_total (v.1 * v.1) (v.2 * v.2) with h | h
    · rcases Int.le_total 0 v.2 with k | k
      · have := sq_le v.1 v.2 k h
        exact ⟨v.2, k, by omega, by omega, by omega, by omega, by omega, by omega⟩
      · have := sq_le v.1 (-v.2) (by omega) (by rw [Int.neg_mul_neg]; exact h)
        exact ⟨-v.2, by omega, by omega, by omega, by omega, by omega, by omega, by rw [Int.neg_mul_neg]; omega⟩
    · rcases Int.le_total 0 v.1 with k | k
      · have := sq_le v.2 v.1 k h
        exact ⟨v.1, k, by omega, by omega, by omega, by omega, by omega, by omega⟩
      · have := sq_le v.2 (-v.1) (by omega) (by rw [Int.neg_mul_neg]; exact h)
        exact ⟨-v.1, by omega, by omega, by omega, by omega, by omega, by omega, by rw [Int.neg_mul_neg]; omega⟩
  obtain ⟨z, hz, hr⟩ := lft_rot' v k m b1 b2 b3 b4
  have hs := (rot_size z v (lft v k) m hz hr b1 b2 b3 b4 hmm).1
  have p1 := mulb v.1 v.1 1048576 1048576 h1 h2 h1 h2
  have p2 := mulb v.2 v.2 1048576 1048576 h3 h4 h3 h4
  have q3 := sqnn (lft v k).1
  have q4 := sqnn (lft v k).2
  generalize hA : v.1 * v.1 = A at *
  generalize hB : v.2 * v.2 = B at *
  generalize hC : (lft v k).1 * (lft v k).1 = C at *
  generalize hD : (lft v k).2 * (lft v k).2 = D at *
  have e1 := sq_le (lft v k).1 1483300 (by decide) (by rw [hC]; omega)
  have e2 := sq_le (lft v k).2 1483300 (by decide) (by rw [hD]; omega)
  exact ⟨e1.1, e1.2, e2.1, e2.2⟩
end Go.Proofs.Ytpfdjddjoclldaa.M

/- Plain facts of layer 11: the samples come back; a changed frame changes what lies near it alone; of samples that begin alike frames are alike. No program is named here. No conditions but those that each fact names. -/
namespace Go.Proofs.Ytpfdjddjoclldaa.M

theorem getD_bd (l : List Int) (m : Int) (hm : 0 ≤ m) (h : ∀ x ∈ l, -m ≤ x ∧ x ≤ m) (p : Nat) : -m ≤ l.getD p 0 ∧ l.getD p 0 ≤ m := by
  rcases Nat.lt_or_ge p l.length with k | k
  · rw [List.getD_eq_getElem?_getD, List.getElem?_eq_getElem k]
    exact h _ (List.getElem_mem k)
  · rw [List.getD_eq_getElem?_getD, List.getElem?_eq_none k]
    show -m ≤ (0 : Int) ∧ (0 : Int) ≤ m
    omega
theorem mem_bd (l : List Int) (m : Int) (h : ∀ p, p < l.length → -m ≤ l.getD p 0 ∧ l.getD p 0 ≤ m) : ∀ x ∈ l, -m ≤ x ∧ x ≤ m := by
  intro x hx
  obtain ⟨p, hp, rfl⟩ := List.getElem_of_mem hx
  have := h p hp
  rw [List.getD_eq_getElem?_getD, List.getElem?_eq_getElem hp] at this
  exact this
theorem hld_iff (f : List Int) : hld f = true ↔ ∀ x ∈ f, -16777216 ≤ x ∧ x ≤ 16777216 := by
  unfold hld
  rw [List.all_eq_true]
  constructor
  · intro h x hx
    exact of_decide_eq_true (h x hx)
  · intro h x hx
    exact decide_eq_true (h x hx)
/-- Samples with their seams turned are not much greater. -/
theorem seam_small (l : List Int) (h : ∀ x ∈ l, -1048576 ≤ x ∧ x ≤ 1048576) (p : Nat) (hp : p < 32 * cnt l.length) :
    -1483300 ≤ (sms lft allT (cnt l.length) (padd l)).getD p 0 ∧ (sms lft allT (cnt l.length) (padd l)).getD p 0 ≤ 1483300 := by
  have hb : ∀ q, q < 32 * cnt l.length → -1048576 ≤ (padd l).getD q 0 ∧ (padd l).getD q 0 ≤ 1048576 := by
    intro q hq
    rw [padd_getD l q hq]
    exact getD_bd l 1048576 (by decide) h q
  rw [sms_getD _ _ _ _ _ hp]
  have hn : 1 ≤ cnt l.length := by unfold cnt; omega
  rcases place_of _ p hp with ⟨s, i, hs, hsn, hi, rfl⟩ | ⟨s, i, hs, hsn, hi, rfl⟩ | he
  · have b1 := hb (32 * s - 1 - i) (by omega)
    have b2 := hb (32 * s + i) (by omega)
    rw [smv_lo lft allT _ _ s i hs hsn hi, if_pos (show allT s i = true from rfl)]
    have := lft_small ((padd l).getD (32 * s - 1 - i) 0, (padd l).getD (32 * s + i) 0) (62 - 4 * (i : Int)) b1.1 b1.2 b2.1 b2.2
    exact ⟨this.1, this.2.1⟩
  · have b1 := hb (32 * s - 1 - i) (by omega)
    have b2 := hb (32 * s + i) (by omega)
    rw [smv_hi lft allT _ _ s i hs hi, if_pos (show allT s i = true from rfl)]
    have := lft_small ((padd l).getD (32 * s - 1 - i) 0, (padd l).getD (32 * s + i) 0) (62 - 4 * (i : Int)) b1.1 b1.2 b2.1 b2.2
    exact ⟨this.2.2.1, this.2.2.2⟩
  · rw [smv_end lft allT _ _ p hp he hn]
    have := hb p hp
    omega
theorem unw_wav (f : List Int) (h : f.length = 32) (hb : ∀ x ∈ f, -1483300 ≤ x ∧ x ≤ 1483300) : unw (wav f) = f := by
  have hw := wav_small f h 1483300 (by decide) hb
  have hk := wbk_wav f h
  generalize wav f = g at *
  unfold unw
  rw [if_pos ((hld_iff g).2 fun x hx => by have := hw x hx; omega)]
  exact hk
/-- LapBack: the samples come back, with the zero ones behind them. -/
theorem smp_frm (l : List Int) (h : ∀ x ∈ l, -1048576 ≤ x ∧ x ≤ 1048576) : smp (frm l) = padd l := by
  have hS := seam_small l h
  have hl := sms_len lft allT (cnt l.length) (padd l)
  have hu := sms_undo lft lfb lfb_lft (cnt l.length) (padd l) (padd_len l)
  unfold smp
  rw [frm_len]
  have e : (frm l).map unw = (List.range (cnt l.length)).map (blk (sms lft allT (cnt l.length) (padd l))) := by
    unfold frm
    generalize sms lft allT (cnt l.length) (padd l) = S at *
    rw [List.map_map]
    apply tb_congr
    intro b hb
    have hblk : ∀ x ∈ blk S b, -1483300 ≤ x ∧ x ≤ 1483300 := by
      apply mem_bd
      intro p hp
      rw [blk_len] at hp
      rw [blk_getD _ _ _ hp]
      exact hS _ (by omega)
    rw [Function.comp_apply]
    exact unw_wav _ (blk_len S b) hblk
  rw [e, jnb_blk _ _ hl, hu]
theorem jnb_near (fs gs : List (List Int)) (hl : fs.length = gs.length) (k : Nat) (hk : ∀ b, b ≠ k → fs.getD b [] = gs.getD b []) (p : Nat) (h : p / 32 ≠ k) : (jnb (fs.map unw)).getD p 0 = (jnb (gs.map unw)).getD p 0 := by
  rcases Nat.lt_or_ge p (32 * fs.length) with hp | hp
  · rw [jnb_getD _ _ (by rw [List.length_map]; exact hp), jnb_getD _ _ (by rw [List.length_map]; omega)]
    have e : ∀ (l : List (List Int)), p / 32 < l.length → (l.map unw).getD (p / 32) [] = unw (l.getD (p / 32) []) := by
      intro l hb
      rw [List.getD_eq_getElem?_getD, List.getD_eq_getElem?_getD, List.getElem?_map, List.getElem?_eq_getElem hb]; rfl
    rw [e fs (by omega), e gs (by omega), hk _ h]
  · have e : ∀ (l : List (List Int)), 32 * l.length ≤ p → (jnb (l.map unw)).getD p 0 = 0 := by
      intro l hb
      rw [List.getD_eq_getElem?_getD, List.getElem?_eq_none (by rw [jnb_len, List.length_map]; exact hb)]; rfl
    rw [e fs hp, e gs (by omega)]
/-- LapAlone: a frame that is changed changes what lies near it alone. -/
theorem smp_alone (fs gs : List (List Int)) (hl : fs.length = gs.length) (k : Nat) (hk : ∀ b, b ≠ k → fs.getD b [] = gs.getD b []) (p : Nat) (hp : p < 32 * fs.length) (h : p + 16 < 32 * k ∨ 32 * k + 48 ≤ p) : (smp fs).getD p 0 = (smp gs).getD p 0 := by
  unfold smp
  rw [← hl, sms_getD _ _ _ _ _ hp, sms_getD _ _ _ _ _ hp]
  have hj := jnb_near fs gs hl k hk
  apply smv_local lfb allT fs.length _ _ p hp
  · exact hj p (by omega)
  · intro s i hs hi
    constructor
    · intro e
      exact hj _ (by omega)
    · intro e
      exact hj _ (by omega)
theorem smv_near (H : Int × Int → Int → Int × Int) (n m : Nat) (x y : List Int) (p k : Nat) (h1 : p / 32 + 1 < n) (h2 : p / 32 + 1 < m) (hk : 32 * (p / 32) + 48 ≤ k) (h : ∀ q, q < k → x.getD q 0 = y.getD q 0) : smv H allT n x p = smv H allT m y p := by
  unfold smv
  by_cases h3 : p % 32 < 16
  · rw [if_pos h3, if_pos h3, h p (by omega), h (32 * (p / 32) - 1 - p % 32) (by omega)]
  · rw [if_neg h3, if_neg h3, h p (by omega), h (32 * (p / 32 + 1) + (31 - p % 32)) (by omega), if_pos ⟨h1, rfl⟩, if_pos ⟨h2, rfl⟩]
/-- LapNear: of samples that begin alike the frames are alike, as far as these go. -/
theorem frm_near (x y : List Int) (k : Nat) (hx : k ≤ x.length) (hy : k ≤ y.length) (h : ∀ q, q < k → x.getD q 0 = y.getD q 0) (b : Nat) (hb : 32 * b + 48 ≤ k) : (frm x).getD b [] = (frm y).getD b [] := by
  have c1 : b + 2 < cnt x.length := by unfold cnt; omega
  have c2 : b + 2 < cnt y.length := by unfold cnt; omega
  unfold frm
  rw [tb_getD _ _ _ _ (by omega), tb_getD _ _ _ _ (by omega)]
  congr 1
  unfold blk
  apply tb_congr
  intro i hi
  rw [sms_getD _ _ _ _ _ (by omega), sms_getD _ _ _ _ _ (by omega)]
  have e : (32 * b + i) / 32 = b := by omega
  refine smv_near lft _ _ _ _ _ k (by omega) (by omega) (by omega) fun q hq => ?_
  have l1 : k ≤ 32 * cnt x.length := by unfold cnt; omega
  have l2 : k ≤ 32 * cnt y.length := by unfold cnt; omega
  rw [padd_getD x q (by omega), padd_getD y q (by omega)]
  exact h q hq
/-- LapCounts. -/
theorem cnt_more (k : Nat) : cnt (k + 32) = cnt k + 1 ∧ k ≤ 32 * (cnt k - 1) ∧ 1 ≤ cnt k ∧ 32 * ((cnt k : Int) - 2) < k := by unfold cnt; omega
end Go.Proofs.Ytpfdjddjoclldaa.M

/- Plain facts of layer 10: points as they lie, number by number; a wheel's rounds step by step; waves and the way back step by step; how great the numbers are on the way. No program is named here. No conditions but those that each fact names. -/
namespace Go.Proofs.Ytpfdjddjoclldaa.M
/-- Points, number by number. -/
def flat : List (Int × Int) → List Int
  | [] => []
  | p :: l => p.1 :: p.2 :: flat l
theorem flat_len : ∀ l, (flat l).length = 2 * l.length
  | [] => rfl
  | p :: l => by
    show (flat l).length + 1 + 1 = 2 * (l.length + 1)
    rw [flat_len l]; omega
theorem flat_fst : ∀ (l : List (Int × Int)) (n : Nat), (flat l).getD (n * 2) 0 = (l.getD n (0, 0)).1
  | [], n => by simp [flat]
  | p :: l, 0 => rfl
  | p :: l, n + 1 => by
    have := flat_fst l n
    rw [show (n + 1) * 2 = n * 2 + 1 + 1 by omega]
    exact this
theorem flat_snd : ∀ (l : List (Int × Int)) (n : Nat), (flat l).getD (n * 2 + 1) 0 = (l.getD n (0, 0)).2
  | [], n => by simp [flat]
  | p :: l, 0 => rfl
  | p :: l, n + 1 => by
    have := flat_snd l n
    rw [show (n + 1) * 2 + 1 = n * 2 + 1 + 1 + 1 by omega]
    exact this
theorem flat_set1 : ∀ (l : List (Int × Int)) (n : Nat) (x : Int), (flat l).set (n * 2) x = flat (l.set n (x, (l.getD n (0, 0)).2))
  | [], n, x => by simp [flat]
  | p :: l, 0, x => rfl
  | p :: l, n + 1, x => by
    have := flat_set1 l n x
    rw [show (n + 1) * 2 = n * 2 + 1 + 1 by omega]
    show p.1 :: p.2 :: (flat l).set (n * 2) x = p.1 :: p.2 :: flat (l.set n (x, (l.getD n (0, 0)).2))
    rw [this]
theorem flat_set2 : ∀ (l : List (Int × Int)) (n : Nat) (y : Int), (flat l).set (n * 2 + 1) y = flat (l.set n ((l.getD n (0, 0)).1, y))
  | [], n, x => by simp [flat]
  | p :: l, 0, x => rfl
  | p :: l, n + 1, y => by
    have := flat_set2 l n y
    rw [show (n + 1) * 2 + 1 = n * 2 + 1 + 1 + 1 by omega]
    show p.1 :: p.2 :: (flat l).set (n * 2 + 1) y = p.1 :: p.2 :: flat (l.set n ((l.getD n (0, 0)).1, y))
    rw [this]
theorem getD_set_self {α : Type} (l : List α) (i : Nat) (x d : α) (h : i < l.length) : (l.set i x).getD i d = x := by
  simp [List.getD_eq_getElem?_getD, h]
theorem getD_set_far {α : Type} (l : List α) (i j : Nat) (x d : α) (h : i ≠ j) : (l.set i x).getD j d = l.getD j d := by
  simp [List.getD_eq_getElem?_getD, List.getElem?_set_ne h]
theorem flat_set (l : List (Int × Int)) (n : Nat) (x y : Int) (h : n < l.length) : ((flat l).set (n * 2) x).set (n * 2 + 1) y = flat (l.set n (x, y)) := by
  rw [flat_set1, flat_set2, getD_set_self _ _ _ _ h, List.set_set]
/-- A round, step by step. -/
def rst (F G : Int × Int → Int × Int → Int → Int × Int) (l : List (Int × Int)) (t : Nat × Nat × Int) : List (Int × Int) :=
  (l.set t.1 (F (l.getD t.1 (0, 0)) (l.getD t.2.1 (0, 0)) t.2.2)).set t.2.1 (G (l.getD t.1 (0, 0)) (l.getD t.2.1 (0, 0)) t.2.2)
theorem rnd_snoc (F G : Int × Int → Int × Int → Int → Int × Int) (t : Nat × Nat × Int) : ∀ (a : List (Nat × Nat × Int)) (l : List (Int × Int)), rnd F G l (a ++ [t]) = rst F G (rnd F G l a) t
  | [], _ => rfl
  | (_, _, _) :: a, _ => rnd_snoc F G t a _
theorem rnd_len (F G : Int × Int → Int × Int → Int → Int × Int) : ∀ (a : List (Nat × Nat × Int)) (l : List (Int × Int)), (rnd F G l a).length = l.length
  | [], _ => rfl
  | (_, _, _) :: a, _ => by
    show (rnd F G _ a).length = _
    rw [rnd_len F G a, List.length_set, List.length_set]
theorem rnd_far (F G : Int × Int → Int × Int → Int → Int × Int) (i : Nat) : ∀ (a : List (Nat × Nat × Int)) (l : List (Int × Int)), (∀ t ∈ a, t.1 ≠ i ∧ t.2.1 ≠ i) → (rnd F G l a).getD i (0, 0) = l.getD i (0, 0)
  | [], l, _ => rfl
  | (p, q, k) :: a, l, h => by
    obtain ⟨h1, h2⟩ := h (p, q, k) (List.mem_cons_self ..)
    show (rnd F G _ a).getD i (0, 0) = _
    rw [rnd_far F G i a _ fun t ht => h t (List.mem_cons_of_mem _ ht), getD_set_far _ _ _ _ _ h2, getD_set_far _ _ _ _ _ h1]
/-- The pairs of a size (half of it is told). -/
def psz (h : Nat) : List (Nat × Nat × Int) := if h = 8 then prs16 else if h = 4 then prs8 else if h = 2 then prs4 else prs2
def isH (h : Nat) : Prop := h = 8 ∨ h = 4 ∨ h = 2 ∨ h = 1
theorem psz_all : ∀ h : Fin 9, isH h → ∀ B : Fin 8, B.1 % h.1 = 0 → ∀ i : Fin 8, i.1 < h.1 →
    (psz h)[B.1 + i.1]? = some (2 * B.1 + i.1, 2 * B.1 + i.1 + h.1, -(i.1 : Int) * 512 / (2 * h.1)) ∧
    (((psz h).take (B.1 + i.1)).all fun t => t.1 != 2 * B.1 + i.1 && t.2.1 != 2 * B.1 + i.1 && t.1 != 2 * B.1 + i.1 + h.1 && t.2.1 != 2 * B.1 + i.1 + h.1) = true := by
  unfold isH
  decide +kernel
theorem psz_at (h B i : Nat) (hh : isH h) (hB : B < 8) (hd : B % h = 0) (hi : i < h) :
    (psz h)[B + i]? = some (2 * B + i, 2 * B + i + h, -(i : Int) * 512 / (2 * h)) ∧
    (∀ t ∈ (psz h).take (B + i), (t.1 ≠ 2 * B + i ∧ t.2.1 ≠ 2 * B + i) ∧ (t.1 ≠ 2 * B + i + h ∧ t.2.1 ≠ 2 * B + i + h)) := by
  have h8 : h < 9 := by unfold isH at hh; omega
  obtain ⟨h1, h2⟩ := psz_all ⟨h, h8⟩ hh ⟨B, hB⟩ hd ⟨i, by omega⟩ hi
  refine ⟨h1, fun t ht => ?_⟩
  have := List.all_eq_true.1 h2 t ht
  simp only [Bool.and_eq_true, bne_iff_ne] at this
  obtain ⟨⟨⟨a, b⟩, c⟩, d⟩ := this
  exact ⟨⟨a, b⟩, ⟨c, d⟩⟩
theorem psz_len (h : Nat) : (psz h).length = 8 := by
  unfold psz
  repeat' split
  all_goals rfl
theorem isH_le {h : Nat} (hh : isH h) : 1 ≤ h ∧ h ≤ 8 ∧ 8 % h = 0 := by
  unfold isH at hh
  rcases hh with rfl | rfl | rfl | rfl <;> decide
theorem isH_room {h B : Nat} (hh : isH h) (hB : B < 8) (hd : B % h = 0) : B + h ≤ 8 ∧ (B + h) % h = 0 := by
  unfold isH at hh
  rcases hh with rfl | rfl | rfl | rfl <;> omega
/-- A round as far as m pairs. -/
def rdn (F G : Int × Int → Int × Int → Int → Int × Int) (h : Nat) (l : List (Int × Int)) (m : Nat) : List (Int × Int) := rnd F G l ((psz h).take m)
theorem rdn_len (F G : Int × Int → Int × Int → Int → Int × Int) (h : Nat) (l : List (Int × Int)) (m : Nat) : (rdn F G h l m).length = l.length := rnd_len ..
theorem rdn_zero (F G : Int × Int → Int × Int → Int → Int × Int) (h : Nat) (l : List (Int × Int)) : rdn F G h l 0 = l := rfl
theorem rdn_step (F G : Int × Int → Int × Int → Int → Int × Int) (h B i : Nat) (l : List (Int × Int)) (hh : isH h) (hB : B < 8) (hd : B % h = 0) (hi : i < h) :
    rdn F G h l (B + i + 1) = ((rdn F G h l (B + i)).set (2 * B + i) (F (l.getD (2 * B + i) (0, 0)) (l.getD (2 * B + i + h) (0, 0)) (-(i : Int) * 512 / (2 * h)))).set (2 * B + i + h) (G (l.getD (2 * B + i) (0, 0)) (l.getD (2 * B + i + h) (0, 0)) (-(i : Int) * 512 / (2 * h))) := by
  obtain ⟨h1, h2⟩ := psz_at h B i hh hB hd hi
  unfold rdn
  rw [List.take_add_one, h1]
  show rnd F G l ((psz h).take (B + i) ++ [_]) = _
  rw [rnd_snoc]
  unfold rst
  rw [rnd_far F G _ _ _ fun t ht => (h2 t ht).1, rnd_far F G _ _ _ fun t ht => (h2 t ht).2]
theorem rdn_fresh (F G : Int × Int → Int × Int → Int → Int × Int) (h B i : Nat) (l : List (Int × Int)) (hh : isH h) (hB : B < 8) (hd : B % h = 0) (hi : i < h) :
    (rdn F G h l (B + i)).getD (2 * B + i) (0, 0) = l.getD (2 * B + i) (0, 0) ∧ (rdn F G h l (B + i)).getD (2 * B + i + h) (0, 0) = l.getD (2 * B + i + h) (0, 0) := by
  obtain ⟨_, h2⟩ := psz_at h B i hh hB hd hi
  exact ⟨rnd_far F G _ _ _ fun t ht => (h2 t ht).1, rnd_far F G _ _ _ fun t ht => (h2 t ht).2⟩
theorem rdn_full (F G : Int × Int → Int × Int → Int → Int × Int) (h : Nat) (l : List (Int × Int)) : rdn F G h l 8 = rnd F G l (psz h) := by
  unfold rdn
  rw [List.take_of_length_le (by rw [psz_len]; omega)]
end Go.Proofs.Ytpfdjddjoclldaa.M

/- Plain facts of layer 10: waves and the way back as far as a place. No program is named here. No conditions but those that each fact names. -/
namespace Go.Proofs.Ytpfdjddjoclldaa.M
theorem rng_set {α : Type} (n : Nat) (f g : Nat → α) (j : Nat) (x : α) (hj : x = g j) (ho : ∀ i, i < n → i ≠ j → f i = g i) : ((List.range n).map f).set j x = (List.range n).map g := by
  apply List.ext_getElem
  · simp
  · intro i h1 h2
    simp only [List.length_set, List.length_map, List.length_range] at h1
    rw [List.getElem_set]
    by_cases e : j = i
    · rw [if_pos e, hj, e]; simp
    · rw [if_neg e]
      simp only [List.getElem_map, List.getElem_range]
      exact ho i h1 fun q => e q.symm
theorem rng_getD {α : Type} (n : Nat) (f : Nat → α) (j : Nat) (d : α) (h : j < n) : ((List.range n).map f).getD j d = f j := by
  simp [List.getD_eq_getElem?_getD, h]
theorem rng_congr {α : Type} (n : Nat) (f g : Nat → α) (h : ∀ i, i < n → f i = g i) : (List.range n).map f = (List.range n).map g := by
  apply List.map_congr_left
  intro i hi
  exact h i (List.mem_range.1 hi)
theorem rng_id {α : Type} (l : List α) (n : Nat) (d : α) (h : l.length = n) : (List.range n).map (fun i => l.getD i d) = l := by
  apply List.ext_getElem
  · simp [h]
  · intro i h1 h2
    simp [List.getD_eq_getElem?_getD, h2]
theorem flp_lt (k : Nat) : flp k < 16 := by unfold flp; omega
theorem flp_flp_all : ∀ k : Fin 16, flp (flp k.1) = k.1 := by decide
theorem flp_flp (k : Nat) (h : k < 16) : flp (flp k) = k := flp_flp_all ⟨k, h⟩
/-- No point turned. -/
def z16 : List (Int × Int) := List.replicate 16 (0, 0)
/-- A frame's first k points. -/
def ptk (f : List Int) (k : Nat) : List (Int × Int) := (List.range 16).map fun n => if n < k then lft (f.getD (2 * n) 0, f.getD (31 - 2 * n) 0) (-(8 * (n : Int) + 2)) else (0, 0)
theorem ptk_len (f : List Int) (k : Nat) : (ptk f k).length = 16 := by simp [ptk]
theorem ptk_zero (f : List Int) : ptk f 0 = z16 := by
  show _ = (List.range 16).map fun _ => ((0, 0) : Int × Int)
  exact rng_congr _ _ _ fun i _ => if_neg (by omega)
theorem ptk_full (f : List Int) : ptk f 16 = pts f := rng_congr _ _ _ fun _ h => if_pos h
theorem ptk_step (f : List Int) (k : Nat) : (ptk f k).set k (lft (f.getD (2 * k) 0, f.getD (31 - 2 * k) 0) (-(8 * (k : Int) + 2))) = ptk f (k + 1) := by
  unfold ptk
  refine rng_set _ _ _ _ _ ?_ ?_
  · rw [if_pos (by omega)]
  · intro i _ hne
    by_cases e : i < k
    · rw [if_pos e, if_pos (by omega)]
    · rw [if_neg e, if_neg (by omega)]
/-- A wheel, turned at its first k points (read backward); and the waves as far as they are told. -/
def ouw (l : List (Int × Int)) (k : Nat) : List (Int × Int) := (List.range 16).map fun n => if flp n < k then lft (l.getD n (0, 0)) (-(8 * (flp n : Int) + 2)) else l.getD n (0, 0)
theorem ouw_len (l : List (Int × Int)) (k : Nat) : (ouw l k).length = 16 := by simp [ouw]
theorem ouw_zero (l : List (Int × Int)) (h : l.length = 16) : ouw l 0 = l := by
  refine Eq.trans ?_ (rng_id l 16 (0, 0) h)
  exact rng_congr _ _ _ fun i _ => if_neg (by omega)
theorem ouw_at (l : List (Int × Int)) (k : Nat) (h : k < 16) : (ouw l k).getD (flp k) (0, 0) = l.getD (flp k) (0, 0) := by
  unfold ouw
  rw [rng_getD _ _ _ _ (flp_lt k), if_neg (by rw [flp_flp k h]; omega)]
theorem ouw_step (l : List (Int × Int)) (k : Nat) (h : k < 16) : (ouw l k).set (flp k) (lft (l.getD (flp k) (0, 0)) (-(8 * (k : Int) + 2))) = ouw l (k + 1) := by
  unfold ouw
  refine rng_set _ _ _ _ _ ?_ ?_
  · rw [if_pos (by rw [flp_flp k h]; omega), flp_flp k h]
  · intro i hi hne
    have hn : flp i ≠ k := fun e => hne (by rw [← e, flp_flp i hi])
    by_cases e : flp i < k
    · rw [if_pos e, if_pos (by omega)]
    · rw [if_neg e, if_neg (by omega)]
def ouf (f : List Int) (l : List (Int × Int)) (k : Nat) : List Int := (List.range 32).map fun i =>
  if i % 2 = 0 then (if i / 2 < k then (lft (l.getD (flp (i / 2)) (0, 0)) (-(8 * ((i / 2 : Nat) : Int) + 2))).1 else f.getD i 0) else (if (31 - i) / 2 < k then -(lft (l.getD (flp ((31 - i) / 2)) (0, 0)) (-(8 * (((31 - i) / 2 : Nat) : Int) + 2))).2 else f.getD i 0)
theorem ouf_len (f : List Int) (l : List (Int × Int)) (k : Nat) : (ouf f l k).length = 32 := by simp [ouf]
theorem ouf_zero (f : List Int) (l : List (Int × Int)) (h : f.length = 32) : ouf f l 0 = f := by
  refine Eq.trans ?_ (rng_id f 32 0 h)
  refine rng_congr _ _ _ fun i _ => ?_
  by_cases e : i % 2 = 0
  · rw [if_pos e, if_neg (by omega)]
  · rw [if_neg e, if_neg (by omega)]
theorem ouf_full (f : List Int) (l : List (Int × Int)) : ouf f l 16 = outp l := by
  unfold ouf outp outpH
  refine rng_congr _ _ _ fun i _ => ?_
  by_cases e : i % 2 = 0
  · rw [if_pos e, if_pos e, if_pos (by omega)]
  · rw [if_neg e, if_neg e, if_pos (by omega)]
theorem ouf_step (f : List Int) (l : List (Int × Int)) (k : Nat) (h : k < 16) :
    ((ouf f l k).set (2 * k) (lft (l.getD (flp k) (0, 0)) (-(8 * (k : Int) + 2))).1).set (31 - 2 * k) (-(lft (l.getD (flp k) (0, 0)) (-(8 * (k : Int) + 2))).2) = ouf f l (k + 1) := by
  unfold ouf
  rw [rng_set 32 _ (fun i => if i % 2 = 0 then (if i / 2 < k + 1 then (lft (l.getD (flp (i / 2)) (0, 0)) (-(8 * ((i / 2 : Nat) : Int) + 2))).1 else f.getD i 0) else (if (31 - i) / 2 < k then -(lft (l.getD (flp ((31 - i) / 2)) (0, 0)) (-(8 * (((31 - i) / 2 : Nat) : Int) + 2))).2 else f.getD i 0)) (2 * k)]
  · refine rng_set _ _ _ _ _ ?_ ?_
    · rw [if_neg (by omega), if_pos (by omega), show (31 - (31 - 2 * k)) / 2 = k by omega]
    · intro i _ hne
      by_cases e : i % 2 = 0
      · rw [if_pos e, if_pos e]
      · rw [if_neg e, if_neg e]
        by_cases e2 : (31 - i) / 2 < k
        · rw [if_pos e2, if_pos (by omega)]
        · rw [if_neg e2, if_neg (by omega)]
  · rw [if_pos (by omega), if_pos (by omega), show 2 * k / 2 = k by omega]
  · intro i _ hne
    by_cases e : i % 2 = 0
    · rw [if_pos e, if_pos e]
      by_cases e2 : i / 2 < k
      · rw [if_pos e2, if_pos (by omega)]
      · rw [if_neg e2, if_neg (by omega)]
    · rw [if_neg e, if_neg e]
/-- The way back: a wheel's points as far as k waves are taken. -/
def pbk (f : List Int) (k : Nat) : List (Int × Int) := (List.range 16).map fun n => if flp n < k then lfb (f.getD (2 * flp n) 0, -(f.getD (31 - 2 * flp n) 0)) (-(8 * (flp n : Int) + 2)) else (0, 0)
theorem pbk_len (f : List Int) (k : Nat) : (pbk f k).length = 16 := by simp [pbk]
theorem pbk_zero (f : List Int) : pbk f 0 = z16 := by
  show _ = (List.range 16).map fun _ => ((0, 0) : Int × Int)
  exact rng_congr _ _ _ fun i _ => if_neg (by omega)
theorem pbk_full (f : List Int) : pbk f 16 = ptsB f := rng_congr _ _ _ fun i _ => if_pos (flp_lt i)
theorem pbk_step (f : List Int) (k : Nat) (h : k < 16) : (pbk f k).set (flp k) (lfb (f.getD (2 * k) 0, -(f.getD (31 - 2 * k) 0)) (-(8 * (k : Int) + 2))) = pbk f (k + 1) := by
  unfold pbk
  refine rng_set _ _ _ _ _ ?_ ?_
  · rw [if_pos (by rw [flp_flp k h]; omega), flp_flp k h]
  · intro i hi hne
    have hn : flp i ≠ k := fun e => hne (by rw [← e, flp_flp i hi])
    by_cases e : flp i < k
    · rw [if_pos e, if_pos (by omega)]
    · rw [if_neg e, if_neg (by omega)]
def obw (l : List (Int × Int)) (k : Nat) : List (Int × Int) := (List.range 16).map fun n => if n < k then lfb (l.getD n (0, 0)) (-(8 * (n : Int) + 2)) else l.getD n (0, 0)
theorem obw_len (l : List (Int × Int)) (k : Nat) : (obw l k).length = 16 := by simp [obw]
theorem obw_zero (l : List (Int × Int)) (h : l.length = 16) : obw l 0 = l := by
  refine Eq.trans ?_ (rng_id l 16 (0, 0) h)
  exact rng_congr _ _ _ fun i _ => if_neg (by omega)
theorem obw_at (l : List (Int × Int)) (k : Nat) (h : k < 16) : (obw l k).getD k (0, 0) = l.getD k (0, 0) := by
  unfold obw
  rw [rng_getD _ _ _ _ h, if_neg (by omega)]
theorem obw_step (l : List (Int × Int)) (k : Nat) : (obw l k).set k (lfb (l.getD k (0, 0)) (-(8 * (k : Int) + 2))) = obw l (k + 1) := by
  unfold obw
  refine rng_set _ _ _ _ _ ?_ ?_
  · rw [if_pos (by omega)]
  · intro i hi hne
    by_cases e : i < k
    · rw [if_pos e, if_pos (by omega)]
    · rw [if_neg e, if_neg (by omega)]
def obf (f : List Int) (l : List (Int × Int)) (k : Nat) : List Int := (List.range 32).map fun i =>
  if i % 2 = 0 then (if i / 2 < k then (lfb (l.getD (i / 2) (0, 0)) (-(8 * ((i / 2 : Nat) : Int) + 2))).1 else f.getD i 0) else (if (31 - i) / 2 < k then (lfb (l.getD ((31 - i) / 2) (0, 0)) (-(8 * (((31 - i) / 2 : Nat) : Int) + 2))).2 else f.getD i 0)
theorem obf_len (f : List Int) (l : List (Int × Int)) (k : Nat) : (obf f l k).length = 32 := by simp [obf]
theorem obf_zero (f : List Int) (l : List (Int × Int)) (h : f.length = 32) : obf f l 0 = f := by
  refine Eq.trans ?_ (rng_id f 32 0 h)
  refine rng_congr _ _ _ fun i _ => ?_
  by_cases e : i % 2 = 0
  · rw [if_pos e, if_neg (by omega)]
  · rw [if_neg e, if_neg (by omega)]
theorem obf_full (f : List Int) (l : List (Int × Int)) : obf f l 16 = outB l := by
  unfold obf outB outBH
  refine rng_congr _ _ _ fun i _ => ?_
  by_cases e : i % 2 = 0
  · rw [if_pos e, if_pos e, if_pos (by omega)]
  · rw [if_neg e, if_neg e, if_pos (by omega)]
theorem obf_step (f : List Int) (l : List (Int × Int)) (k : Nat) (h : k < 16) :
    ((obf f l k).set (2 * k) (lfb (l.getD k (0, 0)) (-(8 * (k : Int) + 2))).1).set (31 - 2 * k) (lfb (l.getD k (0, 0)) (-(8 * (k : Int) + 2))).2 = obf f l (k + 1) := by
  unfold obf
  rw [rng_set 32 _ (fun i => if i % 2 = 0 then (if i / 2 < k + 1 then (lfb (l.getD (i / 2) (0, 0)) (-(8 * ((i / 2 : Nat) : Int) + 2))).1 else f.getD i 0) else (if (31 - i) / 2 < k then (lfb (l.getD ((31 - i) / 2) (0, 0)) (-(8 * (((31 - i) / 2 : Nat) : Int) + 2))).2 else f.getD i 0)) (2 * k)]
  · refine rng_set _ _ _ _ _ ?_ ?_
    · rw [if_neg (by omega), if_pos (by omega), show (31 - (31 - 2 * k)) / 2 = k by omega]
    · intro i _ hne
      by_cases e : i % 2 = 0
      · rw [if_pos e, if_pos e]
      · rw [if_neg e, if_neg e]
        by_cases e2 : (31 - i) / 2 < k
        · rw [if_pos e2, if_pos (by omega)]
        · rw [if_neg e2, if_neg (by omega)]
  · rw [if_pos (by omega), if_pos (by omega), show 2 * k / 2 = k by omega]
  · intro i _ hne
    by_cases e : i % 2 = 0
    · rw [if_pos e, if_pos e]
      by_cases e2 : i / 2 < k
      · rw [if_pos e2, if_pos (by omega)]
      · rw [if_neg e2, if_neg (by omega)]
    · rw [if_neg e, if_neg e]
/-- Points no greater than N; numbers no greater than m. -/
theorem tot_mem (p : Int × Int) : ∀ l : List (Int × Int), p ∈ l → sq2 p ≤ tot l
  | [], h => by cases h
  | q :: l, h => by
    have e : tot (q :: l) = sq2 q + tot l := rfl
    rcases List.mem_cons.1 h with rfl | h
    · have := tot_nn l
      omega
    · have := tot_mem p l h
      have := sq2_nn q
      omega
theorem tot_bd (l : List (Int × Int)) (N : Int) (h0 : 0 ≤ N) (h : tot l ≤ N * N) (n : Nat) : (-N ≤ (l.getD n (0, 0)).1 ∧ (l.getD n (0, 0)).1 ≤ N) ∧ (-N ≤ (l.getD n (0, 0)).2 ∧ (l.getD n (0, 0)).2 ≤ N) := by
  by_cases hn : n < l.length
  · have hm : l.getD n (0, 0) ∈ l := by
      rw [List.getD_eq_getElem?_getD, List.getElem?_eq_getElem hn]
      exact List.getElem_mem hn
    have h1 := tot_mem _ l hm
    have e : sq2 (l.getD n (0, 0)) = (l.getD n (0, 0)).1 * (l.getD n (0, 0)).1 + (l.getD n (0, 0)).2 * (l.getD n (0, 0)).2 := rfl
    have q1 := sqnn (l.getD n (0, 0)).1
    have q2 := sqnn (l.getD n (0, 0)).2
    exact ⟨sq_le _ _ h0 (by omega), sq_le _ _ h0 (by omega)⟩
  · rw [List.getD_eq_getElem?_getD, List.getElem?_eq_none (by omega)]
    simp only [Option.getD_none]
    omega
/-- What no number of a held frame's waves is greater than, on the way. -/
def way : Int := 8589934592
theorem step_way (a b : Int) (N M : Int) (h : Step a b) (hN : 1 ≤ N) (ha : a ≤ N * N) (hM : N + N / 4000 + 19 = M) : 1 ≤ M ∧ b ≤ M * M := by
  have := h.no N hN ha
  rw [hM] at this
  exact ⟨by omega, this⟩
theorem le_way (a N : Int) (hN : 1 ≤ N) (ha : a ≤ N * N) (h : N ≤ way) : a ≤ way * way := by
  have h1 : N * N ≤ N * way := Int.mul_le_mul_of_nonneg_left h (by omega)
  have h2 : N * way ≤ way * way := Int.mul_le_mul_of_nonneg_right h (by omega)
  omega
theorem steps_way (a b c d e f g h i : Int) (p1 : Step a b) (p2 : Step b c) (p3 : Step c d) (p4 : Step d e) (p5 : Step e f) (p6 : Step f g) (p7 : Step g h) (p8 : Step h i) (i' : Int) (p9 : Step i i') (ha : a ≤ 36893488147419103232) :
    b ≤ way * way ∧ d ≤ way * way ∧ f ≤ way * way ∧ h ≤ way * way ∧ i' ≤ way * way := by
  have k0 : a ≤ 6074001000 * 6074001000 := Int.le_trans ha (by decide)
  obtain ⟨n1, l1⟩ := step_way _ _ _ _ p1 (by omega) k0 rfl
  obtain ⟨n2, l2⟩ := step_way _ _ _ _ p2 n1 l1 rfl
  obtain ⟨n3, l3⟩ := step_way _ _ _ _ p3 n2 l2 rfl
  obtain ⟨n4, l4⟩ := step_way _ _ _ _ p4 n3 l3 rfl
  obtain ⟨n5, l5⟩ := step_way _ _ _ _ p5 n4 l4 rfl
  obtain ⟨n6, l6⟩ := step_way _ _ _ _ p6 n5 l5 rfl
  obtain ⟨n7, l7⟩ := step_way _ _ _ _ p7 n6 l6 rfl
  obtain ⟨n8, l8⟩ := step_way _ _ _ _ p8 n7 l7 rfl
  obtain ⟨n9, l9⟩ := step_way _ _ _ _ p9 n8 l8 rfl
  exact ⟨le_way _ _ n1 l1 (by decide), le_way _ _ n3 l3 (by decide), le_way _ _ n5 l5 (by decide), le_way _ _ n7 l7 (by decide), le_way _ _ n9 l9 (by decide)⟩
/-- A frame that is held. -/
def Hld (f : List Int) : Prop := f.length = 32 ∧ ∀ x ∈ f, -1073741824 ≤ x ∧ x ≤ 1073741824
theorem Hld.sqs {f : List Int} (h : Hld f) : sqs f ≤ 36893488147419103232 := by
  have := sqs_le 1073741824 f h.2
  rw [h.1] at this
  exact Int.le_trans this (by decide)
theorem Hld.at {f : List Int} (h : Hld f) (i : Nat) : -1073741824 ≤ f.getD i 0 ∧ f.getD i 0 ≤ 1073741824 := by
  by_cases hi : i < f.length
  · rw [List.getD_eq_getElem?_getD, List.getElem?_eq_getElem hi]
    exact h.2 _ (List.getElem_mem hi)
  · rw [List.getD_eq_getElem?_getD, List.getElem?_eq_none (by omega)]
    simp only [Option.getD_none]
    omega
/-- A wheel's rounds, the i-th ahead. -/
def wrd (f : List Int) : Nat → List (Int × Int)
  | 0 => pts f
  | 1 => bfs (pts f) prs16
  | 2 => bfs (bfs (pts f) prs16) prs8
  | 3 => bfs (bfs (bfs (pts f) prs16) prs8) prs4
  | _ => bfs (bfs (bfs (bfs (pts f) prs16) prs8) prs4) prs2
def wrb (f : List Int) : Nat → List (Int × Int)
  | 0 => ptsB f
  | 1 => ubs (ptsB f) prs2
  | 2 => ubs (ubs (ptsB f) prs2) prs4
  | 3 => ubs (ubs (ubs (ptsB f) prs2) prs4) prs8
  | _ => ubs (ubs (ubs (ubs (ptsB f) prs2) prs4) prs8) prs16
theorem wrd_len (f : List Int) (i : Nat) : (wrd f i).length = 16 := by
  have a1 := pts_len f
  have a2 := bfs16_len _ a1
  have a3 := bfs8_len _ a2
  have a4 := bfs4_len _ a3
  have a5 := bfs2_len _ a4
  match i with
  | 0 => exact a1
  | 1 => exact a2
  | 2 => exact a3
  | 3 => exact a4
  | _ + 4 => exact a5
theorem wrb_len (f : List Int) (i : Nat) : (wrb f i).length = 16 := by
  have a1 := ptsB_len f
  have a2 := ubs2_len _ a1
  have a3 := ubs4_len _ a2
  have a4 := ubs8_len _ a3
  have a5 := ubs16_len _ a4
  match i with
  | 0 => exact a1
  | 1 => exact a2
  | 2 => exact a3
  | 3 => exact a4
  | _ + 4 => exact a5
theorem wrd_bd (f : List Int) (h : Hld f) (i : Nat) (n : Nat) : (-way ≤ ((wrd f i).getD n (0, 0)).1 ∧ ((wrd f i).getD n (0, 0)).1 ≤ way) ∧ (-way ≤ ((wrd f i).getD n (0, 0)).2 ∧ ((wrd f i).getD n (0, 0)).2 ≤ way) := by
  have a1 := pts_len f
  have a2 := bfs16_len _ a1
  have a3 := bfs8_len _ a2
  have a4 := bfs4_len _ a3
  obtain ⟨s1, p1, q1⟩ := step16 _ a1
  obtain ⟨s2, p2, q2⟩ := step8 _ a2
  obtain ⟨s3, p3, q3⟩ := step4 _ a3
  obtain ⟨s4, p4, q4⟩ := step2 _ a4
  obtain ⟨h1, h2, h3, h4, h5⟩ := steps_way _ _ _ _ _ _ _ _ _ (step_pts f h.1) p1 q1 p2 q2 p3 q3 p4 _ q4 h.sqs
  refine tot_bd _ way (by decide) ?_ n
  match i with
  | 0 => exact h1
  | 1 => exact h2
  | 2 => exact h3
  | 3 => exact h4
  | _ + 4 => exact h5
theorem wrb_bd (f : List Int) (h : Hld f) (i : Nat) (n : Nat) : (-way ≤ ((wrb f i).getD n (0, 0)).1 ∧ ((wrb f i).getD n (0, 0)).1 ≤ way) ∧ (-way ≤ ((wrb f i).getD n (0, 0)).2 ∧ ((wrb f i).getD n (0, 0)).2 ≤ way) := by
  have a1 := ptsB_len f
  have a2 := ubs2_len _ a1
  have a3 := ubs4_len _ a2
  have a4 := ubs8_len _ a3
  obtain ⟨s1, p1, q1⟩ := stepU2 _ a1
  obtain ⟨s2, p2, q2⟩ := stepU4 _ a2
  obtain ⟨s3, p3, q3⟩ := stepU8 _ a3
  obtain ⟨s4, p4, q4⟩ := stepU16 _ a4
  obtain ⟨h1, h2, h3, h4, h5⟩ := steps_way _ _ _ _ _ _ _ _ _ (step_ptsB f h.1) p1 q1 p2 q2 p3 q3 p4 _ q4 h.sqs
  refine tot_bd _ way (by decide) ?_ n
  match i with
  | 0 => exact h1
  | 1 => exact h2
  | 2 => exact h3
  | 3 => exact h4
  | _ + 4 => exact h5
/-- Half of the i-th size, forth and back. -/
def hfw (i : Nat) : Nat := [8, 4, 2, 1].getD i 1
def hbw (i : Nat) : Nat := [1, 2, 4, 8].getD i 8
theorem hfw_is (i : Nat) : isH (hfw i) := by
  match i with
  | 0 => exact Or.inl rfl
  | 1 => exact Or.inr (Or.inl rfl)
  | 2 => exact Or.inr (Or.inr (Or.inl rfl))
  | 3 => exact Or.inr (Or.inr (Or.inr rfl))
  | _ + 4 => exact Or.inr (Or.inr (Or.inr rfl))
theorem hbw_is (i : Nat) : isH (hbw i) := by
  match i with
  | 0 => exact Or.inr (Or.inr (Or.inr rfl))
  | 1 => exact Or.inr (Or.inr (Or.inl rfl))
  | 2 => exact Or.inr (Or.inl rfl)
  | 3 => exact Or.inl rfl
  | _ + 4 => exact Or.inl rfl
theorem wrd_next (f : List Int) (i : Nat) (h : i < 4) : rdn (fun z w _ => bfz z w) bfw (hfw i) (wrd f i) 8 = wrd f (i + 1) := by
  rw [rdn_full]
  match i, h with
  | 0, _ => rfl
  | 1, _ => rfl
  | 2, _ => rfl
  | 3, _ => rfl
theorem wrb_next (f : List Int) (i : Nat) (h : i < 4) : rdn ubz ubw (hbw i) (wrb f i) 8 = wrb f (i + 1) := by
  rw [rdn_full]
  match i, h with
  | 0, _ => rfl
  | 1, _ => rfl
  | 2, _ => rfl
  | 3, _ => rfl
end Go.Proofs.Ytpfdjddjoclldaa.M

/- Plain facts of layers 12 and 21: middles and sides; frames that fade, and samples that are cut. No program is named here. No conditions but those that each fact names. -/
namespace Go.Proofs.Ytpfdjddjoclldaa.M

/-- The middle and the side; left and right. -/
def mdl (l r : Int) : Int × Int := (r + (l - r) / 2, l - r)
def mdb (m s : Int) : Int × Int := (m - s / 2 + s, m - s / 2)
theorem mdb_mdl (l r : Int) : mdb (mdl l r).1 (mdl l r).2 = (l, r) := by
  unfold mdb mdl
  simp only [Prod.mk.injEq]
  omega
theorem mdl_mdb (m s : Int) : mdl (mdb m s).1 (mdb m s).2 = (m, s) := by
  unfold mdb mdl
  simp only [Prod.mk.injEq]
  have e : m - s / 2 + s - (m - s / 2) = s := by omega
  rw [e]
  omega
/-- MidBetween. -/
theorem mdl_between (l r : Int) : min l r ≤ (mdl l r).1 ∧ (mdl l r).1 ≤ max l r ∧ (mdl l l) = (l, 0) := by
  unfold mdl
  refine ⟨by omega, by omega, ?_⟩
  simp only [Prod.mk.injEq]
  omega
/-- MidUnlike. -/
theorem mdl_inj (a b c d : Int) : (mdl a b = mdl c d) ↔ (a = c ∧ b = d) := by
  constructor
  · intro h
    have h1 := mdb_mdl a b
    rw [h, mdb_mdl] at h1
    simp only [Prod.mk.injEq] at h1
    omega
  · rintro ⟨rfl, rfl⟩; rfl
theorem mdl_turned (a b : Int) : (mdl b a).2 = -(mdl a b).2 ∧ (mdl a b).1 - 1 ≤ (mdl b a).1 ∧ (mdl b a).1 ≤ (mdl a b).1 + 1 := by
  unfold mdl
  simp only
  omega
theorem mdl_bd (l r n : Int) (h1 : -n ≤ l) (h2 : l ≤ n) (h3 : -n ≤ r) (h4 : r ≤ n) : -n ≤ (mdl l r).1 ∧ (mdl l r).1 ≤ n ∧ -(2 * n) ≤ (mdl l r).2 ∧ (mdl l r).2 ≤ 2 * n := by
  unfold mdl
  simp only
  omega

/-- A coefficient of the n-th frame that didn't come. -/
def scl (x : Int) (n : Nat) : Int := if n = 0 then x else if 4 ≤ n then 0 else ((4 - n : Nat) * x).tdiv 4
/-- Rounded toward 0. -/
theorem tdiv4 (x : Int) : (0 ≤ x → x.tdiv 4 = x / 4) ∧ (x ≤ 0 → x.tdiv 4 = -(-x / 4)) := by
  constructor
  · intro h; exact Int.tdiv_eq_ediv_of_nonneg h
  · intro h
    have := Int.tdiv_eq_ediv_of_nonneg (a := -x) (b := 4) (by omega)
    rw [Int.neg_tdiv] at this
    omega
theorem scl_eq (x : Int) (n : Nat) : scl x n = if n = 0 then x else if n = 1 then (3 * x).tdiv 4 else if n = 2 then (2 * x).tdiv 4 else if n = 3 then x.tdiv 4 else 0 := by
  unfold scl
  by_cases h0 : n = 0
  · rw [if_pos h0, if_pos h0]
  · by_cases h1 : n = 1
    · subst h1; rfl
    · by_cases h2 : n = 2
      · subst h2; rfl
      · by_cases h3 : n = 3
        · subst h3
          show ((1 : Nat) * x : Int).tdiv 4 = x.tdiv 4
          rw [show ((1 : Nat) : Int) * x = x by omega]
        · rw [if_neg h0, if_neg h0, if_neg h1, if_neg h2, if_neg h3, if_pos (by omega)]
/-- None is louder the longer it is missing; none has another sign. -/
theorem scl_falls (x : Int) (n : Nat) : (scl x (n + 1)).natAbs ≤ (scl x n).natAbs ∧ (scl x n).natAbs ≤ x.natAbs ∧ (0 ≤ x → 0 ≤ scl x n) ∧ (x ≤ 0 → scl x n ≤ 0) ∧ (4 ≤ n → scl x n = 0) := by
  have t1 := tdiv4 (3 * x)
  have t2 := tdiv4 (2 * x)
  have t3 := tdiv4 x
  rw [scl_eq, scl_eq]
  by_cases h0 : n = 0
  · subst h0
    simp only [Nat.zero_add, if_true, if_neg (show ¬ (1 : Nat) = 0 by decide)]
    rcases Int.le_total 0 x with h | h
    · have := t1.1 (by omega); omega
    · have := t1.2 (by omega); omega
  · by_cases h1 : n = 1
    · subst h1
      simp only [Nat.reduceAdd, if_true, if_neg (show ¬ (1 : Nat) = 0 by decide), if_neg (show ¬ (2 : Nat) = 0 by decide), if_neg (show ¬ (2 : Nat) = 1 by decide)]
      rcases Int.le_total 0 x with h | h
      · have := t1.1 (by omega); have := t2.1 (by omega); omega
      · have := t1.2 (by omega); have := t2.2 (by omega); omega
    · by_cases h2 : n = 2
      · subst h2
        simp only [Nat.reduceAdd, if_true, if_neg (show ¬ (2 : Nat) = 0 by decide), if_neg (show ¬ (2 : Nat) = 1 by decide), if_neg (show ¬ (3 : Nat) = 0 by decide), if_neg (show ¬ (3 : Nat) = 1 by decide), if_neg (show ¬ (3 : Nat) = 2 by decide)]
        rcases Int.le_total 0 x with h | h
        · have := t2.1 (by omega); have := t3.1 (by omega); omega
        · have := t2.2 (by omega); have := t3.2 (by omega); omega
      · by_cases h3 : n = 3
        · subst h3
          simp only [Nat.reduceAdd, if_true, if_neg (show ¬ (3 : Nat) = 0 by decide), if_neg (show ¬ (3 : Nat) = 1 by decide), if_neg (show ¬ (3 : Nat) = 2 by decide), if_neg (show ¬ (4 : Nat) = 0 by decide), if_neg (show ¬ (4 : Nat) = 1 by decide), if_neg (show ¬ (4 : Nat) = 2 by decide), if_neg (show ¬ (4 : Nat) = 3 by decide)]
          rcases Int.le_total 0 x with h | h
          · have := t3.1 (by omega); omega
          · have := t3.2 (by omega); omega
        · rw [if_neg h0, if_neg h1, if_neg h2, if_neg h3, if_neg (by omega), if_neg (by omega), if_neg (by omega), if_neg (by omega)]
          omega
/-- A sample, cut. -/
def ctS (x : Int) : Int := if 32767 < x then 32767 else if x < -32768 then -32768 else x
theorem ctS_bd (x : Int) : -32768 ≤ ctS x ∧ ctS x ≤ 32767 := by
  unfold ctS
  split
  · omega
  · split <;> omega
theorem ctS_twice (x : Int) : ctS (ctS x) = ctS x := by
  have h := ctS_bd x
  generalize ctS x = y at *
  unfold ctS
  rw [if_neg (by omega), if_neg (by omega)]
/-- How many in a row didn't come, and what came last, behind so many frames: a list of what came. -/
def rowN {α : Type} (l : List (Bool × α)) (d : α) : Nat → Nat × α
  | 0 => (0, d)
  | n + 1 => match l[n]? with
    | some (true, a) => (0, a)
    | some (false, _) => ((rowN l d n).1 + 1, (rowN l d n).2)
    | none => rowN l d n
theorem rowN_append {α : Type} (l m : List (Bool × α)) (d : α) (n : Nat) (h : n ≤ l.length) : rowN (l ++ m) d n = rowN l d n := by
  induction n with
  | zero => rfl
  | succ n ih =>
    have ih := ih (by omega)
    unfold rowN
    rw [List.getElem?_append_left (by omega), ih]
end Go.Proofs.Ytpfdjddjoclldaa.M

/- Plain facts of layer 10: two points crossed, first number by first, then second by second. No program is named here. No conditions but those that each fact names. -/
namespace Go.Proofs.Ytpfdjddjoclldaa.M
/-- A point's first number, or its second. -/
def co (m : Nat) (v : Int × Int) : Int := if m = 0 then v.1 else v.2
theorem flat_co (l : List (Int × Int)) (n m : Nat) (hm : m < 2) : (flat l).getD (n * 2 + m) 0 = co m (l.getD n (0, 0)) := by
  have : m = 0 ∨ m = 1 := by omega
  rcases this with rfl | rfl
  · exact flat_fst l n
  · exact flat_snd l n
/-- Points s and t of a list, behind m steps: P and Q are what their first numbers, and their second ones, are crossed to. -/
def crs (l : List (Int × Int)) (s t : Nat) (P Q : Int × Int) : Nat → List (Int × Int)
  | 0 => l
  | 1 => (l.set s (P.1, (l.getD s (0, 0)).2)).set t (P.2, (l.getD t (0, 0)).2)
  | _ => (l.set s (P.1, Q.1)).set t (P.2, Q.2)
/-- .. behind the next one's first store. -/
def crm (l : List (Int × Int)) (s t : Nat) (P Q : Int × Int) : Nat → List (Int × Int)
  | 0 => l.set s (P.1, (l.getD s (0, 0)).2)
  | _ => (l.set s (P.1, Q.1)).set t (P.2, (l.getD t (0, 0)).2)
theorem crs_len (l : List (Int × Int)) (s t : Nat) (P Q : Int × Int) (m : Nat) : (crs l s t P Q m).length = l.length := by
  match m with
  | 0 => rfl
  | 1 => simp [crs]
  | _ + 2 => simp [crs]
theorem crm_len (l : List (Int × Int)) (s t : Nat) (P Q : Int × Int) (m : Nat) : (crm l s t P Q m).length = l.length := by
  match m with
  | 0 => simp [crm]
  | _ + 1 => simp [crm]
theorem crs_at (l : List (Int × Int)) (s t : Nat) (P Q : Int × Int) (m : Nat) (hs : s < l.length) (ht : t < l.length) (hne : s ≠ t) (hm : m < 2) :
    (flat (crs l s t P Q m)).getD (s * 2 + m) 0 = co m (l.getD s (0, 0)) ∧ (flat (crs l s t P Q m)).getD (t * 2 + m) 0 = co m (l.getD t (0, 0)) := by
  rw [flat_co _ _ _ hm, flat_co _ _ _ hm]
  have : m = 0 ∨ m = 1 := by omega
  rcases this with rfl | rfl
  · exact ⟨rfl, rfl⟩
  · show co 1 (((l.set s (P.1, (l.getD s (0, 0)).2)).set t (P.2, (l.getD t (0, 0)).2)).getD s (0, 0)) = _ ∧ co 1 (((l.set s (P.1, (l.getD s (0, 0)).2)).set t (P.2, (l.getD t (0, 0)).2)).getD t (0, 0)) = _
    rw [getD_set_far _ _ _ _ _ (Ne.symm hne), getD_set_self _ _ _ _ hs, getD_set_self _ _ _ _ (by rw [List.length_set]; exact ht)]
    exact ⟨rfl, rfl⟩
theorem crs_one (l : List (Int × Int)) (s t : Nat) (P Q : Int × Int) (m : Nat) (hs : s < l.length) (hne : s ≠ t) (hm : m < 2) :
    (flat (crs l s t P Q m)).set (s * 2 + m) (if m = 0 then P.1 else Q.1) = flat (crm l s t P Q m) := by
  have : m = 0 ∨ m = 1 := by omega
  rcases this with rfl | rfl
  · exact flat_set1 _ _ _
  · refine (flat_set2 _ _ _).trans ?_
    show flat (((l.set s (P.1, (l.getD s (0, 0)).2)).set t (P.2, (l.getD t (0, 0)).2)).set s ((((l.set s (P.1, (l.getD s (0, 0)).2)).set t (P.2, (l.getD t (0, 0)).2)).getD s (0, 0)).1, Q.1)) = flat ((l.set s (P.1, Q.1)).set t (P.2, (l.getD t (0, 0)).2))
    rw [getD_set_far _ _ _ _ _ (Ne.symm hne), getD_set_self _ _ _ _ hs, List.set_comm _ _ (Ne.symm hne), List.set_set]
theorem crm_one (l : List (Int × Int)) (s t : Nat) (P Q : Int × Int) (m : Nat) (ht : t < l.length) (hne : s ≠ t) (hm : m < 2) :
    (flat (crm l s t P Q m)).set (t * 2 + m) (if m = 0 then P.2 else Q.2) = flat (crs l s t P Q (m + 1)) := by
  have : m = 0 ∨ m = 1 := by omega
  rcases this with rfl | rfl
  · refine (flat_set1 _ _ _).trans ?_
    show flat ((l.set s (P.1, (l.getD s (0, 0)).2)).set t (P.2, ((l.set s (P.1, (l.getD s (0, 0)).2)).getD t (0, 0)).2)) = flat ((l.set s (P.1, (l.getD s (0, 0)).2)).set t (P.2, (l.getD t (0, 0)).2))
    rw [getD_set_far _ _ _ _ _ hne]
  · refine (flat_set2 _ _ _).trans ?_
    show flat (((l.set s (P.1, Q.1)).set t (P.2, (l.getD t (0, 0)).2)).set t ((((l.set s (P.1, Q.1)).set t (P.2, (l.getD t (0, 0)).2)).getD t (0, 0)).1, Q.2)) = flat ((l.set s (P.1, Q.1)).set t (P.2, Q.2))
    rw [getD_set_self _ _ _ _ (by rw [List.length_set]; exact ht), List.set_set]
theorem crs_two (l : List (Int × Int)) (s t : Nat) (P Q : Int × Int) (hs : s < l.length) (ht : t < l.length) (hne : s ≠ t) :
    (crs l s t P Q 2).getD s (0, 0) = (P.1, Q.1) ∧ (crs l s t P Q 2).getD t (0, 0) = (P.2, Q.2) := by
  show ((l.set s (P.1, Q.1)).set t (P.2, Q.2)).getD s (0, 0) = _ ∧ ((l.set s (P.1, Q.1)).set t (P.2, Q.2)).getD t (0, 0) = _
  rw [getD_set_far _ _ _ _ _ (Ne.symm hne), getD_set_self _ _ _ _ hs, getD_set_self _ _ _ _ (by rw [List.length_set]; exact ht)]
  exact ⟨rfl, rfl⟩
theorem crs_meet (l : List (Int × Int)) (i j : Nat) (k : Int) (hne : i ≠ j) :
    (crs l j i (lft ((l.getD i (0, 0)).1, (l.getD j (0, 0)).1) 64) (lft ((l.getD i (0, 0)).2, (l.getD j (0, 0)).2) 64) 2).set j (bfw (l.getD i (0, 0)) (l.getD j (0, 0)) k) = (l.set i (bfz (l.getD i (0, 0)) (l.getD j (0, 0)))).set j (bfw (l.getD i (0, 0)) (l.getD j (0, 0)) k) := by
  show ((l.set j _).set i _).set j _ = _
  rw [List.set_comm _ _ hne, List.set_set, List.set_comm _ _ (Ne.symm hne)]
  rfl
theorem crs_part (l : List (Int × Int)) (i j : Nat) (k : Int) (hne : i ≠ j) (u : Int × Int) (hu : lfb (l.getD j (0, 0)) k = u) :
    crs (l.set j u) i j (lfb (u.1, (l.getD i (0, 0)).1) 64) (lfb (u.2, (l.getD i (0, 0)).2) 64) 2 = (l.set i (ubz (l.getD i (0, 0)) (l.getD j (0, 0)) k)).set j (ubw (l.getD i (0, 0)) (l.getD j (0, 0)) k) := by
  show ((l.set j u).set i _).set j _ = _
  rw [List.set_comm _ _ (Ne.symm hne), List.set_set]
  subst hu
  rfl
end Go.Proofs.Ytpfdjddjoclldaa.M
