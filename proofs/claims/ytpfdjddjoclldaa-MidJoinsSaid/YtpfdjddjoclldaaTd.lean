/-
  Plain facts of layer 10: layers of turns and how they keep squares' sums; waves and the way back on lists; that each undoes the other, and how great they are. No program is named here. No conditions but those that each fact names.
-/
import Derived.Test.YtpfdjddjoclldaaTc
namespace Go.Proofs.Ytpfdjddjoclldaa.M

/-- The squares' sum of two numbers, and of points. -/
def sq2 (v : Int × Int) : Int := v.1 * v.1 + v.2 * v.2
def tot : List (Int × Int) → Int
  | [] => 0
  | v :: l => sq2 v + tot l
theorem sq2_nn (v : Int × Int) : 0 ≤ sq2 v := by
  have := sqnn v.1
  have := sqnn v.2
  unfold sq2; omega
theorem tot_nn : ∀ l, 0 ≤ tot l
  | [] => Int.le_refl 0
  | v :: l => by
    have := sq2_nn v
    have := tot_nn l
    show 0 ≤ sq2 v + tot l
    omega
/-- w has nearly the squares' sum of v. -/
structure Near2 (v w : Int × Int) (m : Int) : Prop where
  nn : 0 ≤ m
  le : m * m ≤ sq2 v
  up : 2500 * (sq2 w - sq2 v) ≤ sq2 v + 21500 * m + 15000
  dn : 2500 * (sq2 v - sq2 w) ≤ sq2 v + 21500 * m + 15000
/-- The greater of two numbers, without its sign. -/
def mx2 (v : Int × Int) : Int := max (max v.1 (-v.1)) (max v.2 (-v.2))
theorem mx2_bd (v : Int × Int) : -mx2 v ≤ v.1 ∧ v.1 ≤ mx2 v ∧ -mx2 v ≤ v.2 ∧ v.2 ≤ mx2 v ∧ 0 ≤ mx2 v := by
  unfold mx2; omega
theorem mx2_sq (v : Int × Int) : mx2 v * mx2 v ≤ v.1 * v.1 + v.2 * v.2 := by
  have q1 := sqnn v.1
  have q2 := sqnn v.2
  have h : mx2 v = v.1 ∨ mx2 v = -v.1 ∨ mx2 v = v.2 ∨ mx2 v = -v.2 := by unfold mx2; omega
  rcases h with h | h | h | h
  · rw [h]; omega
  · rw [h, Int.neg_mul_neg]; omega
  · rw [h]; omega
  · rw [h, Int.neg_mul_neg]; omega
theorem near2_rot (v w : Int × Int) (h : ∃ z, Unit8 z ∧ Rot z v w (mx2 v) (65536 * mx2 v + 1610612736)) : Near2 v w (mx2 v) := by
  obtain ⟨z, hz, hr⟩ := h
  obtain ⟨h1, h2, h3, h4, h5⟩ := mx2_bd v
  obtain ⟨k1, k2⟩ := rot_size z v w (mx2 v) hz hr h1 h2 h3 h4 (mx2_sq v)
  exact ⟨h5, mx2_sq v, k1, k2⟩
theorem near2_lft (v : Int × Int) (k : Int) : Near2 v (lft v k) (mx2 v) := by
  obtain ⟨h1, h2, h3, h4, _⟩ := mx2_bd v
  exact near2_rot v _ (lft_rot' v k _ h1 h2 h3 h4)
theorem near2_lfb (v : Int × Int) (k : Int) : Near2 v (lfb v k) (mx2 v) := by
  obtain ⟨h1, h2, h3, h4, _⟩ := mx2_bd v
  exact near2_rot v _ (lfb_rot v k _ h1 h2 h3 h4)
theorem near2_self (v : Int × Int) : Near2 v v (mx2 v) := by
  have h1 := (mx2_bd v).2.2.2.2
  have h2 := mx2_sq v
  have h3 := sq2_nn v
  exact ⟨h1, h2, by omega, by omega⟩

/-- A layer: pairs ahead and behind. -/
def bef (l : List ((Int × Int) × (Int × Int))) : List (Int × Int) := l.map Prod.fst
def beh (l : List ((Int × Int) × (Int × Int))) : List (Int × Int) := l.map Prod.snd
def ms (l : List ((Int × Int) × (Int × Int))) : Int := (l.map fun p => mx2 p.1).sum
def Lay (l : List ((Int × Int) × (Int × Int))) : Prop := ∀ p ∈ l, Near2 p.1 p.2 (mx2 p.1)
theorem lay_sum : ∀ l : List ((Int × Int) × (Int × Int)), Lay l → 2500 * (tot (beh l) - tot (bef l)) ≤ tot (bef l) + 21500 * ms l + 15000 * l.length ∧ 2500 * (tot (bef l) - tot (beh l)) ≤ tot (bef l) + 21500 * ms l + 15000 * l.length
  | [], _ => by simp [beh, bef, ms, tot]
  | p :: l, h => by
    have ih := lay_sum l fun q hq => h q (List.mem_cons_of_mem _ hq)
    have hp := h p (List.mem_cons_self ..)
    obtain ⟨_, _, up, dn⟩ := hp
    have e1 : tot (beh (p :: l)) = sq2 p.2 + tot (beh l) := rfl
    have e2 : tot (bef (p :: l)) = sq2 p.1 + tot (bef l) := rfl
    have e3 : ms (p :: l) = mx2 p.1 + ms l := by unfold ms; rw [List.map_cons, List.sum_cons]
    rw [e1, e2, e3, List.length_cons]
    omega
theorem ms_nn : ∀ l : List ((Int × Int) × (Int × Int)), 0 ≤ ms l
  | [] => by simp [ms]
  | p :: l => by
    have := ms_nn l
    have := (mx2_bd p.1).2.2.2.2
    have e3 : ms (p :: l) = mx2 p.1 + ms l := by unfold ms; rw [List.map_cons, List.sum_cons]
    omega
theorem ms_lin (x : Int) : ∀ l : List ((Int × Int) × (Int × Int)), 2 * (x * ms l) ≤ l.length * (x * x) + tot (bef l)
  | [] => by simp [ms, bef, tot]
  | p :: l => by
    have ih := ms_lin x l
    have e1 : tot (bef (p :: l)) = sq2 p.1 + tot (bef l) := rfl
    have e3 : ms (p :: l) = mx2 p.1 + ms l := by unfold ms; rw [List.map_cons, List.sum_cons]
    have h1 := mx2_sq p.1
    have h2 := sqnn (x - mx2 p.1)
    have e4 : (x - mx2 p.1) * (x - mx2 p.1) = x * x - 2 * (x * mx2 p.1) + mx2 p.1 * mx2 p.1 := by grind
    rw [e1, e3, List.length_cons, Int.mul_add]
    have e5 : ((l.length + 1 : Nat) : Int) * (x * x) = (l.length : Int) * (x * x) + x * x := by rw [Int.natCast_add]; grind
    rw [e5]
    have h3 : sq2 p.1 = p.1.1 * p.1.1 + p.1.2 * p.1.2 := rfl
    omega
theorem ms_cs (l : List ((Int × Int) × (Int × Int))) : ms l * ms l ≤ l.length * tot (bef l) := by
  induction l with
  | nil => simp [ms, bef, tot]
  | cons p l ih =>
    have e1 : tot (bef (p :: l)) = sq2 p.1 + tot (bef l) := rfl
    have e3 : ms (p :: l) = mx2 p.1 + ms l := by unfold ms; rw [List.map_cons, List.sum_cons]
    have h1 := ms_lin (mx2 p.1) l
    have h2 := mx2_sq p.1
    have h3 : sq2 p.1 = p.1.1 * p.1.1 + p.1.2 * p.1.2 := rfl
    have e4 : (mx2 p.1 + ms l) * (mx2 p.1 + ms l) = mx2 p.1 * mx2 p.1 + 2 * (mx2 p.1 * ms l) + ms l * ms l := by grind
    have e5 : ((l.length + 1 : Nat) : Int) * (sq2 p.1 + tot (bef l)) = (l.length : Int) * sq2 p.1 + sq2 p.1 + (l.length : Int) * tot (bef l) + tot (bef l) := by rw [Int.natCast_add]; grind
    have h4 : (l.length : Int) * (mx2 p.1 * mx2 p.1) ≤ (l.length : Int) * sq2 p.1 := Int.mul_le_mul_of_nonneg_left (by omega) (by omega)
    rw [e1, e3, List.length_cons, e4, e5]
    omega
/-- What a layer does with the squares' sum. -/
structure Step (S S' : Int) : Prop where
  nn : 0 ≤ S
  up : 140 * (S' - S) ≤ S + 6272000
  dn : 140 * (S - S') ≤ S + 6272000
  no : ∀ N, 1 ≤ N → S ≤ N * N → S' ≤ (N + N / 4000 + 19) * (N + N / 4000 + 19)
theorem lay_step (l : List ((Int × Int) × (Int × Int))) (h : Lay l) (hl : l.length = 16) : Step (tot (bef l)) (tot (beh l)) := by
  obtain ⟨s1, s2⟩ := lay_sum l h
  have hn := tot_nn (bef l)
  have hm := ms_nn l
  have hc := ms_cs l
  have hlin := ms_lin 640 l
  rw [hl] at s1 s2 hc hlin
  generalize tot (bef l) = S at *
  generalize tot (beh l) = S' at *
  generalize ms l = m at *
  refine ⟨hn, by omega, by omega, fun N h1 h2 => ?_⟩
  have k1 := sq_le m (4 * N) (by omega) (by
    have e : 4 * N * (4 * N) = 16 * (N * N) := by grind
    rw [e]; omega)
  obtain ⟨d, hd⟩ : ∃ d, N / 4000 = d := ⟨_, rfl⟩
  have hd1 : 0 ≤ d := by omega
  have hd2 : N ≤ 4000 * d + 3999 := by omega
  rw [hd]
  have e2 : (N + d + 19) * (N + d + 19) = N * N + 2 * (N * d) + 38 * N + d * d + 38 * d + 361 := by grind
  have h3 := Int.mul_le_mul_of_nonneg_left hd2 (show 0 ≤ N by omega)
  have e3 : N * (4000 * d + 3999) = 4000 * (N * d) + 3999 * N := by grind
  have h4 := sqnn d
  rw [e3] at h3
  rw [e2]
  generalize N * N = Q at *
  generalize N * d = R at *
  generalize d * d = T at *
  omega
/-- Ten layers. -/
theorem step_up (a s t al be : Int) (h : Step s t) (ha : 0 ≤ a) (k : 1000000 * s ≤ al * a + be) (al' be' : Int) (h1 : 141 * al ≤ 140 * al') (h2 : 141 * be + 6272000000000 ≤ 140 * be') : 1000000 * t ≤ al' * a + be' := by
  have u := h.up
  have e := Int.mul_le_mul_of_nonneg_right h1 ha
  have e1 : 141 * al * a = 141 * (al * a) := by grind
  have e2 : 140 * al' * a = 140 * (al' * a) := by grind
  rw [e1, e2] at e
  generalize al * a = x at *
  generalize al' * a = y at *
  omega
theorem step_dn (a s t al be : Int) (h : Step s t) (ha : 0 ≤ a) (k : al * a - be ≤ 1000000 * s) (al' be' : Int) (h1 : 140 * al' ≤ 139 * al) (h2 : 139 * be + 6272000000000 ≤ 140 * be') : al' * a - be' ≤ 1000000 * t := by
  have u := h.dn
  have e := Int.mul_le_mul_of_nonneg_right h1 ha
  have e1 : 139 * al * a = 139 * (al * a) := by grind
  have e2 : 140 * al' * a = 140 * (al' * a) := by grind
  rw [e1, e2] at e
  generalize al * a = x at *
  generalize al' * a = y at *
  omega
theorem step_no (m s t N p q : Int) (h : Step s t) (hm : 0 ≤ m) (hN : 1 ≤ N) (k : s ≤ N * N) (kN : 1000000 * N ≤ p * m + q) (p' q' : Int) (h1 : 4001 * p ≤ 4000 * p') (h2 : 4001 * q + 76000000000 ≤ 4000 * q') : ∃ N', 1 ≤ N' ∧ t ≤ N' * N' ∧ 1000000 * N' ≤ p' * m + q' := by
  refine ⟨N + N / 4000 + 19, by omega, h.no N hN k, ?_⟩
  have e := Int.mul_le_mul_of_nonneg_right h1 hm
  have e1 : 4001 * p * m = 4001 * (p * m) := by grind
  have e2 : 4000 * p' * m = 4000 * (p' * m) := by grind
  rw [e1, e2] at e
  generalize p * m = x at *
  generalize p' * m = y at *
  omega
theorem steps_size (a b c d e f g h i j k : Int) (h1 : Step a b) (h2 : Step b c) (h3 : Step c d) (h4 : Step d e) (h5 : Step e f) (h6 : Step f g) (h7 : Step g h) (h8 : Step h i) (h9 : Step i j) (h10 : Step j k) :
    8 * (k - a) ≤ a + 134217720 ∧ 8 * (a - k) ≤ a + 134217720 := by
  have n0 := h1.nn
  have u1 := step_up a a b 1000000 0 h1 n0 (by omega) 1007143 44800000000 (by omega) (by omega)
  have d1 := step_dn a a b 1000000 0 h1 n0 (by omega) 992857 44800000000 (by omega) (by omega)
  have u2 := step_up a b c 1007143 44800000000 h2 n0 u1 1014337 89920000000 (by omega) (by omega)
  have d2 := step_dn a b c 992857 44800000000 h2 n0 d1 985765 89280000000 (by omega) (by omega)
  have u3 := step_up a c d 1014337 89920000000 h3 n0 u2 1021583 135362285715 (by omega) (by omega)
  have d3 := step_dn a c d 985765 89280000000 h3 n0 d2 978723 133442285715 (by omega) (by omega)
  have u4 := step_up a d e 1021583 135362285715 h4 n0 u3 1028881 181129159185 (by omega) (by omega)
  have d4 := step_dn a d e 978723 133442285715 h4 n0 d3 971732 177289126532 (by omega) (by omega)
  have u5 := step_up a e f 1028881 181129159185 h5 n0 u4 1036231 227222938894 (by omega) (by omega)
  have d5 := step_dn a e f 971732 177289126532 h5 n0 d4 964791 220822775629 (by omega) (by omega)
  have u6 := step_up a f g 1036231 227222938894 h6 n0 u5 1043633 273645959887 (by omega) (by omega)
  have d6 := step_dn a f g 964791 220822775629 h6 n0 d5 957899 264045470089 (by omega) (by omega)
  have u7 := step_up a g h 1043633 273645959887 h7 n0 u6 1051088 320400573887 (by omega) (by omega)
  have d7 := step_dn a g h 957899 264045470089 h7 n0 d6 951056 306959431017 (by omega) (by omega)
  have u8 := step_up a h i 1051088 320400573887 h8 n0 u7 1058596 367489149415 (by omega) (by omega)
  have d8 := step_dn a h i 951056 306959431017 h8 n0 d7 944262 349566863653 (by omega) (by omega)
  have u9 := step_up a i j 1058596 367489149415 h9 n0 u8 1066158 414914071911 (by omega) (by omega)
  have d9 := step_dn a i j 944262 349566863653 h9 n0 d8 937517 391869957485 (by omega) (by omega)
  have u10 := step_up a j k 1066158 414914071911 h10 n0 u9 1073774 462677743854 (by omega) (by omega)
  have d10 := step_dn a j k 937517 391869957485 h10 n0 d9 930820 433870886361 (by omega) (by omega)
  clear h1 h2 h3 h4 h5 h6 h7 h8 h9 h10 u1 u2 u3 u4 u5 u6 u7 u8 u9 d1 d2 d3 d4 d5 d6 d7 d8 d9
  constructor <;> omega
theorem steps_small (a b c d e f g h i j k : Int) (h1 : Step a b) (h2 : Step b c) (h3 : Step c d) (h4 : Step d e) (h5 : Step e f) (h6 : Step f g) (h7 : Step g h) (h8 : Step h i) (h9 : Step i j) (h10 : Step j k) (m : Int) (hm : 0 ≤ m) (ha : a ≤ 32 * (m * m)) :
    k ≤ (8 * m + 256) * (8 * m + 256) := by
  have q := sqnn m
  have e0 : (6 * m + 1) * (6 * m + 1) = 36 * (m * m) + 12 * m + 1 := by grind
  have k0 : a ≤ (6 * m + 1) * (6 * m + 1) := by rw [e0]; omega
  obtain ⟨n1, l1, k1, b1⟩ := step_no m a b (6 * m + 1) 6000000 1000000 h1 hm (by omega) k0 (by omega) 6001500 20000250 (by omega) (by omega)
  obtain ⟨n2, l2, k2, b2⟩ := step_no m b c n1 6001500 20000250 h2 hm l1 k1 b1 6003001 39005251 (by omega) (by omega)
  obtain ⟨n3, l3, k3, b3⟩ := step_no m c d n2 6003001 39005251 h3 hm l2 k2 b2 6004502 58015003 (by omega) (by omega)
  obtain ⟨n4, l4, k4, b4⟩ := step_no m d e n3 6004502 58015003 h4 hm l3 k3 b3 6006004 77029507 (by omega) (by omega)
  obtain ⟨n5, l5, k5, b5⟩ := step_no m e f n4 6006004 77029507 h5 hm l4 k4 b4 6007506 96048765 (by omega) (by omega)
  obtain ⟨n6, l6, k6, b6⟩ := step_no m f g n5 6007506 96048765 h6 hm l5 k5 b5 6009008 115072778 (by omega) (by omega)
  obtain ⟨n7, l7, k7, b7⟩ := step_no m g h n6 6009008 115072778 h7 hm l6 k6 b6 6010511 134101547 (by omega) (by omega)
  obtain ⟨n8, l8, k8, b8⟩ := step_no m h i n7 6010511 134101547 h8 hm l7 k7 b7 6012014 153135073 (by omega) (by omega)
  obtain ⟨n9, l9, k9, b9⟩ := step_no m i j n8 6012014 153135073 h9 hm l8 k8 b8 6013518 172173357 (by omega) (by omega)
  obtain ⟨n10, l10, k10, b10⟩ := step_no m j k n9 6013518 172173357 h10 hm l9 k9 b9 6015022 191216401 (by omega) (by omega)
  have hb : n10 ≤ 8 * m + 256 := by clear h1 h2 h3 h4 h5 h6 h7 h8 h9 h10 b1 b2 b3 b4 b5 b6 b7 b8 b9 k0 k1 k2 k3 k4 k5 k6 k7 k8 k9 k10 q e0 ha; omega
  exact Int.le_trans k10 (Int.mul_le_mul hb hb (by omega) (by omega))
end Go.Proofs.Ytpfdjddjoclldaa.M
