/-
  Plain facts of layer 9: parts, the factors of the angles 0 to 64, turns and their undoing; that a turn is nearly the rotation, that the squares' sum nearly stays, that a turn behind a turn is nearly the turn by both angles. No program is named here. No conditions but those that each fact names.
-/
import Derived.Test.YtpfdjddjoclldaaTa
namespace Go.Proofs.Ytpfdjddjoclldaa.M

/-- A number's part by a factor. -/
def prt (x m : Int) : Int := (x * m + 16384) / 32768
theorem prt_eq (x m : Int) : ∃ r, 32768 * prt x m = x * m + r ∧ -16384 ≤ r ∧ r ≤ 16384 := by
  refine ⟨32768 * prt x m - x * m, by omega, ?_, ?_⟩
  · unfold prt; generalize x * m = t; omega
  · unfold prt; generalize x * m = t; omega
theorem prt_zero (x : Int) : prt x 0 = 0 := by unfold prt; rw [Int.mul_zero]; rfl
theorem prt_one (x : Int) : prt x 32768 = x := by unfold prt; omega
theorem prt_nil (m : Int) : prt 0 m = 0 := by unfold prt; rw [Int.zero_mul]; rfl
/-- A product's size. -/
theorem mulb (a x A m : Int) (h1 : -A ≤ a) (h2 : a ≤ A) (h3 : -m ≤ x) (h4 : x ≤ m) : -(A * m) ≤ a * x ∧ a * x ≤ A * m := by
  have hA : 0 ≤ A := by omega
  have hm : 0 ≤ m := by omega
  have e1 : a.natAbs ≤ A.toNat := by omega
  have e2 : x.natAbs ≤ m.toNat := by omega
  have e3 := Nat.mul_le_mul e1 e2
  rw [← Int.natAbs_mul] at e3
  have e4 : ((A.toNat * m.toNat : Nat) : Int) = A * m := by rw [Int.natCast_mul, Int.toNat_of_nonneg hA, Int.toNat_of_nonneg hm]
  generalize a * x = t at *
  generalize A * m = s at *
  omega
/-- A part lies between nothing and all. -/
theorem prt_between (y f : Int) (h0 : 0 ≤ f) (h1 : f ≤ 32768) : min y 0 - 1 ≤ prt y f ∧ prt y f ≤ max y 0 + 1 := by
  obtain ⟨r, e, r1, r2⟩ := prt_eq y f
  rcases Int.le_total 0 y with h | h
  · have k1 := Int.mul_nonneg h h0
    have k2 := Int.mul_le_mul_of_nonneg_left h1 h
    generalize y * f = t at *
    omega
  · have k1 := Int.mul_nonneg (show 0 ≤ -y by omega) h0
    have k2 := Int.mul_le_mul_of_nonneg_left h1 (show 0 ≤ -y by omega)
    rw [Int.neg_mul] at k1
    rw [Int.neg_mul, Int.neg_mul] at k2
    generalize y * f = t at *
    omega

/-- The factors of the angles 0 to 64. -/
def fac9 : List (Int × Int) := [(0, 0), (201, 402), (402, 804), (603, 1206), (804, 1608), (1006, 2009), (1207, 2411), (1408, 2811), (1610, 3212), (1811, 3612), (2013, 4011), (2215, 4410), (2417, 4808), (2619, 5205), (2822, 5602), (3024, 5998), (3227, 6393), (3431, 6787), (3634, 7180), (3838, 7571), (4042, 7962), (4246, 8351), (4450, 8740), (4655, 9127), (4861, 9512), (5066, 9896), (5272, 10279), (5479, 10660), (5686, 11039), (5893, 11417), (6101, 11793), (6309, 12167), (6518, 12540), (6727, 12910), (6937, 13279), (7147, 13646), (7358, 14010), (7570, 14373), (7782, 14733), (7995, 15091), (8208, 15447), (8422, 15800), (8637, 16151), (8852, 16500), (9068, 16846), (9285, 17190), (9503, 17531), (9721, 17869), (9940, 18205), (10160, 18538), (10381, 18868), (10603, 19195), (10825, 19520), (11049, 19841), (11273, 20160), (11498, 20475), (11725, 20788), (11952, 21097), (12180, 21403), (12410, 21706), (12640, 22006), (12872, 22302), (13104, 22595), (13338, 22884), (13573, 23170)]
theorem fac9_length : fac9.length = 65 := by decide +kernel
def facOf (k : Nat) : Int × Int := if k = 0 then (0, 0) else (((1073741824 - (tab8.getD k (0, 0)).1) * 32768 + (tab8.getD k (0, 0)).2 / 2) / (tab8.getD k (0, 0)).2, ((tab8.getD k (0, 0)).2 + 16384) / 32768)
set_option maxRecDepth 100000 in
theorem fac9_all : ((List.range 65).map facOf) = fac9 := by decide +kernel
theorem fac9_of (k : Nat) (hk : k ≤ 64) : fac9.getD k (0, 0) = facOf k := by
  rw [← fac9_all, List.getD_eq_getElem?_getD, List.getElem?_map, List.getElem?_range (by omega)]; rfl
def okF (z f : Int × Int) : Bool :=
  decide (0 ≤ f.1 ∧ f.1 ≤ 13573 ∧ 0 ≤ f.2 ∧ f.2 ≤ 23170 ∧ -11127 ≤ 1073741824 - f.1 * f.2 - z.1 ∧ 1073741824 - f.1 * f.2 - z.1 ≤ 11127 ∧
    -1048576000 ≤ f.1 * (2147483648 - f.1 * f.2) - 32768 * z.2 ∧ f.1 * (2147483648 - f.1 * f.2) - 32768 * z.2 ≤ 1048576000 ∧ -16384 ≤ 32768 * f.2 - z.2 ∧ 32768 * f.2 - z.2 ≤ 16384)
set_option maxRecDepth 100000 in
theorem okF_all : ((List.range 65).all fun k => okF (tab8.getD k (0, 0)) (fac9.getD k (0, 0))) = true := by decide +kernel
structure FacOk (z f : Int × Int) : Prop where
  p : 0 ≤ f.1 ∧ f.1 ≤ 13573
  q : 0 ≤ f.2 ∧ f.2 ≤ 23170
  c : -11127 ≤ 1073741824 - f.1 * f.2 - z.1 ∧ 1073741824 - f.1 * f.2 - z.1 ≤ 11127
  s : -1048576000 ≤ f.1 * (2147483648 - f.1 * f.2) - 32768 * z.2 ∧ f.1 * (2147483648 - f.1 * f.2) - 32768 * z.2 ≤ 1048576000
  t : -16384 ≤ 32768 * f.2 - z.2 ∧ 32768 * f.2 - z.2 ≤ 16384
theorem fac_ok (k : Nat) (hk : k ≤ 64) : FacOk (tab8.getD k (0, 0)) (fac9.getD k (0, 0)) := by
  obtain ⟨h1, h2, h3, h4, h5, h6, h7, h8, h9, h10⟩ := of_decide_eq_true (List.all_eq_true.1 okF_all k (List.mem_range.2 (by omega)))
  exact ⟨⟨h1, h2⟩, ⟨h3, h4⟩, ⟨h5, h6⟩, ⟨h7, h8⟩, ⟨h9, h10⟩⟩

/-- A turn by up to 64, and its undoing, by factors. -/
def sm1 (v f : Int × Int) : Int × Int :=
  (v.1 - prt v.2 f.1 - prt (v.2 + prt (v.1 - prt v.2 f.1) f.2) f.1, v.2 + prt (v.1 - prt v.2 f.1) f.2)
def sm2 (v f : Int × Int) : Int × Int :=
  (v.1 + prt v.2 f.1 + prt (v.2 - prt (v.1 + prt v.2 f.1) f.2) f.1, v.2 - prt (v.1 + prt v.2 f.1) f.2)
theorem sm2_sm1 (v f : Int × Int) : sm2 (sm1 v f) f = v := by
  obtain ⟨a, b⟩ := v
  obtain ⟨p, q⟩ := f
  simp only [sm1, sm2]
  generalize hx : prt b p = x
  generalize hy : prt (a - x) q = y
  generalize hz : prt (b + y) p = z
  rw [show a - x - z + z = a - x by omega, hy, show b + y - y = b by omega, hx, show a - x + x = a by omega]
theorem sm1_sm2 (v f : Int × Int) : sm1 (sm2 v f) f = v := by
  obtain ⟨a, b⟩ := v
  obtain ⟨p, q⟩ := f
  simp only [sm1, sm2]
  generalize hx : prt b p = x
  generalize hy : prt (a + x) q = y
  generalize hz : prt (b - y) p = z
  rw [show a + x + z - z = a + x by omega, hy, show b - y + y = b by omega, hx, show a + x - x = a by omega]
theorem sm1_zero (v : Int × Int) : sm1 v (0, 0) = v := by
  obtain ⟨a, b⟩ := v
  simp only [sm1, prt_zero, Prod.mk.injEq]
  omega

/-- w is nearly v turned by what has cosine and sine z (by 2^30); v's numbers are no greater than m. -/
structure Rot (z v w : Int × Int) (A B : Int) : Prop where
  x : -B ≤ 1073741824 * w.1 - (z.1 * v.1 - z.2 * v.2) ∧ 1073741824 * w.1 - (z.1 * v.1 - z.2 * v.2) ≤ B
  y : -B ≤ 1073741824 * w.2 - (z.2 * v.1 + z.1 * v.2) ∧ 1073741824 * w.2 - (z.2 * v.1 + z.1 * v.2) ≤ B
  m : 0 ≤ A
theorem sm1_rot (z f v : Int × Int) (m : Int) (h : FacOk z f) (h1 : -m ≤ v.1) (h2 : v.1 ≤ m) (h3 : -m ≤ v.2) (h4 : v.2 ≤ m) : Rot z v (sm1 v f) m (45000 * m + 1610612736) := by
  obtain ⟨C, S⟩ := z
  obtain ⟨p, q⟩ := f
  obtain ⟨a, b⟩ := v
  obtain ⟨⟨p0, p1⟩, ⟨q0, q1⟩, ⟨c0, c1⟩, ⟨s0, s1⟩, t0, t1⟩ := h
  simp only at p0 p1 q0 q1 c0 c1 s0 s1 t0 t1 h1 h2 h3 h4
  obtain ⟨r1, e1, r10, r11⟩ := prt_eq b p
  obtain ⟨r2, e2, r20, r21⟩ := prt_eq (a - prt b p) q
  obtain ⟨r3, e3, r30, r31⟩ := prt_eq (b + prt (a - prt b p) q) p
  have k1 := mulb _ a 11127 m c0 c1 h1 h2
  have k2 := mulb _ b 1048576000 m s0 s1 h3 h4
  have k3 := mulb _ a 16384 m t0 t1 h1 h2
  have k4 := mulb _ b 11127 m c0 c1 h3 h4
  have k5 := mulb q r1 23170 16384 (by omega) q1 r10 r11
  have k6 := mulb p (32768 * r2 - q * r1) 13573 (32768 * 16384 + 23170 * 16384) (by omega) p1 (by omega) (by omega)
  generalize hx : prt b p = x at *
  generalize hy : prt (a - x) q = y at *
  generalize hz : prt (b + y) p = w at *
  have i1 : 32768 * (1073741824 * (a - x - w) - (C * a - S * b)) = 32768 * ((1073741824 - p * q - C) * a) - (p * (2147483648 - p * q) - 32768 * S) * b - 1073741824 * r1 - p * (32768 * r2 - q * r1) - 1073741824 * r3 := by grind
  have i2 : 1073741824 * (b + y) - (S * a + C * b) = (32768 * q - S) * a + (1073741824 - p * q - C) * b + (32768 * r2 - q * r1) := by grind
  refine ⟨?_, ?_, by omega⟩
  · simp only [sm1, hx, hy, hz]
    generalize 1073741824 * (a - x - w) - (C * a - S * b) = D at *
    generalize (1073741824 - p * q - C) * a = t1 at *
    generalize (p * (2147483648 - p * q) - 32768 * S) * b = t2 at *
    generalize p * (32768 * r2 - q * r1) = t3 at *
    omega
  · simp only [sm1, hx, hy]
    generalize 1073741824 * (b + y) - (S * a + C * b) = D at *
    generalize (32768 * q - S) * a = t1 at *
    generalize (1073741824 - p * q - C) * b = t2 at *
    generalize q * r1 = t3 at *
    omega
theorem sm2_rot (z f v : Int × Int) (m : Int) (h : FacOk z f) (h1 : -m ≤ v.1) (h2 : v.1 ≤ m) (h3 : -m ≤ v.2) (h4 : v.2 ≤ m) : Rot (z.1, -z.2) v (sm2 v f) m (45000 * m + 1610612736) := by
  obtain ⟨C, S⟩ := z
  obtain ⟨p, q⟩ := f
  obtain ⟨a, b⟩ := v
  obtain ⟨⟨p0, p1⟩, ⟨q0, q1⟩, ⟨c0, c1⟩, ⟨s0, s1⟩, t0, t1⟩ := h
  simp only at p0 p1 q0 q1 c0 c1 s0 s1 t0 t1 h1 h2 h3 h4
  obtain ⟨r1, e1, r10, r11⟩ := prt_eq b p
  obtain ⟨r2, e2, r20, r21⟩ := prt_eq (a + prt b p) q
  obtain ⟨r3, e3, r30, r31⟩ := prt_eq (b - prt (a + prt b p) q) p
  have k1 := mulb _ a 11127 m c0 c1 h1 h2
  have k2 := mulb _ b 1048576000 m s0 s1 h3 h4
  have k3 := mulb _ a 16384 m t0 t1 h1 h2
  have k4 := mulb _ b 11127 m c0 c1 h3 h4
  have k5 := mulb q r1 23170 16384 (by omega) q1 r10 r11
  have k6 := mulb p (32768 * r2 + q * r1) 13573 (32768 * 16384 + 23170 * 16384) (by omega) p1 (by omega) (by omega)
  generalize hx : prt b p = x at *
  generalize hy : prt (a + x) q = y at *
  generalize hz : prt (b - y) p = w at *
  have i1 : 32768 * (1073741824 * (a + x + w) - (C * a - -S * b)) = 32768 * ((1073741824 - p * q - C) * a) + (p * (2147483648 - p * q) - 32768 * S) * b + 1073741824 * r1 - p * (32768 * r2 + q * r1) + 1073741824 * r3 := by grind
  have i2 : 1073741824 * (b - y) - (-S * a + C * b) = -((32768 * q - S) * a) + (1073741824 - p * q - C) * b - (32768 * r2 + q * r1) := by grind
  refine ⟨?_, ?_, by omega⟩
  · simp only [sm2, hx, hy, hz]
    generalize 1073741824 * (a + x + w) - (C * a - -S * b) = D at *
    generalize (1073741824 - p * q - C) * a = t1 at *
    generalize (p * (2147483648 - p * q) - 32768 * S) * b = t2 at *
    generalize p * (32768 * r2 + q * r1) = t3 at *
    omega
  · simp only [sm2, hx, hy]
    generalize 1073741824 * (b - y) - (-S * a + C * b) = D at *
    generalize (32768 * q - S) * a = t1 at *
    generalize (1073741824 - p * q - C) * b = t2 at *
    generalize q * r1 = t3 at *
    omega
theorem Rot.qt {z v w : Int × Int} {A B : Int} (h : Rot z v w A B) : Rot (qt z) v (qt w) A B := by
  obtain ⟨C, S⟩ := z
  obtain ⟨a, b⟩ := v
  obtain ⟨c, d⟩ := w
  obtain ⟨⟨x0, x1⟩, ⟨y0, y1⟩, m0⟩ := h
  simp only at x0 x1 y0 y1
  refine ⟨?_, ?_, m0⟩
  · show -B ≤ 1073741824 * -d - (-S * a - C * b) ∧ 1073741824 * -d - (-S * a - C * b) ≤ B
    rw [Int.neg_mul]
    omega
  · show -B ≤ 1073741824 * c - (C * a + -S * b) ∧ 1073741824 * c - (C * a + -S * b) ≤ B
    rw [Int.neg_mul]
    omega
theorem Rot.qts {z v w : Int × Int} {A B : Int} (h : Rot z v w A B) (n : Nat) : Rot (qts z n) v (qts w n) A B := by
  induction n with
  | zero => exact h
  | succ n ih => exact ih.qt
/-- Another one that is near. -/
theorem Rot.near {z z' v w : Int × Int} {m B D : Int} (h : Rot z v w m B) (h1 : -D ≤ z'.1 - z.1) (h2 : z'.1 - z.1 ≤ D) (h3 : -D ≤ z'.2 - z.2) (h4 : z'.2 - z.2 ≤ D)
    (v1 : -m ≤ v.1) (v2 : v.1 ≤ m) (v3 : -m ≤ v.2) (v4 : v.2 ≤ m) : Rot z' v w m (B + 2 * (D * m)) := by
  obtain ⟨C, S⟩ := z
  obtain ⟨C', S'⟩ := z'
  obtain ⟨a, b⟩ := v
  obtain ⟨c, d⟩ := w
  obtain ⟨⟨x0, x1⟩, ⟨y0, y1⟩, m0⟩ := h
  simp only at x0 x1 y0 y1 h1 h2 h3 h4 v1 v2 v3 v4
  have k1 := mulb _ a D m h1 h2 v1 v2
  have k2 := mulb _ b D m h3 h4 v3 v4
  have k3 := mulb _ a D m h3 h4 v1 v2
  have k4 := mulb _ b D m h1 h2 v3 v4
  have i1 : C' * a - S' * b = (C * a - S * b) + (C' - C) * a - (S' - S) * b := by grind
  have i2 : S' * a + C' * b = (S * a + C * b) + (S' - S) * a + (C' - C) * b := by grind
  refine ⟨?_, ?_, m0⟩
  · simp only
    rw [i1]
    generalize (C' - C) * a = t1 at *
    generalize (S' - S) * b = t2 at *
    generalize D * m = t3 at *
    omega
  · simp only
    rw [i2]
    generalize (S' - S) * a = t1 at *
    generalize (C' - C) * b = t2 at *
    generalize D * m = t3 at *
    omega
theorem Rot.more {z v w : Int × Int} {A B B' : Int} (h : Rot z v w A B) (hb : B ≤ B') : Rot z v w A B' :=
  ⟨by have := h.x; omega, by have := h.y; omega, h.m⟩

/-- A turn by any angle. -/
def lft (v : Int × Int) (k : Int) : Int × Int :=
  if ang k % 128 ≤ 64 then qts (sm1 v (fac9.getD (ang k % 128) (0, 0))) (ang k / 128) else qts (sm2 v (fac9.getD (128 - ang k % 128) (0, 0))) (ang k / 128 + 1)
theorem trN_flip (r : Nat) (hr : 64 < r) (hr2 : r < 128) : -57 ≤ (tab8.getD r (0, 0)).1 - (tab8.getD (128 - r) (0, 0)).2 ∧ (tab8.getD r (0, 0)).1 - (tab8.getD (128 - r) (0, 0)).2 ≤ 57 ∧
    -57 ≤ (tab8.getD r (0, 0)).2 - (tab8.getD (128 - r) (0, 0)).1 ∧ (tab8.getD r (0, 0)).2 - (tab8.getD (128 - r) (0, 0)).1 ≤ 57 := by
  have h : ((List.range 128).all fun r => decide (64 < r → -57 ≤ (tab8.getD r (0, 0)).1 - (tab8.getD (128 - r) (0, 0)).2 ∧ (tab8.getD r (0, 0)).1 - (tab8.getD (128 - r) (0, 0)).2 ≤ 57 ∧
    -57 ≤ (tab8.getD r (0, 0)).2 - (tab8.getD (128 - r) (0, 0)).1 ∧ (tab8.getD r (0, 0)).2 - (tab8.getD (128 - r) (0, 0)).1 ≤ 57)) = true := by decide +kernel
  exact of_decide_eq_true (List.all_eq_true.1 h r (List.mem_range.2 hr2)) hr
/-- A turn is nearly the rotation. -/
theorem lft_rot (v : Int × Int) (k m : Int) (h1 : -m ≤ v.1) (h2 : v.1 ≤ m) (h3 : -m ≤ v.2) (h4 : v.2 ≤ m) : Rot (trg k) v (lft v k) m (65536 * m + 1610612736) := by
  have hlt := ang_lt k
  unfold lft trg
  by_cases h : ang k % 128 ≤ 64
  · rw [if_pos h]
    exact ((sm1_rot _ _ v m (fac_ok _ h) h1 h2 h3 h4).qts _).more (by omega)
  · rw [if_neg h]
    have hf := fac_ok (128 - ang k % 128) (by omega)
    have r0 := (sm2_rot _ _ v m hf h1 h2 h3 h4).qt
    obtain ⟨n1, n2, n3, n4⟩ := trN_flip (ang k % 128) (by omega) (by omega)
    have r1 := r0.near (z' := tab8.getD (ang k % 128) (0, 0)) (D := 57) (by simp only [qt]; omega) (by simp only [qt]; omega) (by simp only [qt]; omega) (by simp only [qt]; omega) h1 h2 h3 h4
    have r2 := r1.qts (ang k / 128)
    have e : ∀ (p : Int × Int) (n : Nat), qts (M.qt p) n = qts p (n + 1) := by
      intro p n
      rw [Nat.add_comm n 1, qts_add]; rfl
    rw [e] at r2
    exact r2.more (by omega)
/-- How great a turn makes numbers. -/
theorem rot_bd (k m : Int) (v w : Int × Int) (h : Rot (trg k) v w m (65536 * m + 1610612736)) (h1 : -m ≤ v.1) (h2 : v.1 ≤ m) (h3 : -m ≤ v.2) (h4 : v.2 ≤ m) :
    -(3 * m + 2) ≤ w.1 ∧ w.1 ≤ 3 * m + 2 ∧ -(3 * m + 2) ≤ w.2 ∧ w.2 ≤ 3 * m + 2 := by
  obtain ⟨b1, b2, b3, b4, _, _⟩ := trg_bd k
  have k1 := mulb _ v.1 1073741824 m b1 b2 h1 h2
  have k2 := mulb _ v.2 1073741824 m b3 b4 h3 h4
  have k3 := mulb _ v.1 1073741824 m b3 b4 h1 h2
  have k4 := mulb _ v.2 1073741824 m b1 b2 h3 h4
  obtain ⟨⟨x0, x1⟩, ⟨y0, y1⟩, m0⟩ := h
  generalize (trg k).1 * v.1 = t1 at *
  generalize (trg k).2 * v.2 = t2 at *
  generalize (trg k).2 * v.1 = t3 at *
  generalize (trg k).1 * v.2 = t4 at *
  omega
theorem twice_x (a b c d e g Cj Sj Ck Sk Cs Ss : Int) : 1073741824 * (1073741824 * (e - g)) = (Cj * Ck - Sj * Sk - 1073741824 * Cs) * a - (Cj * Sk + Sj * Ck - 1073741824 * Ss) * b + Ck * (1073741824 * c - (Cj * a - Sj * b)) - Sk * (1073741824 * d - (Sj * a + Cj * b)) + 1073741824 * (1073741824 * e - (Ck * c - Sk * d)) - 1073741824 * (1073741824 * g - (Cs * a - Ss * b)) := by grind
theorem twice_y (a b c d f h Cj Sj Ck Sk Cs Ss : Int) : 1073741824 * (1073741824 * (f - h)) = (Cj * Sk + Sj * Ck - 1073741824 * Ss) * a + (Cj * Ck - Sj * Sk - 1073741824 * Cs) * b + Sk * (1073741824 * c - (Cj * a - Sj * b)) + Ck * (1073741824 * d - (Sj * a + Cj * b)) + 1073741824 * (1073741824 * f - (Sk * c + Ck * d)) - 1073741824 * (1073741824 * h - (Ss * a + Cs * b)) := by grind
/-- A turn behind a turn. -/
theorem lft_twice (v : Int × Int) (j k m : Int) (h1 : -m ≤ v.1) (h2 : v.1 ≤ m) (h3 : -m ≤ v.2) (h4 : v.2 ≤ m) :
    -(m / 256 + 16) ≤ (lft (lft v j) k).1 - (lft v (j + k)).1 ∧ (lft (lft v j) k).1 - (lft v (j + k)).1 ≤ m / 256 + 16 ∧
    -(m / 256 + 16) ≤ (lft (lft v j) k).2 - (lft v (j + k)).2 ∧ (lft (lft v j) k).2 - (lft v (j + k)).2 ≤ m / 256 + 16 := by
  have ra := lft_rot v j m h1 h2 h3 h4
  obtain ⟨g1, g2, g3, g4⟩ := rot_bd j m v _ ra h1 h2 h3 h4
  have rb := lft_rot (lft v j) k (3 * m + 2) g1 g2 g3 g4
  have rc := lft_rot v (j + k) m h1 h2 h3 h4
  have hm : 0 ≤ m := by omega
  obtain ⟨n1, n2, n3, n4⟩ := of_decide_eq_true (near_all j k)
  obtain ⟨bj1, bj2, bj3, bj4, _, _⟩ := trg_bd j
  obtain ⟨bk1, bk2, bk3, bk4, _, _⟩ := trg_bd k
  simp only [dif] at n1 n2 n3 n4
  generalize lft (lft v j) k = u at *
  generalize lft v j = w at *
  generalize lft v (j + k) = t at *
  generalize trg j = zj at *
  generalize trg k = zk at *
  generalize trg (j + k) = zs at *
  obtain ⟨a, b⟩ := v
  obtain ⟨c, d⟩ := w
  obtain ⟨e, f⟩ := u
  obtain ⟨g, h⟩ := t
  obtain ⟨Cj, Sj⟩ := zj
  obtain ⟨Ck, Sk⟩ := zk
  obtain ⟨Cs, Ss⟩ := zs
  obtain ⟨⟨x0, x1⟩, ⟨y0, y1⟩, _⟩ := ra
  obtain ⟨⟨p0, p1⟩, ⟨q0, q1⟩, _⟩ := rb
  obtain ⟨⟨s0, s1⟩, ⟨t0, t1⟩, _⟩ := rc
  simp only at *
  obtain ⟨F, hF⟩ : ∃ F, 1073741824 * c - (Cj * a - Sj * b) = F := ⟨_, rfl⟩
  obtain ⟨G, hG⟩ : ∃ G, 1073741824 * d - (Sj * a + Cj * b) = G := ⟨_, rfl⟩
  obtain ⟨F2, hF2⟩ : ∃ F, 1073741824 * e - (Ck * c - Sk * d) = F := ⟨_, rfl⟩
  obtain ⟨G2, hG2⟩ : ∃ G, 1073741824 * f - (Sk * c + Ck * d) = G := ⟨_, rfl⟩
  obtain ⟨F3, hF3⟩ : ∃ F, 1073741824 * g - (Cs * a - Ss * b) = F := ⟨_, rfl⟩
  obtain ⟨G3, hG3⟩ : ∃ G, 1073741824 * h - (Ss * a + Cs * b) = G := ⟨_, rfl⟩
  rw [hF] at x0 x1
  rw [hG] at y0 y1
  rw [hF2] at p0 p1
  rw [hG2] at q0 q1
  rw [hF3] at s0 s1
  rw [hG3] at t0 t1
  have i1 := twice_x a b c d e g Cj Sj Ck Sk Cs Ss
  have i2 := twice_y a b c d f h Cj Sj Ck Sk Cs Ss
  rw [hF, hG, hF2, hF3] at i1
  rw [hF, hG, hG2, hG3] at i2
  have k1 := mulb _ a 8796093022208 m n1 n2 h1 h2
  have k2 := mulb _ b 8796093022208 m n3 n4 h3 h4
  have k3 := mulb _ a 8796093022208 m n3 n4 h1 h2
  have k4 := mulb _ b 8796093022208 m n1 n2 h3 h4
  have k5 := mulb Ck F 1073741824 (65536 * m + 1610612736) bk1 bk2 x0 x1
  have k6 := mulb Sk G 1073741824 (65536 * m + 1610612736) bk3 bk4 y0 y1
  have k7 := mulb Sk F 1073741824 (65536 * m + 1610612736) bk3 bk4 x0 x1
  have k8 := mulb Ck G 1073741824 (65536 * m + 1610612736) bk1 bk2 y0 y1
  generalize (Cj * Ck - Sj * Sk - 1073741824 * Cs) * a = t1 at *
  generalize (Cj * Sk + Sj * Ck - 1073741824 * Ss) * b = t2 at *
  generalize (Cj * Sk + Sj * Ck - 1073741824 * Ss) * a = t3 at *
  generalize (Cj * Ck - Sj * Sk - 1073741824 * Cs) * b = t4 at *
  generalize Ck * F = t5 at *
  generalize Sk * G = t6 at *
  generalize Sk * F = t7 at *
  generalize Ck * G = t8 at *
  clear hF hG hF2 hG2 hF3 hG3 bj1 bj2 bj3 bj4 bk1 bk2 bk3 bk4 n1 n2 n3 n4 g1 g2 g3 g4 x0 x1 y0 y1 h1 h2 h3 h4
  refine ⟨?_, ?_, ?_, ?_⟩ <;> omega
theorem sqnn (a : Int) : 0 ≤ a * a := by
  rcases Int.le_total 0 a with h | h
  · exact Int.mul_nonneg h h
  · have := Int.mul_nonneg (show 0 ≤ -a by omega) (show 0 ≤ -a by omega)
    rwa [Int.neg_mul_neg] at this
theorem size_id (a b c d C S : Int) : 1152921504606846976 * (c * c + d * d) = 1152921504606846976 * (a * a + b * b) + (C * C + S * S - 1152921504606846976) * (a * a + b * b) + 2 * ((1073741824 * c - (C * a - S * b)) * (C * a - S * b)) + 2 * ((1073741824 * d - (S * a + C * b)) * (S * a + C * b)) + (1073741824 * c - (C * a - S * b)) * (1073741824 * c - (C * a - S * b)) + (1073741824 * d - (S * a + C * b)) * (1073741824 * d - (S * a + C * b)) := by grind
/-- The squares' sum nearly stays. -/
theorem lft_size (v : Int × Int) (k m : Int) (h1 : -m ≤ v.1) (h2 : v.1 ≤ m) (h3 : -m ≤ v.2) (h4 : v.2 ≤ m) (hm : m = v.1 ∨ m = -v.1 ∨ m = v.2 ∨ m = -v.2) :
    (lft v k).1 * (lft v k).1 + (lft v k).2 * (lft v k).2 ≤ v.1 * v.1 + v.2 * v.2 + ((v.1 * v.1 + v.2 * v.2) / 1024 + 4096 * m + 4096) ∧
    v.1 * v.1 + v.2 * v.2 ≤ (lft v k).1 * (lft v k).1 + (lft v k).2 * (lft v k).2 + ((v.1 * v.1 + v.2 * v.2) / 1024 + 4096 * m + 4096) := by
  have ra := lft_rot v k m h1 h2 h3 h4
  obtain ⟨b1, b2, b3, b4, b5, b6⟩ := trg_bd k
  generalize lft v k = w at *
  generalize trg k = z at *
  obtain ⟨a, b⟩ := v
  obtain ⟨c, d⟩ := w
  obtain ⟨C, S⟩ := z
  obtain ⟨⟨x0, x1⟩, ⟨y0, y1⟩, m0⟩ := ra
  simp only at *
  obtain ⟨F, hF⟩ : ∃ F, 1073741824 * c - (C * a - S * b) = F := ⟨_, rfl⟩
  obtain ⟨G, hG⟩ : ∃ G, 1073741824 * d - (S * a + C * b) = G := ⟨_, rfl⟩
  rw [hF] at x0 x1
  rw [hG] at y0 y1
  have i1 := size_id a b c d C S
  rw [hF, hG] at i1
  have k1 := mulb C a 1073741824 m b1 b2 h1 h2
  have k2 := mulb S b 1073741824 m b3 b4 h3 h4
  have k3 := mulb S a 1073741824 m b3 b4 h1 h2
  have k4 := mulb C b 1073741824 m b1 b2 h3 h4
  have k5 := mulb F (C * a - S * b) (65536 * m + 1610612736) (2147483648 * m) x0 x1 (by omega) (by omega)
  have k6 := mulb G (S * a + C * b) (65536 * m + 1610612736) (2147483648 * m) y0 y1 (by omega) (by omega)
  have k7 := mulb F F (65536 * m + 1610612736) (65536 * m + 1610612736) x0 x1 x0 x1
  have k8 := mulb G G (65536 * m + 1610612736) (65536 * m + 1610612736) y0 y1 y0 y1
  have j1 := mulb a a m m h1 h2 h1 h2
  have j2 := mulb b b m m h3 h4 h3 h4
  have q1 := sqnn a
  have q2 := sqnn b
  have k9 := mulb (C * C + S * S - 1152921504606846976) (a * a + b * b) 4398046511104 (a * a + b * b) b5 b6 (by omega) (by omega)
  have hmm : m * m ≤ a * a + b * b := by
    rcases hm with rfl | rfl | rfl | rfl
    · omega
    · rw [Int.neg_mul_neg]; omega
    · omega
    · rw [Int.neg_mul_neg]; omega
  have e1 : (65536 * m + 1610612736) * (2147483648 * m) = 140737488355328 * (m * m) + 3458764513820540928 * m := by grind
  have e2 : (65536 * m + 1610612736) * (65536 * m + 1610612736) = 4294967296 * (m * m) + 211106232532992 * m + 2594073385365405696 := by grind
  rw [e1] at k5 k6
  rw [e2] at k7 k8
  generalize (C * C + S * S - 1152921504606846976) * (a * a + b * b) = t1 at *
  generalize F * (C * a - S * b) = t2 at *
  generalize G * (S * a + C * b) = t3 at *
  generalize F * F = t4 at *
  generalize G * G = t5 at *
  generalize a * a = A at *
  generalize b * b = B at *
  generalize c * c = U at *
  generalize d * d = V at *
  generalize m * m = Q at *
  clear hF hG b1 b2 b3 b4 b5 b6 x0 x1 y0 y1 h1 h2 h3 h4 k1 k2 k3 k4 hm e1 e2
  refine ⟨?_, ?_⟩ <;> omega
end Go.Proofs.Ytpfdjddjoclldaa.M
