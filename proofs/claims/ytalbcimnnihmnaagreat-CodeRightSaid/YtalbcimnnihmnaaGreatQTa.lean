/-
  Plain facts of layer 8: roots, the cosines and sines of the halves, the table of the angles 0 to 127, any angle's; that from 0 to 128 cosines fall and sines rise, how near they are, and how near two angles' sum's are to what is made of theirs. No program is named here. No conditions.
-/
import Derived.Test.YtalbcimnnihmnaaGreatQMath
namespace Go.Proofs.YtalbcimnnihmnaaGreat.M

/-- The whole part of a number's square root. -/
def IsRoot (n r : Nat) : Prop := r * r ≤ n ∧ n < (r + 1) * (r + 1)
theorem isRoot_one (n r s : Nat) (h : IsRoot n r) (k : IsRoot n s) : r = s := by
  rcases Nat.lt_trichotomy r s with e | e | e
  · have : (r + 1) * (r + 1) ≤ s * s := Nat.mul_le_mul (by omega) (by omega)
    have := h.2
    have := k.1
    omega
  · exact e
  · have : (s + 1) * (s + 1) ≤ r * r := Nat.mul_le_mul (by omega) (by omega)
    have := k.2
    have := h.1
    omega
theorem root_mono (n r m : Nat) (h : IsRoot n r) : m * m ≤ n ↔ m ≤ r := by
  constructor
  · intro k
    rcases Nat.lt_or_ge r m with e | e
    · have : (r + 1) * (r + 1) ≤ m * m := Nat.mul_le_mul (by omega) (by omega)
      have := h.2
      omega
    · exact e
  · intro k
    exact Nat.le_trans (Nat.mul_le_mul k k) h.1

/-- The cosines and sines of the angles 64, 32, .. 1. -/
def halves : List (Nat × Nat) := [(759250124, 759250124), (992008094, 410903207), (1053110175, 209476638), (1068571463, 105245105), (1072448454, 52686017), (1073418432, 26350953), (1073660972, 13176485)]
def isRootB (n r : Nat) : Bool := decide (r * r ≤ n) && decide (n < (r + 1) * (r + 1))
theorem isRootB_iff (n r : Nat) : isRootB n r = true ↔ IsRoot n r := by
  unfold isRootB IsRoot
  rw [Bool.and_eq_true, decide_eq_true_iff, decide_eq_true_iff]
/-- The cosine ahead of the half number i. -/
def ahead (i : Nat) : Nat := if i = 0 then 0 else (halves.getD (i - 1) (0, 0)).1
theorem halves_all : ((List.range 7).all fun i => isRootB ((1073741824 + ahead i) * 536870912) (halves.getD i (0, 0)).1 && isRootB ((1073741824 - ahead i) * 536870912) (halves.getD i (0, 0)).2) = true := by decide +kernel
theorem halves_root (i : Nat) (hi : i < 7) : IsRoot ((1073741824 + ahead i) * 536870912) (halves.getD i (0, 0)).1 ∧ IsRoot ((1073741824 - ahead i) * 536870912) (halves.getD i (0, 0)).2 := by
  have := List.all_eq_true.1 halves_all i (List.mem_range.2 hi)
  rw [Bool.and_eq_true, isRootB_iff, isRootB_iff] at this
  exact this
theorem halves_bd (i : Nat) (hi : i < 7) : (halves.getD i (0, 0)).1 ≤ 1073741824 ∧ (halves.getD i (0, 0)).2 ≤ 1073741824 := by
  have h : ((List.range 7).all fun i => decide ((halves.getD i (0, 0)).1 ≤ 1073741824) && decide ((halves.getD i (0, 0)).2 ≤ 1073741824)) = true := by decide +kernel
  have := List.all_eq_true.1 h i (List.mem_range.2 hi)
  rw [Bool.and_eq_true, decide_eq_true_iff, decide_eq_true_iff] at this
  exact this

/-- A number by 2^30, rounded (half of it is added ahead). -/
def dn (n : Int) : Int := (n + 536870912) / 1073741824
/-- Two numbers turned by an angle with this cosine and sine. -/
def by1 (p : Int × Int) (c s : Nat) : Int × Int := (dn (p.1 * c - p.2 * s), dn (p.1 * s + p.2 * c))
/-- The cosine and the sine of an angle from 0 to 127, as far as its first i bits go. -/
def csN (k : Nat) : Nat → Int × Int
  | 0 => (1073741824, 0)
  | i + 1 => if k / 2 ^ (6 - i) % 2 = 1 then by1 (csN k i) (halves.getD i (0, 0)).1 (halves.getD i (0, 0)).2 else csN k i
/-- .. all of it: the table. -/
def tab8 : List (Int × Int) := [(1073741824, 0), (1073660972, 13176485), (1073418432, 26350953), (1073014237, 39521485), (1072448454, 52686017), (1071721160, 65842663), (1070832471, 78989361), (1069782516, 92124196), (1068571463, 105245105), (1067199479, 118350217), (1065666783, 131437473), (1063973596, 144504968), (1062120188, 157550652), (1060106819, 170572658), (1057933808, 183568944), (1055601469, 196537617), (1053110175, 209476638), (1050460272, 222384167), (1047652181, 235258174), (1044686309, 248096784), (1041563125, 260897984), (1038283071, 273659941), (1034846665, 286380654), (1031254405, 299058271), (1027506860, 311690800), (1023604558, 324276440), (1019548115, 336813214), (1015338121, 349299296), (1010975239, 361732729), (1006460089, 374111732), (1001793382, 386434365), (996975796, 398698832), (992008094, 410903207), (986890974, 423045751), (981625246, 435124556), (976211674, 447137863), (970651110, 459083788), (964944347, 470960621), (959092283, 482766499), (953095767, 494499704), (946955745, 506158394), (940673088, 517740903), (934248785, 529245414), (927683771, 540670250), (920979078, 552013622), (914135662, 563273904), (907154598, 574449331), (900036902, 585538276), (892783697, 596538995), (885396008, 607449923), (877875001, 618269345), (870221770, 628995684), (862437516, 639627259), (854523352, 650162547), (846480521, 660599898), (838310192, 670937790), (830013651, 681174603), (821592078, 691308872), (813046798, 701339007), (804379054, 711263548), (795590207, 721080939), (786681513, 730789773), (777654371, 740388530), (768510093, 749875810), (759250124, 759250124), (749875771, 768510135), (740388514, 777654389), (730789732, 786681553), (721080933, 795590213), (711263505, 804379092), (701338988, 813046814), (691308827, 821592114), (681174599, 830013654), (670937746, 838310228), (660599879, 846480536), (650162501, 854523386), (639627252, 862437521), (628995637, 870221803), (618269324, 877875014), (607449875, 885396038), (596538994, 892783696), (585538228, 900036933), (574449310, 907154610), (563273854, 914135690), (552013614, 920979081), (540670200, 927683799), (529245391, 934248796), (517740851, 940673113), (506158389, 946955745), (494499653, 953095792), (482766477, 959092292), (470960568, 964944370), (459083780, 970651111), (447137810, 976211695), (435124533, 981625252), (423045697, 986890992), (410903206, 992008093), (398698780, 996975818), (386434343, 1001793391), (374111679, 1006460108), (361732722, 1010975241), (349299243, 1015338139), (336813191, 1019548122), (324276385, 1023604573), (311690796, 1027506860), (299058216, 1031254421), (286380630, 1034846671), (273659885, 1038283084), (260897976, 1041563125), (248096728, 1044686321), (235258150, 1047652184), (222384111, 1050460281), (209476638, 1053110173), (196537562, 1055601479), (183568921, 1057933811), (170572602, 1060106826), (157550644, 1062120187), (144504911, 1063973602), (131437449, 1065666783), (118350160, 1067199481), (105245101, 1068571460), (92124140, 1069782519), (78989337, 1070832470), (65842606, 1071721159), (52686009, 1072448451), (39521428, 1073014236), (26350929, 1073418428), (13176428, 1073660967)]
set_option maxRecDepth 100000 in
theorem tab8_length : tab8.length = 128 := by decide +kernel
set_option maxRecDepth 100000 in
theorem tab8_all : ((List.range 128).map fun k => csN k 7) = tab8 := by decide +kernel
theorem tab8_cs (k : Nat) (hk : k < 128) : tab8.getD k (0, 0) = csN k 7 := by
  rw [← tab8_all, List.getD_eq_getElem?_getD, List.getElem?_map, List.getElem?_range hk]; rfl
/-- How great the numbers are on the way. -/
theorem csN_bd (k i : Nat) (hk : k < 128) (hi : i ≤ 7) : -1073741824 ≤ (csN k i).1 ∧ (csN k i).1 ≤ 1073741824 ∧ -1073741824 ≤ (csN k i).2 ∧ (csN k i).2 ≤ 1073741824 := by
  have h : ((List.range 128).all fun k => (List.range 8).all fun i => decide (-1073741824 ≤ (csN k i).1) && decide ((csN k i).1 ≤ 1073741824) && decide (-1073741824 ≤ (csN k i).2) && decide ((csN k i).2 ≤ 1073741824)) = true := by decide +kernel
  have h1 := List.all_eq_true.1 h k (List.mem_range.2 hk)
  have h2 := List.all_eq_true.1 h1 i (List.mem_range.2 (by omega))
  rw [Bool.and_eq_true, Bool.and_eq_true, Bool.and_eq_true, decide_eq_true_iff, decide_eq_true_iff, decide_eq_true_iff, decide_eq_true_iff] at h2
  omega
/-- A right angle on. -/
def qt (p : Int × Int) : Int × Int := (-p.2, p.1)
def qts (p : Int × Int) : Nat → Int × Int
  | 0 => p
  | n + 1 => qt (qts p n)
theorem qts_four (p : Int × Int) : qts p 4 = p := by
  obtain ⟨x, y⟩ := p
  simp [qts, qt]
theorem qts_add (p : Int × Int) (m n : Nat) : qts p (m + n) = qts (qts p m) n := by
  induction n with
  | zero => rfl
  | succ n ih => rw [← Nat.add_assoc]; show qt (qts p (m + n)) = qt (qts (qts p m) n); rw [ih]
/-- Where an angle stands in the circle. -/
def ang (k : Int) : Nat := (k % 512).toNat
theorem ang_lt (k : Int) : ang k < 512 := by unfold ang; omega
/-- The cosine and the sine of any angle. -/
def trg (k : Int) : Int × Int := qts (tab8.getD (ang k % 128) (0, 0)) (ang k / 128)
def trN (k : Nat) : Int × Int := qts (tab8.getD (k % 128) (0, 0)) (k / 128)
theorem trg_ang (k : Int) : trg k = trN (ang k) := rfl
theorem trg_512 (k : Int) : trg (k + 512) = trg k := by unfold trg ang; rw [show (k + 512) % 512 = k % 512 by omega]
theorem trg_m512 (k : Int) : trg (k - 512) = trg k := by unfold trg ang; rw [show (k - 512) % 512 = k % 512 by omega]
theorem trg_128 (k : Int) : trg (k + 128) = qt (trg k) := by
  unfold trg
  have hlt := ang_lt k
  have h : ang (k + 128) % 128 = ang k % 128 := by unfold ang; omega
  rw [h]
  rcases Nat.lt_or_ge (ang k) 384 with h1 | h1
  · have h2 : ang (k + 128) / 128 = ang k / 128 + 1 := by unfold ang at *; omega
    rw [h2]; rfl
  · have h2 : ang (k + 128) / 128 = 0 := by unfold ang at *; omega
    have h3 : ang k / 128 = 3 := by omega
    rw [h2, h3]
    exact (qts_four _).symm
theorem trg_256 (k : Int) : trg (k + 256) = (-(trg k).1, -(trg k).2) := by
  rw [show k + 256 = k + 128 + 128 by omega, trg_128, trg_128]
  obtain ⟨x, y⟩ := trg k
  rfl
theorem all_512 (p : Int × Int → Bool) (h : ((List.range 512).all fun k => p (trN k)) = true) (k : Int) : p (trg k) = true := by
  rw [trg_ang]
  exact List.all_eq_true.1 h _ (List.mem_range.2 (ang_lt k))
/-- From 0 to 128 cosines fall, and sines rise. -/
theorem trg_rises (k : Nat) (hk : k < 128) : (trg (k + 1)).1 < (trg k).1 ∧ (trg k).2 < (trg (k + 1)).2 := by
  have h : ((List.range 128).all fun k => decide ((trN (k + 1)).1 < (trN k).1) && decide ((trN k).2 < (trN (k + 1)).2)) = true := by decide +kernel
  have h1 := List.all_eq_true.1 h k (List.mem_range.2 hk)
  rw [Bool.and_eq_true, decide_eq_true_iff, decide_eq_true_iff] at h1
  have e1 : trg (k : Int) = trN k := by rw [trg_ang, show ang (k : Int) = k by unfold ang; omega]
  have e2 : trg ((k : Int) + 1) = trN (k + 1) := by rw [trg_ang, show ang ((k : Int) + 1) = k + 1 by unfold ang; omega]
  rw [e1, e2]
  exact h1
/-- How great they are, and their squares' sum. -/
theorem trg_bd (k : Int) : -1073741824 ≤ (trg k).1 ∧ (trg k).1 ≤ 1073741824 ∧ -1073741824 ≤ (trg k).2 ∧ (trg k).2 ≤ 1073741824 ∧
    -4398046511104 ≤ (trg k).1 * (trg k).1 + (trg k).2 * (trg k).2 - 1152921504606846976 ∧ (trg k).1 * (trg k).1 + (trg k).2 * (trg k).2 - 1152921504606846976 ≤ 4398046511104 := by
  have h := all_512 (fun p => decide (-1073741824 ≤ p.1 ∧ p.1 ≤ 1073741824 ∧ -1073741824 ≤ p.2 ∧ p.2 ≤ 1073741824 ∧ -4398046511104 ≤ p.1 * p.1 + p.2 * p.2 - 1152921504606846976 ∧ p.1 * p.1 + p.2 * p.2 - 1152921504606846976 ≤ 4398046511104)) (by decide +kernel) k
  exact of_decide_eq_true h
/-- The cosine of k is nearly the sine of 128 - k. -/
theorem trg_close (k : Int) : -2048 ≤ (trg k).1 - (trg (128 - k)).2 ∧ (trg k).1 - (trg (128 - k)).2 ≤ 2048 := by
  have h : ((List.range 512).all fun k => decide (-2048 ≤ (trN k).1 - (trN ((640 - k) % 512)).2 ∧ (trN k).1 - (trN ((640 - k) % 512)).2 ≤ 2048)) = true := by decide +kernel
  have h1 := of_decide_eq_true (List.all_eq_true.1 h _ (List.mem_range.2 (ang_lt k)))
  have e : (640 - ang k) % 512 = ang (128 - k) := by unfold ang; omega
  rw [e] at h1
  exact h1

/-- The two angles' product against their sum's. -/
def dif (p q r : Int × Int) : Int × Int := (p.1 * q.1 - p.2 * q.2 - 1073741824 * r.1, p.1 * q.2 + p.2 * q.1 - 1073741824 * r.2)
def near (d : Int × Int) : Bool := decide (-8796093022208 ≤ d.1 ∧ d.1 ≤ 8796093022208 ∧ -8796093022208 ≤ d.2 ∧ d.2 ≤ 8796093022208)
theorem near_qt (d : Int × Int) : near (qt d) = near d := by
  obtain ⟨x, y⟩ := d
  unfold near qt
  rw [decide_eq_decide]
  show (-8796093022208 ≤ -y ∧ -y ≤ 8796093022208 ∧ -8796093022208 ≤ x ∧ x ≤ 8796093022208) ↔ (-8796093022208 ≤ x ∧ x ≤ 8796093022208 ∧ -8796093022208 ≤ y ∧ y ≤ 8796093022208)
  omega
theorem dif_left (p q r : Int × Int) : dif (qt p) q (qt r) = qt (dif p q r) := by
  obtain ⟨a, b⟩ := p
  obtain ⟨c, d⟩ := q
  obtain ⟨e, f⟩ := r
  simp only [dif, qt, Prod.mk.injEq]
  refine ⟨?_, ?_⟩
  · rw [Int.neg_mul, Int.mul_neg]; omega
  · rw [Int.neg_mul]; omega
theorem dif_right (p q r : Int × Int) : dif p (qt q) (qt r) = qt (dif p q r) := by
  obtain ⟨a, b⟩ := p
  obtain ⟨c, d⟩ := q
  obtain ⟨e, f⟩ := r
  simp only [dif, qt, Prod.mk.injEq]
  refine ⟨?_, ?_⟩
  · rw [Int.mul_neg, Int.mul_neg]; omega
  · rw [Int.mul_neg]; omega
def tab8b : List (Int × Int) := tab8 ++ tab8.map qt
def row8 (p : Int × Int) : List (Int × Int) → List (Int × Int) → Bool
  | q :: l, r :: m => near (dif p q r) && row8 p l m
  | _, _ => true
def all8 : List (Int × Int) → List (Int × Int) → Bool
  | p :: l, m => row8 p tab8 m && all8 l (m.drop 1)
  | [], _ => true
set_option maxRecDepth 100000 in
theorem all8_ok : all8 tab8 tab8b = true := by decide +kernel
theorem row8_at (p : Int × Int) : ∀ (l m : List (Int × Int)) (i : Nat), row8 p l m = true → i < l.length → i < m.length → near (dif p (l.getD i (0, 0)) (m.getD i (0, 0))) = true
  | [], _, _, _, h, _ => by simp at h
  | _ :: _, [], _, _, _, h => by simp at h
  | q :: l, r :: m, 0, h, _, _ => by
    unfold row8 at h
    rw [Bool.and_eq_true] at h
    exact h.1
  | q :: l, r :: m, i + 1, h, h1, h2 => by
    unfold row8 at h
    rw [Bool.and_eq_true] at h
    exact row8_at p l m i h.2 (by simpa using h1) (by simpa using h2)
theorem all8_at : ∀ (l m : List (Int × Int)) (j : Nat), all8 l m = true → j < l.length → row8 (l.getD j (0, 0)) tab8 (m.drop j) = true
  | [], _, _, _, h => by simp at h
  | p :: l, m, 0, h, _ => by
    unfold all8 at h
    rw [Bool.and_eq_true] at h
    exact h.1
  | p :: l, m, j + 1, h, hj => by
    unfold all8 at h
    rw [Bool.and_eq_true] at h
    have := all8_at l (m.drop 1) j h.2 (by simpa using hj)
    rw [List.drop_drop] at this
    rw [show j + 1 = 1 + j by omega]
    rw [show 1 + j = j + 1 by omega, List.getD_cons_succ, show j + 1 = 1 + j by omega]
    exact this
theorem tab8b_at (m : Nat) (hm : m < 256) : tab8b.getD m (0, 0) = trN m := by
  unfold tab8b trN
  have hl := tab8_length
  rcases Nat.lt_or_ge m 128 with h | h
  · rw [List.getD_eq_getElem?_getD, List.getElem?_append_left (by omega), Nat.mod_eq_of_lt h, Nat.div_eq_of_lt h, List.getD_eq_getElem?_getD]; rfl
  · obtain ⟨p, hp⟩ : ∃ p, tab8[m - 128]? = some p := ⟨_, List.getElem?_eq_getElem (show m - 128 < tab8.length by omega)⟩
    rw [List.getD_eq_getElem?_getD, List.getElem?_append_right (by omega), hl, List.getElem?_map, show m % 128 = m - 128 by omega, show m / 128 = 1 by omega, List.getD_eq_getElem?_getD, hp]
    rfl
theorem near_base (j k : Nat) (hj : j < 128) (hk : k < 128) : near (dif (trN j) (trN k) (trN (j + k))) = true := by
  have hl := tab8_length
  have h := all8_at tab8 tab8b j all8_ok (by omega)
  have hb : tab8b.length = 256 := by unfold tab8b; rw [List.length_append, List.length_map, hl]
  have h2 := row8_at _ tab8 (tab8b.drop j) k h (by omega) (by rw [List.length_drop, hb]; omega)
  have e : (tab8b.drop j).getD k (0, 0) = tab8b.getD (j + k) (0, 0) := by
    rw [List.getD_eq_getElem?_getD, List.getElem?_drop, List.getD_eq_getElem?_getD]
  rw [e, tab8b_at (j + k) (by omega)] at h2
  have e1 : trN j = tab8.getD j (0, 0) := by unfold trN; rw [Nat.mod_eq_of_lt hj, Nat.div_eq_of_lt hj]; rfl
  have e2 : trN k = tab8.getD k (0, 0) := by unfold trN; rw [Nat.mod_eq_of_lt hk, Nat.div_eq_of_lt hk]; rfl
  rw [e1, e2]
  exact h2
theorem trN_trg (k : Nat) (hk : k < 512) : trg (k : Int) = trN k := by rw [trg_ang, show ang (k : Int) = k by unfold ang; omega]
theorem near_left (j k : Int) (h : near (dif (trg j) (trg k) (trg (j + k))) = true) : near (dif (trg (j + 128)) (trg k) (trg (j + 128 + k))) = true := by
  rw [show j + 128 + k = j + k + 128 by omega, trg_128, trg_128, dif_left, near_qt]; exact h
theorem near_right (j k : Int) (h : near (dif (trg j) (trg k) (trg (j + k))) = true) : near (dif (trg j) (trg (k + 128)) (trg (j + (k + 128)))) = true := by
  rw [show j + (k + 128) = j + k + 128 by omega, trg_128, trg_128, dif_right, near_qt]; exact h
theorem near_lefts (j k : Int) (h : near (dif (trg j) (trg k) (trg (j + k))) = true) (n : Nat) : near (dif (trg (j + 128 * n)) (trg k) (trg (j + 128 * n + k))) = true := by
  induction n with
  | zero => rw [show j + 128 * ((0 : Nat) : Int) = j by omega]; exact h
  | succ n ih =>
    have := near_left _ _ ih
    rw [show j + 128 * ((n + 1 : Nat) : Int) = j + 128 * (n : Int) + 128 by omega]
    exact this
theorem near_rights (j k : Int) (h : near (dif (trg j) (trg k) (trg (j + k))) = true) (n : Nat) : near (dif (trg j) (trg (k + 128 * n)) (trg (j + (k + 128 * n)))) = true := by
  induction n with
  | zero => rw [show k + 128 * ((0 : Nat) : Int) = k by omega]; exact h
  | succ n ih =>
    have := near_right _ _ ih
    rw [show k + 128 * ((n + 1 : Nat) : Int) = k + 128 * (n : Int) + 128 by omega]
    exact this
theorem trg_emod (k : Int) : trg k = trg (k % 512) := by unfold trg ang; rw [show k % 512 % 512 = k % 512 by omega]
theorem trg_eq (j k : Int) (h : j % 512 = k % 512) : trg j = trg k := by rw [trg_emod j, h, ← trg_emod]
/-- Two angles' product is nearly their sum's. -/
theorem near_all (j k : Int) : near (dif (trg j) (trg k) (trg (j + k))) = true := by
  have hj : (j % 128).toNat < 128 := by omega
  have hk : (k % 128).toNat < 128 := by omega
  have h0 := near_base _ _ hj hk
  rw [← trN_trg _ (by omega), ← trN_trg _ (by omega), ← trN_trg _ (by omega)] at h0
  have e : (((j % 128).toNat + (k % 128).toNat : Nat) : Int) = ((j % 128).toNat : Int) + ((k % 128).toNat : Int) := by omega
  rw [e] at h0
  have h1 := near_lefts _ _ h0 (j / 128 % 4).toNat
  have h2 := near_rights _ _ h1 (k / 128 % 4).toNat
  have e1 : trg (((j % 128).toNat : Int) + 128 * ((j / 128 % 4).toNat : Int)) = trg j := trg_eq _ _ (by omega)
  have e2 : trg (((k % 128).toNat : Int) + 128 * ((k / 128 % 4).toNat : Int)) = trg k := trg_eq _ _ (by omega)
  have e3 : trg (((j % 128).toNat : Int) + 128 * ((j / 128 % 4).toNat : Int) + (((k % 128).toNat : Int) + 128 * ((k / 128 % 4).toNat : Int))) = trg (j + k) := trg_eq _ _ (by omega)
  rw [e1, e2, e3] at h2
  exact h2
/-- .. by 2^30, rounded down. -/
theorem trg_sums (j k : Int) :
    -8192 ≤ ((trg j).1 * (trg k).1 - (trg j).2 * (trg k).2) / 1073741824 - (trg (j + k)).1 ∧ ((trg j).1 * (trg k).1 - (trg j).2 * (trg k).2) / 1073741824 - (trg (j + k)).1 ≤ 8192 ∧
    -8192 ≤ ((trg j).1 * (trg k).2 + (trg j).2 * (trg k).1) / 1073741824 - (trg (j + k)).2 ∧ ((trg j).1 * (trg k).2 + (trg j).2 * (trg k).1) / 1073741824 - (trg (j + k)).2 ≤ 8192 := by
  have h := of_decide_eq_true (near_all j k)
  unfold dif at h
  generalize (trg j).1 * (trg k).1 - (trg j).2 * (trg k).2 = P at *
  generalize (trg j).1 * (trg k).2 + (trg j).2 * (trg k).1 = Q at *
  generalize trg (j + k) = r at *
  obtain ⟨e, f⟩ := r
  simp only at h ⊢
  omega
end Go.Proofs.YtalbcimnnihmnaaGreat.M
