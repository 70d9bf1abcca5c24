/-
  Contracts and plain facts that the laws share; each piece is headed by what it holds and its conditions.
-/
import Derived.Test.YtoohahjmiljpgaaQS2
import Derived.Test.YtoohahjmiljpgaaQMath

/- Plain facts of layer 19: a packet's bits, read as they were laid, and laid as they were read. No program is named here. No conditions but those that each fact names. -/
namespace Go.Proofs.Ytoohahjmiljpgaa.M

/-- A packet's head: its number, its steps; how many pulses its bands have; how many bits these take. -/
def hdF (fr : Nat) (sd : List Nat) : List (Nat × Nat) := (fr, 16) :: sd.map fun x => (x, 4)
def hdW : List Nat := [16, 4, 4, 4, 4, 4, 4, 4, 4]
def kpl (sd : List Nat) (size : Nat) : Nat → Nat := giv (fun b => (sd.getD b 0 : Int)) (8 * size - 64)
def wds (sd : List Nat) (size : Nat) : List Nat := (List.range 8).map fun b => btc (kpl sd size b)
theorem wds_len (sd : List Nat) (size : Nat) : (wds sd size).length = 8 := by simp [wds]
theorem wds_sum (sd : List Nat) (size : Nat) : (wds sd size).sum ≤ 8 * size - 64 := by
  have h := (giv_all (fun b => (sd.getD b 0 : Int)) (8 * size - 64)).2.1
  have e : (wds sd size).sum = cst8 (kpl sd size) := by
    unfold wds cst8 sum8
    simp [List.range_succ, List.range_zero]
    omega
  rw [e]; exact h
theorem wds_getD (sd : List Nat) (size b : Nat) (h : b < 8) : (wds sd size).getD b 0 = btc (kpl sd size b) := by
  unfold wds
  simp [List.getD_eq_getElem?_getD, h]
theorem hd_snd (fr : Nat) (sd : List Nat) (h : sd.length = 8) : (hdF fr sd).map Prod.snd = hdW := by
  match sd, h with
  | [a, b, c, d, e, f, g, i], _ => rfl
theorem hd_zip (fr : Nat) (sd : List Nat) (h : sd.length = 8) : (fr :: sd).zip hdW = hdF fr sd := by
  match sd, h with
  | [a, b, c, d, e, f, g, i], _ => rfl
theorem hd_fst (fr : Nat) (sd : List Nat) : (hdF fr sd).map Prod.fst = fr :: sd := by
  unfold hdF
  rw [List.map_cons, List.map_map]
  have : (Prod.fst ∘ fun x : Nat => (x, 4)) = id := rfl
  rw [this, List.map_id]
theorem zip_snd {α β : Type} : ∀ (a : List α) (b : List β), a.length = b.length → (a.zip b).map Prod.snd = b
  | [], [], _ => rfl
  | x :: a, y :: b, h => by
    show y :: (a.zip b).map Prod.snd = y :: b
    rw [zip_snd a b (by simpa using h)]
theorem zip_fst {α β : Type} : ∀ (a : List α) (b : List β), a.length = b.length → (a.zip b).map Prod.fst = a
  | [], [], _ => rfl
  | x :: a, y :: b, h => by
    show x :: (a.zip b).map Prod.fst = x :: a
    rw [zip_fst a b (by simpa using h)]
theorem zip_lt (a b : List Nat) (h : a.length = b.length) (k : ∀ i, i < a.length → a.getD i 0 < 2 ^ b.getD i 0) : ∀ f ∈ a.zip b, f.1 < 2 ^ f.2 := by
  intro f hf
  obtain ⟨i, hi, rfl⟩ := List.getElem_of_mem hf
  rw [List.length_zip] at hi
  have := k i (by omega)
  rw [List.getD_eq_getElem?_getD, List.getD_eq_getElem?_getD, List.getElem?_eq_getElem (by omega), List.getElem?_eq_getElem (by omega)] at this
  rw [List.getElem_zip]
  exact this
/-- A packet's bits, without its seal. -/
def pkb (fr : Nat) (sd ix : List Nat) (size : Nat) : List Bool := layF (hdF fr sd) ++ layF (ix.zip (wds sd size)) ++ List.replicate (8 * size - 64 - (wds sd size).sum) false
theorem hd_len (fr : Nat) (sd : List Nat) (h : sd.length = 8) : (layF (hdF fr sd)).length = 48 := by
  rw [layF_len, hd_snd fr sd h]; rfl
theorem pkb_len (fr : Nat) (sd ix : List Nat) (size : Nat) (h : sd.length = 8) (hi : ix.length = 8) (hs : 12 ≤ size) : (pkb fr sd ix size).length = 8 * (size - 2) := by
  have := wds_sum sd size
  unfold pkb
  rw [List.length_append, List.length_append, hd_len fr sd h, layF_len, zip_snd _ _ (by rw [hi, wds_len]), List.length_replicate]
  omega
/-- What is laid is read as it was. -/
theorem pkb_back (fr : Nat) (sd ix : List Nat) (size : Nat) (h : sd.length = 8) (hi : ix.length = 8) (hf : fr < 65536) (hsd : ∀ x ∈ sd, x < 16) (hix : ∀ b, b < 8 → ix.getD b 0 < 2 ^ btc (kpl sd size b)) :
    rdF (pack (pkb fr sd ix size)) 0 hdW = fr :: sd ∧ rdF (pack (pkb fr sd ix size)) 48 (wds sd size) = ix ∧
      readB (pack (pkb fr sd ix size)) (48 + (wds sd size).sum) (8 * size - 64 - (wds sd size).sum) = List.replicate (8 * size - 64 - (wds sd size).sum) false := by
  have hw : ix.length = (wds sd size).length := by rw [hi, wds_len]
  have h1 := rdF_lay (hdF fr sd) [] (layF (ix.zip (wds sd size)) ++ List.replicate (8 * size - 64 - (wds sd size).sum) false) (by
    intro f hm
    rcases List.mem_cons.1 hm with rfl | hm
    · exact hf
    · obtain ⟨x, hx, rfl⟩ := List.mem_map.1 hm
      exact hsd x hx)
  have h2 := rdF_lay (ix.zip (wds sd size)) (layF (hdF fr sd)) (List.replicate (8 * size - 64 - (wds sd size).sum) false) (zip_lt _ _ hw fun i hii => by rw [wds_getD _ _ _ (by omega)]; exact hix i (by omega))
  have h3 := readB_pack (layF (hdF fr sd) ++ layF (ix.zip (wds sd size))) (List.replicate (8 * size - 64 - (wds sd size).sum) false) [] (48 + (wds sd size).sum) (by rw [List.length_append, hd_len fr sd h, layF_len, zip_snd _ _ hw])
  rw [hd_snd fr sd h, hd_fst, List.nil_append, List.length_nil, ← List.append_assoc] at h1
  rw [zip_snd _ _ hw, zip_fst _ _ hw, hd_len fr sd h] at h2
  rw [List.append_nil, List.length_replicate] at h3
  exact ⟨h1, h2, h3⟩
/-- What is read is what is laid of it. -/
theorem pkb_only (s : List UInt8) (size fr : Nat) (sd : List Nat) (hs : 12 ≤ size) (hl : s.length = size - 2) (h1 : rdF s 0 hdW = fr :: sd)
    (h3 : readB s (48 + (wds sd size).sum) (8 * size - 64 - (wds sd size).sum) = List.replicate (8 * size - 64 - (wds sd size).sum) false) :
    pack (pkb fr sd (rdF s 48 (wds sd size)) size) = s := by
  have hw := wds_sum sd size
  have hlen : sd.length = 8 := by
    have := congrArg List.length h1
    rw [rdF_len] at this
    simp [hdW] at this
    omega
  have e1 : layF (hdF fr sd) = readB s 0 48 := by
    have := layF_rd s hdW 0
    rw [h1] at this
    rw [hd_zip fr sd hlen] at this
    exact this
  have e2 := layF_rd s (wds sd size) 48
  have e3 : pkb fr sd (rdF s 48 (wds sd size)) size = readB s 0 (8 * s.length) := by
    unfold pkb
    rw [e1, e2, ← h3]
    have a1 := readB_add s 0 48 ((wds sd size).sum)
    have a2 := readB_add s 0 (48 + (wds sd size).sum) (8 * size - 64 - (wds sd size).sum)
    rw [Nat.zero_add] at a1 a2
    have e5 : 48 + (wds sd size).sum + (8 * size - 64 - (wds sd size).sum) = 8 * (size - 2) := by omega
    rw [← a1, ← a2, hl, e5]
  rw [e3, pack_readB]
end Go.Proofs.Ytoohahjmiljpgaa.M

/- Plain facts of layer 14: pulses given one by one, each where the distance falls most: no vector of as many pulses is nearer. No program is named here. No conditions but those that each fact names. -/
namespace Go.Proofs.Ytoohahjmiljpgaa.M

/-- A number without its sign. -/
def ab (t : Int) : Int := max t (-t)
/-- How far n pulses of the gain G are from x; how that grows by one more. -/
def gp (x G : Int) (n : Nat) : Int := ab (x - n * G)
def dl (x G : Int) (n : Nat) : Int := gp x G (n + 1) - gp x G n
theorem next_mul (G : Int) (n : Nat) : ((n + 1 : Nat) : Int) * G = n * G + G := by rw [Int.natCast_add]; grind
theorem dl_rise (x G : Int) (hG : 0 ≤ G) (n : Nat) : dl x G n ≤ dl x G (n + 1) := by
  unfold dl gp ab
  rw [next_mul G (n + 1), next_mul G n]
  generalize (n : Int) * G = t
  omega
theorem dl_least (x G : Int) (hG : 0 ≤ G) (n : Nat) : -G ≤ dl x G n := by
  unfold dl gp ab
  rw [next_mul G n]
  generalize (n : Int) * G = t
  omega
/-- The line under the distances at y. -/
theorem line_up (x G l : Int) (hG : 0 ≤ G) (y : Nat) (h : l ≤ dl x G y) (d : Nat) : gp x G y + l * d ≤ gp x G (y + d) ∧ l ≤ dl x G (y + d) := by
  induction d with
  | zero => exact ⟨by show gp x G y + l * 0 ≤ gp x G y; rw [Int.mul_zero]; omega, h⟩
  | succ d ih =>
    obtain ⟨h1, h2⟩ := ih
    have h3 := dl_rise x G hG (y + d)
    refine ⟨?_, by rw [← Nat.add_assoc]; omega⟩
    have e : l * ((d + 1 : Nat) : Int) = l * d + l := by rw [Int.natCast_add]; grind
    rw [e, ← Nat.add_assoc]
    unfold dl at h2
    omega
theorem line_dn (x G l : Int) (hG : 0 ≤ G) (d : Nat) : ∀ y, d ≤ y → (1 ≤ y → dl x G (y - 1) ≤ l) → gp x G y - l * d ≤ gp x G (y - d) := by
  induction d with
  | zero => intro y _ _; show gp x G y - l * 0 ≤ gp x G y; rw [Int.mul_zero]; omega
  | succ d ih =>
    intro y hy h
    have h1 := h (by omega)
    have h2 := ih (y - 1) (by omega) (fun hy1 => by
      have := dl_rise x G hG (y - 1 - 1)
      rw [show y - 1 - 1 + 1 = y - 1 by omega] at this
      omega)
    have e : l * ((d + 1 : Nat) : Int) = l * d + l := by rw [Int.natCast_add]; grind
    rw [e, show y - (d + 1) = y - 1 - d by omega]
    unfold dl at h1
    rw [show y - 1 + 1 = y by omega] at h1
    omega
theorem line_all (x G l : Int) (hG : 0 ≤ G) (y n : Nat) (h1 : 1 ≤ y → dl x G (y - 1) ≤ l) (h2 : l ≤ dl x G y) : gp x G y + l * ((n : Int) - y) ≤ gp x G n := by
  rcases Nat.le_total y n with h | h
  · have := (line_up x G l hG y h2 (n - y)).1
    rw [show y + (n - y) = n by omega, show ((n - y : Nat) : Int) = (n : Int) - y by omega] at this
    exact this
  · have := line_dn x G l hG (y - n) y (by omega) h1
    rw [show y - (y - n) = n by omega, show ((y - n : Nat) : Int) = (y : Int) - n by omega] at this
    have e : l * ((y : Int) - n) = -(l * ((n : Int) - y)) := by grind
    rw [e] at this
    omega

/-- A sum over four. -/
def s4 (f : Nat → Int) : Int := f 0 + f 1 + f 2 + f 3
/-- What pulses are, that were given one by one. -/
def Fair (x : Nat → Int) (G : Int) (y : Nat → Nat) : Prop := ∃ l, ∀ i, i < 4 → (1 ≤ y i → dl (x i) G (y i - 1) ≤ l) ∧ l ≤ dl (x i) G (y i)
theorem fair_none (x : Nat → Int) (G : Int) (hG : 0 ≤ G) : Fair x G fun _ => 0 := ⟨-G, fun i _ => ⟨fun h => by simp at h, dl_least (x i) G hG 0⟩⟩
/-- One pulse more. -/
def more (y : Nat → Nat) (i : Nat) : Nat → Nat := fun j => if j = i then y j + 1 else y j
theorem fair_more (x : Nat → Int) (G : Int) (hG : 0 ≤ G) (y : Nat → Nat) (h : Fair x G y) (i : Nat) (hi : i < 4) (hb : ∀ j, j < 4 → dl (x i) G (y i) ≤ dl (x j) G (y j)) : Fair x G (more y i) := by
  obtain ⟨l, hl⟩ := h
  refine ⟨dl (x i) G (y i), fun j hj => ?_⟩
  unfold more
  by_cases e : j = i
  · subst e
    rw [if_pos rfl, Nat.add_sub_cancel]
    exact ⟨fun _ => Int.le_refl _, dl_rise (x j) G hG (y j)⟩
  · rw [if_neg e]
    have h1 := (hl i hi).2
    exact ⟨fun h => Int.le_trans ((hl j hj).1 h) h1, hb j hj⟩
/-- No vector of as many pulses is nearer. -/
theorem fair_least (x : Nat → Int) (G : Int) (hG : 0 ≤ G) (y n : Nat → Nat) (h : Fair x G y) (hs : s4 (fun i => (y i : Int)) = s4 (fun i => (n i : Int))) : s4 (fun i => gp (x i) G (y i)) ≤ s4 (fun i => gp (x i) G (n i)) := by
  obtain ⟨l, hl⟩ := h
  have k := fun i (hi : i < 4) => line_all (x i) G l hG (y i) (n i) (hl i hi).1 (hl i hi).2
  have k0 := k 0 (by omega)
  have k1 := k 1 (by omega)
  have k2 := k 2 (by omega)
  have k3 := k 3 (by omega)
  simp only [s4] at hs ⊢
  have e : l * ((n 0 : Int) - y 0) + l * ((n 1 : Int) - y 1) + l * ((n 2 : Int) - y 2) + l * ((n 3 : Int) - y 3) = l * (((n 0 : Int) + n 1 + n 2 + n 3) - ((y 0 : Int) + y 1 + y 2 + y 3)) := by grind
  rw [hs, Int.sub_self, Int.mul_zero] at e
  omega
theorem ab_mul (z G : Int) (hG : 0 ≤ G) : ab (z * G) = (z.natAbs : Int) * G := by
  unfold ab
  rcases Int.le_total 0 z with h | h
  · have e : (z.natAbs : Int) = z := by omega
    have := Int.mul_nonneg h hG
    rw [e]; omega
  · have e : (z.natAbs : Int) = -z := by omega
    have := Int.mul_nonneg (show 0 ≤ -z by omega) hG
    rw [e, Int.neg_mul]
    rw [Int.neg_mul] at this
    omega
/-- A number's pulses are no nearer than as many of its own sign. -/
theorem gp_sign (c z G : Int) (hG : 0 ≤ G) : gp (ab c) G z.natAbs ≤ ab (c - z * G) := by
  have h := ab_mul z G hG
  unfold gp
  rw [← h]
  generalize z * G = t
  unfold ab
  omega
/-- Pulses of the coefficient's own sign. -/
def sgn (c : Int) (n : Nat) : Int := if 0 ≤ c then n else -n
theorem gp_own (c G : Int) (n : Nat) : ab (c - sgn c n * G) = gp (ab c) G n := by
  unfold sgn gp
  by_cases h : 0 ≤ c
  · rw [if_pos h]
    have e : ab c = c := by unfold ab; omega
    rw [e]
  · rw [if_neg h]
    have e : ab c = -c := by unfold ab; omega
    rw [e, Int.neg_mul]
    generalize (n : Int) * G = t
    unfold ab
    omega
theorem sgn_abs (c : Int) (n : Nat) : (sgn c n).natAbs = n := by
  unfold sgn
  split <;> omega
/-- The distance of pulses from coefficients. -/
def dis (c z : Nat → Int) (G : Int) : Int := s4 fun i => ab (c i - z i * G)
theorem dis_least (c z : Nat → Int) (G : Int) (hG : 0 ≤ G) (y : Nat → Nat) (h : Fair (fun i => ab (c i)) G y) (hs : s4 (fun i => (y i : Int)) = s4 (fun i => ((z i).natAbs : Int))) : dis c (fun i => sgn (c i) (y i)) G ≤ dis c z G := by
  have k := fair_least (fun i => ab (c i)) G hG y (fun i => (z i).natAbs) h hs
  simp only [dis, s4, gp_own]
  simp only [s4] at k
  have g0 := gp_sign (c 0) (z 0) G hG
  have g1 := gp_sign (c 1) (z 1) G hG
  have g2 := gp_sign (c 2) (z 2) G hG
  have g3 := gp_sign (c 3) (z 3) G hG
  omega
theorem ab_nn (t : Int) : 0 ≤ ab t := by unfold ab; omega
/-- Coefficients that pulses stand for are found as these. -/
theorem dis_exact (z : Nat → Int) (G : Int) (hG : 1 ≤ G) (y : Nat → Nat) (h : Fair (fun i => ab (z i * G)) G y) (hs : s4 (fun i => (y i : Int)) = s4 (fun i => ((z i).natAbs : Int))) (i : Nat) (hi : i < 4) : sgn (z i * G) (y i) = z i := by
  have k := dis_least (fun i => z i * G) z G (by omega) y h hs
  simp only [dis, s4, Int.sub_self] at k
  have n0 := ab_nn (z 0 * G - sgn (z 0 * G) (y 0) * G)
  have n1 := ab_nn (z 1 * G - sgn (z 1 * G) (y 1) * G)
  have n2 := ab_nn (z 2 * G - sgn (z 2 * G) (y 2) * G)
  have n3 := ab_nn (z 3 * G - sgn (z 3 * G) (y 3) * G)
  have e0 : ab 0 = 0 := rfl
  have hz : ab (z i * G - sgn (z i * G) (y i) * G) = 0 := by
    have hi4 : i = 0 ∨ i = 1 ∨ i = 2 ∨ i = 3 := by omega
    rcases hi4 with rfl | rfl | rfl | rfl <;> omega
  have hm : (z i - sgn (z i * G) (y i)) * G = 0 := by
    have e : (z i - sgn (z i * G) (y i)) * G = z i * G - sgn (z i * G) (y i) * G := by grind
    rw [e]
    unfold ab at hz
    omega
  rcases Int.mul_eq_zero.1 hm with h1 | h1
  · omega
  · omega
end Go.Proofs.Ytoohahjmiljpgaa.M

/- Plain facts of layers 14 and 20: pulses as they are found, one by one; that no others are nearer; coefficients turned about. No program is named here. No conditions but those that each fact names. -/
namespace Go.Proofs.Ytoohahjmiljpgaa.M

/-- The first of the least of four. -/
def bs4 (g : Nat → Int) : Nat :=
  if g 3 < g (if g 2 < g (if g 1 < g 0 then 1 else 0) then 2 else if g 1 < g 0 then 1 else 0) then 3 else if g 2 < g (if g 1 < g 0 then 1 else 0) then 2 else if g 1 < g 0 then 1 else 0
theorem bs4_all (g : Nat → Int) : bs4 g < 4 ∧ ∀ j, j < 4 → g (bs4 g) ≤ g j ∧ (j < bs4 g → g (bs4 g) < g j) := by
  unfold bs4
  by_cases h1 : g 1 < g 0
  · rw [if_pos h1]
    by_cases h2 : g 2 < g 1
    · rw [if_pos h2]
      by_cases h3 : g 3 < g 2
      · rw [if_pos h3]
        refine ⟨by omega, fun j hj => ?_⟩
        have hj2 : j = 0 ∨ j = 1 ∨ j = 2 ∨ j = 3 := by omega
        rcases hj2 with rfl | rfl | rfl | rfl <;> constructor <;> first | omega | (intro _; omega)
      · rw [if_neg h3]
        refine ⟨by omega, fun j hj => ?_⟩
        have hj2 : j = 0 ∨ j = 1 ∨ j = 2 ∨ j = 3 := by omega
        rcases hj2 with rfl | rfl | rfl | rfl <;> constructor <;> first | omega | (intro _; omega)
    · rw [if_neg h2]
      by_cases h3 : g 3 < g 1
      · rw [if_pos h3]
        refine ⟨by omega, fun j hj => ?_⟩
        have hj2 : j = 0 ∨ j = 1 ∨ j = 2 ∨ j = 3 := by omega
        rcases hj2 with rfl | rfl | rfl | rfl <;> constructor <;> first | omega | (intro _; omega)
      · rw [if_neg h3]
        refine ⟨by omega, fun j hj => ?_⟩
        have hj2 : j = 0 ∨ j = 1 ∨ j = 2 ∨ j = 3 := by omega
        rcases hj2 with rfl | rfl | rfl | rfl <;> constructor <;> first | omega | (intro _; omega)
  · rw [if_neg h1]
    by_cases h2 : g 2 < g 0
    · rw [if_pos h2]
      by_cases h3 : g 3 < g 2
      · rw [if_pos h3]
        refine ⟨by omega, fun j hj => ?_⟩
        have hj2 : j = 0 ∨ j = 1 ∨ j = 2 ∨ j = 3 := by omega
        rcases hj2 with rfl | rfl | rfl | rfl <;> constructor <;> first | omega | (intro _; omega)
      · rw [if_neg h3]
        refine ⟨by omega, fun j hj => ?_⟩
        have hj2 : j = 0 ∨ j = 1 ∨ j = 2 ∨ j = 3 := by omega
        rcases hj2 with rfl | rfl | rfl | rfl <;> constructor <;> first | omega | (intro _; omega)
    · rw [if_neg h2]
      by_cases h3 : g 3 < g 0
      · rw [if_pos h3]
        refine ⟨by omega, fun j hj => ?_⟩
        have hj2 : j = 0 ∨ j = 1 ∨ j = 2 ∨ j = 3 := by omega
        rcases hj2 with rfl | rfl | rfl | rfl <;> constructor <;> first | omega | (intro _; omega)
      · rw [if_neg h3]
        refine ⟨by omega, fun j hj => ?_⟩
        have hj2 : j = 0 ∨ j = 1 ∨ j = 2 ∨ j = 3 := by omega
        rcases hj2 with rfl | rfl | rfl | rfl <;> constructor <;> first | omega | (intro _; omega)
/-- There is one such alone. -/
theorem bs4_one (g : Nat → Int) (a : Nat) (ha : a < 4) (h : ∀ j, j < 4 → g a ≤ g j ∧ (j < a → g a < g j)) : bs4 g = a := by
  obtain ⟨h1, h2⟩ := bs4_all g
  have e1 := h2 a ha
  have e2 := h (bs4 g) h1
  rcases Nat.lt_trichotomy a (bs4 g) with k | k | k
  · have := e1.2 k; omega
  · exact k.symm
  · have := e2.2 k; omega
/-- Pulses given, one by one: how many each has. -/
def fd4 (x : Nat → Int) (G : Int) : Nat → Nat → Nat
  | 0 => fun _ => 0
  | n + 1 => more (fd4 x G n) (bs4 fun i => dl (x i) G (fd4 x G n i))
theorem fd4_fair (x : Nat → Int) (G : Int) (hG : 0 ≤ G) (n : Nat) : Fair x G (fd4 x G n) := by
  induction n with
  | zero => exact fair_none x G hG
  | succ n ih =>
    obtain ⟨h1, h2⟩ := bs4_all fun i => dl (x i) G (fd4 x G n i)
    exact fair_more x G hG _ ih _ h1 fun j hj => (h2 j hj).1
theorem s4_more (y : Nat → Nat) (i : Nat) (hi : i < 4) : s4 (fun j => (more y i j : Int)) = s4 (fun j => (y j : Int)) + 1 := by
  have h : i = 0 ∨ i = 1 ∨ i = 2 ∨ i = 3 := by omega
  unfold s4 more
  rcases h with rfl | rfl | rfl | rfl <;> simp <;> omega
theorem fd4_sum (x : Nat → Int) (G : Int) (n : Nat) : s4 (fun i => (fd4 x G n i : Int)) = n := by
  induction n with
  | zero => rfl
  | succ n ih =>
    show s4 (fun i => (more (fd4 x G n) (bs4 fun i => dl (x i) G (fd4 x G n i)) i : Int)) = _
    rw [s4_more _ _ (bs4_all _).1, ih]; omega
/-- The pulses that are found. -/
def fnd (c : Nat → Int) (G : Int) (n : Nat) : Nat → Int := fun i => sgn (c i) (fd4 (fun i => ab (c i)) G n i)
theorem fnd_sum (c : Nat → Int) (G : Int) (n : Nat) : s4 (fun i => ((fnd c G n i).natAbs : Int)) = n := by
  have : (fun i => ((fnd c G n i).natAbs : Int)) = fun i => (fd4 (fun i => ab (c i)) G n i : Int) := by
    funext i
    unfold fnd
    rw [sgn_abs]
  rw [this, fd4_sum]
/-- PulseLeast: no vector of as many pulses is nearer. -/
theorem fnd_least (c z : Nat → Int) (G : Int) (hG : 0 ≤ G) (n : Nat) (hz : s4 (fun i => ((z i).natAbs : Int)) = n) : dis c (fnd c G n) G ≤ dis c z G :=
  dis_least c z G hG _ (fd4_fair _ G hG n) (by rw [fd4_sum, hz])
theorem fnd_sign (c : Nat → Int) (G : Int) (n i : Nat) (h : fnd c G n i ≠ 0) : fnd c G n i < 0 ↔ c i < 0 := by
  unfold fnd sgn at h ⊢
  by_cases hc : 0 ≤ c i
  · rw [if_pos hc] at h ⊢; omega
  · rw [if_neg hc] at h ⊢; omega
/-- PulseExact. -/
theorem fnd_exact (z : Nat → Int) (G : Int) (hG : 1 ≤ G) (n : Nat) (hz : s4 (fun i => ((z i).natAbs : Int)) = n) (i : Nat) (hi : i < 4) : fnd (fun i => z i * G) G n i = z i :=
  dis_exact z G hG _ (fd4_fair _ G (by omega) n) (by rw [fd4_sum, hz]) i hi
/-- PulseTurns. -/
theorem fnd_turn (c : Nat → Int) (G : Int) (n i : Nat) (h : c i ≠ 0) : fnd (fun i => -(c i)) G n i = -(fnd c G n i) := by
  have e : (fun i => ab (-(c i))) = fun i => ab (c i) := by
    funext j
    unfold ab; omega
  unfold fnd
  rw [e]
  unfold sgn
  simp only
  by_cases hc : 0 ≤ c i
  · rw [if_neg (by omega), if_pos hc]
  · rw [if_pos (by omega), if_neg hc]; omega
theorem dis_turn (c z : Nat → Int) (G : Int) : dis (fun i => -(c i)) (fun i => -(z i)) G = dis c z G := by
  unfold dis s4
  have e : ∀ j, ab (-(c j) - -(z j) * G) = ab (c j - z j * G) := by
    intro j
    rw [Int.neg_mul]
    unfold ab; omega
  simp only [e]
/-- One pulse more changes the distance by its own part. -/
theorem dis_more (c : Nat → Int) (G : Int) (y : Nat → Nat) (i : Nat) (hi : i < 4) : dis c (fun j => sgn (c j) (more y i j)) G = dis c (fun j => sgn (c j) (y j)) G + dl (ab (c i)) G (y i) := by
  have e : ∀ (w : Nat → Nat) j, ab (c j - sgn (c j) (w j) * G) = gp (ab (c j)) G (w j) := fun w j => gp_own (c j) G (w j)
  unfold dis
  have e1 : (fun j => ab (c j - sgn (c j) (more y i j) * G)) = fun j => gp (ab (c j)) G (more y i j) := by funext j; exact e _ j
  have e2 : (fun j => ab (c j - sgn (c j) (y j) * G)) = fun j => gp (ab (c j)) G (y j) := by funext j; exact e _ j
  rw [e1, e2]
  have h : i = 0 ∨ i = 1 ∨ i = 2 ∨ i = 3 := by omega
  unfold s4 dl more
  rcases h with rfl | rfl | rfl | rfl <;> simp <;> omega
end Go.Proofs.Ytoohahjmiljpgaa.M

/- Plain facts of heaps as lists (layers 14 and 18): sifting down and up, what stands first is least, putting in, taking out, setting right. No program is named here. Condition: an order in which what is not less is so on. -/
namespace Go.Proofs.Ytoohahjmiljpgaa.M

/-- An order by 'less', equals allowed. -/
structure Ls {α : Type} (lt : α → α → Bool) : Prop where
  asym : ∀ a b, lt a b = true → lt b a = false
  trans : ∀ a b c, lt b a = false → lt c b = false → lt c a = false
theorem Ls.irr {α : Type} {lt : α → α → Bool} (h : Ls lt) (a : α) : lt a a = false := by
  cases e : lt a a with
  | false => rfl
  | true => have := h.asym a a e; rw [e] at this; cases this
def swq {α : Type} (d : α) (l : List α) (i j : Nat) : List α := (l.set i (l.getD j d)).set j (l.getD i d)
theorem swq_len {α : Type} (d : α) (l : List α) (i j : Nat) : (swq d l i j).length = l.length := by simp [swq]
theorem stq_getD {α : Type} (l : List α) (d : α) (i k : Nat) (v : α) (h : i < l.length) : (l.set i v).getD k d = if i = k then v else l.getD k d := by
  rw [List.getD_eq_getElem?_getD, List.getElem?_set]
  by_cases e : i = k
  · rw [if_pos e, if_pos e, if_pos (by omega)]; rfl
  · rw [if_neg e, if_neg e, List.getD_eq_getElem?_getD]
theorem swq_getD {α : Type} (d : α) (l : List α) (i j k : Nat) (hi : i < l.length) (hj : j < l.length) : (swq d l i j).getD k d = if k = j then l.getD i d else if k = i then l.getD j d else l.getD k d := by
  unfold swq
  rw [stq_getD _ _ _ _ _ (by rw [List.length_set]; exact hj), stq_getD _ _ _ _ _ hi]
  by_cases e : j = k
  · rw [if_pos (show j = k from e), if_pos (show k = j from e.symm)]
  · rw [if_neg (show ¬ j = k from e), if_neg (show ¬ k = j from fun h => e h.symm)]
    by_cases e2 : i = k
    · rw [if_pos (show i = k from e2), if_pos (show k = i from e2.symm)]
    · rw [if_neg (show ¬ i = k from e2), if_neg (show ¬ k = i from fun h => e2 h.symm)]
/-- The parent of a place. -/
def pa (k : Nat) : Nat := (k - 1) / 2
def HpX {α : Type} (lt : α → α → Bool) (d : α) (l : List α) (n lo e : Nat) : Prop :=
  (∀ k, 0 < k → k < n → lo ≤ pa k → pa k ≠ e → lt (l.getD k d) (l.getD (pa k) d) = false) ∧ (∀ k, 0 < k → k < n → pa k = e → 0 < e → lo ≤ pa e → lt (l.getD k d) (l.getD (pa e) d) = false)
def Hp {α : Type} (lt : α → α → Bool) (d : α) (l : List α) (n lo : Nat) : Prop := ∀ k, 0 < k → k < n → lo ≤ pa k → lt (l.getD k d) (l.getD (pa k) d) = false
/-- The less one of two children. -/
def lch {α : Type} (lt : α → α → Bool) (d : α) (l : List α) (i n : Nat) : Nat := if 2 * i + 2 < n ∧ lt (l.getD (2 * i + 2) d) (l.getD (2 * i + 1) d) = true then 2 * i + 2 else 2 * i + 1
/-- Sifting down. -/
def hdn {α : Type} (lt : α → α → Bool) (d : α) (n : Nat) : Nat → List α → Nat → List α
  | 0, l, _ => l
  | f + 1, l, i => if n ≤ 2 * i + 1 then l else if lt (l.getD (lch lt d l i n) d) (l.getD i d) = true then hdn lt d n f (swq d l i (lch lt d l i n)) (lch lt d l i n) else l
theorem lch_is {α : Type} (lt : α → α → Bool) (h : Ls lt) (d : α) (l : List α) (i n : Nat) (hn : 2 * i + 1 < n) : pa (lch lt d l i n) = i ∧ i < lch lt d l i n ∧ lch lt d l i n < n ∧ ∀ k, 0 < k → k < n → pa k = i → lt (l.getD k d) (l.getD (lch lt d l i n) d) = false := by
  unfold lch
  by_cases hc : 2 * i + 2 < n ∧ lt (l.getD (2 * i + 2) d) (l.getD (2 * i + 1) d) = true
  · rw [if_pos hc]
    refine ⟨by unfold pa; omega, by omega, hc.1, fun k h0 hk hp => ?_⟩
    have hk2 : k = 2 * i + 1 ∨ k = 2 * i + 2 := by unfold pa at hp; omega
    rcases hk2 with rfl | rfl
    · exact h.asym _ _ hc.2
    · exact h.irr _
  · rw [if_neg hc]
    refine ⟨by unfold pa; omega, by omega, hn, fun k h0 hk hp => ?_⟩
    have hk2 : k = 2 * i + 1 ∨ k = 2 * i + 2 := by unfold pa at hp; omega
    rcases hk2 with rfl | rfl
    · exact h.irr _
    · cases e : lt (l.getD (2 * i + 2) d) (l.getD (2 * i + 1) d) with
      | false => rfl
      | true => exact absurd ⟨hk, e⟩ hc
theorem pa_lt (k : Nat) (h : 0 < k) : pa k < k := by unfold pa; omega
theorem hdn_heap {α : Type} (lt : α → α → Bool) (h : Ls lt) (d : α) (n lo : Nat) (f : Nat) : ∀ (l : List α) (i : Nat), n ≤ l.length → lo ≤ i → n ≤ i + f → HpX lt d l n lo i → Hp lt d (hdn lt d n f l i) n lo := by
  induction f with
  | zero =>
    intro l i _ _ hf hx k h0 hk hlo
    by_cases e : pa k = i
    · have := pa_lt k h0; omega
    · exact hx.1 k h0 hk hlo e
  | succ f ih =>
    intro l i hl hlo hf hx
    unfold hdn
    by_cases hn : n ≤ 2 * i + 1
    · rw [if_pos hn]
      intro k h0 hk hlk
      by_cases e : pa k = i
      · unfold pa at e; omega
      · exact hx.1 k h0 hk hlk e
    · rw [if_neg hn]
      obtain ⟨c1, c2, c3, c4⟩ := lch_is lt h d l i n (by omega)
      generalize lch lt d l i n = j at *
      by_cases hlt : lt (l.getD j d) (l.getD i d) = true
      · rw [if_pos hlt]
        have hi : i < l.length := by omega
        have hj : j < l.length := by omega
        refine ih (swq d l i j) j (by rw [swq_len]; exact hl) (by omega) (by omega) ⟨?_, ?_⟩
        · intro k h0 hk hlk hne
          rw [swq_getD d l i j _ hi hj, swq_getD d l i j _ hi hj, if_neg hne]
          by_cases e1 : pa k = i
          · rw [if_pos e1]
            by_cases e2 : k = j
            · rw [if_pos e2]; exact h.asym _ _ hlt
            · have : k ≠ i := by have := pa_lt k h0; omega
              rw [if_neg e2, if_neg this]
              exact c4 k h0 hk e1
          · rw [if_neg e1]
            have e2 : k ≠ j := by rintro rfl; exact e1 c1
            rw [if_neg e2]
            by_cases e3 : k = i
            · rw [if_pos e3, e3]
              exact hx.2 j (by omega) c3 c1 (by omega) (by rw [← e3]; exact hlk)
            · rw [if_neg e3]
              exact hx.1 k h0 hk hlk e1
        · intro k h0 hk hp _ hlk
          have hkj := pa_lt k h0
          rw [swq_getD d l i j _ hi hj, swq_getD d l i j _ hi hj, c1, if_neg (by omega), if_neg (by omega), if_neg (by omega), if_pos rfl, ← hp]
          exact hx.1 k h0 hk (by omega) (by omega)
      · rw [if_neg hlt]
        have hlf : lt (l.getD j d) (l.getD i d) = false := by simpa using hlt
        intro k h0 hk hlk
        by_cases e : pa k = i
        · rw [e]
          exact h.trans _ _ _ hlf (c4 k h0 hk e)
        · exact hx.1 k h0 hk hlk e
theorem hdn_len {α : Type} (lt : α → α → Bool) (d : α) (n : Nat) (f : Nat) : ∀ (l : List α) (i : Nat), (hdn lt d n f l i).length = l.length := by
  induction f with
  | zero => intro l i; rfl
  | succ f ih =>
    intro l i
    unfold hdn
    split
    · rfl
    · split
      · rw [ih, swq_len]
      · rfl
/-- Nothing from n on is touched. -/
theorem hdn_above {α : Type} (lt : α → α → Bool) (h : Ls lt) (d : α) (n : Nat) (f : Nat) : ∀ (l : List α) (i k : Nat), n ≤ l.length → n ≤ k → (hdn lt d n f l i).getD k d = l.getD k d := by
  induction f with
  | zero => intro l i k _ _; rfl
  | succ f ih =>
    intro l i k hl hk
    unfold hdn
    by_cases hn : n ≤ 2 * i + 1
    · rw [if_pos hn]
    · rw [if_neg hn]
      obtain ⟨c1, c2, c3, _⟩ := lch_is lt h d l i n (by omega)
      generalize lch lt d l i n = j at *
      by_cases hlt : lt (l.getD j d) (l.getD i d) = true
      · rw [if_pos hlt, ih _ _ _ (by rw [swq_len]; exact hl) hk, swq_getD d l i j k (by omega) (by omega), if_neg (by omega), if_neg (by omega)]
      · rw [if_neg hlt]
theorem swq_perm {α : Type} (d : α) (l : List α) (i j : Nat) (hi : i < l.length) (hj : j < l.length) : (swq d l i j).Perm l := by
  unfold swq
  rw [List.getD_eq_getElem?_getD, List.getD_eq_getElem?_getD, List.getElem?_eq_getElem hi, List.getElem?_eq_getElem hj]
  exact List.set_set_perm hi hj
theorem hdn_perm {α : Type} (lt : α → α → Bool) (h : Ls lt) (d : α) (n : Nat) (f : Nat) : ∀ (l : List α) (i : Nat), n ≤ l.length → (hdn lt d n f l i).Perm l := by
  induction f with
  | zero => intro l i _; exact List.Perm.refl _
  | succ f ih =>
    intro l i hl
    unfold hdn
    by_cases hn : n ≤ 2 * i + 1
    · rw [if_pos hn]
    · rw [if_neg hn]
      obtain ⟨c1, c2, c3, _⟩ := lch_is lt h d l i n (by omega)
      generalize lch lt d l i n = j at *
      by_cases hlt : lt (l.getD j d) (l.getD i d) = true
      · rw [if_pos hlt]
        exact (ih _ _ (by rw [swq_len]; exact hl)).trans (swq_perm d l i j (by omega) (by omega))
      · rw [if_neg hlt]
/-- What stands first is least. -/
theorem hp_least {α : Type} (lt : α → α → Bool) (h : Ls lt) (d : α) (l : List α) (n : Nat) (hp : Hp lt d l n 0) (k : Nat) (hk : k < n) : lt (l.getD k d) (l.getD 0 d) = false := by
  induction k using Nat.strongRecOn with
  | _ k ih =>
    by_cases e : k = 0
    · rw [e]; exact h.irr _
    · have h1 := pa_lt k (by omega)
      exact h.trans _ _ _ (ih (pa k) h1 (by omega)) (hp k (by omega) hk (Nat.zero_le _))
/-- Init: every list, from its middle down. -/
theorem hp_half {α : Type} (lt : α → α → Bool) (d : α) (l : List α) (n : Nat) : Hp lt d l n (n / 2) := by
  intro k h0 hk hlo
  unfold pa at hlo
  omega
theorem hp_next {α : Type} (lt : α → α → Bool) (h : Ls lt) (d : α) (l : List α) (n i : Nat) (hl : n ≤ l.length) (hp : Hp lt d l n (i + 1)) : Hp lt d (hdn lt d n n l i) n i := by
  refine hdn_heap lt h d n i n l i hl (Nat.le_refl _) (by omega) ⟨fun k h0 hk hlo hne => hp k h0 hk (by omega), fun k h0 hk hp2 he hlo => ?_⟩
  have := pa_lt i he
  omega
/-- Pop: the last one put first, and sifted down. -/
theorem hp_pop {α : Type} (lt : α → α → Bool) (h : Ls lt) (d : α) (l : List α) (n : Nat) (hl : n + 1 = l.length) (hp : Hp lt d l (n + 1) 0) :
    Hp lt d (hdn lt d n n (swq d l 0 n) 0) n 0 ∧ (hdn lt d n n (swq d l 0 n) 0).getD n d = l.getD 0 d := by
  constructor
  · refine hdn_heap lt h d n 0 n _ 0 (by rw [swq_len]; omega) (Nat.le_refl _) (by omega) ⟨fun k h0 hk _ hne => ?_, fun k _ _ _ he _ => by omega⟩
    have h1 := pa_lt k h0
    rw [swq_getD d l 0 n _ (by omega) (by omega), swq_getD d l 0 n _ (by omega) (by omega), if_neg (by omega), if_neg (by omega), if_neg (by omega), if_neg hne]
    exact hp k h0 (by omega) (Nat.zero_le _)
  · rw [hdn_above lt h d n n _ _ _ (by rw [swq_len]; omega) (Nat.le_refl _), swq_getD d l 0 n _ (by omega) (by omega), if_pos rfl]
/-- Sifting up. -/
def HpU {α : Type} (lt : α → α → Bool) (d : α) (l : List α) (n j : Nat) : Prop :=
  (∀ k, 0 < k → k < n → k ≠ j → lt (l.getD k d) (l.getD (pa k) d) = false) ∧ (∀ k, 0 < k → k < n → pa k = j → 0 < j → lt (l.getD k d) (l.getD (pa j) d) = false)
def hup {α : Type} (lt : α → α → Bool) (d : α) : Nat → List α → Nat → List α
  | 0, l, _ => l
  | f + 1, l, j => if pa j = j then l else if lt (l.getD j d) (l.getD (pa j) d) = true then hup lt d f (swq d l (pa j) j) (pa j) else l
theorem hup_heap {α : Type} (lt : α → α → Bool) (h : Ls lt) (d : α) (n : Nat) (f : Nat) : ∀ (l : List α) (j : Nat), n ≤ l.length → j < n → j < f → HpU lt d l n j → Hp lt d (hup lt d f l j) n 0 := by
  induction f with
  | zero => intro l j _ _ hf; omega
  | succ f ih =>
    intro l j hl hj hf hx
    unfold hup
    by_cases h0 : j = 0
    · subst h0
      rw [if_pos (show pa 0 = 0 from rfl)]
      intro k k0 hk _
      exact hx.1 k k0 hk (by omega)
    · have hp := pa_lt j (by omega)
      rw [if_neg (by omega)]
      by_cases hlt : lt (l.getD j d) (l.getD (pa j) d) = true
      · rw [if_pos hlt]
        have hi : pa j < l.length := by omega
        have hj2 : j < l.length := by omega
        have has := h.asym _ _ hlt
        refine ih (swq d l (pa j) j) (pa j) (by rw [swq_len]; exact hl) (by omega) (by omega) ⟨?_, ?_⟩
        · intro k k0 hk hne
          have hpk := pa_lt k k0
          rw [swq_getD d l (pa j) j _ hi hj2, swq_getD d l (pa j) j _ hi hj2]
          by_cases e1 : k = j
          · rw [if_pos e1, e1, if_neg (by omega), if_pos rfl]
            exact has
          · rw [if_neg e1, if_neg hne]
            by_cases e2 : pa k = j
            · rw [if_pos e2]
              exact hx.2 k k0 hk e2 (by omega)
            · rw [if_neg e2]
              by_cases e3 : pa k = pa j
              · rw [if_pos e3]
                have := hx.1 k k0 hk e1
                rw [e3] at this
                exact h.trans _ _ _ has this
              · rw [if_neg e3]
                exact hx.1 k k0 hk e1
        · intro k k0 hk hpk hpos
          have hpp := pa_lt (pa j) hpos
          rw [swq_getD d l (pa j) j _ hi hj2, swq_getD d l (pa j) j _ hi hj2, if_neg (show ¬ pa (pa j) = j by omega), if_neg (show ¬ pa (pa j) = pa j by omega)]
          have hup1 := hx.1 (pa j) hpos (by omega) (by omega)
          by_cases e1 : k = j
          · rw [if_pos e1]; exact hup1
          · have hkk := pa_lt k k0
            rw [if_neg e1, if_neg (by omega)]
            have := hx.1 k k0 hk e1
            rw [hpk] at this
            exact h.trans _ _ _ hup1 this
      · rw [if_neg hlt]
        have hlf : lt (l.getD j d) (l.getD (pa j) d) = false := by simpa using hlt
        intro k k0 hk _
        by_cases e : k = j
        · rw [e]; exact hlf
        · exact hx.1 k k0 hk e
theorem hup_len {α : Type} (lt : α → α → Bool) (d : α) (f : Nat) : ∀ (l : List α) (j : Nat), (hup lt d f l j).length = l.length := by
  induction f with
  | zero => intro l j; rfl
  | succ f ih =>
    intro l j
    unfold hup
    split
    · rfl
    · split
      · rw [ih, swq_len]
      · rfl
theorem hup_perm {α : Type} (lt : α → α → Bool) (d : α) (f : Nat) : ∀ (l : List α) (j : Nat), j < l.length → (hup lt d f l j).Perm l := by
  induction f with
  | zero => intro l j _; exact List.Perm.refl _
  | succ f ih =>
    intro l j hj
    unfold hup
    by_cases h0 : pa j = j
    · rw [if_pos h0]
    · rw [if_neg h0]
      have hp : pa j < j := by unfold pa at *; omega
      by_cases hlt : lt (l.getD j d) (l.getD (pa j) d) = true
      · rw [if_pos hlt]
        exact (ih _ _ (by rw [swq_len]; omega)).trans (swq_perm d l _ _ (by omega) hj)
      · rw [if_neg hlt]
/-- Push: one more at the end, sifted up. -/
theorem hp_push {α : Type} (lt : α → α → Bool) (h : Ls lt) (d : α) (l : List α) (x : α) (hp : Hp lt d l l.length 0) : Hp lt d (hup lt d (l.length + 1) (l ++ [x]) l.length) (l.length + 1) 0 := by
  have hg : ∀ k, k < l.length → (l ++ [x]).getD k d = l.getD k d := by
    intro k hk
    rw [List.getD_eq_getElem?_getD, List.getElem?_append_left hk, ← List.getD_eq_getElem?_getD]
  refine hup_heap lt h d (l.length + 1) (l.length + 1) _ _ (by simp) (by omega) (by omega) ⟨fun k k0 hk hne => ?_, fun k k0 hk hp2 _ => ?_⟩
  · have := pa_lt k k0
    rw [hg k (by omega), hg (pa k) (by omega)]
    exact hp k k0 (by omega) (Nat.zero_le _)
  · unfold pa at hp2; omega
/-- Fix of one that has become no less: sifted down; sifted up it stays. -/
theorem hp_fix {α : Type} (lt : α → α → Bool) (h : Ls lt) (d : α) (l : List α) (i : Nat) (v : α) (hi : i < l.length) (hp : Hp lt d l l.length 0) (hv : lt v (l.getD i d) = false) : Hp lt d (hdn lt d l.length l.length (l.set i v) i) l.length 0 := by
  refine hdn_heap lt h d l.length 0 l.length _ i (by rw [List.length_set]; exact Nat.le_refl _) (Nat.zero_le _) (by omega) ⟨fun k k0 hk _ hne => ?_, fun k k0 hk hpk hpos _ => ?_⟩
  · rw [stq_getD l d i k v hi, stq_getD l d i (pa k) v hi, if_neg (show ¬ i = pa k from fun e => hne e.symm)]
    by_cases e : i = k
    · rw [if_pos e]
      have := hp k k0 hk (Nat.zero_le _)
      rw [← e] at this ⊢
      exact h.trans _ _ _ this hv
    · rw [if_neg e]
      exact hp k k0 hk (Nat.zero_le _)
  · have h1 := pa_lt k k0
    have h2 := pa_lt i hpos
    rw [stq_getD l d i k v hi, stq_getD l d i (pa i) v hi, if_neg (by omega), if_neg (by omega)]
    have a := hp k k0 hk (Nat.zero_le _)
    rw [hpk] at a
    exact h.trans _ _ _ (hp i hpos hi (Nat.zero_le _)) a
theorem hup_heap_stays {α : Type} (lt : α → α → Bool) (d : α) (l : List α) (n j f : Nat) (hj : j < n) (hp : Hp lt d l n 0) : hup lt d f l j = l := by
  cases f with
  | zero => rfl
  | succ f =>
    unfold hup
    by_cases h0 : pa j = j
    · rw [if_pos h0]
    · rw [if_neg h0]
      have hj0 : 0 < j := by
        rcases Nat.eq_zero_or_pos j with e | e
        · subst e; exact absurd rfl h0
        · exact e
      rw [if_neg (by rw [hp j hj0 hj (Nat.zero_le _)]; simp)]
end Go.Proofs.Ytoohahjmiljpgaa.M
