/-
  Plain facts of layer 11: blocks, the seam of two blocks and its undoing, frames of samples and the way back; what hangs on what; how great frames are. No program is named here. No conditions but those that each fact names.
-/
import Derived.Test.YtpfdjddjoclldaaTf
namespace Go.Proofs.Ytpfdjddjoclldaa.M

/-- A block of a list; blocks one behind the other. -/
def blk (x : List Int) (b : Nat) : List Int := (List.range 32).map fun i => x.getD (32 * b + i) 0
def jnb (l : List (List Int)) : List Int := (List.range (32 * l.length)).map fun p => (l.getD (p / 32) []).getD (p % 32) 0
theorem blk_len (x : List Int) (b : Nat) : (blk x b).length = 32 := tb_len _ _
theorem blk_getD (x : List Int) (b i : Nat) (h : i < 32) : (blk x b).getD i 0 = x.getD (32 * b + i) 0 := tb_getD _ _ _ _ h
theorem jnb_len (l : List (List Int)) : (jnb l).length = 32 * l.length := tb_len _ _
theorem jnb_getD (l : List (List Int)) (p : Nat) (h : p < 32 * l.length) : (jnb l).getD p 0 = (l.getD (p / 32) []).getD (p % 32) 0 := tb_getD _ _ _ _ h
theorem blk_jnb (l : List (List Int)) (b : Nat) (hb : b < l.length) (h : (l.getD b []).length = 32) : blk (jnb l) b = l.getD b [] := by
  symm
  apply tb_ext 0 _ _ _ h
  intro i hi
  rw [jnb_getD l _ (by omega), show (32 * b + i) / 32 = b by omega, show (32 * b + i) % 32 = i by omega]
theorem jnb_blk (x : List Int) (n : Nat) (h : x.length = 32 * n) : jnb ((List.range n).map (blk x)) = x := by
  symm
  have hl : ((List.range n).map (blk x)).length = n := tb_len _ _
  unfold jnb
  rw [hl]
  apply tb_ext 0 x _ _ h
  intro p hp
  rw [tb_getD _ _ _ _ (by omega), blk_getD _ _ _ (by omega), show 32 * (p / 32) + p % 32 = p by omega]
/-- The seam of two blocks. -/
def seaA (H : Int × Int → Int → Int × Int) (a b : List Int) : List Int := (List.range 32).map fun j => if j < 16 then a.getD j 0 else (H (a.getD j 0, b.getD (31 - j) 0) (62 - 4 * ((31 - j : Nat) : Int))).1
def seaB (H : Int × Int → Int → Int × Int) (a b : List Int) : List Int := (List.range 32).map fun j => if j < 16 then (H (a.getD (31 - j) 0, b.getD j 0) (62 - 4 * (j : Int))).2 else b.getD j 0
theorem seaA_len (H : Int × Int → Int → Int × Int) (a b : List Int) : (seaA H a b).length = 32 := tb_len _ _
theorem seaB_len (H : Int × Int → Int → Int × Int) (a b : List Int) : (seaB H a b).length = 32 := tb_len _ _
theorem seaA_getD (H : Int × Int → Int → Int × Int) (a b : List Int) (j : Nat) (h : j < 32) : (seaA H a b).getD j 0 = if j < 16 then a.getD j 0 else (H (a.getD j 0, b.getD (31 - j) 0) (62 - 4 * ((31 - j : Nat) : Int))).1 := tb_getD _ _ _ _ h
theorem seaB_getD (H : Int × Int → Int → Int × Int) (a b : List Int) (j : Nat) (h : j < 32) : (seaB H a b).getD j 0 = if j < 16 then (H (a.getD (31 - j) 0, b.getD j 0) (62 - 4 * (j : Int))).2 else b.getD j 0 := tb_getD _ _ _ _ h
theorem sea_undo (F G : Int × Int → Int → Int × Int) (hFG : ∀ v k, G (F v k) k = v) (a b : List Int) (ha : a.length = 32) (hb : b.length = 32) :
    seaA G (seaA F a b) (seaB F a b) = a ∧ seaB G (seaA F a b) (seaB F a b) = b := by
  constructor
  · symm
    apply tb_ext 0 a _ _ ha
    intro j hj
    by_cases h : j < 16
    · rw [if_pos h, seaA_getD _ _ _ _ hj, if_pos h]
    · rw [if_neg h, seaA_getD _ _ _ _ hj, if_neg h, seaB_getD _ _ _ _ (by omega), if_pos (by omega), show 31 - (31 - j) = j by omega, peta, hFG]
  · symm
    apply tb_ext 0 b _ _ hb
    intro j hj
    by_cases h : j < 16
    · rw [if_pos h, seaA_getD _ _ _ _ (by omega), if_neg (by omega), seaB_getD _ _ _ _ hj, if_pos h, show 31 - (31 - j) = j by omega, peta, hFG]
    · rw [if_neg h, seaB_getD _ _ _ _ hj, if_neg h]
/-- A whole seam more, block by block. -/
theorem sea_step (H : Int × Int → Int → Int × Int) (d d' : Nat → Nat → Bool) (n : Nat) (x : List Int) (s : Nat) (hs : 1 ≤ s) (hn : s < n) (h0 : ∀ i, d s i = false) (hd : ∀ t j, d' t j = (d t j || decide (t = s))) (b : Nat) (hb : b < n) :
    blk (sms H d' n x) b = if b + 1 = s then seaA H (blk (sms H d n x) (s - 1)) (blk (sms H d n x) s) else if b = s then seaB H (blk (sms H d n x) (s - 1)) (blk (sms H d n x) s) else blk (sms H d n x) b := by
  have hdo : ∀ t j, t ≠ s → d' t j = d t j := by
    intro t j h
    rw [hd]; simp [h]
  have hds : ∀ j, d' s j = true := by intro j; rw [hd]; simp
  by_cases e1 : b + 1 = s
  · rw [if_pos e1]
    unfold seaA
    apply tb_congr
    intro j hj
    rw [blk_getD _ _ _ hj, sms_getD _ _ _ _ _ (by omega), sms_getD _ _ _ _ _ (by omega)]
    by_cases h : j < 16
    · rw [if_pos h, show 32 * (s - 1) + j = 32 * b + j by omega]
      unfold smv
      rw [show (32 * b + j) % 32 = j by omega, show (32 * b + j) / 32 = b by omega, if_pos h, if_pos h, hdo b j (by omega)]
    · rw [if_neg h, blk_getD _ _ _ (by omega), sms_getD _ _ _ _ _ (by omega)]
      have e2 : 32 * b + j = 32 * s - 1 - (31 - j) := by omega
      rw [e2, smv_lo H d' n x s (31 - j) hs hn (by omega), if_pos (hds _), show 32 * (s - 1) + j = 32 * s - 1 - (31 - j) by omega, smv_lo H d n x s (31 - j) hs hn (by omega), smv_hi H d n x s (31 - j) hs (by omega), h0, if_neg (by simp), if_neg (by simp)]
  · rw [if_neg e1]
    by_cases e2 : b = s
    · subst e2
      rw [if_pos rfl]
      unfold seaB
      apply tb_congr
      intro j hj
      rw [blk_getD _ _ _ hj, sms_getD _ _ _ _ _ (by omega), sms_getD _ _ _ _ _ (by omega)]
      by_cases h : j < 16
      · rw [if_pos h, blk_getD _ _ _ (by omega), sms_getD _ _ _ _ _ (by omega), smv_hi H d' n x b j hs h, if_pos (hds _), smv_hi H d n x b j hs h, show 32 * (b - 1) + (31 - j) = 32 * b - 1 - j by omega, smv_lo H d n x b j hs hn h, h0, if_neg (by simp), if_neg (by simp)]
      · rw [if_neg h]
        unfold smv
        rw [show (32 * b + j) % 32 = j by omega, show (32 * b + j) / 32 = b by omega, if_neg h, if_neg h, hdo (b + 1) (31 - j) (by omega)]
    · rw [if_neg e2]
      unfold blk
      apply tb_congr
      intro j hj
      rw [sms_getD _ _ _ _ _ (by omega), sms_getD _ _ _ _ _ (by omega)]
      unfold smv
      rw [show (32 * b + j) % 32 = j by omega, show (32 * b + j) / 32 = b by omega, hdo b j (by omega), hdo (b + 1) (31 - j) (by omega)]

/-- How many frames; samples with what fills their blocks; the frames; whether a frame is held; the way back. -/
def cnt (k : Nat) : Nat := (k + 31) / 32 + 1
def padd (l : List Int) : List Int := (List.range (32 * cnt l.length)).map fun p => l.getD p 0
def frm (l : List Int) : List (List Int) := (List.range (cnt l.length)).map fun b => wav (blk (sms lft allT (cnt l.length) (padd l)) b)
def hld (f : List Int) : Bool := f.all fun x => decide (-16777216 ≤ x ∧ x ≤ 16777216)
def unw (f : List Int) : List Int := if hld f = true then wbk f else List.replicate 32 0
def smp (fs : List (List Int)) : List Int := sms lfb allT fs.length (jnb (fs.map unw))
theorem padd_len (l : List Int) : (padd l).length = 32 * cnt l.length := tb_len _ _
theorem padd_getD (l : List Int) (p : Nat) (h : p < 32 * cnt l.length) : (padd l).getD p 0 = l.getD p 0 := tb_getD _ _ _ _ h
theorem frm_len (l : List Int) : (frm l).length = cnt l.length := tb_len _ _
theorem smp_len (fs : List (List Int)) : (smp fs).length = 32 * fs.length := sms_len _ _ _ _
theorem unw_len (f : List Int) : (unw f).length = 32 := by
  unfold unw
  split
  · exact wbk_len f
  · simp
/-- A turned pair is not much greater. -/
theorem lft_small (v : Int × Int) (k : Int) (h1 : -1048576 ≤ v.1) (h2 : v.1 ≤ 1048576) (h3 : -1048576 ≤ v.2) (h4 : v.2 ≤ 1048576) :
    -1483300 ≤ (lft v k).1 ∧ (lft v k).1 ≤ 1483300 ∧ -1483300 ≤ (lft v k).2 ∧ (lft v k).2 ≤ 1483300 := by
  obtain ⟨m, hm0, hm1, b1, b2, b3, b4, hmm⟩ : ∃ m : Int, 0 ≤ m ∧ m ≤ 1048576 ∧ -m ≤ v.1 ∧ v.1 ≤ m ∧ -m ≤ v.2 ∧ v.2 ≤ m ∧ m * m ≤ v.1 * v.1 + v.2 * v.2 := by
    have q1 := sqnn v.1
    have q2 := sqnn v.2
    rcases Int.le_total (v.1 * v.1) (v.2 * v.2) with h | h
    · rcases Int.le_total 0 v.2 with k | k
      · have := sq_le v.1 v.2 k h
        exact ⟨v.2, k, by omega, by omega, by omega, by omega, by omega, by omega⟩
      · have := sq_le v.1 (-v.2) (by omega) (by rw [Int.neg_mul_neg]; exact h)
        exact ⟨-v.2, by omega, by omega, by omega, by omega, by omega, by omega, by rw [Int.neg_mul_neg]; omega⟩
    · rcases Int.le_total 0 v.1 with k | k
      · have := sq_le v.2 v.1 k h
        exact ⟨v.1, k, by omega, by omega, by omega, by omega, by omega, by omega⟩
      · have := sq_le v.2 (-v.1) (by omega) (by rw [Int.neg_mul_neg]; exact h)
        exact ⟨-v.1, by omega, by omega, by omega, by omega, by omega, by omega, by rw [Int.neg_mul_neg]; omega⟩
  obtain ⟨z, hz, hr⟩ := lft_rot' v k m b1 b2 b3 b4
  have hs := (rot_size z v (lft v k) m hz hr b1 b2 b3 b4 hmm).1
  have p1 := mulb v.1 v.1 1048576 1048576 h1 h2 h1 h2
  have p2 := mulb v.2 v.2 1048576 1048576 h3 h4 h3 h4
  have q3 := sqnn (lft v k).1
  have q4 := sqnn (lft v k).2
  generalize hA : v.1 * v.1 = A at *
  generalize hB : v.2 * v.2 = B at *
  generalize hC : (lft v k).1 * (lft v k).1 = C at *
  generalize hD : (lft v k).2 * (lft v k).2 = D at *
  have e1 := sq_le (lft v k).1 1483300 (by decide) (by rw [hC]; omega)
  have e2 := sq_le (lft v k).2 1483300 (by decide) (by rw [hD]; omega)
  exact ⟨e1.1, e1.2, e2.1, e2.2⟩
end Go.Proofs.Ytpfdjddjoclldaa.M
