/-
  Plain facts of layer 11: the samples come back; a changed frame changes what lies near it alone; of samples that begin alike frames are alike. No program is named here. No conditions but those that each fact names.
-/
import Derived.Test.YtpfdjddjoclldaaTg
namespace Go.Proofs.Ytpfdjddjoclldaa.M

theorem getD_bd (l : List Int) (m : Int) (hm : 0 ≤ m) (h : ∀ x ∈ l, -m ≤ x ∧ x ≤ m) (p : Nat) : -m ≤ l.getD p 0 ∧ l.getD p 0 ≤ m := by
  rcases Nat.lt_or_ge p l.length with k | k
  · rw [List.getD_eq_getElem?_getD, List.getElem?_eq_getElem k]
    exact h _ (List.getElem_mem k)
  · rw [List.getD_eq_getElem?_getD, List.getElem?_eq_none k]
    show -m ≤ (0 : Int) ∧ (0 : Int) ≤ m
    omega
theorem mem_bd (l : List Int) (m : Int) (h : ∀ p, p < l.length → -m ≤ l.getD p 0 ∧ l.getD p 0 ≤ m) : ∀ x ∈ l, -m ≤ x ∧ x ≤ m := by
  intro x hx
  obtain ⟨p, hp, rfl⟩ := List.getElem_of_mem hx
  have := h p hp
  rw [List.getD_eq_getElem?_getD, List.getElem?_eq_getElem hp] at this
  exact this
theorem hld_iff (f : List Int) : hld f = true ↔ ∀ x ∈ f, -16777216 ≤ x ∧ x ≤ 16777216 := by
  unfold hld
  rw [List.all_eq_true]
  constructor
  · intro h x hx
    exact of_decide_eq_true (h x hx)
  · intro h x hx
    exact decide_eq_true (h x hx)
/-- Samples with their seams turned are not much greater. -/
theorem seam_small (l : List Int) (h : ∀ x ∈ l, -1048576 ≤ x ∧ x ≤ 1048576) (p : Nat) (hp : p < 32 * cnt l.length) :
    -1483300 ≤ (sms lft allT (cnt l.length) (padd l)).getD p 0 ∧ (sms lft allT (cnt l.length) (padd l)).getD p 0 ≤ 1483300 := by
  have hb : ∀ q, q < 32 * cnt l.length → -1048576 ≤ (padd l).getD q 0 ∧ (padd l).getD q 0 ≤ 1048576 := by
    intro q hq
    rw [padd_getD l q hq]
    exact getD_bd l 1048576 (by decide) h q
  rw [sms_getD _ _ _ _ _ hp]
  have hn : 1 ≤ cnt l.length := by unfold cnt; omega
  rcases place_of _ p hp with ⟨s, i, hs, hsn, hi, rfl⟩ | ⟨s, i, hs, hsn, hi, rfl⟩ | he
  · have b1 := hb (32 * s - 1 - i) (by omega)
    have b2 := hb (32 * s + i) (by omega)
    rw [smv_lo lft allT _ _ s i hs hsn hi, if_pos (show allT s i = true from rfl)]
    have := lft_small ((padd l).getD (32 * s - 1 - i) 0, (padd l).getD (32 * s + i) 0) (62 - 4 * (i : Int)) b1.1 b1.2 b2.1 b2.2
    exact ⟨this.1, this.2.1⟩
  · have b1 := hb (32 * s - 1 - i) (by omega)
    have b2 := hb (32 * s + i) (by omega)
    rw [smv_hi lft allT _ _ s i hs hi, if_pos (show allT s i = true from rfl)]
    have := lft_small ((padd l).getD (32 * s - 1 - i) 0, (padd l).getD (32 * s + i) 0) (62 - 4 * (i : Int)) b1.1 b1.2 b2.1 b2.2
    exact ⟨this.2.2.1, this.2.2.2⟩
  · rw [smv_end lft allT _ _ p hp he hn]
    have := hb p hp
    omega
theorem unw_wav (f : List Int) (h : f.length = 32) (hb : ∀ x ∈ f, -1483300 ≤ x ∧ x ≤ 1483300) : unw (wav f) = f := by
  have hw := wav_small f h 1483300 (by decide) hb
  have hk := wbk_wav f h
  generalize wav f = g at *
  unfold unw
  rw [if_pos ((hld_iff g).2 fun x hx => by have := hw x hx; omega)]
  exact hk
/-- LapBack: the samples come back, with the zero ones behind them. -/
theorem smp_frm (l : List Int) (h : ∀ x ∈ l, -1048576 ≤ x ∧ x ≤ 1048576) : smp (frm l) = padd l := by
  have hS := seam_small l h
  have hl := sms_len lft allT (cnt l.length) (padd l)
  have hu := sms_undo lft lfb lfb_lft (cnt l.length) (padd l) (padd_len l)
  unfold smp
  rw [frm_len]
  have e : (frm l).map unw = (List.range (cnt l.length)).map (blk (sms lft allT (cnt l.length) (padd l))) := by
    unfold frm
    generalize sms lft allT (cnt l.length) (padd l) = S at *
    rw [List.map_map]
    apply tb_congr
    intro b hb
    have hblk : ∀ x ∈ blk S b, -1483300 ≤ x ∧ x ≤ 1483300 := by
      apply mem_bd
      intro p hp
      rw [blk_len] at hp
      rw [blk_getD _ _ _ hp]
      exact hS _ (by omega)
    rw [Function.comp_apply]
    exact unw_wav _ (blk_len S b) hblk
  rw [e, jnb_blk _ _ hl, hu]
theorem jnb_near (fs gs : List (List Int)) (hl : fs.length = gs.length) (k : Nat) (hk : ∀ b, b ≠ k → fs.getD b [] = gs.getD b []) (p : Nat) (h : p / 32 ≠ k) : (jnb (fs.map unw)).getD p 0 = (jnb (gs.map unw)).getD p 0 := by
  rcases Nat.lt_or_ge p (32 * fs.length) with hp | hp
  · rw [jnb_getD _ _ (by rw [List.length_map]; exact hp), jnb_getD _ _ (by rw [List.length_map]; omega)]
    have e : ∀ (l : List (List Int)), p / 32 < l.length → (l.map unw).getD (p / 32) [] = unw (l.getD (p / 32) []) := by
      intro l hb
      rw [List.getD_eq_getElem?_getD, List.getD_eq_getElem?_getD, List.getElem?_map, List.getElem?_eq_getElem hb]; rfl
    rw [e fs (by omega), e gs (by omega), hk _ h]
  · have e : ∀ (l : List (List Int)), 32 * l.length ≤ p → (jnb (l.map unw)).getD p 0 = 0 := by
      intro l hb
      rw [List.getD_eq_getElem?_getD, List.getElem?_eq_none (by rw [jnb_len, List.length_map]; exact hb)]; rfl
    rw [e fs hp, e gs (by omega)]
/-- LapAlone: a frame that is changed changes what lies near it alone. -/
theorem smp_alone (fs gs : List (List Int)) (hl : fs.length = gs.length) (k : Nat) (hk : ∀ b, b ≠ k → fs.getD b [] = gs.getD b []) (p : Nat) (hp : p < 32 * fs.length) (h : p + 16 < 32 * k ∨ 32 * k + 48 ≤ p) : (smp fs).getD p 0 = (smp gs).getD p 0 := by
  unfold smp
  rw [← hl, sms_getD _ _ _ _ _ hp, sms_getD _ _ _ _ _ hp]
  have hj := jnb_near fs gs hl k hk
  apply smv_local lfb allT fs.length _ _ p hp
  · exact hj p (by omega)
  · intro s i hs hi
    constructor
    · intro e
      exact hj _ (by omega)
    · intro e
      exact hj _ (by omega)
theorem smv_near (H : Int × Int → Int → Int × Int) (n m : Nat) (x y : List Int) (p k : Nat) (h1 : p / 32 + 1 < n) (h2 : p / 32 + 1 < m) (hk : 32 * (p / 32) + 48 ≤ k) (h : ∀ q, q < k → x.getD q 0 = y.getD q 0) : smv H allT n x p = smv H allT m y p := by
  unfold smv
  by_cases h3 : p % 32 < 16
  · rw [if_pos h3, if_pos h3, h p (by omega), h (32 * (p / 32) - 1 - p % 32) (by omega)]
  · rw [if_neg h3, if_neg h3, h p (by omega), h (32 * (p / 32 + 1) + (31 - p % 32)) (by omega), if_pos ⟨h1, rfl⟩, if_pos ⟨h2, rfl⟩]
/-- LapNear: of samples that begin alike the frames are alike, as far as these go. -/
theorem frm_near (x y : List Int) (k : Nat) (hx : k ≤ x.length) (hy : k ≤ y.length) (h : ∀ q, q < k → x.getD q 0 = y.getD q 0) (b : Nat) (hb : 32 * b + 48 ≤ k) : (frm x).getD b [] = (frm y).getD b [] := by
  have c1 : b + 2 < cnt x.length := by unfold cnt; omega
  have c2 : b + 2 < cnt y.length := by unfold cnt; omega
  unfold frm
  rw [tb_getD _ _ _ _ (by omega), tb_getD _ _ _ _ (by omega)]
  congr 1
  unfold blk
  apply tb_congr
  intro i hi
  rw [sms_getD _ _ _ _ _ (by omega), sms_getD _ _ _ _ _ (by omega)]
  have e : (32 * b + i) / 32 = b := by omega
  refine smv_near lft _ _ _ _ _ k (by omega) (by omega) (by omega) fun q hq => ?_
  have l1 : k ≤ 32 * cnt x.length := by unfold cnt; omega
  have l2 : k ≤ 32 * cnt y.length := by unfold cnt; omega
  rw [padd_getD x q (by omega), padd_getD y q (by omega)]
  exact h q hq
/-- LapCounts. -/
theorem cnt_more (k : Nat) : cnt (k + 32) = cnt k + 1 ∧ k ≤ 32 * (cnt k - 1) ∧ 1 ≤ cnt k ∧ 32 * ((cnt k : Int) - 2) < k := by unfold cnt; omega
end Go.Proofs.Ytpfdjddjoclldaa.M
