/-
  Contracts and plain facts that the laws share; each piece is headed by what it holds and its conditions.
-/
import Derived.Test.YtalbcimnnihmnaaGreatQS1
import Derived.Test.YtalbcimnnihmnaaGreatQS2

/- Plain facts of layer 19: numbers laid as fields of bits, one behind the other, and read again; bytes are what their bits are packed to. No program is named here. No conditions but those that each fact names. -/
namespace Go.Proofs.YtalbcimnnihmnaaGreat.M

theorem bitsOf_numOf' (n : Nat) : ∀ l : List Bool, l.length = n → bitsOf (numOf l) n = l := by
  induction n with
  | zero =>
    intro l h
    rw [List.eq_nil_of_length_eq_zero h]; rfl
  | succ n ih =>
    intro l h
    have hne : l ≠ [] := by rintro rfl; simp at h
    obtain ⟨m, b, rfl⟩ : ∃ m b, l = m ++ [b] := ⟨l.dropLast, l.getLast hne, (List.dropLast_concat_getLast hne).symm⟩
    have hm : m.length = n := by simpa using h
    have hb : b.toNat ≤ 1 := by cases b <;> decide
    rw [numOf_app, bitsOf_succ, show (2 * numOf m + b.toNat) / 2 = numOf m by omega, ih m hm]
    congr 1
    rw [Nat.testBit_zero]
    cases b
    · simp
    · simp
theorem bitsOf_numOf (l : List Bool) : bitsOf (numOf l) l.length = l := bitsOf_numOf' _ l rfl
theorem readB_getD (s : List UInt8) (a n i : Nat) (h : i < n) : (readB s a n).getD i false = sb s (a + i) := by
  unfold readB
  simp [List.getD_eq_getElem?_getD, h]
/-- Bytes are what their bits are packed to. -/
theorem pack_readB (s : List UInt8) : pack (readB s 0 (8 * s.length)) = s := by
  have hl : (pack (readB s 0 (8 * s.length))).length = s.length := by rw [pack_length, readB_length]; omega
  apply List.ext_getElem? 
  intro i
  rcases Nat.lt_or_ge i s.length with hi | hi
  · have hp : (pack (readB s 0 (8 * s.length)))[i]? = some (UInt8.ofNat (byteAt (readB s 0 (8 * s.length)) i)) := packN_get _ _ i (by rw [readB_length]; omega)
    rw [hp, List.getElem?_eq_getElem hi]
    congr 1
    apply UInt8.toNat_inj.1
    rw [UInt8.toNat_ofNat', Nat.mod_eq_of_lt (byteAt_lt _ _)]
    apply Nat.eq_of_testBit_eq
    intro j
    rcases Nat.lt_or_ge j 8 with hj | hj
    · have h1 := byteAt_bit (readB s 0 (8 * s.length)) i (7 - j) (by omega)
      rw [show 7 - (7 - j) = j by omega, readB_getD _ _ _ _ (by omega)] at h1
      rw [h1]
      unfold sb
      rw [show (0 + (8 * i + (7 - j))) / 8 = i by omega, show 7 - (0 + (8 * i + (7 - j))) % 8 = j by omega, List.getD_eq_getElem?_getD, List.getElem?_eq_getElem hi]
      rfl
    · have b1 := byteAt_lt (readB s 0 (8 * s.length)) i
      have b2 := (s[i]).toNat_lt
      have p8 : 2 ^ 8 ≤ 2 ^ j := Nat.pow_le_pow_right (by decide) hj
      rw [Nat.testBit_lt_two_pow (Nat.lt_of_lt_of_le b1 (by omega)), Nat.testBit_lt_two_pow (Nat.lt_of_lt_of_le b2 (by omega))]
  · rw [List.getElem?_eq_none (by omega), List.getElem?_eq_none hi]
/-- Numbers laid as fields; fields read. -/
def layF : List (Nat × Nat) → List Bool
  | [] => []
  | f :: fs => bitsOf f.1 f.2 ++ layF fs
def rdF (s : List UInt8) : Nat → List Nat → List Nat
  | _, [] => []
  | a, n :: ns => numOf (readB s a n) :: rdF s (a + n) ns
theorem layF_len : ∀ fs : List (Nat × Nat), (layF fs).length = (fs.map Prod.snd).sum
  | [] => rfl
  | f :: fs => by
    unfold layF
    rw [List.length_append, bitsOf_length, layF_len fs]; simp
theorem layF_append : ∀ fs gs : List (Nat × Nat), layF (fs ++ gs) = layF fs ++ layF gs
  | [], _ => rfl
  | f :: fs, gs => by
    show bitsOf f.1 f.2 ++ layF (fs ++ gs) = (bitsOf f.1 f.2 ++ layF fs) ++ layF gs
    rw [layF_append fs gs, List.append_assoc]
/-- What was laid is read again. -/
theorem rdF_lay : ∀ (fs : List (Nat × Nat)) (bs cs : List Bool), (∀ f ∈ fs, f.1 < 2 ^ f.2) → rdF (pack (bs ++ layF fs ++ cs)) bs.length (fs.map Prod.snd) = fs.map Prod.fst
  | [], _, _, _ => rfl
  | f :: fs, bs, cs, h => by
    have e : bs ++ layF (f :: fs) ++ cs = bs ++ bitsOf f.1 f.2 ++ (layF fs ++ cs) := by
      show bs ++ (bitsOf f.1 f.2 ++ layF fs) ++ cs = _
      simp only [List.append_assoc]
    have h1 := readB_pack bs (bitsOf f.1 f.2) (layF fs ++ cs) bs.length rfl
    rw [bitsOf_length] at h1
    have e2 : bs ++ bitsOf f.1 f.2 ++ (layF fs ++ cs) = (bs ++ bitsOf f.1 f.2) ++ layF fs ++ cs := by simp only [List.append_assoc]
    have ih := rdF_lay fs (bs ++ bitsOf f.1 f.2) cs fun g hg => h g (List.mem_cons_of_mem _ hg)
    rw [List.length_append, bitsOf_length, ← e2, ← e] at ih
    rw [List.map_cons, List.map_cons]
    unfold rdF
    rw [ih]
    congr 1
    rw [e, h1, numOf_bitsOf _ _ (h f List.mem_cons_self)]
/-- What is read is what was laid of it. -/
theorem layF_rd (s : List UInt8) : ∀ (ns : List Nat) (a : Nat), layF ((rdF s a ns).zip ns) = readB s a ns.sum
  | [], a => by simp [rdF, layF, readB]
  | n :: ns, a => by
    show bitsOf (numOf (readB s a n)) n ++ layF ((rdF s (a + n) ns).zip ns) = _
    rw [layF_rd s ns (a + n), List.sum_cons, readB_add]
    congr 1
    have := bitsOf_numOf (readB s a n)
    rw [readB_length] at this
    exact this
theorem rdF_len (s : List UInt8) : ∀ (ns : List Nat) (a : Nat), (rdF s a ns).length = ns.length
  | [], _ => rfl
  | n :: ns, a => by show (rdF s (a + n) ns).length + 1 = ns.length + 1; rw [rdF_len s ns]
theorem rdF_lt (s : List UInt8) : ∀ (ns : List Nat) (a i : Nat), i < ns.length → (rdF s a ns).getD i 0 < 2 ^ ns.getD i 0
  | [], _, i, h => by simp at h
  | n :: ns, a, 0, _ => by
    show numOf (readB s a n) < 2 ^ n
    have := numOf_lt (readB s a n)
    rw [readB_length] at this
    exact this
  | n :: ns, a, i + 1, h => rdF_lt s ns (a + n) i (by simpa using h)
/-- The rest is zero. -/
theorem readB_zero (s : List UInt8) (a n : Nat) (h : ∀ i, i < n → sb s (a + i) = false) : readB s a n = List.replicate n false := by
  apply List.ext_getElem (by rw [readB_length, List.length_replicate])
  intro i h1 h2
  rw [readB_length] at h1
  have := readB_getD s a n i h1
  rw [List.getD_eq_getElem?_getD, List.getElem?_eq_getElem (by rw [readB_length]; exact h1)] at this
  rw [List.getElem_replicate]
  have e : ((some ((readB s a n)[i]'(by rw [readB_length]; exact h1))).getD false) = (readB s a n)[i]'(by rw [readB_length]; exact h1) := rfl
  rw [e, h i h1] at this
  exact this
end Go.Proofs.YtalbcimnnihmnaaGreat.M

/- Plain facts of layer 19: a packet's bits, read as they were laid, and laid as they were read. No program is named here. No conditions but those that each fact names. -/
namespace Go.Proofs.YtalbcimnnihmnaaGreat.M

/-- A packet's head: its number, its steps; how many pulses its bands have; how many bits these take. -/
def hdF (fr : Nat) (sd : List Nat) : List (Nat × Nat) := (fr, 16) :: sd.map fun x => (x, 4)
def hdW : List Nat := [16, 4, 4, 4, 4, 4, 4, 4, 4]
def kpl (sd : List Nat) (size : Nat) : Nat → Nat := giv (fun b => (sd.getD b 0 : Int)) (8 * size - 64)
def wds (sd : List Nat) (size : Nat) : List Nat := (List.range 8).map fun b => btc (kpl sd size b)
theorem wds_len (sd : List Nat) (size : Nat) : (wds sd size).length = 8 := by simp [wds]
theorem wds_sum (sd : List Nat) (size : Nat) : (wds sd size).sum ≤ 8 * size - 64 := by
  have h := (giv_all (fun b => (sd.getD b 0 : Int)) (8 * size - 64)).2.1
  have e : (wds sd size).sum = cst8 (kpl sd size) := by
    unfold wds cst8 sum8
    simp [List.range_succ, List.range_zero]
    omega
  rw [e]; exact h
theorem wds_getD (sd : List Nat) (size b : Nat) (h : b < 8) : (wds sd size).getD b 0 = btc (kpl sd size b) := by
  unfold wds
  simp [List.getD_eq_getElem?_getD, h]
theorem hd_snd (fr : Nat) (sd : List Nat) (h : sd.length = 8) : (hdF fr sd).map Prod.snd = hdW := by
  match sd, h with
  | [a, b, c, d, e, f, g, i], _ => rfl
theorem hd_zip (fr : Nat) (sd : List Nat) (h : sd.length = 8) : (fr :: sd).zip hdW = hdF fr sd := by
  match sd, h with
  | [a, b, c, d, e, f, g, i], _ => rfl
theorem hd_fst (fr : Nat) (sd : List Nat) : (hdF fr sd).map Prod.fst = fr :: sd := by
  unfold hdF
  rw [List.map_cons, List.map_map]
  have : (Prod.fst ∘ fun x : Nat => (x, 4)) = id := rfl
  rw [this, List.map_id]
theorem zip_snd {α β : Type} : ∀ (a : List α) (b : List β), a.length = b.length → (a.zip b).map Prod.snd = b
  | [], [], _ => rfl
  | x :: a, y :: b, h => by
    show y :: (a.zip b).map Prod.snd = y :: b
    rw [zip_snd a b (by simpa using h)]
theorem zip_fst {α β : Type} : ∀ (a : List α) (b : List β), a.length = b.length → (a.zip b).map Prod.fst = a
  | [], [], _ => rfl
  | x :: a, y :: b, h => by
    show x :: (a.zip b).map Prod.fst = x :: a
    rw [zip_fst a b (by simpa using h)]
theorem zip_lt (a b : List Nat) (h : a.length = b.length) (k : ∀ i, i < a.length → a.getD i 0 < 2 ^ b.getD i 0) : ∀ f ∈ a.zip b, f.1 < 2 ^ f.2 := by
  intro f hf
  obtain ⟨i, hi, rfl⟩ := List.getElem_of_mem hf
  rw [List.length_zip] at hi
  have := k i (by omega)
  rw [List.getD_eq_getElem?_getD, List.getD_eq_getElem?_getD, List.getElem?_eq_getElem (by omega), List.getElem?_eq_getElem (by omega)] at this
  rw [List.getElem_zip]
  exact this
/-- A packet's bits, without its seal. -/
def pkb (fr : Nat) (sd ix : List Nat) (size : Nat) : List Bool := layF (hdF fr sd) ++ layF (ix.zip (wds sd size)) ++ List.replicate (8 * size - 64 - (wds sd size).sum) false
theorem hd_len (fr : Nat) (sd : List Nat) (h : sd.length = 8) : (layF (hdF fr sd)).length = 48 := by
  rw [layF_len, hd_snd fr sd h]; rfl
theorem pkb_len (fr : Nat) (sd ix : List Nat) (size : Nat) (h : sd.length = 8) (hi : ix.length = 8) (hs : 12 ≤ size) : (pkb fr sd ix size).length = 8 * (size - 2) := by
  have := wds_sum sd size
  unfold pkb
  rw [List.length_append, List.length_append, hd_len fr sd h, layF_len, zip_snd _ _ (by rw [hi, wds_len]), List.length_replicate]
  omega
/-- What is laid is read as it was. -/
theorem pkb_back (fr : Nat) (sd ix : List Nat) (size : Nat) (h : sd.length = 8) (hi : ix.length = 8) (hf : fr < 65536) (hsd : ∀ x ∈ sd, x < 16) (hix : ∀ b, b < 8 → ix.getD b 0 < 2 ^ btc (kpl sd size b)) :
    rdF (pack (pkb fr sd ix size)) 0 hdW = fr :: sd ∧ rdF (pack (pkb fr sd ix size)) 48 (wds sd size) = ix ∧
      readB (pack (pkb fr sd ix size)) (48 + (wds sd size).sum) (8 * size - 64 - (wds sd size).sum) = List.replicate (8 * size - 64 - (wds sd size).sum) false := by
  have hw : ix.length = (wds sd size).length := by rw [hi, wds_len]
  have h1 := rdF_lay (hdF fr sd) [] (layF (ix.zip (wds sd size)) ++ List.replicate (8 * size - 64 - (wds sd size).sum) false) (by
    intro f hm
    rcases List.mem_cons.1 hm with rfl | hm
    · exact hf
    · obtain ⟨x, hx, rfl⟩ := List.mem_map.1 hm
      exact hsd x hx)
  have h2 := rdF_lay (ix.zip (wds sd size)) (layF (hdF fr sd)) (List.replicate (8 * size - 64 - (wds sd size).sum) false) (zip_lt _ _ hw fun i hii => by rw [wds_getD _ _ _ (by omega)]; exact hix i (by omega))
  have h3 := readB_pack (layF (hdF fr sd) ++ layF (ix.zip (wds sd size))) (List.replicate (8 * size - 64 - (wds sd size).sum) false) [] (48 + (wds sd size).sum) (by rw [List.length_append, hd_len fr sd h, layF_len, zip_snd _ _ hw])
  rw [hd_snd fr sd h, hd_fst, List.nil_append, List.length_nil, ← List.append_assoc] at h1
  rw [zip_snd _ _ hw, zip_fst _ _ hw, hd_len fr sd h] at h2
  rw [List.append_nil, List.length_replicate] at h3
  exact ⟨h1, h2, h3⟩
/-- What is read is what is laid of it. -/
theorem pkb_only (s : List UInt8) (size fr : Nat) (sd : List Nat) (hs : 12 ≤ size) (hl : s.length = size - 2) (h1 : rdF s 0 hdW = fr :: sd)
    (h3 : readB s (48 + (wds sd size).sum) (8 * size - 64 - (wds sd size).sum) = List.replicate (8 * size - 64 - (wds sd size).sum) false) :
    pack (pkb fr sd (rdF s 48 (wds sd size)) size) = s := by
  have hw := wds_sum sd size
  have hlen : sd.length = 8 := by
    have := congrArg List.length h1
    rw [rdF_len] at this
    simp [hdW] at this
    omega
  have e1 : layF (hdF fr sd) = readB s 0 48 := by
    have := layF_rd s hdW 0
    rw [h1] at this
    rw [hd_zip fr sd hlen] at this
    exact this
  have e2 := layF_rd s (wds sd size) 48
  have e3 : pkb fr sd (rdF s 48 (wds sd size)) size = readB s 0 (8 * s.length) := by
    unfold pkb
    rw [e1, e2, ← h3]
    have a1 := readB_add s 0 48 ((wds sd size).sum)
    have a2 := readB_add s 0 (48 + (wds sd size).sum) (8 * size - 64 - (wds sd size).sum)
    rw [Nat.zero_add] at a1 a2
    have e5 : 48 + (wds sd size).sum + (8 * size - 64 - (wds sd size).sum) = 8 * (size - 2) := by omega
    rw [← a1, ← a2, hl, e5]
  rw [e3, pack_readB]
end Go.Proofs.YtalbcimnnihmnaaGreat.M
