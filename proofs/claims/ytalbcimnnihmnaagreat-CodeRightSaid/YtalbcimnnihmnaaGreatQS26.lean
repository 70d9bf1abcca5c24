/-
  Contracts and plain facts that the laws share; each piece is headed by what it holds and its conditions.
-/
import Derived.Test.YtalbcimnnihmnaaGreatQS24
import Derived.Test.YtalbcimnnihmnaaGreatQS12
import Derived.Test.YtalbcimnnihmnaaGreatQWkb
import Derived.Test.YtalbcimnnihmnaaGreatQWkc
import Derived.Test.YtalbcimnnihmnaaGreatQS23
import Derived.Test.YtalbcimnnihmnaaGreatQS9
import Derived.Test.YtalbcimnnihmnaaGreatQS21
import Derived.Test.YtalbcimnnihmnaaGreatQQtl
import Derived.Test.YtalbcimnnihmnaaGreatQS13
import Derived.Test.YtalbcimnnihmnaaGreatQS11
import Derived.Laws.MakeOwn
import Derived.Deep.RegionWith
import Derived.StillTailTactics

/- pvq's Vector. No conditions. -/
namespace Go.Proofs.YtalbcimnnihmnaaGreat
open Go.RowKit
open M
theorem int_bytes13 : (Tryz.prog.info? 3).map (fun i => (i.zero, i.size, i.bytes)) = some (some (.int .i64 0), 1, 8) := int_info
theorem iCells_zeros13 (m : Nat) : madeCells #[.int .i64 0] m = iCells (List.replicate m 0) := by
  apply Array.ext (by rw [size_madeCells, iCells_size, List.length_replicate])
  intro i h1 h2
  simp [madeCells, iCells, Nat.mod_one]
theorem make_int13 (n : Nat) (hn : n ≤ 1099511627776) (w : World) : (Instr.makeSlice 45 (.int .i64 (n : Int)) (.int .i64 (n : Int))).run Tryz.prog w = .ok (.slice (some ⟨w.heap.size, 0, none⟩) n n) (w.alloc (.cells (iCells (List.replicate n 0)) 3)) := by
  obtain ⟨i, hi, hzz⟩ := Option.map_eq_some_iff.1 int_bytes13
  simp only [Prod.mk.injEq] at hzz
  obtain ⟨hz, hs, hb⟩ := hzz
  have hr := run_make (P := Tryz.prog) w 45 3 i _ Tryz.underlying45 hi hz .i64 .i64 n n (by omega) (by omega) (by rw [hb]; omega) (by omega)
  rw [hs] at hr
  simp only [Int.toNat_natCast, Value.cells, Nat.mul_one, iCells_zeros13] at hr
  exact hr
/-- A vector as far as p numbers. -/
def yv (V : List Int) (n p : Nat) : List Int := (List.range n).map fun j => if j < p then V.getD j 0 else 0
theorem yv_len (V : List Int) (n p : Nat) : (yv V n p).length = n := by simp [yv]
theorem yv_zero (V : List Int) (n : Nat) : yv V n 0 = List.replicate n 0 := by
  apply List.ext_getElem
  · simp [yv]
  · intro i h1 h2
    simp [yv]
theorem yv_full (V : List Int) (n : Nat) (h : V.length = n) : yv V n n = V := by
  apply List.ext_getElem
  · simp [yv, h]
  · intro i h1 h2
    simp only [yv, List.getElem_map, List.getElem_range]
    rw [if_pos (by omega), List.getD_eq_getElem?_getD, List.getElem?_eq_getElem h2]
    rfl
theorem yv_set (V : List Int) (n p : Nat) : (yv V n p).set p (V.getD p 0) = yv V n (p + 1) := by
  apply List.ext_getElem
  · simp [yv]
  · intro i h1 h2
    simp only [yv, List.getElem_set, List.getElem_map, List.getElem_range]
    by_cases e : p = i
    · subst e
      rw [if_pos rfl, if_pos (by omega)]
    · rw [if_neg e]
      by_cases e2 : i < p
      · rw [if_pos e2, if_pos (by omega)]
      · rw [if_neg e2, if_neg (by omega)]
/-- The first number of what is left. -/
def ra (m K I : Nat) : Nat := pk (cn13 m) K I (2 * K)
theorem vc_next (m K I : Nat) (h : I < cn13 (m + 1) K) : vc13 (m + 1) K I = unr (ra m K I) :: vc13 m (K - sz (ra m K I)) (I - ah (cn13 m) K (ra m K I)) ∧ ah (cn13 m) K (ra m K I) ≤ I ∧ I < ah (cn13 m) K (ra m K I) + cn13 m (K - sz (ra m K I)) ∧ ra m K I ≤ 2 * K := by
  obtain ⟨h1, h2, h3⟩ := pk_at (cn13 m) K I (2 * K) h
  exact ⟨rfl, h1, h2, h3⟩
theorem getD_drop (V : List Int) (p : Nat) (x : Int) (r : List Int) (h : V.drop p = x :: r) : V.getD p 0 = x ∧ V.drop (p + 1) = r := by
  have h1 : (V.drop p)[0]? = some x := by rw [h]; rfl
  rw [List.getElem?_drop, Nat.add_zero] at h1
  constructor
  · rw [List.getD_eq_getElem?_getD, h1]; rfl
  · rw [← List.drop_drop, h]; rfl
/-- What Vector answers: the list, and the error. -/
def vcL (n k i : Int) : List Int := if th13 n k ∧ 0 ≤ i ∧ i < cnI n k then vc13 n.toNat k.toNat i.toNat else []
def vcE (n k i : Int) : Int := if th13 n k then (if 0 ≤ i ∧ i < cnI n k then 0 else 7) else 1
theorem vc_out (n k i : Int) (h : th13 n k = false) : vcL n k i = [] ∧ vcE n k i = 1 := by
  constructor
  · exact if_neg (by rw [h]; simp)
  · exact if_neg (by rw [h]; simp)
theorem vc_far (n k : Nat) (i : Int) (hn : n ≤ 8) (hk : k ≤ 12) (h : i < 0 ∨ (cn13 n k : Int) ≤ i) : vcL n k i = [] ∧ vcE n k i = 7 := by
  have ht : th13 n k = true := decide_eq_true (by omega)
  have hc := cnI_in n k hn hk
  constructor
  · exact if_neg (by rw [hc]; omega)
  · unfold vcE
    rw [if_pos ht]
    exact if_neg (by rw [hc]; omega)
theorem vc_in (n k i : Nat) (hn : n ≤ 8) (hk : k ≤ 12) (h : i < cn13 n k) : vcL n k i = vc13 n k i ∧ vcE n k i = 0 := by
  have ht : th13 n k = true := decide_eq_true (by omega)
  have hc := cnI_in n k hn hk
  have hi : (i : Int) < (cn13 n k : Int) := Int.ofNat_lt.2 h
  constructor
  · unfold vcL
    rw [if_pos ⟨ht, by omega, by rw [hc]; exact hi⟩, Int.toNat_natCast, Int.toNat_natCast, Int.toNat_natCast]
  · unfold vcE
    rw [if_pos ht]
    exact if_pos ⟨by omega, by rw [hc]; exact hi⟩
end Go.Proofs.YtalbcimnnihmnaaGreat

/- pvq's Vector, walked. No conditions. -/
namespace Go.Proofs.YtalbcimnnihmnaaGreat
open Go.RowKit
open M
theorem nil_ints (w : World) : IntsAt w (.slice none 0 0) [] := ⟨none, 0, rfl, fun h => absurd h (by simp)⟩
theorem row_ints {w : World} {g : Nat} {t : TypeId} {l : List Int} {n : Nat} (h : Row w g t (iCells l)) (hl : l.length = n) : IntsAt w (.slice (some ⟨g, 0, none⟩) n n) l :=
  ⟨_, n, by rw [hl], fun _ => ⟨g, 0, rfl, h.lt, fun i hi => by rw [Nat.zero_add]; exact i_at h i hi⟩⟩
/-- A slice whose block is new. -/
def NewSl (n0 : Nat) (v : Value) : Prop := ∀ b o p n m, v = .slice (some ⟨b, o, p⟩) n m → n0 ≤ b
theorem newSl_nil (n0 : Nat) : NewSl n0 (.slice none 0 0) := fun _ _ _ _ _ h => by cases h
theorem newSl_row {n0 g : Nat} (h : n0 ≤ g) (n : Nat) : NewSl n0 (.slice (some ⟨g, 0, none⟩) n n) := fun _ _ _ _ _ e => by cases e; exact h
set_option maxRecDepth 100000 in
set_option maxHeartbeats 1000000 in
theorem vector_new (n k i : Int) (w : World) :
    Calls Tryz.prog 61 #[.int .i64 n, .int .i64 k, .int .i64 i] w fun e w' => (∃ v, e = .returned (.tuple #[v, .int .i64 (vcE n k i)]) ∧ IntsAt w' v (vcL n k i) ∧ NewSl w.heap.size v) ∧ Below w.heap.size w w' := by
  have HT := there_any n k w
  cases ht : th13 n k
  · obtain ⟨h1, h2⟩ := vc_out n k i ht
    have HL := Lib.hid h1
    have HE := Lib.hid h2
    rw [ht] at HT
    clear ht h1 h2
    go_enter Tryz.func61, Tryz.ntmps61
    go_wp2_with fail
    refine HT.mono ?_
    rintro e w1 ⟨rfl, rfl⟩
    go_wp2
    go_ret2
    exact ⟨⟨_, by rw [HE.out]; rfl, by rw [HL.out]; exact nil_ints _, newSl_nil _⟩, Below.refl _ _⟩
  · obtain ⟨a, b, rfl, rfl, ha, hb⟩ := th_in ht
    rw [ht] at HT
    clear ht
    have HFAR := Lib.hid (vc_far a b i ha hb)
    have HIN := Lib.hid fun j => vc_in a b j ha hb
    have HVA := Lib.hid (vc_all a b)
    have HCA := counts_any
    have HCP := counts_put
    have HTL := Lib.hid (tf_len 117)
    have HTC := Lib.hid fun n k h1 h2 => tf_cell 117 n k h1 h2 (by omega)
    generalize tf13 117 = T at HCA HCP HTL HTC
    have hbig := cn_big a b ha hb
    have haI : (a : Int) < 9 := by omega
    have hbI : (b : Int) < 13 := by omega
    have hC0 := Lib.hid (HTC.out a b (by omega) (by omega))
    obtain ⟨C, hC⟩ : ∃ C, cn13 a b = C := ⟨_, rfl⟩
    rw [hC] at HFAR hbig hC0 HIN
    have HCN := Lib.hid hC
    have hmk := fun w => make_int13 a (by omega) w
    clear hC
    go_enter Tryz.func61, Tryz.ntmps61
    go_wp2_with fail
    refine HT.mono ?_
    rintro e w1 ⟨rfl, rfl⟩
    clear HT
    go_wp2_with fail
    refine (HCA w1).mono ?_
    rintro e w2 ⟨rfl, hb2⟩
    have hz := counts_zero w2
    have hst := HCP w2
    have hsz : (iCells T).size = 117 := by rw [iCells_size, HTL.out]
    have hR : Row (w2.alloc (.cells (iCells T) 122)) w2.heap.size 122 (iCells T) := heap_alloc_new _ _
    have c0 := i_at hR (a * 13 + b) (by rw [HTL.out]; omega)
    rw [hC0.out] at c0
    have HR := Lib.hid hR
    have HB := Lib.hid (hb2.alloc hb2.size (.cells (iCells T) 122))
    have HG := Lib.hid hb2.size
    clear hb2 hR
    by_cases h1 : i < 0
    · obtain ⟨g1, g2⟩ := HFAR.out (Or.inl h1)
      have HL := Lib.hid g1
      have HE := Lib.hid g2
      clear g1 g2 HFAR HIN HVA hmk
      go_wp2
      go_ret2
      exact ⟨⟨_, by rw [HE.out]; rfl, by rw [HL.out]; exact nil_ints _, newSl_nil _⟩, HB.out⟩
    · by_cases h2 : (C : Int) ≤ i
      · obtain ⟨g1, g2⟩ := HFAR.out (Or.inr h2)
        have HL := Lib.hid g1
        have HE := Lib.hid g2
        clear g1 g2 HFAR HIN HVA hmk
        go_wp2
        go_ret2
        exact ⟨⟨_, by rw [HE.out]; rfl, by rw [HL.out]; exact nil_ints _, newSl_nil _⟩, HB.out⟩
      · obtain ⟨I0, rfl⟩ : ∃ I0 : Nat, i = I0 := ⟨i.toNat, by omega⟩
        obtain ⟨g1, g2⟩ := HIN.out I0 (by omega)
        obtain ⟨g3, g4, g5⟩ := HVA.out I0 (by rw [HCN.out]; omega)
        have HV0 : Hid (vc13 a b I0 = (vc13 a b I0).drop 0) := Lib.hid rfl
        have HC0 : Hid (I0 < cn13 a b) := Lib.hid (by rw [HCN.out]; omega)
        have HIBD : Hid ((I0 : Int) ≤ 152587890625) := Lib.hid (by omega)
        obtain ⟨V, hV⟩ : ∃ V, vc13 a b I0 = V := ⟨_, rfl⟩
        rw [hV] at g1 g3 HV0
        have HVV0 : Hid (vc13 (a - 0) b I0 = V.drop 0) := Lib.hid (by rw [← hV]; rfl)
        have HL := Lib.hid g1
        have HE := Lib.hid g2
        have HLEN := Lib.hid g3
        clear g1 g2 g3 g4 g5 HFAR HIN HVA hV
        go_wp2_with fail
        clear hz hst hsz HCA HCP hmk hC0 c0 HCN HV0
        have HR3 : Hid (Row ((w2.alloc (.cells (iCells T) 122)).alloc (.cells (iCells (List.replicate a 0)) 3)) w2.heap.size 122 (iCells T)) := Lib.hid (Row.alloc HR.out _)
        have HY3 : Hid (Row ((w2.alloc (.cells (iCells T) 122)).alloc (.cells (iCells (List.replicate a 0)) 3)) (w2.heap.size + 1) 3 (iCells (List.replicate a 0))) := Lib.hid (row_new _ _ (by simp) _ _)
        have HB3 := Lib.hid (HB.out.alloc HB.out.size (.cells (iCells (List.replicate a 0)) 3))
        have HYG : Hid (w1.heap.size ≤ w2.heap.size + 1) := Lib.hid (by have := HG.out; omega)
        have HGY : Hid (w2.heap.size ≠ w2.heap.size + 1) := Lib.hid (by omega)
        clear HR HB HG
        generalize (w2.alloc (.cells (iCells T) 122)).alloc (.cells (iCells (List.replicate a 0)) 3) = w3 at *
        generalize w2.heap.size + 1 = y at *
        generalize w2.heap.size = g at *
        rw [← yv_zero V] at HY3
        generalize Value.bool (decide ((I0 : Int) < 0) || decide (C ≤ I0)) = z29
        generalize Value.bool (decide (C ≤ I0)) = z28
        generalize Value.bool (decide ((I0 : Int) < 0)) = z27
        go_loopw [1, 2, 34] (fun kk ii pp wr => ∃ p K I : Nat, p ≤ a ∧ pp = .int .i64 p ∧ kk = .int .i64 K ∧ ii = .int .i64 I ∧ K ≤ 12 ∧ I ≤ I0 ∧ I < cn13 (a - p) K ∧ vc13 (a - p) K I = V.drop p ∧ Row wr g 122 (iCells T) ∧ Row wr y 3 (iCells (yv V a p)) ∧ Below w1.heap.size w1 wr) (fun _ _ pp _ => a - (intOf pp).toNat)
        case atStart => exact ⟨0, b, I0, by omega, rfl, rfl, rfl, hb, Nat.le_refl _, HC0.out, HVV0.out, HR3.out, HY3.out, HB3.out⟩
        case round =>
          clear HR3 HY3 HB3 HC0 HVV0
          obtain ⟨p, K, I, hp, rfl, rfl, rfl, hK, hI0, hI, hV, hR, hY, hB⟩ := hrel
          rcases Nat.lt_or_ge p a with hlt | hge
          · obtain ⟨m, hm⟩ : ∃ m, a - p = m + 1 := ⟨a - p - 1, by omega⟩
            rw [hm] at hI hV
            obtain ⟨v1, v2, v3, v4⟩ := vc_next m K I hI
            obtain ⟨R, hRa⟩ : ∃ R, ra m K I = R := ⟨_, rfl⟩
            rw [hRa] at v1 v2 v3 v4
            rw [v1] at hV
            obtain ⟨d1, d2⟩ := getD_drop V p _ _ hV.symm
            obtain ⟨S, hS⟩ : ∃ S, sz R = S := ⟨_, rfl⟩
            rw [hS] at v3 d2
            have hSK : S ≤ K := by unfold sz at hS; omega
            have HV2 := Lib.hid v2
            have HV3 := Lib.hid v3
            have HV4 := Lib.hid v4
            have HD1 := Lib.hid d1
            have HD2 := Lib.hid d2
            have HS := Lib.hid hS
            have HSK := Lib.hid hSK
            have HM := Lib.hid hm
            have HKB := Lib.hid hK
            have HII := Lib.hid hI0
            have HR := Lib.hid hR
            have HY := Lib.hid hY
            have HB := Lib.hid hB
            have ew1 : (a : Int) - 1 = ((a - 1 : Nat) : Int) := by omega
            have ew2 : ((a - 1 : Nat) : Int) - (p : Int) = (m : Int) := by omega
            have hm8 : (m : Int) < 9 := by omega
            have hpL : (p : Int) < 8 := by omega
            clear hR hY hB hI hI0 hK hV v1 v2 v3 v4 d1 d2 hS hSK hm hRa
            go_wp2_with fail
            refine (ordered_any wr).mono ?_
            rintro e w4 ⟨rfl, rfl⟩
            have HC0 : (wr.alloc (.cells #[.int .i64 (unr 0)] 3)).cell? ⟨wr.heap.size, 0, none⟩ = some (.int .i64 (unr 0)) := box_cell13 _ _ _
            have HF0 : (wr.alloc (.cells #[.int .i64 (unr 0)] 3)).frozen? ⟨wr.heap.size, 0, none⟩ = false := Row.free (row_new _ _ rfl #[.int .i64 (unr 0)] 3) 0
            have hR4 : Row (wr.alloc (.cells #[.int .i64 (unr 0)] 3)) g 122 (iCells T) := Row.alloc HR.out _
            have hY4 : Row (wr.alloc (.cells #[.int .i64 (unr 0)] 3)) y 3 (iCells (yv V a p)) := Row.alloc HY.out _
            have hB4 := HB.out.alloc HB.out.size (.cells #[.int .i64 (unr 0)] 3)
            have HCG : Hid (g ≠ wr.heap.size) := Lib.hid (by have := Row.lt HR.out; omega)
            have HCY : Hid (y ≠ wr.heap.size) := Lib.hid (by have := Row.lt HY.out; omega)
            have HCB := Lib.hid HB.out.size
            have HCS := Lib.hid (show Row (wr.alloc (.cells #[.int .i64 (unr 0)] 3)) wr.heap.size 3 #[.int .i64 (unr 0)] from row_new _ _ rfl _ _)
            obtain ⟨c, hc⟩ : ∃ c, wr.heap.size = c := ⟨_, rfl⟩
            rw [hc] at HC0 HF0 HCG HCY HCB HCS ⊢
            clear HR HY HB hc
            have HN0 := next_any 0 c _ (by omega) HC0 HF0
            have HR4 := Lib.hid (hR4.far (p := ⟨c, 0, none⟩) HCG.out (.int .i64 (unr (0 + 1))))
            have HY4 := Lib.hid (hY4.far (p := ⟨c, 0, none⟩) HCY.out (.int .i64 (unr (0 + 1))))
            have HB4 := Lib.hid (hB4.setCell (p := ⟨c, 0, none⟩) HCB.out (.int .i64 (unr (0 + 1))))
            have HC4 := Lib.hid (Row.set HCS.out 0 (.int .i64 (unr (0 + 1))))
            clear hR4 hY4 hB4 HC0 HF0 HCS
            generalize wr.alloc (.cells #[.int .i64 (unr 0)] 3) = w4 at *
            go_wp2_with fail
            refine HN0.mono ?_
            rintro e w5 ⟨rfl, rfl⟩
            clear HN0
            generalize w4.setCell ⟨c, 0, none⟩ (.int .i64 (unr (0 + 1))) = w5 at *
            go_wp2_with fail
            go_loopw [2, 13] (fun ii ff ws => ∃ r J : Nat, r ≤ R ∧ ff = .int .i64 (unr r) ∧ ii = .int .i64 J ∧ J + ah (cn13 m) K r = I ∧ Row ws c 3 #[.int .i64 (unr (r + 1))] ∧ Row ws g 122 (iCells T) ∧ Row ws y 3 (iCells (yv V a p)) ∧ Below w1.heap.size w1 ws) (fun _ ff _ => R - rk (intOf ff))
            case atStart => exact ⟨0, I, by omega, rfl, rfl, rfl, HC4.out, HR4.out, HY4.out, HB4.out⟩
            case round =>
              clear HR4 HY4 HB4 HC4
              obtain ⟨r, J, hr, rfl, rfl, hJ, hC, hR, hY, hB⟩ := hrel
              obtain ⟨s, hs⟩ : ∃ s, sz r = s := ⟨_, rfl⟩
              have hr24 : r ≤ 24 := by have h1 := HV4.out; have h2 := HKB.out; omega
              have hsK : s ≤ K := by have h1 := HV4.out; unfold sz at hs; omega
              obtain ⟨z, hz⟩ : ∃ z, z = K - s := ⟨_, rfl⟩
              have hz13 : z < 13 := by have := HKB.out; omega
              have c3 := i_at hR (m * 13 + z) (by rw [HTL.out]; omega)
              rw [HTC.out _ _ (by omega) hz13] at c3
              have HSZ := fun w => size_any (unr r) w (by have := unr_bd r (by omega); omega) (by have := unr_bd r (by omega); omega)
              rw [unr_sz, hs] at HSZ
              have hah := ah_one_more (cn13 m) K r
              rw [hs, ← hz] at hah
              have ewz2 := wi_sub K s z (by omega) (by have := HKB.out; omega)
              have hzI : (z : Int) < 13 := by omega
              have hJB : (J : Int) ≤ 152587890625 := Int.le_trans (ix_le _ _ (by have := HII.out; omega)) HIBD.out
              by_cases hrR : r = R
              · have hJc : ¬ (cn13 m z : Int) ≤ (J : Int) := by
                  subst hrR
                  have h1 := HV3.out
                  have h2 : S = s := by rw [← HS.out, ← hs]
                  rw [h2, ← hz] at h1
                  omega
                have HC := Lib.hid hC
                have HR := Lib.hid hR
                have HY := Lib.hid hY
                have HB := Lib.hid hB
                have HJ := Lib.hid hJ
                have HRR := Lib.hid hrR
                have HSS := Lib.hid hs
                have HZZ := Lib.hid hz
                have HSK2 := Lib.hid hsK
                have HX : Hid (z ≤ 12 ∧ J ≤ I0 ∧ J < cn13 (a - (p + 1)) z ∧ vc13 (a - (p + 1)) z J = V.drop (p + 1)) := Lib.hid (by
                  have e1 : a - (p + 1) = m := by have := HM.out; omega
                  have e2 : S = s := by rw [← HS.out, ← hs, hrR]
                  have e3 : K - S = z := by rw [e2]; exact hz.symm
                  have h1 := HV3.out
                  have h2 := HII.out
                  rw [hrR] at hJ
                  rw [e1, HD2.out, e3]
                  rw [e3] at h1
                  exact ⟨by omega, by omega, by omega, by rw [show I - ah (cn13 m) K R = J by omega]⟩)
                obtain ⟨q, hq⟩ : ∃ q, cn13 m z = q := ⟨_, rfl⟩
                rw [hq] at c3 hJc
                have hJd : ¬ q ≤ J := by omega
                clear hah hr hC hR hY hB hJ hrR hq hz hs hsK
                go_wp2_with fail
                refine wp_region_still_lit (by kernel_rfl) (by kernel_rfl) ?_
                repeat still_step
                still_call (HSZ _)
                repeat still_step
                refine wpStill_nil ?_
                rw [show ({ wr with drawn := wr.drawn + 1 } : World) = wr.drew from rfl]
                clear c3 HSZ
                have HRd : Hid (Row wr.drew g 122 (iCells T)) := HR
                have HYd : Hid (Row wr.drew y 3 (iCells (yv V a p))) := HY
                have HBd := Lib.hid (below_drew1 HB.out)
                clear HR HY HB HC
                generalize wr.drew = w6 at *
                have HSZ := size_any (unr r) (w6.setCell ⟨y, p, none⟩ (.int .i64 (unr r))) (by have := unr_bd r (by omega); omega) (by have := unr_bd r (by omega); omega)
                rw [unr_sz, HSS.out] at HSZ
                have c4 := i_at HYd.out p (by rw [yv_len]; omega)
                have f4 := HYd.out.free p
                have HYS := Row.set HYd.out p (.int .i64 (unr r))
                rw [iCells_set, show unr r = V.getD p 0 by rw [HRR.out, HD1.out], yv_set] at HYS
                have HY2 := Lib.hid HYS
                rw [HD1.out, ← HRR.out] at HY2
                have HR2 := Lib.hid (HRd.out.far (p := ⟨y, p, none⟩) HGY.out (.int .i64 (unr r)))
                have HB2 := Lib.hid (HBd.out.setCell (p := ⟨y, p, none⟩) HYG.out (.int .i64 (unr r)))
                clear HYS HRd HYd HBd
                go_wp2_with fail
                refine HSZ.mono ?_
                rintro e w7 ⟨rfl, rfl⟩
                have ewk := wr_sub K s z (by have := HZZ.out; have := HSK2.out; omega) (Nat.le_trans HKB.out (by decide))
                clear HSZ c4 f4
                generalize w6.setCell ⟨y, p, none⟩ (.int .i64 (unr r)) = w7 at *
                go_wp2_with fail
                go_roundw
                case rel =>
                  obtain ⟨x1, x2, x3, x4⟩ := HX.out
                  exact ⟨p + 1, z, J, hlt, by go_num, by go_num, rfl, x1, x2, x3, x4, HR2.out, HY2.out, HB2.out⟩
                case measure => exact ms13 a p hlt
              · have hrlt : r < R := by omega
                have hmo := ah_mono (cn13 m) K (r + 1) R hrlt
                have hJq : (cn13 m z : Int) ≤ (J : Int) := by
                  have h1 := HV2.out
                  omega
                have HRL := Lib.hid hrlt
                have HRd : Row wr.drew.drew g 122 (iCells T) := hR
                have HYd : Row wr.drew.drew y 3 (iCells (yv V a p)) := hY
                have HBd := below_drew1 (below_drew1 hB)
                have HCd : Row wr.drew.drew c 3 #[.int .i64 (unr (r + 1))] := hC
                have HNX := next_any (r + 1) c wr.drew.drew (by omega) (cell_of_row _ _ 0 _ _ (0, 0) HCd) (HCd.free 0)
                have HR2 := Lib.hid (HRd.far (p := ⟨c, 0, none⟩) HCG.out (.int .i64 (unr (r + 1 + 1))))
                have HY2 := Lib.hid (HYd.far (p := ⟨c, 0, none⟩) HCY.out (.int .i64 (unr (r + 1 + 1))))
                have HB2 := Lib.hid (HBd.setCell (p := ⟨c, 0, none⟩) HCB.out (.int .i64 (unr (r + 1 + 1))))
                have HC2 := Lib.hid (Row.set HCd 0 (.int .i64 (unr (r + 1 + 1))))
                have HMS := Lib.hid (show R - rk (unr (r + 1)) < R - rk (unr r) by rw [rk_unr, rk_unr]; omega)
                obtain ⟨J2, hJ2⟩ : ∃ J2, J = cn13 m z + J2 := ⟨J - cn13 m z, by omega⟩
                have HJ2 := Lib.hid (show J2 + ah (cn13 m) K (r + 1) = I by omega)
                obtain ⟨q, hq⟩ : ∃ q, cn13 m z = q := ⟨_, rfl⟩
                rw [hq] at c3 hJq hJ2
                have hqJ : q ≤ J := by omega
                have c4 : wr.drew.cell? ⟨g, m * 13 + z, none⟩ = some (.int .i64 (q : Int)) := c3
                have hJW := wi_eq ((J : Int) - (q : Int)) (J2 : Int) (by omega) (by omega) (by omega)
                clear hah hr hC hR hY hB hJ hrR hq hz hs hsK HRd HYd HBd HCd hmo hrlt hJ2
                go_wp2_with fail
                refine wp_region_still_lit (by kernel_rfl) (by kernel_rfl) ?_
                repeat still_step
                still_call (HSZ _)
                repeat still_step
                refine wpStill_nil ?_
                rw [show ({ wr with drawn := wr.drawn + 1 } : World) = wr.drew from rfl]
                generalize wr.drew = w6 at *
                clear c3
                go_wp2_with fail
                refine wp_region_still_tail 10 (by kernel_rfl) (by kernel_rfl) ?_
                simp only [List.take_succ_cons, List.take_zero, List.drop_succ_cons, List.drop_zero]
                repeat still_step
                still_call (HSZ _)
                repeat still_step
                refine wpStill_nil ?_
                change wpList _ _ _ _ _ w6.drew
                clear c4 HSZ
                generalize w6.drew = w8 at *
                go_wp2_with fail
                refine HNX.mono ?_
                rintro e w7 ⟨rfl, rfl⟩
                clear HNX
                generalize w8.setCell ⟨c, 0, none⟩ (.int .i64 (unr (r + 1 + 1))) = w7 at *
                go_wp2_with fail
                go_roundw
                case rel => exact ⟨r + 1, J2, HRL.out, rfl, by go_num, HJ2.out, HC2.out, HR2.out, HY2.out, HB2.out⟩
                case measure => exact HMS.out
          · obtain rfl : p = a := by omega
            have HY := Lib.hid hY
            have HB := Lib.hid hB
            have HF := Lib.hid (yv_full V p HLEN.out)
            clear hY hB hR hI hV
            go_wp2_with fail
            go_ret2
            exact ⟨⟨_, by rw [HE.out]; rfl, by rw [HL.out]; exact row_ints (by rw [← HF.out]; exact HY.out) HLEN.out, newSl_row HYG.out _⟩, HB.out⟩
theorem vector_any (n k i : Int) (w : World) :
    Calls Tryz.prog 61 #[.int .i64 n, .int .i64 k, .int .i64 i] w fun e w' => (∃ v, e = .returned (.tuple #[v, .int .i64 (vcE n k i)]) ∧ IntsAt w' v (vcL n k i)) ∧ Below w.heap.size w w' :=
  (vector_new n k i w).mono fun _ _ ⟨⟨v, h1, h2, _⟩, hb⟩ => ⟨⟨v, h1, h2⟩, hb⟩
end Go.Proofs.YtalbcimnnihmnaaGreat

/- Layer 19: pack's head and vector: what a Reader's bits say. Conditions: a Reader in a block of its own; texts of up to 1000 bytes, bits that are there; what pvq's Bits answers. -/
namespace Go.Proofs.YtalbcimnnihmnaaGreat
open Go.RowKit
open M
theorem results_tmp_row {P : Program} {fn : Func} {p u : Tmp} {ty : TypeId} (h : fn.results = #[.tmp u, .cell p ty]) (tmps : Array Value) (w : World) (g : Nat) (t : TypeId) (cs : Array Value) (fr : Nat × Nat) (d : TypeDesc)
    (hp : tmps.getD p undef = .pointer (some ⟨g, 0, none⟩)) (hg : w.heap[g]? = some (.cells cs t fr))
    (hu : P.underlying ty = some d) (hd : (match d with | .struct _ | .array _ _ => true | _ => false) = true) (hi : (P.info? ty).map (·.size) = some cs.size) :
    (results fn tmps).run P w = .ok (.tuple #[tmps.getD u undef, .agg cs]) w := by
  have hp' : tmps[p]?.getD undef = .pointer (some ⟨g, 0, none⟩) := by simpa using hp
  simp [results, h, hp', asAddr, run_loadVar_row w g t ty cs fr d hg hu hd hi]
/-- Nothing has turned but a block, and what is new. -/
theorem Only.moved {g : Nat} {w w' : World} (h : Only g w w') : Moved w w' g (.slice none 0 0) (.slice none 0 0) :=
  ⟨h.os, h.tape, h.output, by rw [h.size]; exact Nat.le_refl _, fun k _ hk _ => h.block k hk, Or.inl rfl⟩
theorem Moved.apart {a b : World} {g q : Nat} {t : TypeId} {cs : Array Value} (h : Moved a b g (.slice none 0 0) (.slice none 0 0)) (hr : Row a q t cs) (h1 : q ≠ g) : Row b q t cs :=
  h.row hr h1 (by simp [Value.ownBlock])
theorem Rdr.more {w w' : World} {g : Nat} {s : ByteArray} {a : Nat} (h : Rdr w g s a) (hb : Below w.heap.size w w') : Rdr w' g s a := Row.box h hb
theorem Moved.more2 {a b c : World} {g : Nat} {u v : Value} (h : Moved a b g u v) (hb : Below a.heap.size b c) : Moved a c g u v :=
  ⟨hb.os.trans h.os, hb.tape.trans h.tape, hb.output.trans h.output, Nat.le_trans h.size hb.size, fun k hk h1 h2 => (hb.block k hk).trans (h.block k hk h1 h2), h.own⟩
/-- The steps, as far as they are read. -/
def sdp (s : List UInt8) (b : Nat) : List Int := (List.range 8).map fun p => if p < b then (numOf (readB s (16 + 4 * p) 4) : Int) else 0
theorem sdp_len (s : List UInt8) (b : Nat) : (sdp s b).length = 8 := by simp [sdp]
theorem sdp_zero (s : List UInt8) : sdp s 0 = zs8 := by
  simp [sdp, zs8, List.range_succ]
theorem sdp_set (s : List UInt8) (b : Nat) (hb : b < 8) : (sdp s b).set b (numOf (readB s (16 + 4 * b) 4) : Int) = sdp s (b + 1) := by
  refine tm_ext _ 8 _ (by simp [sdp]) fun i hi => ?_
  rw [List.getD_eq_getElem?_getD, List.getElem?_set]
  by_cases h : b = i
  · subst h
    rw [if_pos rfl, if_pos (by rw [sdp_len]; exact hb), if_pos (by omega)]
    rfl
  · rw [if_neg h, ← List.getD_eq_getElem?_getD]
    unfold sdp
    rw [tm_getD _ _ _ hi]
    by_cases h1 : i < b
    · rw [if_pos h1, if_pos (by omega)]
    · rw [if_neg h1, if_neg (by omega)]
theorem rd_head (s : List UInt8) : (rdF s 0 hdW).getD 0 0 = numOf (readB s 0 16) ∧ sdp s 8 = ((rdF s 0 hdW).tail).map fun x : Nat => (x : Int) := by
  constructor <;> simp [rdF, hdW, sdp, List.range_succ]
set_option maxRecDepth 100000 in
set_option maxHeartbeats 2000000 in
theorem head_any (s : ByteArray) (g : Nat) (w : World) (hs : s.size ≤ 1000) (h6 : 6 ≤ s.size) (h : Rdr w g s 0) :
    Calls Tryz.prog 28 #[.func (.func 29) #[.pointer (some ⟨g, 0, none⟩)] #[]] w fun e w' => e = .returned (.tuple #[.int .i64 (numOf (readB (bl s) 0 16) : Nat), .agg (iCells (sdp (bl s) 8))]) ∧ Rdr w' g s 48 ∧ Moved w w' g (.slice none 0 0) (.slice none 0 0) := by
  have hz := sds_zero
  have HGL : Hid (g < w.heap.size) := Lib.hid (Row.lt h)
  have HR : Hid (Rdr ((w.alloc (.cells (iCells zs8) 25)).alloc (.cells (iCells zs8) 25)) g s 0) := Lib.hid (Row.alloc (Row.alloc h _) _)
  have HA : Hid (Row ((w.alloc (.cells (iCells zs8) 25)).alloc (.cells (iCells zs8) 25)) w.heap.size 25 (iCells zs8)) := Lib.hid (Row.alloc (heap_alloc_new _ _) _)
  have HC : Hid (Row ((w.alloc (.cells (iCells zs8) 25)).alloc (.cells (iCells zs8) 25)) (w.heap.size + 1) 25 (iCells zs8)) := Lib.hid (row_new _ _ (by simp) _ _)
  have hB : Below w.heap.size w ((w.alloc (.cells (iCells zs8) 25)).alloc (.cells (iCells zs8) 25)) := ((Below.refl _ _).alloc (Nat.le_refl _) _).alloc (by simp) _
  have HM : Hid (Moved w ((w.alloc (.cells (iCells zs8) 25)).alloc (.cells (iCells zs8) 25)) g (.slice none 0 0) (.slice none 0 0)) := Lib.hid ((Moved.refl w g _).more hB)
  have HS := Lib.hid hs
  have H6 := Lib.hid h6
  clear h hB hs h6
  obtain ⟨fr, hfr⟩ : ∃ fr, numOf (readB (bl s) 0 16) = fr := ⟨_, rfl⟩
  obtain ⟨D, hD⟩ : ∃ D, sdp (bl s) 8 = D := ⟨_, rfl⟩
  have HFR := Lib.hid hfr
  have HD := Lib.hid hD
  rw [hfr, hD]
  clear hfr hD
  go_enter Tryz.func28, Tryz.ntmps28
  go_upto_region 2 with fail
  generalize (w.alloc (.cells (iCells zs8) 25)).alloc (.cells (iCells zs8) 25) = w1 at *
  obtain ⟨n0, hn0⟩ : ∃ n0, w.heap.size = n0 := ⟨_, rfl⟩
  have HN0 := Lib.hid fun _ : Unit => hn0
  rw [hn0] at HA HC HGL ⊢
  clear hn0 hz
  go_wp2_with fail
  refine (get_ok 16 s 0 g _ (by decide) (by have := HS.out; omega) (by have := H6.out; omega) HR.out).mono ?_
  rintro e w2 ⟨rfl, ho, hr⟩
  have HR := Lib.hid hr
  have HA := Lib.hid (ho.moved.apart HA.out (by have := HGL.out; omega))
  have HC := Lib.hid (ho.moved.apart HC.out (by have := HGL.out; omega))
  have HM := Lib.hid (HM.out.trans ho.moved)
  clear ho hr
  rw [HFR.out]
  clear HFR
  go_wp2_with fail
  have HZS := Lib.hid (sdp_zero (bl s))
  have HC0 : Hid (Row w2 (n0 + 1) 25 (iCells (sdp (bl s) 0))) := Lib.hid (by rw [HZS.out]; exact HC.out)
  clear HC HZS
  go_loopw [13] (fun ii wr => ∃ (b : Nat), b ≤ 8 ∧ ii = .int .i64 (b : Int) ∧ Rdr wr g s (16 + 4 * b) ∧ Row wr n0 25 (iCells zs8) ∧ Row wr (n0 + 1) 25 (iCells (sdp (bl s) b)) ∧ Moved w wr g (.slice none 0 0) (.slice none 0 0)) (fun ii _ => 8 - (intOf ii).toNat)
  case atStart => exact ⟨0, by omega, rfl, HR.out, HA.out, HC0.out, HM.out⟩
  case round =>
    clear HR HA HC0 HM
    obtain ⟨b, hb8, rfl, hr, ha, hc, hm⟩ := hrel
    have HR := Lib.hid hr
    have HA := Lib.hid ha
    have HC := Lib.hid hc
    have HM := Lib.hid hm
    clear hr ha hc hm
    rcases Nat.lt_or_ge b 8 with hlt | hge
    · have hst := sdp_set (bl s) b hlt
      have HST := Lib.hid hst
      obtain ⟨x, hx⟩ : ∃ x, numOf (readB (bl s) (16 + 4 * b) 4) = x := ⟨_, rfl⟩
      have HX := Lib.hid hx
      rw [hx] at HST
      have HK := Lib.hid hlt
      have hbI : (b : Int) < 8 := by omega
      clear hst hx hb8 hlt
      go_wp2_with fail
      refine (get_ok 4 s (16 + 4 * b) g _ (by decide) (by have := HS.out; omega) (by have := H6.out; have := HK.out; omega) HR.out).mono ?_
      rintro e w3 ⟨rfl, ho, hr⟩
      rw [HX.out]
      have HR := Lib.hid hr
      have HA := Lib.hid (ho.moved.apart HA.out (by have := HGL.out; omega))
      have HC := Lib.hid (ho.moved.apart HC.out (by have := HGL.out; omega))
      have HM := Lib.hid (HM.out.trans ho.moved)
      have c0 := i_at HC.out b (by rw [sdp_len]; exact HK.out)
      have f0 := HC.out.free b
      have HROW : Hid (Row (w3.setCell ⟨n0 + 1, b, none⟩ (.int .i64 (x : Int))) (n0 + 1) 25 (iCells (sdp (bl s) (b + 1)))) := Lib.hid (by
        have h := HC.out.set b (.int .i64 (x : Int))
        rw [iCells_set, HST.out] at h
        exact h)
      have HRF : Hid (Rdr (w3.setCell ⟨n0 + 1, b, none⟩ (.int .i64 (x : Int))) g s (16 + 4 * (b + 1))) := Lib.hid (Row.far HR.out (p := ⟨n0 + 1, b, none⟩) (by have := HGL.out; show g ≠ n0 + 1; omega) _)
      have HAF := Lib.hid (HA.out.far (p := ⟨n0 + 1, b, none⟩) (by show n0 ≠ n0 + 1; omega) (.int .i64 (x : Int)))
      have HMF := Lib.hid (HM.out.more2 (Below.setCell (Below.refl w.heap.size w3) (p := ⟨n0 + 1, b, none⟩) (by rw [HN0.out ()]; show n0 ≤ n0 + 1; omega) (.int .i64 (x : Int))))
      clear HR HA HC HM ho hr HST HX
      go_wp2_with fail
      go_roundw
      case rel => exact ⟨b + 1, HK.out, by go_num, HRF.out, HAF.out, HROW.out, HMF.out⟩
      case measure =>
        have := HK.out
        simp [intOf] <;> omega
    · obtain rfl : b = 8 := by omega
      clear hb8 hge
      rename World => w3
      have HDL : Hid (D.length = 8) := Lib.hid (by rw [← HD.out]; exact sdp_len _ _)
      have HSZ := Lib.hid (sds_size D HDL.out)
      have HSX := Lib.hid (sds_same zs8 D zs8_length HDL.out)
      have HR2 : Hid (Rdr w3 g s 48) := Lib.hid HR.out
      rw [HD.out] at HC
      clear HDL HD
      have HC1 : Hid (∀ W : World, (∃ p : Regrown, W = Sort.grow (redrawn w3 p.d) p.os) → Row W (n0 + 1) 25 (iCells D)) := Lib.hid (by
        rintro W ⟨p, rfl⟩
        exact HC.out.below (below_regrown w3 p.d p.os) HC.out.lt)
      go_wp2_with fail
      refine region_below_tail 3 (by kernel_rfl) (by kernel_rfl) ?_
      simp only [List.take_succ_cons, List.take_zero, List.drop_succ_cons, List.drop_zero]
      repeat (first
        | (go_big_quiet_want; refine q_load_row 25 (.tmp 4) rfl (n0 + 1) rfl 25 (iCells D) (0, 0) _ HC1.out Tryz.underlying25 rfl HSZ.out ?_; go_big_quiet_on; simp only [Act.put, List.setIfInBounds_toArray, List.set_cons_zero, List.set_cons_succ])
        | go_big_quiet_step (fail))
      refine wpQuiet_nil ?_
      rintro w6 ⟨⟨dq, osq⟩, rfl⟩
      have hb := below_regrown w3 dq osq
      have HA := Lib.hid (HA.out.box hb)
      have HR := Lib.hid (HR2.out.more hb)
      have HM := Lib.hid (HM.out.more hb)
      clear hb HC1 HC HR2
      generalize Sort.grow (redrawn w3 dq) osq = w6 at *
      go_wp2_with (first
        | (refine wpList_store_row rfl 25 (.tmp 3) (.tmp 25) rfl n0 (iCells D) rfl rfl 25 (iCells zs8) HA.out HSZ.out HSX.out (iCells_one _) ?_)
        | fail)
      refine bodyPost_ret (v := .tuple #[.int .i64 (fr : Int), .agg (iCells D)]) (results_tmp_row Tryz.results28 _ _ n0 25 (iCells D) (0, 0) _ rfl (Row.setRow HA.out _) Tryz.underlying25 rfl HSZ.out) rfl ⟨rfl, ?_⟩
      exact ⟨(setRow_other w6 n0 g (iCells D) (by have := HGL.out; omega)).trans HR.out, HM.out.more2 (below_setRow (Below.refl w.heap.size w6) (by rw [HN0.out ()]; exact Nat.le_refl _) _)⟩
end Go.Proofs.YtalbcimnnihmnaaGreat

/- pvq's Count of natural numbers. Conditions: up to 8 numbers, up to 12 pulses. -/
namespace Go.Proofs.YtalbcimnnihmnaaGreat
open Go.RowKit
open M
theorem count_nat (n k : Nat) (w : World) (hn : n ≤ 8) (hk : k ≤ 12) :
    Calls Tryz.prog 72 #[.int .i64 (n : Int), .int .i64 (k : Int)] w fun e w' => e = .returned (.int .i64 (cn13 n k : Int)) ∧ Below w.heap.size w w' := by
  have := count_any n k w
  rw [cnI_in n k hn hk] at this
  exact this
theorem count_at (x y : Int) (n k : Nat) (w : World) (hx : x = n) (hy : y = k) (hn : n ≤ 8) (hk : k ≤ 12) :
    Calls Tryz.prog 72 #[.int .i64 x, .int .i64 y] w fun e w' => e = .returned (.int .i64 (cn13 n k : Int)) ∧ Below w.heap.size w w' := by
  subst hx hy; exact count_nat n k w hn hk
end Go.Proofs.YtalbcimnnihmnaaGreat
